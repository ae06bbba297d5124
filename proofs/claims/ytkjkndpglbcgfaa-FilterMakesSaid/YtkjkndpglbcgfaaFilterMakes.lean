/-
  'siphonlaw11.FilterMakes' returns true, whatever the input, and each argument reads behind the call as it read before. Conditions: none beyond those that the row itself states.
-/
import Derived.Test.YtkjkndpglbcgfaaRows
import Derived.Test.YtkjkndpglbcgfaaFlI
import Derived.Test.YtkjkndpglbcgfaaFlE
import Derived.Test.YtkjkndpglbcgfaaFlQ
import Derived.Test.YtkjkndpglbcgfaaFlR
import Derived.Test.YtkjkndpglbcgfaaFlX
import Derived.Test.YtkjkndpglbcgfaaTrod
import Derived.WalkKit
import Derived.ProofKit
import Derived.OpenShut
import Derived.ShutString
import Derived.ChangeOld
import Derived.Below
import Derived.Carry
import Derived.SizedLaws
import Derived.Lib.SmallJoins
import Derived.ChangeArms
import Derived.WideShapes
namespace Go.Proofs.Ytkjkndpglbcgfaa.filterMakesLaw
open Go.ChangeShapes Go.WideShapes Go.ChangeAt Go.RowKit Go.Joins
open Go.ChangeMaps (open_string shut_string)
set_option linter.unusedVariables false

theorem list2 {α : Type} (l : List α) (h : l.length = 2) : ∃ x0 x1 : α, l = [x0, x1] := by
  match l, h with
  | [x0, x1], _ => exact ⟨x0, x1, rfl⟩

/-- A box of a filter: block b. -/
def HB (b : Nat) (w : World) (x : Array Value) : Prop := w.heap[b]? = some (.cells x 24 (0, 0))
theorem HB.below {b : Nat} {w w' : World} {x : Array Value} (h : HB b w x) (k : Below w.heap.size w w') : HB b w' x := below_block k (lt_of_block h) h
theorem box_bel {w0 w : World} {xs : Array Value} {t : TypeId} (h : Box w0 w xs t) : Below w0.heap.size w0 w := h.2
theorem al_below (w : World) (o : Obj) : Below w.heap.size w (w.alloc o) := (Below.refl _ w).alloc (Nat.le_refl _) o

set_option maxHeartbeats 16000000 in
set_option maxRecDepth 100000 in
theorem walk (a0_0 : Bool) (a0_1 : Value) (la0_1 : List ByteArray) (a1_0 : Bool) (a1_1 : Value) (la1_1 : List ByteArray) (w : World) (ha0_1 : AddrsAt w a0_1 la0_1) (qa0_1 : la0_1.length ≤ maxLen) (ha1_1 : AddrsAt w a1_1 la1_1) (qa1_1 : la1_1.length ≤ maxLen) :
    Calls Try.prog 4 #[.agg #[.bool a0_0, a0_1], .agg #[.bool a1_0, a1_1]] w fun e w' => e = .returned (.bool true) ∧ Below w.heap.size w w' := by
  unfold maxLen at qa0_1 qa1_1
  obtain ⟨p0, c0, rfl⟩ := ha0_1.slice
  obtain ⟨p1, c1, rfl⟩ := ha1_1.slice
  have HL := Lib.hid fun U => live11_c U
  have HF := Lib.hid fun U => fewf_c a0_0 a1_0 p0 la0_1.length c0 p1 la1_1.length c1 U
  have B := Lib.hid (K2.start w #[.bool a0_0, .slice p0 la0_1.length c0] #[.bool a1_0, .slice p1 la1_1.length c1])
  rcases hfw : (decide (la0_1.length ≤ 100) && decide (la1_1.length ≤ 100)) with _ | _
  · rw [hfw] at HF
    generalize la0_1.length = n0 at *
    generalize la1_1.length = n1 at *
    clear ha0_1 ha1_1 hfw
    go_enter Try.func4, Try.ntmps4
    go_wp2_with fail
    ((with_reducible refine (HF.out _).mono ?_); rintro e w1 ⟨rfl, h1⟩)
    replace B := Lib.hid (B.out.below h1)
    clear h1
    go_wp2_with fail
    ((with_reducible refine (HL.out _).mono ?_); rintro e w2 ⟨rfl, h2⟩)
    go_wp2_with fail
    go_ret
    exact ⟨rfl, (B.out.below h2).bel⟩
  · rw [hfw] at HF
    simp only [Bool.and_eq_true, decide_eq_true_iff] at hfw
    obtain ⟨l0, l1⟩ := hfw
    have HC0 := Lib.hid fun (U : World) (hU : Below w.heap.size w U) => fcopied_c a0_0 _ la0_1 U l0 (ha0_1.below hU)
    have HC1 := Lib.hid fun (U : World) (hU : Below w.heap.size w U) => fcopied_c a1_0 _ la1_1 U l1 (ha1_1.below hU)
    have HO := Lib.hid fun v1 v2 (U : World) h1 h2 => or_c a0_0 a1_0 v1 v2 la0_1 la1_1 U (by omega) (by omega) h1 h2
    have HA := Lib.hid fun v1 v2 (U : World) h1 h2 => and_c a0_0 a1_0 v1 v2 la0_1 la1_1 U (by omega) (by omega) h1 h2
    have HN := Lib.hid fun v1 (U : World) h1 => not_c a0_0 v1 la0_1 U (by omega) h1
    have HO2 := Lib.hid fun (U : World) (hU : Below w.heap.size w U) => ror_c a0_0 a1_0 _ _ la0_1 la1_1 U (by omega) (by omega) (ha0_1.below hU) (ha1_1.below hU)
    have HA2 := Lib.hid fun (U : World) (hU : Below w.heap.size w U) => rand_c a0_0 a1_0 _ _ la0_1 la1_1 U (by omega) (by omega) (ha0_1.below hU) (ha1_1.below hU)
    have HN2 := Lib.hid fun (U : World) (hU : Below w.heap.size w U) => rnot_c a0_0 _ la0_1 U (by omega) (ha0_1.below hU)
    have j1 := p_join_len (· || ·) ⟨a0_0, la0_1⟩ ⟨a1_0, la1_1⟩
    have j2 := p_join_len (· && ·) ⟨a0_0, la0_1⟩ ⟨a1_0, la1_1⟩
    have k1 : (orF ⟨a0_0, la0_1⟩ ⟨a1_0, la1_1⟩).src.length ≤ 200 := by unfold orF; simp only at j1; omega
    have k2 : (andF ⟨a0_0, la0_1⟩ ⟨a1_0, la1_1⟩).src.length ≤ 200 := by unfold andF; simp only at j2; omega
    have k3 : (notF ⟨a0_0, la0_1⟩).src.length ≤ 200 := Nat.le_trans (ris_len la0_1) (by omega)
    have SF := Lib.hid fun v1 v2 (U : World) h1 h2 => samef_c a0_0 v1 v2 la0_1 U (by omega) h1 h2
    have SG := Lib.hid fun v1 v2 (U : World) h1 h2 => samef_c a1_0 v1 v2 la1_1 U (by omega) h1 h2
    have SO := Lib.hid fun v1 v2 (U : World) h1 h2 => samef_c (orF ⟨a0_0, la0_1⟩ ⟨a1_0, la1_1⟩).ex v1 v2 (orF ⟨a0_0, la0_1⟩ ⟨a1_0, la1_1⟩).src U (by omega) h1 h2
    have SA := Lib.hid fun v1 v2 (U : World) h1 h2 => samef_c (andF ⟨a0_0, la0_1⟩ ⟨a1_0, la1_1⟩).ex v1 v2 (andF ⟨a0_0, la0_1⟩ ⟨a1_0, la1_1⟩).src U (by omega) h1 h2
    have SN := Lib.hid fun v1 v2 (U : World) h1 h2 => samef_c (notF ⟨a0_0, la0_1⟩).ex v1 v2 (notF ⟨a0_0, la0_1⟩).src U (by omega) h1 h2
    clear j1 j2 k1 k2 k3
    unfold FPost at HC0 HC1 HO HA HN HO2 HA2 HN2
    generalize orF ⟨a0_0, la0_1⟩ ⟨a1_0, la1_1⟩ = fo at *
    generalize andF ⟨a0_0, la0_1⟩ ⟨a1_0, la1_1⟩ = fa at *
    generalize notF ⟨a0_0, la0_1⟩ = fn at *
    obtain ⟨oe, os⟩ := fo
    obtain ⟨ae, sa⟩ := fa
    obtain ⟨ne, ns⟩ := fn
    simp only at HC0 HC1 HO HA HN HO2 HA2 HN2 SO SA SN
    have A0 := Lib.hid ha0_1
    have A1 := Lib.hid ha1_1
    obtain ⟨n0, hn0⟩ : ∃ n, la0_1.length = n := ⟨_, rfl⟩
    obtain ⟨n1, hn1⟩ : ∃ n, la1_1.length = n := ⟨_, rfl⟩
    rw [hn0] at A0 B HF HC0 HO2 HA2 HN2 ⊢
    rw [hn1] at A1 B HF HC1 HO2 HA2 ⊢
    replace hn0 := Lib.hid hn0
    replace hn1 := Lib.hid hn1
    replace A0 := Lib.hid (A0.out.below B.out.bel)
    replace A1 := Lib.hid (A1.out.below B.out.bel)
    clear ha0_1 ha1_1 l0 l1
    go_enter Try.func4, Try.ntmps4
    go_wp2_with fail
    ((with_reducible refine (HF.out _).mono ?_); rintro e w1 ⟨rfl, h⟩)
    replace B := Lib.hid (B.out.below h)
    replace A0 := Lib.hid (A0.out.below h)
    replace A1 := Lib.hid (A1.out.below h)
    clear h
    have x0 := cell_of_block (j := 0) B.out.1 rfl
    have x1 := cell_of_block (j := 1) B.out.1 rfl
    have y0 := cell_of_block (j := 0) B.out.2.1 rfl
    have y1 := cell_of_block (j := 1) B.out.2.1 rfl
    go_wp2_with fail
    ((with_reducible refine (HC0.out _ B.out.bel).mono ?_); rintro e w2 ⟨v, rfl, a, h⟩)
    clear x0 x1 y0 y1
    replace B := Lib.hid (B.out.below h)
    replace A0 := Lib.hid (A0.out.below h)
    replace A1 := Lib.hid (A1.out.below h)
    have Aa := Lib.hid a.at
    obtain ⟨pa, ca, rfl⟩ := a.slice
    clear a
    clear h
    rw [hn0.out] at Aa ⊢
    go_upto_region 4 with fail
    have h := al_below w2 (.cells #[.bool a0_0, .slice pa n0 ca] 24)
    replace B := Lib.hid (B.out.below h)
    replace A0 := Lib.hid (A0.out.below h)
    replace A1 := Lib.hid (A1.out.below h)
    replace Aa := Lib.hid (Aa.out.below h)
    have Xa := Lib.hid (show HB w2.heap.size (w2.alloc (.cells #[.bool a0_0, .slice pa n0 ca] 24)) #[.bool a0_0, .slice pa n0 ca] from heap_new _ _)
    generalize w2.alloc (.cells #[.bool a0_0, .slice pa n0 ca] 24) = W2 at B A0 A1 Aa Xa ⊢
    clear h
    have x0 := cell_of_block (j := 0) B.out.1 rfl
    have x1 := cell_of_block (j := 1) B.out.1 rfl
    have y0 := cell_of_block (j := 0) B.out.2.1 rfl
    have y1 := cell_of_block (j := 1) B.out.2.1 rfl
    have a0 := cell_of_block (j := 0) Xa.out rfl
    have a1 := cell_of_block (j := 1) Xa.out rfl
    go_wp2_with fail
    ((with_reducible refine (HC1.out _ B.out.bel).mono ?_); rintro e w3 ⟨v, rfl, a, h⟩)
    clear x0 x1 y0 y1 a0 a1
    replace B := Lib.hid (B.out.below h)
    replace A0 := Lib.hid (A0.out.below h)
    replace A1 := Lib.hid (A1.out.below h)
    replace Aa := Lib.hid (Aa.out.below h)
    replace Xa := Lib.hid (Xa.out.below h)
    have Ab := Lib.hid a.at
    obtain ⟨pb, cb, rfl⟩ := a.slice
    clear a
    clear h
    rw [hn1.out] at Ab ⊢
    go_upto_region 5 with fail
    have h := al_below w3 (.cells #[.bool a1_0, .slice pb n1 cb] 24)
    replace B := Lib.hid (B.out.below h)
    replace A0 := Lib.hid (A0.out.below h)
    replace A1 := Lib.hid (A1.out.below h)
    replace Aa := Lib.hid (Aa.out.below h)
    replace Xa := Lib.hid (Xa.out.below h)
    replace Ab := Lib.hid (Ab.out.below h)
    have Xb := Lib.hid (show HB w3.heap.size (w3.alloc (.cells #[.bool a1_0, .slice pb n1 cb] 24)) #[.bool a1_0, .slice pb n1 cb] from heap_new _ _)
    generalize w3.alloc (.cells #[.bool a1_0, .slice pb n1 cb] 24) = W3 at B A0 A1 Aa Xa Ab Xb ⊢
    clear h
    have x0 := cell_of_block (j := 0) B.out.1 rfl
    have x1 := cell_of_block (j := 1) B.out.1 rfl
    have y0 := cell_of_block (j := 0) B.out.2.1 rfl
    have y1 := cell_of_block (j := 1) B.out.2.1 rfl
    have a0 := cell_of_block (j := 0) Xa.out rfl
    have a1 := cell_of_block (j := 1) Xa.out rfl
    have b0 := cell_of_block (j := 0) Xb.out rfl
    have b1 := cell_of_block (j := 1) Xb.out rfl
    go_wp2_with fail
    ((with_reducible refine (HO.out _ _ _ Aa.out Ab.out).mono ?_); rintro e w4 ⟨v, rfl, a, h⟩)
    clear x0 x1 y0 y1 a0 a1 b0 b1
    replace B := Lib.hid (B.out.below h)
    replace A0 := Lib.hid (A0.out.below h)
    replace A1 := Lib.hid (A1.out.below h)
    replace Aa := Lib.hid (Aa.out.below h)
    replace Xa := Lib.hid (Xa.out.below h)
    replace Ab := Lib.hid (Ab.out.below h)
    replace Xb := Lib.hid (Xb.out.below h)
    have Ac := Lib.hid a.at
    obtain ⟨pc, cc, rfl⟩ := a.slice
    clear a
    clear h
    go_upto_region 6 with fail
    have h := al_below w4 (.cells #[.bool oe, .slice pc os.length cc] 24)
    replace B := Lib.hid (B.out.below h)
    replace A0 := Lib.hid (A0.out.below h)
    replace A1 := Lib.hid (A1.out.below h)
    replace Aa := Lib.hid (Aa.out.below h)
    replace Xa := Lib.hid (Xa.out.below h)
    replace Ab := Lib.hid (Ab.out.below h)
    replace Xb := Lib.hid (Xb.out.below h)
    replace Ac := Lib.hid (Ac.out.below h)
    have Xc := Lib.hid (show HB w4.heap.size (w4.alloc (.cells #[.bool oe, .slice pc os.length cc] 24)) #[.bool oe, .slice pc os.length cc] from heap_new _ _)
    generalize w4.alloc (.cells #[.bool oe, .slice pc os.length cc] 24) = W4 at B A0 A1 Aa Xa Ab Xb Ac Xc ⊢
    clear h
    have x0 := cell_of_block (j := 0) B.out.1 rfl
    have x1 := cell_of_block (j := 1) B.out.1 rfl
    have y0 := cell_of_block (j := 0) B.out.2.1 rfl
    have y1 := cell_of_block (j := 1) B.out.2.1 rfl
    have a0 := cell_of_block (j := 0) Xa.out rfl
    have a1 := cell_of_block (j := 1) Xa.out rfl
    have b0 := cell_of_block (j := 0) Xb.out rfl
    have b1 := cell_of_block (j := 1) Xb.out rfl
    have c0 := cell_of_block (j := 0) Xc.out rfl
    have c1 := cell_of_block (j := 1) Xc.out rfl
    go_wp2_with fail
    ((with_reducible refine (HA.out _ _ _ Aa.out Ab.out).mono ?_); rintro e w5 ⟨v, rfl, a, h⟩)
    clear x0 x1 y0 y1 a0 a1 b0 b1 c0 c1
    replace B := Lib.hid (B.out.below h)
    replace A0 := Lib.hid (A0.out.below h)
    replace A1 := Lib.hid (A1.out.below h)
    replace Aa := Lib.hid (Aa.out.below h)
    replace Xa := Lib.hid (Xa.out.below h)
    replace Ab := Lib.hid (Ab.out.below h)
    replace Xb := Lib.hid (Xb.out.below h)
    replace Ac := Lib.hid (Ac.out.below h)
    replace Xc := Lib.hid (Xc.out.below h)
    have Ad := Lib.hid a.at
    obtain ⟨pd, cd, rfl⟩ := a.slice
    clear a
    clear h
    go_upto_region 7 with fail
    have h := al_below w5 (.cells #[.bool ae, .slice pd sa.length cd] 24)
    replace B := Lib.hid (B.out.below h)
    replace A0 := Lib.hid (A0.out.below h)
    replace A1 := Lib.hid (A1.out.below h)
    replace Aa := Lib.hid (Aa.out.below h)
    replace Xa := Lib.hid (Xa.out.below h)
    replace Ab := Lib.hid (Ab.out.below h)
    replace Xb := Lib.hid (Xb.out.below h)
    replace Ac := Lib.hid (Ac.out.below h)
    replace Xc := Lib.hid (Xc.out.below h)
    replace Ad := Lib.hid (Ad.out.below h)
    have Xd := Lib.hid (show HB w5.heap.size (w5.alloc (.cells #[.bool ae, .slice pd sa.length cd] 24)) #[.bool ae, .slice pd sa.length cd] from heap_new _ _)
    generalize w5.alloc (.cells #[.bool ae, .slice pd sa.length cd] 24) = W5 at B A0 A1 Aa Xa Ab Xb Ac Xc Ad Xd ⊢
    clear h
    have x0 := cell_of_block (j := 0) B.out.1 rfl
    have x1 := cell_of_block (j := 1) B.out.1 rfl
    have y0 := cell_of_block (j := 0) B.out.2.1 rfl
    have y1 := cell_of_block (j := 1) B.out.2.1 rfl
    have a0 := cell_of_block (j := 0) Xa.out rfl
    have a1 := cell_of_block (j := 1) Xa.out rfl
    have b0 := cell_of_block (j := 0) Xb.out rfl
    have b1 := cell_of_block (j := 1) Xb.out rfl
    have c0 := cell_of_block (j := 0) Xc.out rfl
    have c1 := cell_of_block (j := 1) Xc.out rfl
    have d0 := cell_of_block (j := 0) Xd.out rfl
    have d1 := cell_of_block (j := 1) Xd.out rfl
    go_wp2_with fail
    ((with_reducible refine (HN.out _ _ Aa.out).mono ?_); rintro e w6 ⟨v, rfl, a, h⟩)
    clear x0 x1 y0 y1 a0 a1 b0 b1 c0 c1 d0 d1
    replace B := Lib.hid (B.out.below h)
    replace A0 := Lib.hid (A0.out.below h)
    replace A1 := Lib.hid (A1.out.below h)
    replace Aa := Lib.hid (Aa.out.below h)
    replace Xa := Lib.hid (Xa.out.below h)
    replace Ab := Lib.hid (Ab.out.below h)
    replace Xb := Lib.hid (Xb.out.below h)
    replace Ac := Lib.hid (Ac.out.below h)
    replace Xc := Lib.hid (Xc.out.below h)
    replace Ad := Lib.hid (Ad.out.below h)
    replace Xd := Lib.hid (Xd.out.below h)
    have Af := Lib.hid a.at
    obtain ⟨pf, cf, rfl⟩ := a.slice
    clear a
    clear h
    go_upto_region 8 with fail
    have h := al_below w6 (.cells #[.bool ne, .slice pf ns.length cf] 24)
    replace B := Lib.hid (B.out.below h)
    replace A0 := Lib.hid (A0.out.below h)
    replace A1 := Lib.hid (A1.out.below h)
    replace Aa := Lib.hid (Aa.out.below h)
    replace Xa := Lib.hid (Xa.out.below h)
    replace Ab := Lib.hid (Ab.out.below h)
    replace Xb := Lib.hid (Xb.out.below h)
    replace Ac := Lib.hid (Ac.out.below h)
    replace Xc := Lib.hid (Xc.out.below h)
    replace Ad := Lib.hid (Ad.out.below h)
    replace Xd := Lib.hid (Xd.out.below h)
    replace Af := Lib.hid (Af.out.below h)
    have Xf := Lib.hid (show HB w6.heap.size (w6.alloc (.cells #[.bool ne, .slice pf ns.length cf] 24)) #[.bool ne, .slice pf ns.length cf] from heap_new _ _)
    generalize w6.alloc (.cells #[.bool ne, .slice pf ns.length cf] 24) = W6 at B A0 A1 Aa Xa Ab Xb Ac Xc Ad Xd Af Xf ⊢
    clear h
    have x0 := cell_of_block (j := 0) B.out.1 rfl
    have x1 := cell_of_block (j := 1) B.out.1 rfl
    have y0 := cell_of_block (j := 0) B.out.2.1 rfl
    have y1 := cell_of_block (j := 1) B.out.2.1 rfl
    have a0 := cell_of_block (j := 0) Xa.out rfl
    have a1 := cell_of_block (j := 1) Xa.out rfl
    have b0 := cell_of_block (j := 0) Xb.out rfl
    have b1 := cell_of_block (j := 1) Xb.out rfl
    have c0 := cell_of_block (j := 0) Xc.out rfl
    have c1 := cell_of_block (j := 1) Xc.out rfl
    have d0 := cell_of_block (j := 0) Xd.out rfl
    have d1 := cell_of_block (j := 1) Xd.out rfl
    have f0 := cell_of_block (j := 0) Xf.out rfl
    have f1 := cell_of_block (j := 1) Xf.out rfl
    go_wp2_with fail
    ((with_reducible refine (SF.out _ _ _ Aa.out A0.out).mono ?_); rintro e w7 ⟨rfl, h⟩)
    clear x0 x1 y0 y1 a0 a1 b0 b1 c0 c1 d0 d1 f0 f1
    replace B := Lib.hid (B.out.below h)
    replace A0 := Lib.hid (A0.out.below h)
    replace A1 := Lib.hid (A1.out.below h)
    replace Aa := Lib.hid (Aa.out.below h)
    replace Xa := Lib.hid (Xa.out.below h)
    replace Ab := Lib.hid (Ab.out.below h)
    replace Xb := Lib.hid (Xb.out.below h)
    replace Ac := Lib.hid (Ac.out.below h)
    replace Xc := Lib.hid (Xc.out.below h)
    replace Ad := Lib.hid (Ad.out.below h)
    replace Xd := Lib.hid (Xd.out.below h)
    replace Af := Lib.hid (Af.out.below h)
    replace Xf := Lib.hid (Xf.out.below h)
    clear h
    have x0 := cell_of_block (j := 0) B.out.1 rfl
    have x1 := cell_of_block (j := 1) B.out.1 rfl
    have y0 := cell_of_block (j := 0) B.out.2.1 rfl
    have y1 := cell_of_block (j := 1) B.out.2.1 rfl
    have a0 := cell_of_block (j := 0) Xa.out rfl
    have a1 := cell_of_block (j := 1) Xa.out rfl
    have b0 := cell_of_block (j := 0) Xb.out rfl
    have b1 := cell_of_block (j := 1) Xb.out rfl
    have c0 := cell_of_block (j := 0) Xc.out rfl
    have c1 := cell_of_block (j := 1) Xc.out rfl
    have d0 := cell_of_block (j := 0) Xd.out rfl
    have d1 := cell_of_block (j := 1) Xd.out rfl
    have f0 := cell_of_block (j := 0) Xf.out rfl
    have f1 := cell_of_block (j := 1) Xf.out rfl
    go_wp2_with fail
    ((with_reducible refine (SG.out _ _ _ Ab.out A1.out).mono ?_); rintro e w8 ⟨rfl, h⟩)
    clear x0 x1 y0 y1 a0 a1 b0 b1 c0 c1 d0 d1 f0 f1
    replace B := Lib.hid (B.out.below h)
    replace A0 := Lib.hid (A0.out.below h)
    replace A1 := Lib.hid (A1.out.below h)
    replace Aa := Lib.hid (Aa.out.below h)
    replace Xa := Lib.hid (Xa.out.below h)
    replace Ab := Lib.hid (Ab.out.below h)
    replace Xb := Lib.hid (Xb.out.below h)
    replace Ac := Lib.hid (Ac.out.below h)
    replace Xc := Lib.hid (Xc.out.below h)
    replace Ad := Lib.hid (Ad.out.below h)
    replace Xd := Lib.hid (Xd.out.below h)
    replace Af := Lib.hid (Af.out.below h)
    replace Xf := Lib.hid (Xf.out.below h)
    clear h
    have KF := Lib.hid fun (U : World) (k1 : K2 w U #[.bool a0_0, .slice p0 n0 c0] #[.bool a1_0, .slice p1 n1 c1]) (k2 : HB w4.heap.size U #[.bool oe, .slice pc os.length cc]) (k3 : HB w5.heap.size U #[.bool ae, .slice pd sa.length cd]) (k4 : HB w6.heap.size U #[.bool ne, .slice pf ns.length cf]) => (⟨cell_of_block k1.1 rfl, cell_of_block k1.1 rfl, cell_of_block k1.2.1 rfl, cell_of_block k1.2.1 rfl, cell_of_block k2 rfl, cell_of_block k2 rfl, cell_of_block k3 rfl, cell_of_block k3 rfl, cell_of_block k4 rfl, cell_of_block k4 rfl⟩ : U.cell? ⟨w.heap.size, 0, none⟩ = some (.bool a0_0) ∧ U.cell? ⟨w.heap.size, 1, none⟩ = some (.slice p0 n0 c0) ∧ U.cell? ⟨w.heap.size + 1, 0, none⟩ = some (.bool a1_0) ∧ U.cell? ⟨w.heap.size + 1, 1, none⟩ = some (.slice p1 n1 c1) ∧ U.cell? ⟨w4.heap.size, 0, none⟩ = some (.bool oe) ∧ U.cell? ⟨w4.heap.size, 1, none⟩ = some (.slice pc os.length cc) ∧ U.cell? ⟨w5.heap.size, 0, none⟩ = some (.bool ae) ∧ U.cell? ⟨w5.heap.size, 1, none⟩ = some (.slice pd sa.length cd) ∧ U.cell? ⟨w6.heap.size, 0, none⟩ = some (.bool ne) ∧ U.cell? ⟨w6.heap.size, 1, none⟩ = some (.slice pf ns.length cf))
    have GG := Lib.hid fun (V U : World) (h : Below V.heap.size V U) (k1 : K2 w V #[.bool a0_0, .slice p0 n0 c0] #[.bool a1_0, .slice p1 n1 c1]) (k2 : HB w4.heap.size V #[.bool oe, .slice pc os.length cc]) (k3 : HB w5.heap.size V #[.bool ae, .slice pd sa.length cd]) (k4 : HB w6.heap.size V #[.bool ne, .slice pf ns.length cf]) => KF.out U (k1.below h) (k2.below h) (k3.below h) (k4.below h)
    have D := Lib.hid (Below.refl w8.heap.size w8).drew
    obtain ⟨f0, f1, f2, f3, f4, f5, f6, f7, f8, f9⟩ := KF.out w8 B.out Xc.out Xd.out Xf.out
    have q0 := KF.out w8 B.out Xc.out Xd.out Xf.out
    have q1 := GG.out w8 _ D.out B.out Xc.out Xd.out Xf.out
    have b8 : Below w8.heap.size w8 w8.drew := D.out
    have HO2b := Lib.hid (HO2.out _ (B.out.below b8).bel)
    go_wp2_with fail
    go_region_held3 (fun U => U.cell? ⟨w.heap.size, 0, none⟩ = some (.bool a0_0) ∧ U.cell? ⟨w.heap.size, 1, none⟩ = some (.slice p0 n0 c0) ∧ U.cell? ⟨w.heap.size + 1, 0, none⟩ = some (.bool a1_0) ∧ U.cell? ⟨w.heap.size + 1, 1, none⟩ = some (.slice p1 n1 c1) ∧ U.cell? ⟨w4.heap.size, 0, none⟩ = some (.bool oe) ∧ U.cell? ⟨w4.heap.size, 1, none⟩ = some (.slice pc os.length cc) ∧ U.cell? ⟨w5.heap.size, 0, none⟩ = some (.bool ae) ∧ U.cell? ⟨w5.heap.size, 1, none⟩ = some (.slice pd sa.length cd) ∧ U.cell? ⟨w6.heap.size, 0, none⟩ = some (.bool ne) ∧ U.cell? ⟨w6.heap.size, 1, none⟩ = some (.slice pf ns.length cf))
      (first | with_reducible exact q9 | with_reducible exact q8 | with_reducible exact q7 | with_reducible exact q6 | with_reducible exact q5 | with_reducible exact q4 | with_reducible exact q3 | with_reducible exact q2 | with_reducible exact q1 | with_reducible exact q0)
      (first
        | (go_at_call 22; (with_reducible refine HO2b.out.mono ?_); rintro e u1 ⟨v, rfl, a, h⟩; have bu1 := below_then b8 h; have q2 := GG.out w8 _ bu1 B.out Xc.out Xd.out Xf.out; have S1 := Lib.hid (SO.out (.slice pc os.length cc) v _ (Ac.out.below bu1) a.at); obtain ⟨p9, c9, rfl⟩ := a.slice; clear a; clear h)
        | (go_at_call 15; (with_reducible refine S1.out.mono ?_); rintro e u2 ⟨rfl, h⟩; have bu2 := below_then bu1 h; have q3 := GG.out w8 _ bu2 B.out Xc.out Xd.out Xf.out; have HA2b := Lib.hid (HA2.out _ (B.out.below bu2).bel); clear h)
        | (go_at_call 23; (with_reducible refine HA2b.out.mono ?_); rintro e u3 ⟨v, rfl, a, h⟩; have bu3 := below_then bu2 h; have q4 := GG.out w8 _ bu3 B.out Xc.out Xd.out Xf.out; have S2 := Lib.hid (SA.out (.slice pd sa.length cd) v _ (Ad.out.below bu3) a.at); obtain ⟨p10, c10, rfl⟩ := a.slice; clear a; clear h)
        | (go_at_call 15; (with_reducible refine S2.out.mono ?_); rintro e u4 ⟨rfl, h⟩; have bu4 := below_then bu3 h; have q5 := GG.out w8 _ bu4 B.out Xc.out Xd.out Xf.out; have HN2b := Lib.hid (HN2.out _ (B.out.below bu4).bel); clear h)
        | (go_at_call 24; (with_reducible refine HN2b.out.mono ?_); rintro e u5 ⟨v, rfl, a, h⟩; have bu5 := below_then bu4 h; have q6 := GG.out w8 _ bu5 B.out Xc.out Xd.out Xf.out; have S3 := Lib.hid (SN.out (.slice pf ns.length cf) v _ (Af.out.below bu5) a.at); obtain ⟨p11, c11, rfl⟩ := a.slice; clear a; clear h)
        | (go_at_call 15; (with_reducible refine S3.out.mono ?_); rintro e u6 ⟨rfl, h⟩; have bu6 := below_then bu5 h; have q7 := GG.out w8 _ bu6 B.out Xc.out Xd.out Xf.out; have HLb := Lib.hid (HL.out u6); clear h)
        | (go_at_call 10; (with_reducible refine HLb.out.mono ?_); rintro e u7 ⟨rfl, h⟩; have bu7 := below_then bu6 h; have q8 := GG.out w8 _ bu7 B.out Xc.out Xd.out Xf.out;  clear h))
    all_goals
      clear f0 f1 f2 f3 f4 f5 f6 f7 f8 f9
      go_wp2_with fail
      go_ret
      exact ⟨rfl, (B.out.below bu7).bel⟩

theorem own : ownKnob Try.prog.godebug = none := by kernel_rfl
theorem laidOut : laidOutB Try.prog = true := by kernel_rfl

set_option maxHeartbeats 1000000 in
set_option maxRecDepth 100000 in
theorem lifted (os : Os) (started : os.Started) (H : Type) (enc : TypeId × Value → H) :
    ReturnsInHanded {} Try.checked os 4 .any (Rows.filterMakesSpec.pre6 enc Try.prog Try.f4 Rows.filterMakesRow.domain false) (Rows.filterMakesSpec.post enc Try.prog Try.f4 false true false false) := by
  refine returnsInHanded_of_change_sized (C := Try.checked) own started (by kernel_rfl) Try.func4
    (ChangeSpec.witness6 (enc := enc) (C := Try.checked) false ⟨#[], #[.agg #[.bool false, .slice none 0 0], .agg #[.bool false, .slice none 0 0]], []⟩ 8 (by kernel_rfl) (by kernel_rfl) (by kernel_rfl) (by kernel_rfl)) ?_
  intro W base args ds gs before hval0 hW hcnd hsz0 hholds
  have hval : ∀ (j : Nat) t v, Try.f4.params[j]? = some t → args[j]? = some v → Value.okWide Try.prog W .any base t v := hval0
  have hsz : (DataW.weightsEach Try.prog (Try.f4.params.toList ++ Rows.filterMakesSpec.plain.varTypes Try.prog) (ds ++ gs)).all (· ≤ reachBytes) = true := hsz0
  have hW' := hW
  obtain ⟨p, q, hA0, hV, rfl, hfz, hnd⟩ := hW
  have hA : DataW.TrodAll enc Try.prog W 0 (fun _ => true) true Try.f4.params.toList args.toList ds p := hA0
  rw [Try.params4] at hA hval hsz
  obtain ⟨v0, vs0, d0, ds0, p0, q0, hargs, rfl, rfl, h0, r0⟩ := trodAll_cons hA
  obtain ⟨v1, vs1, d1, ds1, p1, q1, rfl, rfl, rfl, h1, r1⟩ := trodAll_cons r0
  obtain ⟨rfl, rfl, rfl⟩ := trodAll_nil r1
  obtain rfl : args = #[v0, v1] := by cases args; simp_all
  obtain ⟨rfl, rfl⟩ := trodVars_none hV
  have k0 := h0
  have lt0 : ∀ x ∈ p0, x.block < W.heap.size := by obtain ⟨m, hm⟩ := k0; exact DataW.trod_lt m _ _ _ hm
  have k1 := h1
  have lt1 : ∀ x ∈ p1, x.block < W.heap.size := by obtain ⟨m, hm⟩ := k1; exact DataW.trod_lt m _ _ _ hm
  obtain ⟨cs0, rfl, hz0⟩ := okWide_struct Try.underlying24 (hval 0 24 v0 rfl rfl)
  obtain ⟨l0⟩ := cs0
  obtain ⟨c0_0, c0_1, rfl⟩ := list2 l0 (hz0.trans (by kernel_rfl))
  obtain ⟨fu0, hf0⟩ := h0
  obtain ⟨xs0, m0, -, hx0, -, hn0, hg0⟩ := DataW.trod_struct Try.underlying24 hf0
  obtain ⟨y0_0, y0_1, rfl⟩ := list2 xs0 hn0
  simp only [Prod.mk.injEq] at hx0
  obtain ⟨rfl, rfl⟩ := hx0
  have g0_0 : DataW.trod enc Try.prog W 0 (fun _ => true) true m0 4 (List.take (Try.prog.cellsOf 4) (List.drop 0 [c0_0, c0_1])) = some y0_0 := hg0 0 _ rfl
  rw [show Try.prog.cellsOf 4 = 1 from by kernel_rfl] at g0_0
  replace g0_0 : DataW.trod enc Try.prog W 0 (fun _ => true) true m0 4 [c0_0] = some y0_0 := g0_0
  have g0_1 : DataW.trod enc Try.prog W 0 (fun _ => true) true m0 22 (List.take (Try.prog.cellsOf 22) (List.drop 1 [c0_0, c0_1])) = some y0_1 := hg0 1 _ rfl
  rw [show Try.prog.cellsOf 22 = 1 from by kernel_rfl] at g0_1
  replace g0_1 : DataW.trod enc Try.prog W 0 (fun _ => true) true m0 22 [c0_1] = some y0_1 := g0_1
  clear hg0
  obtain ⟨a0_0, e0_0, rfl⟩ := DataW.trod_bool Try.underlying4 g0_0
  simp at e0_0
  subst e0_0
  obtain ⟨v0_1, L0_1, e0_1, hh0_1, qq0_1⟩ := addrs_open g0_1
  simp at e0_1
  subst e0_1
  obtain ⟨cs1, rfl, hz1⟩ := okWide_struct Try.underlying24 (hval 1 24 v1 rfl rfl)
  obtain ⟨l1⟩ := cs1
  obtain ⟨c1_0, c1_1, rfl⟩ := list2 l1 (hz1.trans (by kernel_rfl))
  obtain ⟨fu1, hf1⟩ := h1
  obtain ⟨xs1, m1, -, hx1, -, hn1, hg1⟩ := DataW.trod_struct Try.underlying24 hf1
  obtain ⟨y1_0, y1_1, rfl⟩ := list2 xs1 hn1
  simp only [Prod.mk.injEq] at hx1
  obtain ⟨rfl, rfl⟩ := hx1
  have g1_0 : DataW.trod enc Try.prog W 0 (fun _ => true) true m1 4 (List.take (Try.prog.cellsOf 4) (List.drop 0 [c1_0, c1_1])) = some y1_0 := hg1 0 _ rfl
  rw [show Try.prog.cellsOf 4 = 1 from by kernel_rfl] at g1_0
  replace g1_0 : DataW.trod enc Try.prog W 0 (fun _ => true) true m1 4 [c1_0] = some y1_0 := g1_0
  have g1_1 : DataW.trod enc Try.prog W 0 (fun _ => true) true m1 22 (List.take (Try.prog.cellsOf 22) (List.drop 1 [c1_0, c1_1])) = some y1_1 := hg1 1 _ rfl
  rw [show Try.prog.cellsOf 22 = 1 from by kernel_rfl] at g1_1
  replace g1_1 : DataW.trod enc Try.prog W 0 (fun _ => true) true m1 22 [c1_1] = some y1_1 := g1_1
  clear hg1
  obtain ⟨a1_0, e1_0, rfl⟩ := DataW.trod_bool Try.underlying4 g1_0
  simp at e1_0
  subst e1_0
  obtain ⟨v1_1, L1_1, e1_1, hh1_1, qq1_1⟩ := addrs_open g1_1
  simp at e1_1
  subst e1_1
  clear hA0 hval0
  refine (walk a0_0 c0_1 L0_1 a1_0 c1_1 L1_1 W hh0_1 qq0_1 hh1_1 qq1_1).mono fun e W' ⟨he, bel⟩ => ?_
  subst he
  exact ⟨_, rfl, _, _, _, [], _, [], hW', trodAll_mk1 (shut_bool Try.underlying4 _), (trodAll_cons_mk (Below.trod laidOut (by kernel_rfl) (of_decide_eq_true (by kernel_rfl)) k0 bel lt0) (trodAll_cons_mk (Below.trod laidOut (by kernel_rfl) (of_decide_eq_true (by kernel_rfl)) k1 bel lt1) trodAll_mk0)), rfl, bel.frame _, fun h => by cases h⟩

theorem over : Rows.filterMakesRow.holds Try.pinned (OpenSpec.ofChange Rows.filterMakesSpec) :=
  OpenClaim.holds_of_wide 4 Try.f4 rfl rfl rfl rfl rfl rfl rfl ⟨rfl, rfl, rfl, rfl, rfl⟩ rfl rfl rfl rfl rfl (by kernel_rfl) Try.func4 (by kernel_rfl)
    (of_decide_eq_true (by kernel_rfl)) (by unfold Func.isWrapper; first | (rw [if_pos (by decide +kernel)]; kernel_rfl) | (rw [if_neg (by decide +kernel)]; exact ⟨rfl, rfl⟩))
    (fun os started H enc _ => lifted os started H enc)

/-- The statement. -/
theorem proved : Rows.FilterMakesSaid := over
#print axioms proved
end Go.Proofs.Ytkjkndpglbcgfaa.filterMakesLaw
