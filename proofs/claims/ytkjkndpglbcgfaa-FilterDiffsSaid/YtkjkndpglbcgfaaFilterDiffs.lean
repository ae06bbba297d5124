/-
  'siphonlaw11.FilterDiffs' returns true, whatever the input, and each argument reads behind the call as it read before. Conditions: none beyond those that the row itself states.
-/
import Derived.Test.YtkjkndpglbcgfaaRows
import Derived.Test.YtkjkndpglbcgfaaFlI
import Derived.Test.YtkjkndpglbcgfaaFlE
import Derived.Test.YtkjkndpglbcgfaaFlX
import Derived.Test.YtkjkndpglbcgfaaTrod
import Derived.WalkKit
import Derived.ProofKit
import Derived.OpenShut
import Derived.ShutString
import Derived.ChangeOld
import Derived.Below
import Derived.Carry
import Derived.SizedLaws
import Derived.Lib.SmallJoins
import Derived.ChangeArms
import Derived.WideShapes
namespace Go.Proofs.Ytkjkndpglbcgfaa.filterDiffsLaw
open Go.ChangeShapes Go.WideShapes Go.ChangeAt Go.RowKit Go.Joins
open Go.ChangeMaps (open_string shut_string)
set_option linter.unusedVariables false

theorem list2 {α : Type} (l : List α) (h : l.length = 2) : ∃ x0 x1 : α, l = [x0, x1] := by
  match l, h with
  | [x0, x1], _ => exact ⟨x0, x1, rfl⟩

/-- A box of a filter: block b. -/
def HB (b : Nat) (w : World) (x : Array Value) : Prop := w.heap[b]? = some (.cells x 24 (0, 0))
theorem HB.below {b : Nat} {w w' : World} {x : Array Value} (h : HB b w x) (k : Below w.heap.size w w') : HB b w' x := below_block k (lt_of_block h) h
theorem box_bel {w0 w : World} {xs : Array Value} {t : TypeId} (h : Box w0 w xs t) : Below w0.heap.size w0 w := h.2
theorem al_below (w : World) (o : Obj) : Below w.heap.size w (w.alloc o) := (Below.refl _ w).alloc (Nat.le_refl _) o

set_option maxHeartbeats 16000000 in
set_option maxRecDepth 100000 in
theorem walk (a0 : ByteArray) (a1_0 : Bool) (a1_1 : Value) (la1_1 : List ByteArray) (a2_0 : Bool) (a2_1 : Value) (la2_1 : List ByteArray) (w : World) (za0 : a0.size ≤ 140737488351232) (ha1_1 : AddrsAt w a1_1 la1_1) (qa1_1 : la1_1.length ≤ maxLen) (ha2_1 : AddrsAt w a2_1 la2_1) (qa2_1 : la2_1.length ≤ maxLen) :
    Calls Try.prog 7 #[.string a0, .agg #[.bool a1_0, a1_1], .agg #[.bool a2_0, a2_1]] w fun e w' => e = .returned (.bool true) ∧ Below w.heap.size w w' := by
  unfold maxLen at qa1_1 qa2_1
  obtain ⟨p0, c0, rfl⟩ := ha1_1.slice
  obtain ⟨p1, c1, rfl⟩ := ha2_1.slice
  have HL := Lib.hid fun U => live11_c U
  have HF := Lib.hid fun U => fewf_c a1_0 a2_0 p0 la1_1.length c0 p1 la2_1.length c1 U
  have B := Lib.hid (K2.start w #[.bool a1_0, .slice p0 la1_1.length c0] #[.bool a2_0, .slice p1 la2_1.length c1])
  rcases hfw : (decide (la1_1.length ≤ 100) && decide (la2_1.length ≤ 100)) with _ | _
  · rw [hfw] at HF
    generalize la1_1.length = n0 at *
    generalize la2_1.length = n1 at *
    clear ha1_1 ha2_1 hfw
    go_enter Try.func7, Try.ntmps7
    go_wp2_with fail
    ((with_reducible refine (HF.out _).mono ?_); rintro e w1 ⟨rfl, h1⟩)
    replace B := Lib.hid (B.out.below h1)
    clear h1
    go_wp2_with fail
    ((with_reducible refine (HL.out _).mono ?_); rintro e w2 ⟨rfl, h2⟩)
    go_wp2_with fail
    go_ret
    exact ⟨rfl, (B.out.below h2).bel⟩
  · rw [hfw] at HF
    simp only [Bool.and_eq_true, decide_eq_true_iff] at hfw
    obtain ⟨l0, l1⟩ := hfw
    have HC0 := Lib.hid fun (U : World) (hU : Below w.heap.size w U) => fcopied_c a1_0 _ la1_1 U l0 (ha1_1.below hU)
    have HC1 := Lib.hid fun (U : World) (hU : Below w.heap.size w U) => fcopied_c a2_0 _ la2_1 U l1 (ha2_1.below hU)
    have HD := Lib.hid fun v1 v2 (U : World) h1 h2 => diff_c a0 a1_0 a2_0 v1 v2 la1_1 la2_1 U (by omega) (by omega) h1 h2
    have HE := Lib.hid fun (U : World) (hU : Below w.heap.size w U) => rdiff_c a0 a1_0 a2_0 _ _ la1_1 la2_1 U (by omega) (by omega) (ha1_1.below hU) (ha2_1.below hU)
    have SF := Lib.hid fun v1 v2 (U : World) h1 h2 => samef_c a1_0 v1 v2 la1_1 U (by omega) h1 h2
    have SG := Lib.hid fun v1 v2 (U : World) h1 h2 => samef_c a2_0 v1 v2 la2_1 U (by omega) h1 h2
    have hlen := diff_len a0 ⟨a1_0, la1_1⟩ ⟨a2_0, la2_1⟩
    have hsrc := diff_srcs a0 ⟨a1_0, la1_1⟩ ⟨a2_0, la2_1⟩ 100 l0 l1
    have SR := Lib.hid fun v1 v2 (U : World) h1 h2 => sameR_c v1 v2 (diffF a0 ⟨a1_0, la1_1⟩ ⟨a2_0, la2_1⟩) U (by omega) (fun r hr => by have := hsrc r hr; omega) h1 h2
    clear hlen hsrc
    unfold FPost at HC0 HC1
    unfold DiPost at HD HE
    generalize diffF a0 ⟨a1_0, la1_1⟩ ⟨a2_0, la2_1⟩ = L at *
    simp only at HC0 HC1
    have A0 := Lib.hid ha1_1
    have A1 := Lib.hid ha2_1
    obtain ⟨n0, hn0⟩ : ∃ n, la1_1.length = n := ⟨_, rfl⟩
    obtain ⟨n1, hn1⟩ : ∃ n, la2_1.length = n := ⟨_, rfl⟩
    rw [hn0] at A0 B HF HC0 HE ⊢
    rw [hn1] at A1 B HF HC1 HE ⊢
    replace hn0 := Lib.hid hn0
    replace hn1 := Lib.hid hn1
    replace A0 := Lib.hid (A0.out.below B.out.bel)
    replace A1 := Lib.hid (A1.out.below B.out.bel)
    clear ha1_1 ha2_1 l0 l1
    go_enter Try.func7, Try.ntmps7
    go_wp2_with fail
    ((with_reducible refine (HF.out _).mono ?_); rintro e w1 ⟨rfl, h⟩)
    replace B := Lib.hid (B.out.below h)
    replace A0 := Lib.hid (A0.out.below h)
    replace A1 := Lib.hid (A1.out.below h)
    clear h
    have x0 := cell_of_block (j := 0) B.out.1 rfl
    have x1 := cell_of_block (j := 1) B.out.1 rfl
    have y0 := cell_of_block (j := 0) B.out.2.1 rfl
    have y1 := cell_of_block (j := 1) B.out.2.1 rfl
    go_wp2_with fail
    ((with_reducible refine (HC0.out _ B.out.bel).mono ?_); rintro e w2 ⟨v, rfl, a, h⟩)
    clear x0 x1 y0 y1
    replace B := Lib.hid (B.out.below h)
    replace A0 := Lib.hid (A0.out.below h)
    replace A1 := Lib.hid (A1.out.below h)
    have Aa := Lib.hid a.at
    obtain ⟨pa, ca, rfl⟩ := a.slice
    clear a
    clear h
    rw [hn0.out] at Aa ⊢
    go_upto_region 4 with fail
    have h := al_below w2 (.cells #[.bool a1_0, .slice pa n0 ca] 24)
    replace B := Lib.hid (B.out.below h)
    replace A0 := Lib.hid (A0.out.below h)
    replace A1 := Lib.hid (A1.out.below h)
    replace Aa := Lib.hid (Aa.out.below h)
    have Xa := Lib.hid (show HB w2.heap.size (w2.alloc (.cells #[.bool a1_0, .slice pa n0 ca] 24)) #[.bool a1_0, .slice pa n0 ca] from heap_new _ _)
    generalize w2.alloc (.cells #[.bool a1_0, .slice pa n0 ca] 24) = W2 at B A0 A1 Aa Xa ⊢
    clear h
    have x0 := cell_of_block (j := 0) B.out.1 rfl
    have x1 := cell_of_block (j := 1) B.out.1 rfl
    have y0 := cell_of_block (j := 0) B.out.2.1 rfl
    have y1 := cell_of_block (j := 1) B.out.2.1 rfl
    have a0 := cell_of_block (j := 0) Xa.out rfl
    have a1 := cell_of_block (j := 1) Xa.out rfl
    go_wp2_with fail
    ((with_reducible refine (HC1.out _ B.out.bel).mono ?_); rintro e w3 ⟨v, rfl, a, h⟩)
    clear x0 x1 y0 y1 a0 a1
    replace B := Lib.hid (B.out.below h)
    replace A0 := Lib.hid (A0.out.below h)
    replace A1 := Lib.hid (A1.out.below h)
    replace Aa := Lib.hid (Aa.out.below h)
    replace Xa := Lib.hid (Xa.out.below h)
    have Ab := Lib.hid a.at
    obtain ⟨pb, cb, rfl⟩ := a.slice
    clear a
    clear h
    rw [hn1.out] at Ab ⊢
    go_upto_region 5 with fail
    have h := al_below w3 (.cells #[.bool a2_0, .slice pb n1 cb] 24)
    replace B := Lib.hid (B.out.below h)
    replace A0 := Lib.hid (A0.out.below h)
    replace A1 := Lib.hid (A1.out.below h)
    replace Aa := Lib.hid (Aa.out.below h)
    replace Xa := Lib.hid (Xa.out.below h)
    replace Ab := Lib.hid (Ab.out.below h)
    have Xb := Lib.hid (show HB w3.heap.size (w3.alloc (.cells #[.bool a2_0, .slice pb n1 cb] 24)) #[.bool a2_0, .slice pb n1 cb] from heap_new _ _)
    generalize w3.alloc (.cells #[.bool a2_0, .slice pb n1 cb] 24) = W3 at B A0 A1 Aa Xa Ab Xb ⊢
    clear h
    have x0 := cell_of_block (j := 0) B.out.1 rfl
    have x1 := cell_of_block (j := 1) B.out.1 rfl
    have y0 := cell_of_block (j := 0) B.out.2.1 rfl
    have y1 := cell_of_block (j := 1) B.out.2.1 rfl
    have a0 := cell_of_block (j := 0) Xa.out rfl
    have a1 := cell_of_block (j := 1) Xa.out rfl
    have b0 := cell_of_block (j := 0) Xb.out rfl
    have b1 := cell_of_block (j := 1) Xb.out rfl
    go_wp2_with fail
    ((with_reducible refine (HD.out _ _ _ Aa.out Ab.out).mono ?_); rintro e w4 ⟨v, rfl, a, h⟩)
    clear x0 x1 y0 y1 a0 a1 b0 b1
    replace B := Lib.hid (B.out.below h)
    replace A0 := Lib.hid (A0.out.below h)
    replace A1 := Lib.hid (A1.out.below h)
    replace Aa := Lib.hid (Aa.out.below h)
    replace Xa := Lib.hid (Xa.out.below h)
    replace Ab := Lib.hid (Ab.out.below h)
    replace Xb := Lib.hid (Xb.out.below h)
    have RL := Lib.hid a
    obtain ⟨pl, cl, rfl⟩ := a.slice
    clear a
    clear h
    have x0 := cell_of_block (j := 0) B.out.1 rfl
    have x1 := cell_of_block (j := 1) B.out.1 rfl
    have y0 := cell_of_block (j := 0) B.out.2.1 rfl
    have y1 := cell_of_block (j := 1) B.out.2.1 rfl
    have a0 := cell_of_block (j := 0) Xa.out rfl
    have a1 := cell_of_block (j := 1) Xa.out rfl
    have b0 := cell_of_block (j := 0) Xb.out rfl
    have b1 := cell_of_block (j := 1) Xb.out rfl
    go_wp2_with fail
    ((with_reducible refine (SF.out _ _ _ Aa.out A0.out).mono ?_); rintro e w5 ⟨rfl, h⟩)
    clear x0 x1 y0 y1 a0 a1 b0 b1
    replace B := Lib.hid (B.out.below h)
    replace A0 := Lib.hid (A0.out.below h)
    replace A1 := Lib.hid (A1.out.below h)
    replace Aa := Lib.hid (Aa.out.below h)
    replace Xa := Lib.hid (Xa.out.below h)
    replace Ab := Lib.hid (Ab.out.below h)
    replace Xb := Lib.hid (Xb.out.below h)
    replace RL := Lib.hid (RL.out.below h)
    clear h
    have x0 := cell_of_block (j := 0) B.out.1 rfl
    have x1 := cell_of_block (j := 1) B.out.1 rfl
    have y0 := cell_of_block (j := 0) B.out.2.1 rfl
    have y1 := cell_of_block (j := 1) B.out.2.1 rfl
    have a0 := cell_of_block (j := 0) Xa.out rfl
    have a1 := cell_of_block (j := 1) Xa.out rfl
    have b0 := cell_of_block (j := 0) Xb.out rfl
    have b1 := cell_of_block (j := 1) Xb.out rfl
    go_wp2_with fail
    ((with_reducible refine (SG.out _ _ _ Ab.out A1.out).mono ?_); rintro e w6 ⟨rfl, h⟩)
    clear x0 x1 y0 y1 a0 a1 b0 b1
    replace B := Lib.hid (B.out.below h)
    replace A0 := Lib.hid (A0.out.below h)
    replace A1 := Lib.hid (A1.out.below h)
    replace Aa := Lib.hid (Aa.out.below h)
    replace Xa := Lib.hid (Xa.out.below h)
    replace Ab := Lib.hid (Ab.out.below h)
    replace Xb := Lib.hid (Xb.out.below h)
    replace RL := Lib.hid (RL.out.below h)
    clear h
    have x0 := cell_of_block (j := 0) B.out.1 rfl
    have x1 := cell_of_block (j := 1) B.out.1 rfl
    have y0 := cell_of_block (j := 0) B.out.2.1 rfl
    have y1 := cell_of_block (j := 1) B.out.2.1 rfl
    have a0 := cell_of_block (j := 0) Xa.out rfl
    have a1 := cell_of_block (j := 1) Xa.out rfl
    have b0 := cell_of_block (j := 0) Xb.out rfl
    have b1 := cell_of_block (j := 1) Xb.out rfl
    go_wp2_with fail
    ((with_reducible refine (HE.out _ B.out.bel).mono ?_); rintro e w7 ⟨v, rfl, a, h⟩)
    clear x0 x1 y0 y1 a0 a1 b0 b1
    replace B := Lib.hid (B.out.below h)
    replace A0 := Lib.hid (A0.out.below h)
    replace A1 := Lib.hid (A1.out.below h)
    replace Aa := Lib.hid (Aa.out.below h)
    replace Xa := Lib.hid (Xa.out.below h)
    replace Ab := Lib.hid (Ab.out.below h)
    replace Xb := Lib.hid (Xb.out.below h)
    replace RL := Lib.hid (RL.out.below h)
    have RM := Lib.hid a
    obtain ⟨pm, cm, rfl⟩ := a.slice
    clear a
    clear h
    go_wp2_with fail
    ((with_reducible refine (SR.out _ _ _ RL.out RM.out).mono ?_); rintro e w8 ⟨rfl, n8, h8⟩)
    replace B := Lib.hid (show K2 w w8 #[.bool a1_0, .slice p0 n0 c0] #[.bool a2_0, .slice p1 n1 c1] from by rw [h8]; exact ⟨B.out.1, B.out.2.1, below_drewN B.out.2.2 _⟩)
    clear h8
    go_wp2_with fail
    ((with_reducible refine (HL.out _).mono ?_); rintro e w9 ⟨rfl, h9⟩)
    go_wp2_with fail
    go_ret
    exact ⟨rfl, (B.out.below h9).bel⟩

theorem own : ownKnob Try.prog.godebug = none := by kernel_rfl
theorem laidOut : laidOutB Try.prog = true := by kernel_rfl

set_option maxHeartbeats 1000000 in
set_option maxRecDepth 100000 in
theorem lifted (os : Os) (started : os.Started) (H : Type) (enc : TypeId × Value → H) :
    ReturnsInHanded {} Try.checked os 7 .any (Rows.filterDiffsSpec.pre6 enc Try.prog Try.f7 Rows.filterDiffsRow.domain false) (Rows.filterDiffsSpec.post enc Try.prog Try.f7 false true false false) := by
  refine returnsInHanded_of_change_sized (C := Try.checked) own started (by kernel_rfl) Try.func7
    (ChangeSpec.witness6 (enc := enc) (C := Try.checked) false ⟨#[], #[.string ByteArray.empty, .agg #[.bool false, .slice none 0 0], .agg #[.bool false, .slice none 0 0]], []⟩ 8 (by kernel_rfl) (by kernel_rfl) (by kernel_rfl) (by kernel_rfl)) ?_
  intro W base args ds gs before hval0 hW hcnd hsz0 hholds
  have hval : ∀ (j : Nat) t v, Try.f7.params[j]? = some t → args[j]? = some v → Value.okWide Try.prog W .any base t v := hval0
  have hsz : (DataW.weightsEach Try.prog (Try.f7.params.toList ++ Rows.filterDiffsSpec.plain.varTypes Try.prog) (ds ++ gs)).all (· ≤ reachBytes) = true := hsz0
  have hW' := hW
  obtain ⟨p, q, hA0, hV, rfl, hfz, hnd⟩ := hW
  have hA : DataW.TrodAll enc Try.prog W 0 (fun _ => true) true Try.f7.params.toList args.toList ds p := hA0
  rw [Try.params7] at hA hval hsz
  obtain ⟨v0, vs0, d0, ds0, p0, q0, hargs, rfl, rfl, h0, r0⟩ := trodAll_cons hA
  obtain ⟨v1, vs1, d1, ds1, p1, q1, rfl, rfl, rfl, h1, r1⟩ := trodAll_cons r0
  obtain ⟨v2, vs2, d2, ds2, p2, q2, rfl, rfl, rfl, h2, r2⟩ := trodAll_cons r1
  obtain ⟨rfl, rfl, rfl⟩ := trodAll_nil r2
  obtain rfl : args = #[v0, v1, v2] := by cases args; simp_all
  obtain ⟨rfl, rfl⟩ := trodVars_none hV
  have k0 := h0
  have lt0 : ∀ x ∈ p0, x.block < W.heap.size := by obtain ⟨m, hm⟩ := k0; exact DataW.trod_lt m _ _ _ hm
  have k1 := h1
  have lt1 : ∀ x ∈ p1, x.block < W.heap.size := by obtain ⟨m, hm⟩ := k1; exact DataW.trod_lt m _ _ _ hm
  have k2 := h2
  have lt2 : ∀ x ∈ p2, x.block < W.heap.size := by obtain ⟨m, hm⟩ := k2; exact DataW.trod_lt m _ _ _ hm
  obtain ⟨a0, rfl, rfl, rfl, w0⟩ := open_string Try.underlying25 (hval 0 25 v0 rfl rfl) h0
  obtain ⟨cs1, rfl, hz1⟩ := okWide_struct Try.underlying24 (hval 1 24 v1 rfl rfl)
  obtain ⟨l1⟩ := cs1
  obtain ⟨c1_0, c1_1, rfl⟩ := list2 l1 (hz1.trans (by kernel_rfl))
  obtain ⟨fu1, hf1⟩ := h1
  obtain ⟨xs1, m1, -, hx1, -, hn1, hg1⟩ := DataW.trod_struct Try.underlying24 hf1
  obtain ⟨y1_0, y1_1, rfl⟩ := list2 xs1 hn1
  simp only [Prod.mk.injEq] at hx1
  obtain ⟨rfl, rfl⟩ := hx1
  have g1_0 : DataW.trod enc Try.prog W 0 (fun _ => true) true m1 4 (List.take (Try.prog.cellsOf 4) (List.drop 0 [c1_0, c1_1])) = some y1_0 := hg1 0 _ rfl
  rw [show Try.prog.cellsOf 4 = 1 from by kernel_rfl] at g1_0
  replace g1_0 : DataW.trod enc Try.prog W 0 (fun _ => true) true m1 4 [c1_0] = some y1_0 := g1_0
  have g1_1 : DataW.trod enc Try.prog W 0 (fun _ => true) true m1 22 (List.take (Try.prog.cellsOf 22) (List.drop 1 [c1_0, c1_1])) = some y1_1 := hg1 1 _ rfl
  rw [show Try.prog.cellsOf 22 = 1 from by kernel_rfl] at g1_1
  replace g1_1 : DataW.trod enc Try.prog W 0 (fun _ => true) true m1 22 [c1_1] = some y1_1 := g1_1
  clear hg1
  obtain ⟨a1_0, e1_0, rfl⟩ := DataW.trod_bool Try.underlying4 g1_0
  simp at e1_0
  subst e1_0
  obtain ⟨v1_1, L1_1, e1_1, hh1_1, qq1_1⟩ := addrs_open g1_1
  simp at e1_1
  subst e1_1
  obtain ⟨cs2, rfl, hz2⟩ := okWide_struct Try.underlying24 (hval 2 24 v2 rfl rfl)
  obtain ⟨l2⟩ := cs2
  obtain ⟨c2_0, c2_1, rfl⟩ := list2 l2 (hz2.trans (by kernel_rfl))
  obtain ⟨fu2, hf2⟩ := h2
  obtain ⟨xs2, m2, -, hx2, -, hn2, hg2⟩ := DataW.trod_struct Try.underlying24 hf2
  obtain ⟨y2_0, y2_1, rfl⟩ := list2 xs2 hn2
  simp only [Prod.mk.injEq] at hx2
  obtain ⟨rfl, rfl⟩ := hx2
  have g2_0 : DataW.trod enc Try.prog W 0 (fun _ => true) true m2 4 (List.take (Try.prog.cellsOf 4) (List.drop 0 [c2_0, c2_1])) = some y2_0 := hg2 0 _ rfl
  rw [show Try.prog.cellsOf 4 = 1 from by kernel_rfl] at g2_0
  replace g2_0 : DataW.trod enc Try.prog W 0 (fun _ => true) true m2 4 [c2_0] = some y2_0 := g2_0
  have g2_1 : DataW.trod enc Try.prog W 0 (fun _ => true) true m2 22 (List.take (Try.prog.cellsOf 22) (List.drop 1 [c2_0, c2_1])) = some y2_1 := hg2 1 _ rfl
  rw [show Try.prog.cellsOf 22 = 1 from by kernel_rfl] at g2_1
  replace g2_1 : DataW.trod enc Try.prog W 0 (fun _ => true) true m2 22 [c2_1] = some y2_1 := g2_1
  clear hg2
  obtain ⟨a2_0, e2_0, rfl⟩ := DataW.trod_bool Try.underlying4 g2_0
  simp at e2_0
  subst e2_0
  obtain ⟨v2_1, L2_1, e2_1, hh2_1, qq2_1⟩ := addrs_open g2_1
  simp at e2_1
  subst e2_1
  have za0 : a0.size ≤ 140737488351232 := by
    have h := sized_string hsz (j := 0) (t := 25) rfl rfl
    simpa [reachBytes] using h
  clear hA0 hval0
  refine (walk a0 a1_0 c1_1 L1_1 a2_0 c2_1 L2_1 W za0 hh1_1 qq1_1 hh2_1 qq2_1).mono fun e W' ⟨he, bel⟩ => ?_
  subst he
  exact ⟨_, rfl, _, _, _, [], _, [], hW', trodAll_mk1 (shut_bool Try.underlying4 _), (trodAll_cons_mk (Below.trod laidOut (by kernel_rfl) (of_decide_eq_true (by kernel_rfl)) k0 bel lt0) (trodAll_cons_mk (Below.trod laidOut (by kernel_rfl) (of_decide_eq_true (by kernel_rfl)) k1 bel lt1) (trodAll_cons_mk (Below.trod laidOut (by kernel_rfl) (of_decide_eq_true (by kernel_rfl)) k2 bel lt2) trodAll_mk0))), rfl, bel.frame _, fun h => by cases h⟩

theorem over : Rows.filterDiffsRow.holds Try.pinned (OpenSpec.ofChange Rows.filterDiffsSpec) :=
  OpenClaim.holds_of_wide 7 Try.f7 rfl rfl rfl rfl rfl rfl rfl ⟨rfl, rfl, rfl, rfl, rfl⟩ rfl rfl rfl rfl rfl (by kernel_rfl) Try.func7 (by kernel_rfl)
    (of_decide_eq_true (by kernel_rfl)) (by unfold Func.isWrapper; first | (rw [if_pos (by decide +kernel)]; kernel_rfl) | (rw [if_neg (by decide +kernel)]; exact ⟨rfl, rfl⟩))
    (fun os started H enc _ => lifted os started H enc)

/-- The statement. -/
theorem proved : Rows.FilterDiffsSaid := over
#print axioms proved
end Go.Proofs.Ytkjkndpglbcgfaa.filterDiffsLaw
