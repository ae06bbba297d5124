/-
  'siphonlaw11.FilterNorms' returns true, whatever the input, and each argument reads behind the call as it read before. Conditions: none beyond those that the row itself states.
-/
import Derived.Test.YtkjkndpglbcgfaaRows
import Derived.Test.YtkjkndpglbcgfaaFlI
import Derived.Test.YtkjkndpglbcgfaaFlE
import Derived.Test.YtkjkndpglbcgfaaFlN
import Derived.Test.YtkjkndpglbcgfaaFlX
import Derived.Test.YtkjkndpglbcgfaaTrod
import Derived.WalkKit
import Derived.ProofKit
import Derived.OpenShut
import Derived.ShutString
import Derived.ChangeOld
import Derived.Below
import Derived.Carry
import Derived.SizedLaws
import Derived.Lib.SmallJoins
import Derived.ChangeArms
import Derived.WideShapes
namespace Go.Proofs.Ytkjkndpglbcgfaa.filterNormsLaw
open Go.ChangeShapes Go.WideShapes Go.ChangeAt Go.RowKit Go.Joins
open Go.ChangeMaps (open_string shut_string)
set_option linter.unusedVariables false

theorem list2 {α : Type} (l : List α) (h : l.length = 2) : ∃ x0 x1 : α, l = [x0, x1] := by
  match l, h with
  | [x0, x1], _ => exact ⟨x0, x1, rfl⟩

/-- A box of a filter: block b. -/
def HB (b : Nat) (w : World) (x : Array Value) : Prop := w.heap[b]? = some (.cells x 24 (0, 0))
theorem HB.below {b : Nat} {w w' : World} {x : Array Value} (h : HB b w x) (k : Below w.heap.size w w') : HB b w' x := below_block k (lt_of_block h) h
theorem box_bel {w0 w : World} {xs : Array Value} {t : TypeId} (h : Box w0 w xs t) : Below w0.heap.size w0 w := h.2
theorem al_below (w : World) (o : Obj) : Below w.heap.size w (w.alloc o) := (Below.refl _ w).alloc (Nat.le_refl _) o

set_option maxHeartbeats 16000000 in
set_option maxRecDepth 100000 in
theorem walk (a0_0 : Bool) (a0_1 : Value) (la0_1 : List ByteArray) (a1 : ByteArray) (w : World) (ha0_1 : AddrsAt w a0_1 la0_1) (qa0_1 : la0_1.length ≤ maxLen) (za1 : a1.size ≤ 140737488351232) :
    Calls Try.prog 3 #[.agg #[.bool a0_0, a0_1], .string a1] w fun e w' => e = .returned (.bool true) ∧ Below w.heap.size w w' := by
  unfold maxLen at qa0_1
  obtain ⟨p0, c0, rfl⟩ := ha0_1.slice
  have HL := Lib.hid fun U => live11_c U
  have HF := Lib.hid fun U => fewf_c a0_0 a0_0 p0 la0_1.length c0 p0 la0_1.length c0 U
  have B := Lib.hid (show Box w _ #[.bool a0_0, .slice p0 la0_1.length c0] 24 from Box.start w #[.bool a0_0, .slice p0 la0_1.length c0] 24)
  rcases hfw : (decide (la0_1.length ≤ 100) && decide (la0_1.length ≤ 100)) with _ | _
  · rw [hfw] at HF
    generalize la0_1.length = n0 at *
    clear ha0_1 hfw
    go_enter Try.func3, Try.ntmps3
    go_wp2_with fail
    ((with_reducible refine (HF.out _).mono ?_); rintro e w1 ⟨rfl, h1⟩)
    replace B := Lib.hid (B.out.below h1)
    clear h1
    go_wp2_with fail
    ((with_reducible refine (HL.out _).mono ?_); rintro e w2 ⟨rfl, h2⟩)
    go_wp2_with fail
    go_ret
    exact ⟨rfl, (B.out.below h2).2⟩
  · rw [hfw] at HF
    simp only [Bool.and_eq_true, decide_eq_true_iff] at hfw
    obtain ⟨l0, -⟩ := hfw
    have HC0 := Lib.hid fun (U : World) (hU : Below w.heap.size w U) => fcopied_c a0_0 _ la0_1 U l0 (ha0_1.below hU)
    have HN := Lib.hid fun v1 (U : World) h1 => norm_c a0_0 v1 la0_1 U (by omega) h1
    have HK := Lib.hid fun v1 (U : World) h1 => check_c a0_0 v1 la0_1 U (by omega) h1
    have HM := Lib.hid fun v1 (U : World) h1 => admits_c a0_0 v1 la0_1 a1 U (by omega) h1
    have HN2 := Lib.hid fun (U : World) (hU : Below w.heap.size w U) => rnorm_c a0_0 _ la0_1 U (by omega) (ha0_1.below hU)
    have HK2 := Lib.hid fun (U : World) (hU : Below w.heap.size w U) => rchk_c a0_0 _ la0_1 U (by omega) (ha0_1.below hU)
    have HM2 := Lib.hid fun (U : World) (hU : Below w.heap.size w U) => radm_c a0_0 _ la0_1 a1 U (by omega) (ha0_1.below hU)
    have k3 : (normF ⟨a0_0, la0_1⟩).src.length ≤ 200 := Nat.le_trans (ris_len la0_1) (by omega)
    have HK3 := Lib.hid fun v1 (U : World) h1 => check_c (normF ⟨a0_0, la0_1⟩).ex v1 (normF ⟨a0_0, la0_1⟩).src U (by omega) h1
    have ek : chkF ⟨(normF ⟨a0_0, la0_1⟩).ex, (normF ⟨a0_0, la0_1⟩).src⟩ = 0 := chk_norm ⟨a0_0, la0_1⟩
    rw [ek] at HK3
    have SF := Lib.hid fun v1 v2 (U : World) h1 h2 => samef_c a0_0 v1 v2 la0_1 U (by omega) h1 h2
    have SN := Lib.hid fun v1 v2 (U : World) h1 h2 => samef_c (normF ⟨a0_0, la0_1⟩).ex v1 v2 (normF ⟨a0_0, la0_1⟩).src U (by omega) h1 h2
    clear k3 ek
    unfold FPost at HC0 HN HN2
    generalize normF ⟨a0_0, la0_1⟩ = fn at *
    generalize chkF ⟨a0_0, la0_1⟩ = ck at *
    generalize admB ⟨a0_0, la0_1⟩ a1 = ad at *
    obtain ⟨ne, ns⟩ := fn
    simp only at HC0 HN HN2 SN HK3
    have A0 := Lib.hid ha0_1
    obtain ⟨n0, hn0⟩ : ∃ n, la0_1.length = n := ⟨_, rfl⟩
    rw [hn0] at A0 B HF HC0 HN2 HK2 HM2 ⊢
    replace hn0 := Lib.hid hn0
    replace A0 := Lib.hid (A0.out.below B.out.2)
    clear ha0_1 l0
    cases ad
    all_goals
      go_enter Try.func3, Try.ntmps3
      go_wp2_with fail
      ((with_reducible refine (HF.out _).mono ?_); rintro e w1 ⟨rfl, h⟩)
      replace B := Lib.hid (B.out.below h)
      replace A0 := Lib.hid (A0.out.below h)
      clear h
      have x0 := cell_of_block (j := 0) B.out.1 rfl
      have x1 := cell_of_block (j := 1) B.out.1 rfl
      go_wp2_with fail
      ((with_reducible refine (HC0.out _ (box_bel B.out)).mono ?_); rintro e w2 ⟨v, rfl, a, h⟩)
      clear x0 x1
      replace B := Lib.hid (B.out.below h)
      replace A0 := Lib.hid (A0.out.below h)
      have Aa := Lib.hid a.at
      obtain ⟨pa, ca, rfl⟩ := a.slice
      clear a
      clear h
      rw [hn0.out] at Aa ⊢
      go_upto_region 4 with fail
      have h := al_below w2 (.cells #[.bool a0_0, .slice pa n0 ca] 24)
      replace B := Lib.hid (B.out.below h)
      replace A0 := Lib.hid (A0.out.below h)
      replace Aa := Lib.hid (Aa.out.below h)
      have Xa := Lib.hid (show HB w2.heap.size (w2.alloc (.cells #[.bool a0_0, .slice pa n0 ca] 24)) #[.bool a0_0, .slice pa n0 ca] from heap_new _ _)
      generalize w2.alloc (.cells #[.bool a0_0, .slice pa n0 ca] 24) = W2 at B A0 Aa Xa ⊢
      clear h
      have x0 := cell_of_block (j := 0) B.out.1 rfl
      have x1 := cell_of_block (j := 1) B.out.1 rfl
      have a0 := cell_of_block (j := 0) Xa.out rfl
      have a1 := cell_of_block (j := 1) Xa.out rfl
      go_wp2_with fail
      ((with_reducible refine (HN.out _ _ Aa.out).mono ?_); rintro e w3 ⟨v, rfl, a, h⟩)
      clear x0 x1 a0 a1
      replace B := Lib.hid (B.out.below h)
      replace A0 := Lib.hid (A0.out.below h)
      replace Aa := Lib.hid (Aa.out.below h)
      replace Xa := Lib.hid (Xa.out.below h)
      have Ab := Lib.hid a.at
      obtain ⟨pb, cb, rfl⟩ := a.slice
      clear a
      clear h
      go_upto_region 5 with fail
      have h := al_below w3 (.cells #[.bool ne, .slice pb ns.length cb] 24)
      replace B := Lib.hid (B.out.below h)
      replace A0 := Lib.hid (A0.out.below h)
      replace Aa := Lib.hid (Aa.out.below h)
      replace Xa := Lib.hid (Xa.out.below h)
      replace Ab := Lib.hid (Ab.out.below h)
      have Xb := Lib.hid (show HB w3.heap.size (w3.alloc (.cells #[.bool ne, .slice pb ns.length cb] 24)) #[.bool ne, .slice pb ns.length cb] from heap_new _ _)
      generalize w3.alloc (.cells #[.bool ne, .slice pb ns.length cb] 24) = W3 at B A0 Aa Xa Ab Xb ⊢
      clear h
      have x0 := cell_of_block (j := 0) B.out.1 rfl
      have x1 := cell_of_block (j := 1) B.out.1 rfl
      have a0 := cell_of_block (j := 0) Xa.out rfl
      have a1 := cell_of_block (j := 1) Xa.out rfl
      have b0 := cell_of_block (j := 0) Xb.out rfl
      have b1 := cell_of_block (j := 1) Xb.out rfl
      go_wp2_with fail
      ((with_reducible refine (HK.out _ _ Aa.out).mono ?_); rintro e w4 ⟨rfl, h⟩)
      clear x0 x1 a0 a1 b0 b1
      replace B := Lib.hid (B.out.below h)
      replace A0 := Lib.hid (A0.out.below h)
      replace Aa := Lib.hid (Aa.out.below h)
      replace Xa := Lib.hid (Xa.out.below h)
      replace Ab := Lib.hid (Ab.out.below h)
      replace Xb := Lib.hid (Xb.out.below h)
      clear h
      have x0 := cell_of_block (j := 0) B.out.1 rfl
      have x1 := cell_of_block (j := 1) B.out.1 rfl
      have a0 := cell_of_block (j := 0) Xa.out rfl
      have a1 := cell_of_block (j := 1) Xa.out rfl
      have b0 := cell_of_block (j := 0) Xb.out rfl
      have b1 := cell_of_block (j := 1) Xb.out rfl
      go_wp2_with fail
      ((with_reducible refine (HM.out _ _ Aa.out).mono ?_); rintro e w5 ⟨rfl, h⟩)
      clear x0 x1 a0 a1 b0 b1
      replace B := Lib.hid (B.out.below h)
      replace A0 := Lib.hid (A0.out.below h)
      replace Aa := Lib.hid (Aa.out.below h)
      replace Xa := Lib.hid (Xa.out.below h)
      replace Ab := Lib.hid (Ab.out.below h)
      replace Xb := Lib.hid (Xb.out.below h)
      clear h
      have KF := Lib.hid fun (U : World) (k1 : Box w U #[.bool a0_0, .slice p0 n0 c0] 24) (k2 : HB w2.heap.size U #[.bool a0_0, .slice pa n0 ca]) (k3 : HB w3.heap.size U #[.bool ne, .slice pb ns.length cb]) => (⟨cell_of_block k1.1 rfl, cell_of_block k1.1 rfl, cell_of_block k2 rfl, cell_of_block k2 rfl, cell_of_block k3 rfl, cell_of_block k3 rfl⟩ : U.cell? ⟨w.heap.size, 0, none⟩ = some (.bool a0_0) ∧ U.cell? ⟨w.heap.size, 1, none⟩ = some (.slice p0 n0 c0) ∧ U.cell? ⟨w2.heap.size, 0, none⟩ = some (.bool a0_0) ∧ U.cell? ⟨w2.heap.size, 1, none⟩ = some (.slice pa n0 ca) ∧ U.cell? ⟨w3.heap.size, 0, none⟩ = some (.bool ne) ∧ U.cell? ⟨w3.heap.size, 1, none⟩ = some (.slice pb ns.length cb))
      have GG := Lib.hid fun (V U : World) (h : Below V.heap.size V U) (k1 : Box w V #[.bool a0_0, .slice p0 n0 c0] 24) (k2 : HB w2.heap.size V #[.bool a0_0, .slice pa n0 ca]) (k3 : HB w3.heap.size V #[.bool ne, .slice pb ns.length cb]) => KF.out U (k1.below h) (k2.below h) (k3.below h)
      have D := Lib.hid (Below.refl w5.heap.size w5).drew
      obtain ⟨f0, f1, f2, f3, f4, f5⟩ := KF.out w5 B.out Xa.out Xb.out
      have q0 := KF.out w5 B.out Xa.out Xb.out
      have q1 := GG.out w5 _ D.out B.out Xa.out Xb.out
      have b5 : Below w5.heap.size w5 w5.drew := D.out
      have S0 := Lib.hid (SF.out (.slice pa n0 ca) (.slice p0 n0 c0) _ (Aa.out.below b5) (A0.out.below b5))
      go_wp2_with fail
      go_region_held3 (fun U => U.cell? ⟨w.heap.size, 0, none⟩ = some (.bool a0_0) ∧ U.cell? ⟨w.heap.size, 1, none⟩ = some (.slice p0 n0 c0) ∧ U.cell? ⟨w2.heap.size, 0, none⟩ = some (.bool a0_0) ∧ U.cell? ⟨w2.heap.size, 1, none⟩ = some (.slice pa n0 ca) ∧ U.cell? ⟨w3.heap.size, 0, none⟩ = some (.bool ne) ∧ U.cell? ⟨w3.heap.size, 1, none⟩ = some (.slice pb ns.length cb))
        (first | with_reducible exact q5 | with_reducible exact q4 | with_reducible exact q3 | with_reducible exact q2 | with_reducible exact q1 | with_reducible exact q0)
        (first
          | (go_at_call 15; (with_reducible refine S0.out.mono ?_); rintro e u1 ⟨rfl, h⟩; have bu1 := below_then b5 h; have q2 := GG.out w5 _ bu1 B.out Xa.out Xb.out; have N1 := Lib.hid (HN2.out _ (B.out.below bu1).2); clear h)
          | (go_at_call 16; (with_reducible refine N1.out.mono ?_); rintro e u2 ⟨v, rfl, a, h⟩; have bu2 := below_then bu1 h; have q3 := GG.out w5 _ bu2 B.out Xa.out Xb.out; have S1 := Lib.hid (SN.out (.slice pb ns.length cb) v _ (Ab.out.below bu2) a.at); obtain ⟨p9, c9, rfl⟩ := a.slice; clear a; clear h)
          | (go_at_call 15; (with_reducible refine S1.out.mono ?_); rintro e u3 ⟨rfl, h⟩; have bu3 := below_then bu2 h; have q4 := GG.out w5 _ bu3 B.out Xa.out Xb.out; have K1 := Lib.hid (HK2.out _ (B.out.below bu3).2); clear h)
          | (go_at_call 17; (with_reducible refine K1.out.mono ?_); rintro e u4 ⟨rfl, h⟩; have bu4 := below_then bu3 h; have q5 := GG.out w5 _ bu4 B.out Xa.out Xb.out;  clear h))
      all_goals
        clear f0 f1 f2 f3 f4 f5 q0 q1 q2 q3 q4 q5 KF GG
        replace B := Lib.hid (B.out.below bu4)
        replace A0 := Lib.hid (A0.out.below bu4)
        replace Aa := Lib.hid (Aa.out.below bu4)
        replace Xa := Lib.hid (Xa.out.below bu4)
        replace Ab := Lib.hid (Ab.out.below bu4)
        replace Xb := Lib.hid (Xb.out.below bu4)
        have x0 := cell_of_block (j := 0) B.out.1 rfl
        have x1 := cell_of_block (j := 1) B.out.1 rfl
        have a0 := cell_of_block (j := 0) Xa.out rfl
        have a1 := cell_of_block (j := 1) Xa.out rfl
        have b0 := cell_of_block (j := 0) Xb.out rfl
        have b1 := cell_of_block (j := 1) Xb.out rfl
        go_wp2_with fail
        ((with_reducible refine (HM2.out _ (box_bel B.out)).mono ?_); rintro e w7 ⟨rfl, h⟩)
        clear x0 x1 a0 a1 b0 b1
        replace B := Lib.hid (B.out.below h)
        replace A0 := Lib.hid (A0.out.below h)
        replace Aa := Lib.hid (Aa.out.below h)
        replace Xa := Lib.hid (Xa.out.below h)
        replace Ab := Lib.hid (Ab.out.below h)
        replace Xb := Lib.hid (Xb.out.below h)
        clear h
        have x0 := cell_of_block (j := 0) B.out.1 rfl
        have x1 := cell_of_block (j := 1) B.out.1 rfl
        have a0 := cell_of_block (j := 0) Xa.out rfl
        have a1 := cell_of_block (j := 1) Xa.out rfl
        have b0 := cell_of_block (j := 0) Xb.out rfl
        have b1 := cell_of_block (j := 1) Xb.out rfl
        go_wp2_with fail
        ((with_reducible refine (HK3.out _ _ Ab.out).mono ?_); rintro e w8 ⟨rfl, h⟩)
        clear x0 x1 a0 a1 b0 b1
        replace B := Lib.hid (B.out.below h)
        replace A0 := Lib.hid (A0.out.below h)
        replace Aa := Lib.hid (Aa.out.below h)
        replace Xa := Lib.hid (Xa.out.below h)
        replace Ab := Lib.hid (Ab.out.below h)
        replace Xb := Lib.hid (Xb.out.below h)
        clear h
        go_wp2_with fail
        ((with_reducible refine (HL.out _).mono ?_); rintro e w9 ⟨rfl, h9⟩)
        go_wp2_with fail
        go_ret
        exact ⟨rfl, (B.out.below h9).2⟩

theorem own : ownKnob Try.prog.godebug = none := by kernel_rfl
theorem laidOut : laidOutB Try.prog = true := by kernel_rfl

set_option maxHeartbeats 1000000 in
set_option maxRecDepth 100000 in
theorem lifted (os : Os) (started : os.Started) (H : Type) (enc : TypeId × Value → H) :
    ReturnsInHanded {} Try.checked os 3 .any (Rows.filterNormsSpec.pre6 enc Try.prog Try.f3 Rows.filterNormsRow.domain false) (Rows.filterNormsSpec.post enc Try.prog Try.f3 false true false false) := by
  refine returnsInHanded_of_change_sized (C := Try.checked) own started (by kernel_rfl) Try.func3
    (ChangeSpec.witness6 (enc := enc) (C := Try.checked) false ⟨#[], #[.agg #[.bool false, .slice none 0 0], .string ByteArray.empty], []⟩ 8 (by kernel_rfl) (by kernel_rfl) (by kernel_rfl) (by kernel_rfl)) ?_
  intro W base args ds gs before hval0 hW hcnd hsz0 hholds
  have hval : ∀ (j : Nat) t v, Try.f3.params[j]? = some t → args[j]? = some v → Value.okWide Try.prog W .any base t v := hval0
  have hsz : (DataW.weightsEach Try.prog (Try.f3.params.toList ++ Rows.filterNormsSpec.plain.varTypes Try.prog) (ds ++ gs)).all (· ≤ reachBytes) = true := hsz0
  have hW' := hW
  obtain ⟨p, q, hA0, hV, rfl, hfz, hnd⟩ := hW
  have hA : DataW.TrodAll enc Try.prog W 0 (fun _ => true) true Try.f3.params.toList args.toList ds p := hA0
  rw [Try.params3] at hA hval hsz
  obtain ⟨v0, vs0, d0, ds0, p0, q0, hargs, rfl, rfl, h0, r0⟩ := trodAll_cons hA
  obtain ⟨v1, vs1, d1, ds1, p1, q1, rfl, rfl, rfl, h1, r1⟩ := trodAll_cons r0
  obtain ⟨rfl, rfl, rfl⟩ := trodAll_nil r1
  obtain rfl : args = #[v0, v1] := by cases args; simp_all
  obtain ⟨rfl, rfl⟩ := trodVars_none hV
  have k0 := h0
  have lt0 : ∀ x ∈ p0, x.block < W.heap.size := by obtain ⟨m, hm⟩ := k0; exact DataW.trod_lt m _ _ _ hm
  have k1 := h1
  have lt1 : ∀ x ∈ p1, x.block < W.heap.size := by obtain ⟨m, hm⟩ := k1; exact DataW.trod_lt m _ _ _ hm
  obtain ⟨cs0, rfl, hz0⟩ := okWide_struct Try.underlying24 (hval 0 24 v0 rfl rfl)
  obtain ⟨l0⟩ := cs0
  obtain ⟨c0_0, c0_1, rfl⟩ := list2 l0 (hz0.trans (by kernel_rfl))
  obtain ⟨fu0, hf0⟩ := h0
  obtain ⟨xs0, m0, -, hx0, -, hn0, hg0⟩ := DataW.trod_struct Try.underlying24 hf0
  obtain ⟨y0_0, y0_1, rfl⟩ := list2 xs0 hn0
  simp only [Prod.mk.injEq] at hx0
  obtain ⟨rfl, rfl⟩ := hx0
  have g0_0 : DataW.trod enc Try.prog W 0 (fun _ => true) true m0 4 (List.take (Try.prog.cellsOf 4) (List.drop 0 [c0_0, c0_1])) = some y0_0 := hg0 0 _ rfl
  rw [show Try.prog.cellsOf 4 = 1 from by kernel_rfl] at g0_0
  replace g0_0 : DataW.trod enc Try.prog W 0 (fun _ => true) true m0 4 [c0_0] = some y0_0 := g0_0
  have g0_1 : DataW.trod enc Try.prog W 0 (fun _ => true) true m0 22 (List.take (Try.prog.cellsOf 22) (List.drop 1 [c0_0, c0_1])) = some y0_1 := hg0 1 _ rfl
  rw [show Try.prog.cellsOf 22 = 1 from by kernel_rfl] at g0_1
  replace g0_1 : DataW.trod enc Try.prog W 0 (fun _ => true) true m0 22 [c0_1] = some y0_1 := g0_1
  clear hg0
  obtain ⟨a0_0, e0_0, rfl⟩ := DataW.trod_bool Try.underlying4 g0_0
  simp at e0_0
  subst e0_0
  obtain ⟨v0_1, L0_1, e0_1, hh0_1, qq0_1⟩ := addrs_open g0_1
  simp at e0_1
  subst e0_1
  obtain ⟨a1, rfl, rfl, rfl, w1⟩ := open_string Try.underlying25 (hval 1 25 v1 rfl rfl) h1
  have za1 : a1.size ≤ 140737488351232 := by
    have h := sized_string hsz (j := 1) (t := 25) rfl rfl
    simpa [reachBytes] using h
  clear hA0 hval0
  refine (walk a0_0 c0_1 L0_1 a1 W hh0_1 qq0_1 za1).mono fun e W' ⟨he, bel⟩ => ?_
  subst he
  exact ⟨_, rfl, _, _, _, [], _, [], hW', trodAll_mk1 (shut_bool Try.underlying4 _), (trodAll_cons_mk (Below.trod laidOut (by kernel_rfl) (of_decide_eq_true (by kernel_rfl)) k0 bel lt0) (trodAll_cons_mk (Below.trod laidOut (by kernel_rfl) (of_decide_eq_true (by kernel_rfl)) k1 bel lt1) trodAll_mk0)), rfl, bel.frame _, fun h => by cases h⟩

theorem over : Rows.filterNormsRow.holds Try.pinned (OpenSpec.ofChange Rows.filterNormsSpec) :=
  OpenClaim.holds_of_wide 3 Try.f3 rfl rfl rfl rfl rfl rfl rfl ⟨rfl, rfl, rfl, rfl, rfl⟩ rfl rfl rfl rfl rfl (by kernel_rfl) Try.func3 (by kernel_rfl)
    (of_decide_eq_true (by kernel_rfl)) (by unfold Func.isWrapper; first | (rw [if_pos (by decide +kernel)]; kernel_rfl) | (rw [if_neg (by decide +kernel)]; exact ⟨rfl, rfl⟩))
    (fun os started H enc _ => lifted os started H enc)

/-- The statement. -/
theorem proved : Rows.FilterNormsSaid := over
#print axioms proved
end Go.Proofs.Ytkjkndpglbcgfaa.filterNormsLaw
