/-
  'siphonlaw14.PrioOrder' returns true, whatever the input, and each argument reads behind the call as it read before. Conditions: none beyond those that the row itself states.
-/
import Derived.Test.YtcllciekbeibcaaRows
import Derived.Test.YtcllciekbeibcaaPrI
import Derived.WalkKit
import Derived.ProofKit
import Derived.OpenShut
import Derived.ShutString
import Derived.ChangeOld
import Derived.Below
import Derived.Carry
import Derived.SizedLaws
import Derived.Lib.SmallJoins
import Derived.ChangeArms
import Derived.WideShapes
namespace Go.Proofs.Ytcllciekbeibcaa.prioOrderLaw
open Go.ChangeShapes Go.WideShapes Go.ChangeAt Go.RowKit Go.Joins
open Go.ChangeMaps (open_string shut_string)
set_option linter.unusedVariables false

theorem list4 {α : Type} (l : List α) (h : l.length = 4) : ∃ x0 x1 x2 x3 : α, l = [x0, x1, x2, x3] := by
  match l, h with
  | [x0, x1, x2, x3], _ => exact ⟨x0, x1, x2, x3, rfl⟩

theorem cmpV_neg (a b : V4) : cmpV b a = - cmpV a b := by
  unfold cmpV
  rw [cmpN_neg a.1 b.1, cmpN_neg a.2.1 b.2.1, cmpN_neg a.2.2.1 b.2.2.1, cmpN_neg a.2.2.2 b.2.2.2]
  generalize cmpN a.1 b.1 = x0
  generalize cmpN a.2.1 b.2.1 = x1
  generalize cmpN a.2.2.1 b.2.2.1 = x2
  generalize cmpN a.2.2.2 b.2.2.2 = x3
  unfold fst4
  repeat' split
  all_goals omega
theorem cmpV_one (a b : V4) : cmpV a b = -1 ∨ cmpV a b = 0 ∨ cmpV a b = 1 := by
  have h0 := cmpN_one a.1 b.1
  have h1 := cmpN_one a.2.1 b.2.1
  have h2 := cmpN_one a.2.2.1 b.2.2.1
  have h3 := cmpN_one a.2.2.2 b.2.2.2
  unfold cmpV fst4
  repeat' split
  all_goals assumption
theorem cmpV_zero (a b : V4) : (cmpV a b == 0) = eqV a.1 a.2.1 a.2.2.1 a.2.2.2 b.1 b.2.1 b.2.2.1 b.2.2.2 := by
  rw [Bool.eq_iff_iff]
  have h0 := @cmpN_eq a.1 b.1
  have h1 := @cmpN_eq a.2.1 b.2.1
  have h2 := @cmpN_eq a.2.2.1 b.2.2.1
  have h3 := @cmpN_eq a.2.2.2 b.2.2.2
  unfold eqV cmpV fst4
  simp only [beq_iff_eq, Bool.and_eq_true]
  rw [← h0, ← h1, ← h2, ← h3]
  repeat' split
  all_goals omega
theorem cmpV_trans (a b c : V4) (h : cmpV a b ≤ 0) (k : cmpV b c ≤ 0) : cmpV a c ≤ 0 := by
  revert h k
  obtain ⟨a0, a1, a2, a3⟩ := a
  obtain ⟨b0, b1, b2, b3⟩ := b
  obtain ⟨c0, c1, c2, c3⟩ := c
  have key : ∀ a0 a1 a2 a3 b0 b1 b2 b3 : Int, cmpV (a0, a1, a2, a3) (b0, b1, b2, b3) ≤ 0 ↔ a0 < b0 ∨ (a0 = b0 ∧ (a1 < b1 ∨ (a1 = b1 ∧ (a2 < b2 ∨ (a2 = b2 ∧ a3 ≤ b3))))) := by
    intro a0 a1 a2 a3 b0 b1 b2 b3
    unfold cmpV fst4 cmpN
    simp only
    repeat' split
    all_goals omega
  rw [key, key, key]
  omega

set_option maxHeartbeats 16000000 in
set_option maxRecDepth 100000 in
theorem walk (a0_0 : Int) (a0_1 : Int) (a0_2 : Int) (a0_3 : Int) (a1_0 : Int) (a1_1 : Int) (a1_2 : Int) (a1_3 : Int) (a2_0 : Int) (a2_1 : Int) (a2_2 : Int) (a2_3 : Int) (w : World) (la0_0 : 0 ≤ a0_0) (ua0_0 : a0_0 ≤ 18446744073709551615) (la0_1 : -9223372036854775808 ≤ a0_1) (ua0_1 : a0_1 ≤ 9223372036854775807) (la0_2 : 0 ≤ a0_2) (ua0_2 : a0_2 ≤ 18446744073709551615) (la0_3 : -9223372036854775808 ≤ a0_3) (ua0_3 : a0_3 ≤ 9223372036854775807) (la1_0 : 0 ≤ a1_0) (ua1_0 : a1_0 ≤ 18446744073709551615) (la1_1 : -9223372036854775808 ≤ a1_1) (ua1_1 : a1_1 ≤ 9223372036854775807) (la1_2 : 0 ≤ a1_2) (ua1_2 : a1_2 ≤ 18446744073709551615) (la1_3 : -9223372036854775808 ≤ a1_3) (ua1_3 : a1_3 ≤ 9223372036854775807) (la2_0 : 0 ≤ a2_0) (ua2_0 : a2_0 ≤ 18446744073709551615) (la2_1 : -9223372036854775808 ≤ a2_1) (ua2_1 : a2_1 ≤ 9223372036854775807) (la2_2 : 0 ≤ a2_2) (ua2_2 : a2_2 ≤ 18446744073709551615) (la2_3 : -9223372036854775808 ≤ a2_3) (ua2_3 : a2_3 ≤ 9223372036854775807) :
    Calls Try.prog 6 #[.agg #[.int .u64 a0_0, .int .i64 a0_1, .int .u64 a0_2, .int .i64 a0_3], .agg #[.int .u64 a1_0, .int .i64 a1_1, .int .u64 a1_2, .int .i64 a1_3], .agg #[.int .u64 a2_0, .int .i64 a2_1, .int .u64 a2_2, .int .i64 a2_3]] w fun e w' => e = .returned (.bool true) ∧ Below w.heap.size w w' := by
  have b0 := Bx.start w #[.int .u64 a0_0, .int .i64 a0_1, .int .u64 a0_2, .int .i64 a0_3] 24
  have b1 := Lib.hid (Bx.mk' b0.bel #[.int .u64 a1_0, .int .i64 a1_1, .int .u64 a1_2, .int .i64 a1_3] 24)
  replace b0 := Lib.hid (b0.alloc (.cells #[.int .u64 a1_0, .int .i64 a1_1, .int .u64 a1_2, .int .i64 a1_3] 24))
  have b2 := Lib.hid (Bx.mk' b1.out.bel #[.int .u64 a2_0, .int .i64 a2_1, .int .u64 a2_2, .int .i64 a2_3] 24)
  replace b0 := Lib.hid (b0.out.alloc (.cells #[.int .u64 a2_0, .int .i64 a2_1, .int .u64 a2_2, .int .i64 a2_3] 24))
  replace b1 := Lib.hid (b1.out.alloc (.cells #[.int .u64 a2_0, .int .i64 a2_1, .int .u64 a2_2, .int .i64 a2_3] 24))
  have HX := fun U => Lib.hid (pcmp_c a0_0 a0_1 a0_2 a0_3 a1_0 a1_1 a1_2 a1_3 U)
  have HY := fun U => Lib.hid (pcmp_c a1_0 a1_1 a1_2 a1_3 a2_0 a2_1 a2_2 a2_3 U)
  have HN := fun U => Lib.hid (pcmp_c a1_0 a1_1 a1_2 a1_3 a0_0 a0_1 a0_2 a0_3 U)
  have HZ := fun U => Lib.hid (pcmp_c a0_0 a0_1 a0_2 a0_3 a2_0 a2_1 a2_2 a2_3 U)
  have HS := fun U => Lib.hid (pcmp_c a0_0 a0_1 a0_2 a0_3 a0_0 a0_1 a0_2 a0_3 U)
  have HL := Lib.hid fun U => live14_c U
  have E3 := guard_V
  have e0 := cmpV_zero (a0_0, a0_1, a0_2, a0_3) (a1_0, a1_1, a1_2, a1_3)
  have e1 := cmpV_neg (a0_0, a0_1, a0_2, a0_3) (a1_0, a1_1, a1_2, a1_3)
  have e2 := cmpV_one (a0_0, a0_1, a0_2, a0_3) (a1_0, a1_1, a1_2, a1_3)
  have e3 := cmpV_trans (a0_0, a0_1, a0_2, a0_3) (a1_0, a1_1, a1_2, a1_3) (a2_0, a2_1, a2_2, a2_3)
  have e4 : cmpV (a0_0, a0_1, a0_2, a0_3) (a0_0, a0_1, a0_2, a0_3) = 0 := by have := cmpV_neg (a0_0, a0_1, a0_2, a0_3) (a0_0, a0_1, a0_2, a0_3); omega
  simp only at e0
  rw [e1] at HN
  rw [e4] at HS
  have E1 := fun U => eql_V a0_0 a0_1 a0_2 a0_3 a1_0 a1_1 a1_2 a1_3 U
  have E2 := fun U => equalIn_V a0_0 a0_1 a0_2 a0_3 a1_0 a1_1 a1_2 a1_3 U
  rw [← e0] at E1 E2
  generalize cmpV (a0_0, a0_1, a0_2, a0_3) (a1_0, a1_1, a1_2, a1_3) = X at HX HN E1 E2 e2 e3
  generalize cmpV (a1_0, a1_1, a1_2, a1_3) (a2_0, a2_1, a2_2, a2_3) = Y at HY e3
  generalize cmpV (a0_0, a0_1, a0_2, a0_3) (a2_0, a2_1, a2_2, a2_3) = Zc at HZ e3
  have hw : IntKind.i64.wrap X = X := IntWalk.i64_in _ (by omega)
  clear e0 e1 e2 e4
  go_enter Try.func6, Try.ntmps6
  go_upto_region 1 with fail
  replace b1 := Lib.hid (show Bx w (((w.alloc (.cells #[.int .u64 a0_0, .int .i64 a0_1, .int .u64 a0_2, .int .i64 a0_3] 24)).alloc (.cells #[.int .u64 a1_0, .int .i64 a1_1, .int .u64 a1_2, .int .i64 a1_3] 24)).alloc (.cells #[.int .u64 a2_0, .int .i64 a2_1, .int .u64 a2_2, .int .i64 a2_3] 24)) (w.heap.size + 1) #[.int .u64 a1_0, .int .i64 a1_1, .int .u64 a1_2, .int .i64 a1_3] 24 from by simpa using b1.out)
  replace b2 := Lib.hid (show Bx w (((w.alloc (.cells #[.int .u64 a0_0, .int .i64 a0_1, .int .u64 a0_2, .int .i64 a0_3] 24)).alloc (.cells #[.int .u64 a1_0, .int .i64 a1_1, .int .u64 a1_2, .int .i64 a1_3] 24)).alloc (.cells #[.int .u64 a2_0, .int .i64 a2_1, .int .u64 a2_2, .int .i64 a2_3] 24)) (w.heap.size + 1 + 1) #[.int .u64 a2_0, .int .i64 a2_1, .int .u64 a2_2, .int .i64 a2_3] 24 from by simpa using b2.out)
  generalize ((w.alloc (.cells #[.int .u64 a0_0, .int .i64 a0_1, .int .u64 a0_2, .int .i64 a0_3] 24)).alloc (.cells #[.int .u64 a1_0, .int .i64 a1_1, .int .u64 a1_2, .int .i64 a1_3] 24)).alloc (.cells #[.int .u64 a2_0, .int .i64 a2_1, .int .u64 a2_2, .int .i64 a2_3] 24) = W at b0 b1 b2 ⊢
  have x00 := b0.out.cell 0 rfl
  have x01 := b0.out.cell 1 rfl
  have x02 := b0.out.cell 2 rfl
  have x03 := b0.out.cell 3 rfl
  have x10 := b1.out.cell 0 rfl
  have x11 := b1.out.cell 1 rfl
  have x12 := b1.out.cell 2 rfl
  have x13 := b1.out.cell 3 rfl
  have x20 := b2.out.cell 0 rfl
  have x21 := b2.out.cell 1 rfl
  have x22 := b2.out.cell 2 rfl
  have x23 := b2.out.cell 3 rfl
  go_wp2_with fail
  ((with_reducible refine (HX _).out.mono ?_); rintro e w1 ⟨rfl, h1⟩)
  replace b0 := Lib.hid (b0.out.below h1)
  replace b1 := Lib.hid (b1.out.below h1)
  replace b2 := Lib.hid (b2.out.below h1)
  clear h1 x00 x01 x02 x03 x10 x11 x12 x13 x20 x21 x22 x23
  have x00 := b0.out.cell 0 rfl
  have x01 := b0.out.cell 1 rfl
  have x02 := b0.out.cell 2 rfl
  have x03 := b0.out.cell 3 rfl
  have x10 := b1.out.cell 0 rfl
  have x11 := b1.out.cell 1 rfl
  have x12 := b1.out.cell 2 rfl
  have x13 := b1.out.cell 3 rfl
  have x20 := b2.out.cell 0 rfl
  have x21 := b2.out.cell 1 rfl
  have x22 := b2.out.cell 2 rfl
  have x23 := b2.out.cell 3 rfl
  go_wp2_with fail
  ((with_reducible refine (HY _).out.mono ?_); rintro e w2 ⟨rfl, h2⟩)
  replace b0 := Lib.hid (b0.out.below h2)
  replace b1 := Lib.hid (b1.out.below h2)
  replace b2 := Lib.hid (b2.out.below h2)
  clear h2 x00 x01 x02 x03 x10 x11 x12 x13 x20 x21 x22 x23
  have x00 := b0.out.cell 0 rfl
  have x01 := b0.out.cell 1 rfl
  have x02 := b0.out.cell 2 rfl
  have x03 := b0.out.cell 3 rfl
  have x10 := b1.out.cell 0 rfl
  have x11 := b1.out.cell 1 rfl
  have x12 := b1.out.cell 2 rfl
  have x13 := b1.out.cell 3 rfl
  have x20 := b2.out.cell 0 rfl
  have x21 := b2.out.cell 1 rfl
  have x22 := b2.out.cell 2 rfl
  have x23 := b2.out.cell 3 rfl
  go_wp2_with fail
  ((with_reducible refine (HN _).out.mono ?_); rintro e w3 ⟨rfl, h3⟩)
  replace b0 := Lib.hid (b0.out.below h3)
  replace b1 := Lib.hid (b1.out.below h3)
  replace b2 := Lib.hid (b2.out.below h3)
  clear h3 x00 x01 x02 x03 x10 x11 x12 x13 x20 x21 x22 x23
  have x00 := b0.out.cell 0 rfl
  have x01 := b0.out.cell 1 rfl
  have x02 := b0.out.cell 2 rfl
  have x03 := b0.out.cell 3 rfl
  have x10 := b1.out.cell 0 rfl
  have x11 := b1.out.cell 1 rfl
  have x12 := b1.out.cell 2 rfl
  have x13 := b1.out.cell 3 rfl
  have x20 := b2.out.cell 0 rfl
  have x21 := b2.out.cell 1 rfl
  have x22 := b2.out.cell 2 rfl
  have x23 := b2.out.cell 3 rfl
  by_cases k1 : X ≤ 0
  · have d1 : decide (X ≤ 0) = true := decide_eq_true k1
    have f1 : decide (0 < X) = false := decide_eq_false (by omega)
    by_cases k2 : Y ≤ 0
    · have d2 : decide (Y ≤ 0) = true := decide_eq_true k2
      have f2 : decide (0 < Y) = false := decide_eq_false (by omega)
      have k3 := e3 k1 k2
      have d3 : decide (Zc ≤ 0) = true := decide_eq_true k3
      have f3 : decide (0 < Zc) = false := decide_eq_false (by omega)
      clear e3 k1 k2 k3
      go_wp2_with fail
      ((with_reducible refine (HZ _).out.mono ?_); rintro e w4 ⟨rfl, h4⟩)
      replace b0 := Lib.hid (b0.out.below h4)
      replace b1 := Lib.hid (b1.out.below h4)
      replace b2 := Lib.hid (b2.out.below h4)
      clear h4 x00 x01 x02 x03 x10 x11 x12 x13 x20 x21 x22 x23
      have x00 := b0.out.cell 0 rfl
      have x01 := b0.out.cell 1 rfl
      have x02 := b0.out.cell 2 rfl
      have x03 := b0.out.cell 3 rfl
      have x10 := b1.out.cell 0 rfl
      have x11 := b1.out.cell 1 rfl
      have x12 := b1.out.cell 2 rfl
      have x13 := b1.out.cell 3 rfl
      have x20 := b2.out.cell 0 rfl
      have x21 := b2.out.cell 1 rfl
      have x22 := b2.out.cell 2 rfl
      have x23 := b2.out.cell 3 rfl
      go_wp2_with fail
      ((with_reducible refine (HS _).out.mono ?_); rintro e w5 ⟨rfl, h5⟩)
      replace b0 := Lib.hid (b0.out.below h5)
      clear h5 x00 x01 x02 x03 x10 x11 x12 x13 x20 x21 x22 x23 E1 E2
      go_wp2_with fail
      ((with_reducible refine (HL.out _).mono ?_); rintro e wz ⟨rfl, hz⟩)
      go_wp2_with fail
      go_ret
      exact ⟨by simp, b0.out.bel.trans (hz.mono b0.out.bel.size)⟩
    · have d2 : decide (Y ≤ 0) = false := decide_eq_false k2
      have f2 : decide (0 < Y) = true := decide_eq_true (by omega)
      clear e3 k1 k2
      go_wp2_with fail
      ((with_reducible refine (HS _).out.mono ?_); rintro e w5 ⟨rfl, h5⟩)
      replace b0 := Lib.hid (b0.out.below h5)
      clear h5 x00 x01 x02 x03 x10 x11 x12 x13 x20 x21 x22 x23 E1 E2
      go_wp2_with fail
      ((with_reducible refine (HL.out _).mono ?_); rintro e wz ⟨rfl, hz⟩)
      go_wp2_with fail
      go_ret
      exact ⟨by simp, b0.out.bel.trans (hz.mono b0.out.bel.size)⟩
  · have d1 : decide (X ≤ 0) = false := decide_eq_false k1
    have f1 : decide (0 < X) = true := decide_eq_true (by omega)
    clear e3 k1
    go_wp2_with fail
    ((with_reducible refine (HS _).out.mono ?_); rintro e w5 ⟨rfl, h5⟩)
    replace b0 := Lib.hid (b0.out.below h5)
    clear h5 x00 x01 x02 x03 x10 x11 x12 x13 x20 x21 x22 x23 E1 E2
    go_wp2_with fail
    ((with_reducible refine (HL.out _).mono ?_); rintro e wz ⟨rfl, hz⟩)
    go_wp2_with fail
    go_ret
    exact ⟨by simp, b0.out.bel.trans (hz.mono b0.out.bel.size)⟩

theorem own : ownKnob Try.prog.godebug = none := by kernel_rfl
theorem laidOut : laidOutB Try.prog = true := by kernel_rfl

set_option maxHeartbeats 1000000 in
set_option maxRecDepth 100000 in
theorem lifted (os : Os) (started : os.Started) (H : Type) (enc : TypeId × Value → H) :
    ReturnsInHanded {} Try.checked os 6 .any (Rows.prioOrderSpec.pre6 enc Try.prog Try.f6 Rows.prioOrderRow.domain false) (Rows.prioOrderSpec.post enc Try.prog Try.f6 false true false false) := by
  refine returnsInHanded_of_change_sized (C := Try.checked) own started (by kernel_rfl) Try.func6
    (ChangeSpec.witness6 (enc := enc) (C := Try.checked) false ⟨#[], #[.agg #[.int .u64 0, .int .i64 0, .int .u64 0, .int .i64 0], .agg #[.int .u64 0, .int .i64 0, .int .u64 0, .int .i64 0], .agg #[.int .u64 0, .int .i64 0, .int .u64 0, .int .i64 0]], []⟩ 8 (by kernel_rfl) (by kernel_rfl) (by kernel_rfl) (by kernel_rfl)) ?_
  intro W base args ds gs before hval0 hW hcnd hsz0 hholds
  have hval : ∀ (j : Nat) t v, Try.f6.params[j]? = some t → args[j]? = some v → Value.okWide Try.prog W .any base t v := hval0
  have hsz : (DataW.weightsEach Try.prog (Try.f6.params.toList ++ Rows.prioOrderSpec.plain.varTypes Try.prog) (ds ++ gs)).all (· ≤ reachBytes) = true := hsz0
  have hW' := hW
  obtain ⟨p, q, hA0, hV, rfl, hfz, hnd⟩ := hW
  have hA : DataW.TrodAll enc Try.prog W 0 (fun _ => true) true Try.f6.params.toList args.toList ds p := hA0
  rw [Try.params6] at hA hval hsz
  obtain ⟨v0, vs0, d0, ds0, p0, q0, hargs, rfl, rfl, h0, r0⟩ := trodAll_cons hA
  obtain ⟨v1, vs1, d1, ds1, p1, q1, rfl, rfl, rfl, h1, r1⟩ := trodAll_cons r0
  obtain ⟨v2, vs2, d2, ds2, p2, q2, rfl, rfl, rfl, h2, r2⟩ := trodAll_cons r1
  obtain ⟨rfl, rfl, rfl⟩ := trodAll_nil r2
  obtain rfl : args = #[v0, v1, v2] := by cases args; simp_all
  obtain ⟨rfl, rfl⟩ := trodVars_none hV
  have k0 := h0
  have lt0 : ∀ x ∈ p0, x.block < W.heap.size := by obtain ⟨m, hm⟩ := k0; exact DataW.trod_lt m _ _ _ hm
  have k1 := h1
  have lt1 : ∀ x ∈ p1, x.block < W.heap.size := by obtain ⟨m, hm⟩ := k1; exact DataW.trod_lt m _ _ _ hm
  have k2 := h2
  have lt2 : ∀ x ∈ p2, x.block < W.heap.size := by obtain ⟨m, hm⟩ := k2; exact DataW.trod_lt m _ _ _ hm
  obtain ⟨cs0, rfl, hz0⟩ := okWide_struct Try.underlying24 (hval 0 24 v0 rfl rfl)
  obtain ⟨l0⟩ := cs0
  obtain ⟨c0_0, c0_1, c0_2, c0_3, rfl⟩ := list4 l0 (hz0.trans (by kernel_rfl))
  obtain ⟨fu0, hf0⟩ := h0
  obtain ⟨xs0, m0, -, hx0, -, hn0, hg0⟩ := DataW.trod_struct Try.underlying24 hf0
  obtain ⟨y0_0, y0_1, y0_2, y0_3, rfl⟩ := list4 xs0 hn0
  simp only [Prod.mk.injEq] at hx0
  obtain ⟨rfl, rfl⟩ := hx0
  have g0_0 : DataW.trod enc Try.prog W 0 (fun _ => true) true m0 22 (List.take (Try.prog.cellsOf 22) (List.drop 0 [c0_0, c0_1, c0_2, c0_3])) = some y0_0 := hg0 0 _ rfl
  rw [show Try.prog.cellsOf 22 = 1 from by kernel_rfl] at g0_0
  replace g0_0 : DataW.trod enc Try.prog W 0 (fun _ => true) true m0 22 [c0_0] = some y0_0 := g0_0
  have g0_1 : DataW.trod enc Try.prog W 0 (fun _ => true) true m0 3 (List.take (Try.prog.cellsOf 3) (List.drop 1 [c0_0, c0_1, c0_2, c0_3])) = some y0_1 := hg0 1 _ rfl
  rw [show Try.prog.cellsOf 3 = 1 from by kernel_rfl] at g0_1
  replace g0_1 : DataW.trod enc Try.prog W 0 (fun _ => true) true m0 3 [c0_1] = some y0_1 := g0_1
  have g0_2 : DataW.trod enc Try.prog W 0 (fun _ => true) true m0 22 (List.take (Try.prog.cellsOf 22) (List.drop 2 [c0_0, c0_1, c0_2, c0_3])) = some y0_2 := hg0 2 _ rfl
  rw [show Try.prog.cellsOf 22 = 1 from by kernel_rfl] at g0_2
  replace g0_2 : DataW.trod enc Try.prog W 0 (fun _ => true) true m0 22 [c0_2] = some y0_2 := g0_2
  have g0_3 : DataW.trod enc Try.prog W 0 (fun _ => true) true m0 3 (List.take (Try.prog.cellsOf 3) (List.drop 3 [c0_0, c0_1, c0_2, c0_3])) = some y0_3 := hg0 3 _ rfl
  rw [show Try.prog.cellsOf 3 = 1 from by kernel_rfl] at g0_3
  replace g0_3 : DataW.trod enc Try.prog W 0 (fun _ => true) true m0 3 [c0_3] = some y0_3 := g0_3
  clear hg0
  obtain ⟨a0_0, e0_0, rfl, w0_0⟩ := DataW.trod_int Try.underlying22 g0_0
  simp at e0_0
  subst e0_0
  obtain ⟨a0_1, e0_1, rfl, w0_1⟩ := DataW.trod_int Try.underlying3 g0_1
  simp at e0_1
  subst e0_1
  obtain ⟨a0_2, e0_2, rfl, w0_2⟩ := DataW.trod_int Try.underlying22 g0_2
  simp at e0_2
  subst e0_2
  obtain ⟨a0_3, e0_3, rfl, w0_3⟩ := DataW.trod_int Try.underlying3 g0_3
  simp at e0_3
  subst e0_3
  obtain ⟨cs1, rfl, hz1⟩ := okWide_struct Try.underlying24 (hval 1 24 v1 rfl rfl)
  obtain ⟨l1⟩ := cs1
  obtain ⟨c1_0, c1_1, c1_2, c1_3, rfl⟩ := list4 l1 (hz1.trans (by kernel_rfl))
  obtain ⟨fu1, hf1⟩ := h1
  obtain ⟨xs1, m1, -, hx1, -, hn1, hg1⟩ := DataW.trod_struct Try.underlying24 hf1
  obtain ⟨y1_0, y1_1, y1_2, y1_3, rfl⟩ := list4 xs1 hn1
  simp only [Prod.mk.injEq] at hx1
  obtain ⟨rfl, rfl⟩ := hx1
  have g1_0 : DataW.trod enc Try.prog W 0 (fun _ => true) true m1 22 (List.take (Try.prog.cellsOf 22) (List.drop 0 [c1_0, c1_1, c1_2, c1_3])) = some y1_0 := hg1 0 _ rfl
  rw [show Try.prog.cellsOf 22 = 1 from by kernel_rfl] at g1_0
  replace g1_0 : DataW.trod enc Try.prog W 0 (fun _ => true) true m1 22 [c1_0] = some y1_0 := g1_0
  have g1_1 : DataW.trod enc Try.prog W 0 (fun _ => true) true m1 3 (List.take (Try.prog.cellsOf 3) (List.drop 1 [c1_0, c1_1, c1_2, c1_3])) = some y1_1 := hg1 1 _ rfl
  rw [show Try.prog.cellsOf 3 = 1 from by kernel_rfl] at g1_1
  replace g1_1 : DataW.trod enc Try.prog W 0 (fun _ => true) true m1 3 [c1_1] = some y1_1 := g1_1
  have g1_2 : DataW.trod enc Try.prog W 0 (fun _ => true) true m1 22 (List.take (Try.prog.cellsOf 22) (List.drop 2 [c1_0, c1_1, c1_2, c1_3])) = some y1_2 := hg1 2 _ rfl
  rw [show Try.prog.cellsOf 22 = 1 from by kernel_rfl] at g1_2
  replace g1_2 : DataW.trod enc Try.prog W 0 (fun _ => true) true m1 22 [c1_2] = some y1_2 := g1_2
  have g1_3 : DataW.trod enc Try.prog W 0 (fun _ => true) true m1 3 (List.take (Try.prog.cellsOf 3) (List.drop 3 [c1_0, c1_1, c1_2, c1_3])) = some y1_3 := hg1 3 _ rfl
  rw [show Try.prog.cellsOf 3 = 1 from by kernel_rfl] at g1_3
  replace g1_3 : DataW.trod enc Try.prog W 0 (fun _ => true) true m1 3 [c1_3] = some y1_3 := g1_3
  clear hg1
  obtain ⟨a1_0, e1_0, rfl, w1_0⟩ := DataW.trod_int Try.underlying22 g1_0
  simp at e1_0
  subst e1_0
  obtain ⟨a1_1, e1_1, rfl, w1_1⟩ := DataW.trod_int Try.underlying3 g1_1
  simp at e1_1
  subst e1_1
  obtain ⟨a1_2, e1_2, rfl, w1_2⟩ := DataW.trod_int Try.underlying22 g1_2
  simp at e1_2
  subst e1_2
  obtain ⟨a1_3, e1_3, rfl, w1_3⟩ := DataW.trod_int Try.underlying3 g1_3
  simp at e1_3
  subst e1_3
  obtain ⟨cs2, rfl, hz2⟩ := okWide_struct Try.underlying24 (hval 2 24 v2 rfl rfl)
  obtain ⟨l2⟩ := cs2
  obtain ⟨c2_0, c2_1, c2_2, c2_3, rfl⟩ := list4 l2 (hz2.trans (by kernel_rfl))
  obtain ⟨fu2, hf2⟩ := h2
  obtain ⟨xs2, m2, -, hx2, -, hn2, hg2⟩ := DataW.trod_struct Try.underlying24 hf2
  obtain ⟨y2_0, y2_1, y2_2, y2_3, rfl⟩ := list4 xs2 hn2
  simp only [Prod.mk.injEq] at hx2
  obtain ⟨rfl, rfl⟩ := hx2
  have g2_0 : DataW.trod enc Try.prog W 0 (fun _ => true) true m2 22 (List.take (Try.prog.cellsOf 22) (List.drop 0 [c2_0, c2_1, c2_2, c2_3])) = some y2_0 := hg2 0 _ rfl
  rw [show Try.prog.cellsOf 22 = 1 from by kernel_rfl] at g2_0
  replace g2_0 : DataW.trod enc Try.prog W 0 (fun _ => true) true m2 22 [c2_0] = some y2_0 := g2_0
  have g2_1 : DataW.trod enc Try.prog W 0 (fun _ => true) true m2 3 (List.take (Try.prog.cellsOf 3) (List.drop 1 [c2_0, c2_1, c2_2, c2_3])) = some y2_1 := hg2 1 _ rfl
  rw [show Try.prog.cellsOf 3 = 1 from by kernel_rfl] at g2_1
  replace g2_1 : DataW.trod enc Try.prog W 0 (fun _ => true) true m2 3 [c2_1] = some y2_1 := g2_1
  have g2_2 : DataW.trod enc Try.prog W 0 (fun _ => true) true m2 22 (List.take (Try.prog.cellsOf 22) (List.drop 2 [c2_0, c2_1, c2_2, c2_3])) = some y2_2 := hg2 2 _ rfl
  rw [show Try.prog.cellsOf 22 = 1 from by kernel_rfl] at g2_2
  replace g2_2 : DataW.trod enc Try.prog W 0 (fun _ => true) true m2 22 [c2_2] = some y2_2 := g2_2
  have g2_3 : DataW.trod enc Try.prog W 0 (fun _ => true) true m2 3 (List.take (Try.prog.cellsOf 3) (List.drop 3 [c2_0, c2_1, c2_2, c2_3])) = some y2_3 := hg2 3 _ rfl
  rw [show Try.prog.cellsOf 3 = 1 from by kernel_rfl] at g2_3
  replace g2_3 : DataW.trod enc Try.prog W 0 (fun _ => true) true m2 3 [c2_3] = some y2_3 := g2_3
  clear hg2
  obtain ⟨a2_0, e2_0, rfl, w2_0⟩ := DataW.trod_int Try.underlying22 g2_0
  simp at e2_0
  subst e2_0
  obtain ⟨a2_1, e2_1, rfl, w2_1⟩ := DataW.trod_int Try.underlying3 g2_1
  simp at e2_1
  subst e2_1
  obtain ⟨a2_2, e2_2, rfl, w2_2⟩ := DataW.trod_int Try.underlying22 g2_2
  simp at e2_2
  subst e2_2
  obtain ⟨a2_3, e2_3, rfl, w2_3⟩ := DataW.trod_int Try.underlying3 g2_3
  simp at e2_3
  subst e2_3
  have ba0_0 := bounds_u64 w0_0
  have ba0_1 := bounds_i64 w0_1
  have ba0_2 := bounds_u64 w0_2
  have ba0_3 := bounds_i64 w0_3
  have ba1_0 := bounds_u64 w1_0
  have ba1_1 := bounds_i64 w1_1
  have ba1_2 := bounds_u64 w1_2
  have ba1_3 := bounds_i64 w1_3
  have ba2_0 := bounds_u64 w2_0
  have ba2_1 := bounds_i64 w2_1
  have ba2_2 := bounds_u64 w2_2
  have ba2_3 := bounds_i64 w2_3
  clear hA0 hval0
  refine (walk a0_0 a0_1 a0_2 a0_3 a1_0 a1_1 a1_2 a1_3 a2_0 a2_1 a2_2 a2_3 W ba0_0.1 ba0_0.2 ba0_1.1 ba0_1.2 ba0_2.1 ba0_2.2 ba0_3.1 ba0_3.2 ba1_0.1 ba1_0.2 ba1_1.1 ba1_1.2 ba1_2.1 ba1_2.2 ba1_3.1 ba1_3.2 ba2_0.1 ba2_0.2 ba2_1.1 ba2_1.2 ba2_2.1 ba2_2.2 ba2_3.1 ba2_3.2).mono fun e W' ⟨he, bel⟩ => ?_
  subst he
  exact ⟨_, rfl, _, _, _, [], _, [], hW', trodAll_mk1 (shut_bool Try.underlying4 _), (trodAll_cons_mk (Below.trod laidOut (by kernel_rfl) (of_decide_eq_true (by kernel_rfl)) k0 bel lt0) (trodAll_cons_mk (Below.trod laidOut (by kernel_rfl) (of_decide_eq_true (by kernel_rfl)) k1 bel lt1) (trodAll_cons_mk (Below.trod laidOut (by kernel_rfl) (of_decide_eq_true (by kernel_rfl)) k2 bel lt2) trodAll_mk0))), rfl, bel.frame _, fun h => by cases h⟩

theorem over : Rows.prioOrderRow.holds Try.pinned (OpenSpec.ofChange Rows.prioOrderSpec) :=
  OpenClaim.holds_of_wide 6 Try.f6 rfl rfl rfl rfl rfl rfl rfl ⟨rfl, rfl, rfl, rfl, rfl⟩ rfl rfl rfl rfl rfl (by kernel_rfl) Try.func6 (by kernel_rfl)
    (of_decide_eq_true (by kernel_rfl)) (by unfold Func.isWrapper; first | (rw [if_pos (by decide +kernel)]; kernel_rfl) | (rw [if_neg (by decide +kernel)]; exact ⟨rfl, rfl⟩))
    (fun os started H enc _ => lifted os started H enc)

/-- The statement. -/
theorem proved : Rows.PrioOrderSaid := over
#print axioms proved
end Go.Proofs.Ytcllciekbeibcaa.prioOrderLaw
