/-
  'siphonlaw14.PrioRises' returns true, whatever the input, and each argument reads behind the call as it read before. Conditions: none beyond those that the row itself states.
-/
import Derived.Test.YtcllciekbeibcaaRows
import Derived.Test.YtcllciekbeibcaaPrI
import Derived.WalkKit
import Derived.ProofKit
import Derived.OpenShut
import Derived.ShutString
import Derived.ChangeOld
import Derived.Below
import Derived.Carry
import Derived.SizedLaws
import Derived.Lib.SmallJoins
import Derived.ChangeArms
import Derived.WideShapes
namespace Go.Proofs.Ytcllciekbeibcaa.prioRisesLaw
open Go.ChangeShapes Go.WideShapes Go.ChangeAt Go.RowKit Go.Joins
open Go.ChangeMaps (open_string shut_string)
set_option linter.unusedVariables false

theorem list4 {α : Type} (l : List α) (h : l.length = 4) : ∃ x0 x1 x2 x3 : α, l = [x0, x1, x2, x3] := by
  match l, h with
  | [x0, x1, x2, x3], _ => exact ⟨x0, x1, x2, x3, rfl⟩

theorem le_key (a0 a1 a2 a3 b0 b1 b2 b3 : Int) : cmpV (a0, a1, a2, a3) (b0, b1, b2, b3) ≤ 0 ↔ a0 < b0 ∨ (a0 = b0 ∧ (a1 < b1 ∨ (a1 = b1 ∧ (a2 < b2 ∨ (a2 = b2 ∧ a3 ≤ b3))))) := by
  unfold cmpV fst4 cmpN
  simp only
  repeat' split
  all_goals omega
theorem cmpV_neg' (a b : V4) : cmpV b a = - cmpV a b := by
  unfold cmpV
  rw [cmpN_neg a.1 b.1, cmpN_neg a.2.1 b.2.1, cmpN_neg a.2.2.1 b.2.2.1, cmpN_neg a.2.2.2 b.2.2.2]
  generalize cmpN a.1 b.1 = x0
  generalize cmpN a.2.1 b.2.1 = x1
  generalize cmpN a.2.2.1 b.2.2.1 = x2
  generalize cmpN a.2.2.2 b.2.2.2 = x3
  unfold fst4
  repeat' split
  all_goals omega
theorem rises (u0 u1 u2 u3 v0 v1 v2 v3 k : Int) (h1 : badW u1 k = false) (h2 : badW v1 k = false) (h : cmpV (u0, u1, u2, u3) (v0, v1, v2, v3) ≤ 0) :
    (u1 ≠ v1 → u0 = v0 → farC u1 k = farC v1 k → farC u1 k = 4294967295) ∧ ((u0 = v0 → u1 ≠ v1 → farC u1 k ≠ farC v1 k) → cmpV (u0, farC u1 k, u2, u3) (v0, farC v1 k, v2, v3) ≤ 0) := by
  unfold badW at h1 h2
  simp only [Bool.or_eq_false_iff, decide_eq_false_iff_not] at h1 h2
  rw [le_key] at h ⊢
  unfold farC
  constructor
  · intro a b c
    split at c <;> split at c <;> simp_all <;> omega
  · intro a
    split at a <;> split at a <;> simp_all <;> omega
set_option maxHeartbeats 16000000 in
set_option maxRecDepth 100000 in
theorem walk (a0_0 : Int) (a0_1 : Int) (a0_2 : Int) (a0_3 : Int) (a1_0 : Int) (a1_1 : Int) (a1_2 : Int) (a1_3 : Int) (a2 : Int) (w : World) (la0_0 : 0 ≤ a0_0) (ua0_0 : a0_0 ≤ 18446744073709551615) (la0_1 : -9223372036854775808 ≤ a0_1) (ua0_1 : a0_1 ≤ 9223372036854775807) (la0_2 : 0 ≤ a0_2) (ua0_2 : a0_2 ≤ 18446744073709551615) (la0_3 : -9223372036854775808 ≤ a0_3) (ua0_3 : a0_3 ≤ 9223372036854775807) (la1_0 : 0 ≤ a1_0) (ua1_0 : a1_0 ≤ 18446744073709551615) (la1_1 : -9223372036854775808 ≤ a1_1) (ua1_1 : a1_1 ≤ 9223372036854775807) (la1_2 : 0 ≤ a1_2) (ua1_2 : a1_2 ≤ 18446744073709551615) (la1_3 : -9223372036854775808 ≤ a1_3) (ua1_3 : a1_3 ≤ 9223372036854775807) (la2 : -9223372036854775808 ≤ a2) (ua2 : a2 ≤ 9223372036854775807) :
    Calls Try.prog 8 #[.agg #[.int .u64 a0_0, .int .i64 a0_1, .int .u64 a0_2, .int .i64 a0_3], .agg #[.int .u64 a1_0, .int .i64 a1_1, .int .u64 a1_2, .int .i64 a1_3], .int .i64 a2] w fun e w' => e = .returned (.bool true) ∧ Below w.heap.size w w' := by
  have b0 := Bx.start w #[.int .u64 a0_0, .int .i64 a0_1, .int .u64 a0_2, .int .i64 a0_3] 24
  have b1 := Lib.hid (Bx.mk' b0.bel #[.int .u64 a1_0, .int .i64 a1_1, .int .u64 a1_2, .int .i64 a1_3] 24)
  replace b0 := Lib.hid (b0.alloc (.cells #[.int .u64 a1_0, .int .i64 a1_1, .int .u64 a1_2, .int .i64 a1_3] 24))
  have HL := Lib.hid fun U => live14_c U
  go_enter Try.func8, Try.ntmps8
  go_upto_region 1 with fail
  replace b1 := Lib.hid (show Bx w ((w.alloc (.cells #[.int .u64 a0_0, .int .i64 a0_1, .int .u64 a0_2, .int .i64 a0_3] 24)).alloc (.cells #[.int .u64 a1_0, .int .i64 a1_1, .int .u64 a1_2, .int .i64 a1_3] 24)) (w.heap.size + 1) #[.int .u64 a1_0, .int .i64 a1_1, .int .u64 a1_2, .int .i64 a1_3] 24 from by simpa using b1.out)
  generalize (w.alloc (.cells #[.int .u64 a0_0, .int .i64 a0_1, .int .u64 a0_2, .int .i64 a0_3] 24)).alloc (.cells #[.int .u64 a1_0, .int .i64 a1_1, .int .u64 a1_2, .int .i64 a1_3] 24) = W at b0 b1 ⊢
  rcases hb0 : badW a0_1 a2 with _ | _
  · have T0 := fun U => Lib.hid (pthr_ok a0_0 a0_1 a0_2 a0_3 a2 U hb0)
    generalize hf0 : farC a0_1 a2 = f0 at T0
    replace hf0 := Lib.hid hf0
    have x00 := b0.out.cell 0 rfl
    have x01 := b0.out.cell 1 rfl
    have x02 := b0.out.cell 2 rfl
    have x03 := b0.out.cell 3 rfl
    have x10 := b1.out.cell 0 rfl
    have x11 := b1.out.cell 1 rfl
    have x12 := b1.out.cell 2 rfl
    have x13 := b1.out.cell 3 rfl
    go_wp2_with fail
    ((with_reducible refine (T0 _).out.mono ?_); rintro e w1 ⟨rfl, h1⟩)
    replace b0 := Lib.hid (b0.out.below h1)
    replace b1 := Lib.hid (b1.out.below h1)
    have V1 := Lib.hid (Bx.mk' b0.out.bel #[.int .u64 a0_0, .int .i64 f0, .int .u64 a0_2, .int .i64 a0_3] 24)
    have oV1 := b1.out.lt
    replace b0 := Lib.hid (b0.out.alloc (.cells #[.int .u64 a0_0, .int .i64 f0, .int .u64 a0_2, .int .i64 a0_3] 24))
    replace b1 := Lib.hid (b1.out.alloc (.cells #[.int .u64 a0_0, .int .i64 f0, .int .u64 a0_2, .int .i64 a0_3] 24))
    go_upto_region 2 with fail
    clear h1 T0 x00 x01 x02 x03 x10 x11 x12 x13
    generalize w1.alloc (.cells #[.int .u64 a0_0, .int .i64 f0, .int .u64 a0_2, .int .i64 a0_3] 24) = u1 at b0 b1 V1 ⊢
    generalize w1.heap.size = v1 at V1 oV1 ⊢
    rcases hb1 : badW a1_1 a2 with _ | _
    · have T1 := fun U => Lib.hid (pthr_ok a1_0 a1_1 a1_2 a1_3 a2 U hb1)
      generalize hf1 : farC a1_1 a2 = f1 at T1
      replace hf1 := Lib.hid hf1
      have x00 := b0.out.cell 0 rfl
      have x01 := b0.out.cell 1 rfl
      have x02 := b0.out.cell 2 rfl
      have x03 := b0.out.cell 3 rfl
      have x10 := b1.out.cell 0 rfl
      have x11 := b1.out.cell 1 rfl
      have x12 := b1.out.cell 2 rfl
      have x13 := b1.out.cell 3 rfl
      go_wp2_with fail
      ((with_reducible refine (T1 _).out.mono ?_); rintro e w2 ⟨rfl, h2⟩)
      replace b0 := Lib.hid (b0.out.below h2)
      replace b1 := Lib.hid (b1.out.below h2)
      replace V1 := Lib.hid (V1.out.below h2)
      have V2 := Lib.hid (Bx.mk' b0.out.bel #[.int .u64 a1_0, .int .i64 f1, .int .u64 a1_2, .int .i64 a1_3] 24)
      have oV2 := V1.out.lt
      replace b0 := Lib.hid (b0.out.alloc (.cells #[.int .u64 a1_0, .int .i64 f1, .int .u64 a1_2, .int .i64 a1_3] 24))
      replace b1 := Lib.hid (b1.out.alloc (.cells #[.int .u64 a1_0, .int .i64 f1, .int .u64 a1_2, .int .i64 a1_3] 24))
      replace V1 := Lib.hid (V1.out.alloc (.cells #[.int .u64 a1_0, .int .i64 f1, .int .u64 a1_2, .int .i64 a1_3] 24))
      go_upto_region 3 with fail
      clear h2 T1 x00 x01 x02 x03 x10 x11 x12 x13
      generalize w2.alloc (.cells #[.int .u64 a1_0, .int .i64 f1, .int .u64 a1_2, .int .i64 a1_3] 24) = u2 at b0 b1 V1 V2 ⊢
      generalize w2.heap.size = v2 at V2 oV2 ⊢
      have HX := fun U => Lib.hid (pcmp_c a0_0 a0_1 a0_2 a0_3 a1_0 a1_1 a1_2 a1_3 U)
      have x00 := b0.out.cell 0 rfl
      have x01 := b0.out.cell 1 rfl
      have x02 := b0.out.cell 2 rfl
      have x03 := b0.out.cell 3 rfl
      have x10 := b1.out.cell 0 rfl
      have x11 := b1.out.cell 1 rfl
      have x12 := b1.out.cell 2 rfl
      have x13 := b1.out.cell 3 rfl
      go_wp2_with fail
      ((with_reducible refine (HX _).out.mono ?_); rintro e w3 ⟨rfl, h3⟩)
      replace b0 := Lib.hid (b0.out.below h3)
      replace b1 := Lib.hid (b1.out.below h3)
      replace V1 := Lib.hid (V1.out.below h3)
      replace V2 := Lib.hid (V2.out.below h3)
      clear h3 HX x00 x01 x02 x03 x10 x11 x12 x13
      by_cases hX : 0 < cmpV (a0_0, a0_1, a0_2, a0_3) (a1_0, a1_1, a1_2, a1_3)
      · have hle : cmpV (a1_0, a1_1, a1_2, a1_3) (a0_0, a0_1, a0_2, a0_3) ≤ 0 := by have := cmpV_neg' (a0_0, a0_1, a0_2, a0_3) (a1_0, a1_1, a1_2, a1_3); omega
        have c1 : decide (0 < cmpV (a0_0, a0_1, a0_2, a0_3) (a1_0, a1_1, a1_2, a1_3)) = true := decide_eq_true hX
        have c2 : decide (cmpV (a0_0, a0_1, a0_2, a0_3) (a1_0, a1_1, a1_2, a1_3) ≤ 0) = false := decide_eq_false (by omega)
        clear hX
        generalize cmpV (a0_0, a0_1, a0_2, a0_3) (a1_0, a1_1, a1_2, a1_3) = X at c1 c2 ⊢
        have y00 := V1.out.cell 0 rfl
        have y01 := V1.out.cell 1 rfl
        have y02 := V1.out.cell 2 rfl
        have y03 := V1.out.cell 3 rfl
        go_upto_region 7 with fail
        clear y00 y01 y02 y03 c1 c2
        have V3 := Lib.hid (Bx.mk' b0.out.bel #[.int .u64 a0_0, .int .i64 f0, .int .u64 a0_2, .int .i64 a0_3] 24)
        have oV3 := V2.out.lt
        replace b0 := Lib.hid (b0.out.alloc (.cells #[.int .u64 a0_0, .int .i64 f0, .int .u64 a0_2, .int .i64 a0_3] 24))
        replace b1 := Lib.hid (b1.out.alloc (.cells #[.int .u64 a0_0, .int .i64 f0, .int .u64 a0_2, .int .i64 a0_3] 24))
        replace V1 := Lib.hid (V1.out.alloc (.cells #[.int .u64 a0_0, .int .i64 f0, .int .u64 a0_2, .int .i64 a0_3] 24))
        replace V2 := Lib.hid (V2.out.alloc (.cells #[.int .u64 a0_0, .int .i64 f0, .int .u64 a0_2, .int .i64 a0_3] 24))
        generalize w3.alloc (.cells #[.int .u64 a0_0, .int .i64 f0, .int .u64 a0_2, .int .i64 a0_3] 24) = w4 at b0 b1 V1 V2 V3 ⊢
        generalize w3.heap.size = v3 at V3 oV3 ⊢
        have y0 := V2.out.cell 0 rfl
        have y1 := V2.out.cell 1 rfl
        have y2 := V2.out.cell 2 rfl
        have y3 := V2.out.cell 3 rfl
        have z0 := V1.out.cell 0 rfl
        have z1 := V1.out.cell 1 rfl
        have z2 := V1.out.cell 2 rfl
        have z3 := V1.out.cell 3 rfl
        have fr := fun j => V1.out.free j
        have hz := V1.out.lt
        go_upto_region 8 with fail
        have nb0 := Lib.hid (b0.out.far4 V1.out.ge (show w.heap.size ≠ v1 by omega) (.int .u64 a1_0) (.int .i64 f1) (.int .u64 a1_2) (.int .i64 a1_3))
        have nb1 := Lib.hid (b1.out.far4 V1.out.ge (show w.heap.size + 1 ≠ v1 by omega) (.int .u64 a1_0) (.int .i64 f1) (.int .u64 a1_2) (.int .i64 a1_3))
        have nV2 := Lib.hid (V2.out.far4 V1.out.ge (show v2 ≠ v1 by omega) (.int .u64 a1_0) (.int .i64 f1) (.int .u64 a1_2) (.int .i64 a1_3))
        have nV3 := Lib.hid (V3.out.far4 V1.out.ge (show v3 ≠ v1 by omega) (.int .u64 a1_0) (.int .i64 f1) (.int .u64 a1_2) (.int .i64 a1_3))
        have nV1 := Lib.hid (V1.out.put4 (.int .u64 a1_0) (.int .i64 f1) (.int .u64 a1_2) (.int .i64 a1_3))
        unfold wr4 at nb0 nb1 nV2 nV3 nV1
        clear y0 y1 y2 y3 z0 z1 z2 z3 fr hz b0 b1 V1 V2 V3
        generalize ((((w4.setCell ⟨v1, 0, none⟩ (.int .u64 a1_0)).setCell ⟨v1, 1, none⟩ (.int .i64 f1)).setCell ⟨v1, 2, none⟩ (.int .u64 a1_2)).setCell ⟨v1, 3, none⟩ (.int .i64 a1_3)) = w5 at nb0 nb1 nV1 nV2 nV3 ⊢
        have b0 := nb0
        have b1 := nb1
        have V1 := nV1
        have V2 := nV2
        have V3 := nV3
        clear nb0 nb1 nV1 nV2 nV3
        have y0 := V3.out.cell 0 rfl
        have y1 := V3.out.cell 1 rfl
        have y2 := V3.out.cell 2 rfl
        have y3 := V3.out.cell 3 rfl
        have z0 := V2.out.cell 0 rfl
        have z1 := V2.out.cell 1 rfl
        have z2 := V2.out.cell 2 rfl
        have z3 := V2.out.cell 3 rfl
        have fr := fun j => V2.out.free j
        have hz := V2.out.lt
        go_upto_region 9 with fail
        have nb0 := Lib.hid (b0.out.far4 V2.out.ge (show w.heap.size ≠ v2 by omega) (.int .u64 a0_0) (.int .i64 f0) (.int .u64 a0_2) (.int .i64 a0_3))
        have nb1 := Lib.hid (b1.out.far4 V2.out.ge (show w.heap.size + 1 ≠ v2 by omega) (.int .u64 a0_0) (.int .i64 f0) (.int .u64 a0_2) (.int .i64 a0_3))
        have nV1 := Lib.hid (V1.out.far4 V2.out.ge (show v1 ≠ v2 by omega) (.int .u64 a0_0) (.int .i64 f0) (.int .u64 a0_2) (.int .i64 a0_3))
        have nV3 := Lib.hid (V3.out.far4 V2.out.ge (show v3 ≠ v2 by omega) (.int .u64 a0_0) (.int .i64 f0) (.int .u64 a0_2) (.int .i64 a0_3))
        have nV2 := Lib.hid (V2.out.put4 (.int .u64 a0_0) (.int .i64 f0) (.int .u64 a0_2) (.int .i64 a0_3))
        unfold wr4 at nb0 nb1 nV1 nV3 nV2
        clear y0 y1 y2 y3 z0 z1 z2 z3 fr hz b0 b1 V1 V2 V3
        generalize ((((w5.setCell ⟨v2, 0, none⟩ (.int .u64 a0_0)).setCell ⟨v2, 1, none⟩ (.int .i64 f0)).setCell ⟨v2, 2, none⟩ (.int .u64 a0_2)).setCell ⟨v2, 3, none⟩ (.int .i64 a0_3)) = w6 at nb0 nb1 nV1 nV2 nV3 ⊢
        have b0 := nb0
        have b1 := nb1
        have V1 := nV1
        have V2 := nV2
        have V3 := nV3
        clear nb0 nb1 nV1 nV2 nV3
        have y0 := b0.out.cell 0 rfl
        have y1 := b0.out.cell 1 rfl
        have y2 := b0.out.cell 2 rfl
        have y3 := b0.out.cell 3 rfl
        have z0 := b1.out.cell 0 rfl
        have z1 := b1.out.cell 1 rfl
        have z2 := b1.out.cell 2 rfl
        have z3 := b1.out.cell 3 rfl
        have fr := fun j => b0.out.free j
        have fr1 := fun j => b1.out.free j
        have hz := b0.out.lt
        have hz1 := b1.out.lt
        go_upto_region 10 with fail
        clear y0 y1 y2 y3 z0 z1 z2 z3 fr hz fr1 hz1
        have ge0 := b0.out.ge
        have ge1 := b1.out.ge
        have nb0 := Lib.hid ((b0.out.put4 (.int .u64 a1_0) (.int .i64 a1_1) (.int .u64 a1_2) (.int .i64 a1_3)).far4 ge1 (show w.heap.size ≠ w.heap.size + 1 by omega) (.int .u64 a0_0) (.int .i64 a0_1) (.int .u64 a0_2) (.int .i64 a0_3))
        have nb1 := Lib.hid ((b1.out.far4 ge0 (show w.heap.size + 1 ≠ w.heap.size by omega) (.int .u64 a1_0) (.int .i64 a1_1) (.int .u64 a1_2) (.int .i64 a1_3)).put4 (.int .u64 a0_0) (.int .i64 a0_1) (.int .u64 a0_2) (.int .i64 a0_3))
        have nV1 := Lib.hid ((V1.out.far4 ge0 (show v1 ≠ w.heap.size by omega) (.int .u64 a1_0) (.int .i64 a1_1) (.int .u64 a1_2) (.int .i64 a1_3)).far4 ge1 (show v1 ≠ w.heap.size + 1 by omega) (.int .u64 a0_0) (.int .i64 a0_1) (.int .u64 a0_2) (.int .i64 a0_3))
        have nV2 := Lib.hid ((V2.out.far4 ge0 (show v2 ≠ w.heap.size by omega) (.int .u64 a1_0) (.int .i64 a1_1) (.int .u64 a1_2) (.int .i64 a1_3)).far4 ge1 (show v2 ≠ w.heap.size + 1 by omega) (.int .u64 a0_0) (.int .i64 a0_1) (.int .u64 a0_2) (.int .i64 a0_3))
        unfold wr4 at nb0 nb1 nV1 nV2
        clear b0 b1 V1 V2 V3
        generalize ((((((((w6.setCell ⟨w.heap.size, 0, none⟩ (.int .u64 a1_0)).setCell ⟨w.heap.size, 1, none⟩ (.int .i64 a1_1)).setCell ⟨w.heap.size, 2, none⟩ (.int .u64 a1_2)).setCell ⟨w.heap.size, 3, none⟩ (.int .i64 a1_3)).setCell ⟨w.heap.size + 1, 0, none⟩ (.int .u64 a0_0)).setCell ⟨w.heap.size + 1, 1, none⟩ (.int .i64 a0_1)).setCell ⟨w.heap.size + 1, 2, none⟩ (.int .u64 a0_2)).setCell ⟨w.heap.size + 1, 3, none⟩ (.int .i64 a0_3)) = w7 at nb0 nb1 nV1 nV2 ⊢
        have b0 := nb0
        have b1 := nb1
        have V1 := nV1
        have V2 := nV2
        clear nb0 nb1 nV1 nV2 ge0 ge1
        have x00 := b0.out.cell 0 rfl
        have x01 := b0.out.cell 1 rfl
        have x02 := b0.out.cell 2 rfl
        have x03 := b0.out.cell 3 rfl
        have x10 := b1.out.cell 0 rfl
        have x11 := b1.out.cell 1 rfl
        have x12 := b1.out.cell 2 rfl
        have x13 := b1.out.cell 3 rfl
        have y00 := V1.out.cell 0 rfl
        have y01 := V1.out.cell 1 rfl
        have y02 := V1.out.cell 2 rfl
        have y03 := V1.out.cell 3 rfl
        have y10 := V2.out.cell 0 rfl
        have y11 := V2.out.cell 1 rfl
        have y12 := V2.out.cell 2 rfl
        have y13 := V2.out.cell 3 rfl
        have HR := rises a1_0 a1_1 a1_2 a1_3 a0_0 a0_1 a0_2 a0_3 a2 hb1 hb0 hle
        rw [show farC a1_1 a2 = f1 from hf1.out, show farC a0_1 a2 = f0 from hf0.out] at HR
        obtain ⟨m1, m2⟩ := HR
        have HC := fun U => Lib.hid (pcmp_c a1_0 f1 a1_2 a1_3 a0_0 f0 a0_2 a0_3 U)
        generalize cmpV (a1_0, f1, a1_2, a1_3) (a0_0, f0, a0_2, a0_3) = cc at HC m2
        clear hle hb1 hb0 hf1 hf0
        by_cases p0 : a1_0 = a0_0
        · obtain ⟨k0, k0'⟩ := eq_t p0
          by_cases p1 : a1_1 = a0_1
          · obtain ⟨k1, k1'⟩ := eq_t p1
            have hc : cc ≤ 0 := m2 (fun _ h => absurd p1 h)
            have d1 : decide (cc ≤ 0) = true := decide_eq_true hc
            have d2 : decide (0 < cc) = false := decide_eq_false (by omega)
            clear m1 m2 p0 p1
            go_wp2_with fail
            ((with_reducible refine (HC _).out.mono ?_); rintro e w9 ⟨rfl, h9⟩)
            replace b0 := Lib.hid (b0.out.below h9)
            clear h9 x00 x01 x02 x03 x10 x11 x12 x13 y00 y01 y02 y03 y10 y11 y12 y13
            go_wp2_with fail
            ((with_reducible refine (HL.out _).mono ?_); rintro e wz ⟨rfl, hz⟩)
            go_wp2_with fail
            go_ret
            exact ⟨by simp, b0.out.bel.trans (hz.mono b0.out.bel.size)⟩
          · obtain ⟨k1, k1'⟩ := ne_t p1
            by_cases p2 : f1 = f0
            · obtain ⟨k2, k2'⟩ := eq_t p2
              have hm := m1 p1 p0 p2
              obtain ⟨k3, k3'⟩ := eq_t hm
              clear m1 m2 p0 p1 p2 hm
              go_wp2_with fail
              ((with_reducible refine (HL.out _).mono ?_); rintro e wz ⟨rfl, hz⟩)
              go_wp2_with fail
              go_ret
              exact ⟨by simp, b0.out.bel.trans (hz.mono b0.out.bel.size)⟩
            · obtain ⟨k2, k2'⟩ := ne_t p2
              have hc : cc ≤ 0 := m2 (fun _ _ => p2)
              have d1 : decide (cc ≤ 0) = true := decide_eq_true hc
              have d2 : decide (0 < cc) = false := decide_eq_false (by omega)
              clear m1 m2 p0 p1 p2
              go_wp2_with fail
              ((with_reducible refine (HC _).out.mono ?_); rintro e w9 ⟨rfl, h9⟩)
              replace b0 := Lib.hid (b0.out.below h9)
              clear h9 x00 x01 x02 x03 x10 x11 x12 x13 y00 y01 y02 y03 y10 y11 y12 y13
              go_wp2_with fail
              ((with_reducible refine (HL.out _).mono ?_); rintro e wz ⟨rfl, hz⟩)
              go_wp2_with fail
              go_ret
              exact ⟨by simp, b0.out.bel.trans (hz.mono b0.out.bel.size)⟩
        · obtain ⟨k0, k0'⟩ := ne_t p0
          have hc : cc ≤ 0 := m2 (fun h => absurd h p0)
          have d1 : decide (cc ≤ 0) = true := decide_eq_true hc
          have d2 : decide (0 < cc) = false := decide_eq_false (by omega)
          clear m1 m2 p0
          go_wp2_with fail
          ((with_reducible refine (HC _).out.mono ?_); rintro e w9 ⟨rfl, h9⟩)
          replace b0 := Lib.hid (b0.out.below h9)
          clear h9 x00 x01 x02 x03 x10 x11 x12 x13 y00 y01 y02 y03 y10 y11 y12 y13
          go_wp2_with fail
          ((with_reducible refine (HL.out _).mono ?_); rintro e wz ⟨rfl, hz⟩)
          go_wp2_with fail
          go_ret
          exact ⟨by simp, b0.out.bel.trans (hz.mono b0.out.bel.size)⟩
      · have hle : cmpV (a0_0, a0_1, a0_2, a0_3) (a1_0, a1_1, a1_2, a1_3) ≤ 0 := by omega
        have c1 : decide (0 < cmpV (a0_0, a0_1, a0_2, a0_3) (a1_0, a1_1, a1_2, a1_3)) = false := decide_eq_false hX
        have c2 : decide (cmpV (a0_0, a0_1, a0_2, a0_3) (a1_0, a1_1, a1_2, a1_3) ≤ 0) = true := decide_eq_true hle
        generalize hcX : cmpV (a0_0, a0_1, a0_2, a0_3) (a1_0, a1_1, a1_2, a1_3) = X at c1 c2 ⊢
        go_upto_region 10 with fail
        clear c1 c2 hX hcX
        have x00 := b0.out.cell 0 rfl
        have x01 := b0.out.cell 1 rfl
        have x02 := b0.out.cell 2 rfl
        have x03 := b0.out.cell 3 rfl
        have x10 := b1.out.cell 0 rfl
        have x11 := b1.out.cell 1 rfl
        have x12 := b1.out.cell 2 rfl
        have x13 := b1.out.cell 3 rfl
        have y00 := V1.out.cell 0 rfl
        have y01 := V1.out.cell 1 rfl
        have y02 := V1.out.cell 2 rfl
        have y03 := V1.out.cell 3 rfl
        have y10 := V2.out.cell 0 rfl
        have y11 := V2.out.cell 1 rfl
        have y12 := V2.out.cell 2 rfl
        have y13 := V2.out.cell 3 rfl
        have HR := rises a0_0 a0_1 a0_2 a0_3 a1_0 a1_1 a1_2 a1_3 a2 hb0 hb1 hle
        rw [show farC a0_1 a2 = f0 from hf0.out, show farC a1_1 a2 = f1 from hf1.out] at HR
        obtain ⟨m1, m2⟩ := HR
        have HC := fun U => Lib.hid (pcmp_c a0_0 f0 a0_2 a0_3 a1_0 f1 a1_2 a1_3 U)
        generalize cmpV (a0_0, f0, a0_2, a0_3) (a1_0, f1, a1_2, a1_3) = cc at HC m2
        clear hle hb0 hb1 hf0 hf1
        by_cases p0 : a0_0 = a1_0
        · obtain ⟨k0, k0'⟩ := eq_t p0
          by_cases p1 : a0_1 = a1_1
          · obtain ⟨k1, k1'⟩ := eq_t p1
            have hc : cc ≤ 0 := m2 (fun _ h => absurd p1 h)
            have d1 : decide (cc ≤ 0) = true := decide_eq_true hc
            have d2 : decide (0 < cc) = false := decide_eq_false (by omega)
            clear m1 m2 p0 p1
            go_wp2_with fail
            ((with_reducible refine (HC _).out.mono ?_); rintro e w9 ⟨rfl, h9⟩)
            replace b0 := Lib.hid (b0.out.below h9)
            clear h9 x00 x01 x02 x03 x10 x11 x12 x13 y00 y01 y02 y03 y10 y11 y12 y13
            go_wp2_with fail
            ((with_reducible refine (HL.out _).mono ?_); rintro e wz ⟨rfl, hz⟩)
            go_wp2_with fail
            go_ret
            exact ⟨by simp, b0.out.bel.trans (hz.mono b0.out.bel.size)⟩
          · obtain ⟨k1, k1'⟩ := ne_t p1
            by_cases p2 : f0 = f1
            · obtain ⟨k2, k2'⟩ := eq_t p2
              have hm := m1 p1 p0 p2
              obtain ⟨k3, k3'⟩ := eq_t hm
              clear m1 m2 p0 p1 p2 hm
              go_wp2_with fail
              ((with_reducible refine (HL.out _).mono ?_); rintro e wz ⟨rfl, hz⟩)
              go_wp2_with fail
              go_ret
              exact ⟨by simp, b0.out.bel.trans (hz.mono b0.out.bel.size)⟩
            · obtain ⟨k2, k2'⟩ := ne_t p2
              have hc : cc ≤ 0 := m2 (fun _ _ => p2)
              have d1 : decide (cc ≤ 0) = true := decide_eq_true hc
              have d2 : decide (0 < cc) = false := decide_eq_false (by omega)
              clear m1 m2 p0 p1 p2
              go_wp2_with fail
              ((with_reducible refine (HC _).out.mono ?_); rintro e w9 ⟨rfl, h9⟩)
              replace b0 := Lib.hid (b0.out.below h9)
              clear h9 x00 x01 x02 x03 x10 x11 x12 x13 y00 y01 y02 y03 y10 y11 y12 y13
              go_wp2_with fail
              ((with_reducible refine (HL.out _).mono ?_); rintro e wz ⟨rfl, hz⟩)
              go_wp2_with fail
              go_ret
              exact ⟨by simp, b0.out.bel.trans (hz.mono b0.out.bel.size)⟩
        · obtain ⟨k0, k0'⟩ := ne_t p0
          have hc : cc ≤ 0 := m2 (fun h => absurd h p0)
          have d1 : decide (cc ≤ 0) = true := decide_eq_true hc
          have d2 : decide (0 < cc) = false := decide_eq_false (by omega)
          clear m1 m2 p0
          go_wp2_with fail
          ((with_reducible refine (HC _).out.mono ?_); rintro e w9 ⟨rfl, h9⟩)
          replace b0 := Lib.hid (b0.out.below h9)
          clear h9 x00 x01 x02 x03 x10 x11 x12 x13 y00 y01 y02 y03 y10 y11 y12 y13
          go_wp2_with fail
          ((with_reducible refine (HL.out _).mono ?_); rintro e wz ⟨rfl, hz⟩)
          go_wp2_with fail
          go_ret
          exact ⟨by simp, b0.out.bel.trans (hz.mono b0.out.bel.size)⟩
    · have T1 := fun U => Lib.hid (pthr_no a1_0 a1_1 a1_2 a1_3 a2 U hb1)
      clear hb0 hb1
      have x00 := b0.out.cell 0 rfl
      have x01 := b0.out.cell 1 rfl
      have x02 := b0.out.cell 2 rfl
      have x03 := b0.out.cell 3 rfl
      have x10 := b1.out.cell 0 rfl
      have x11 := b1.out.cell 1 rfl
      have x12 := b1.out.cell 2 rfl
      have x13 := b1.out.cell 3 rfl
      go_wp2_with fail
      ((with_reducible refine (T1 _).out.mono ?_); rintro e w2 ⟨rfl, h2⟩)
      replace b0 := Lib.hid (b0.out.below h2)
      replace b1 := Lib.hid (b1.out.below h2)
      replace V1 := Lib.hid (V1.out.below h2)
      have V2 := Lib.hid (Bx.mk' b0.out.bel #[.int .u64 0, .int .i64 0, .int .u64 0, .int .i64 0] 24)
      have oV2 := V1.out.lt
      replace b0 := Lib.hid (b0.out.alloc (.cells #[.int .u64 0, .int .i64 0, .int .u64 0, .int .i64 0] 24))
      replace b1 := Lib.hid (b1.out.alloc (.cells #[.int .u64 0, .int .i64 0, .int .u64 0, .int .i64 0] 24))
      replace V1 := Lib.hid (V1.out.alloc (.cells #[.int .u64 0, .int .i64 0, .int .u64 0, .int .i64 0] 24))
      go_upto_region 3 with fail
      clear h2 T1 x00 x01 x02 x03 x10 x11 x12 x13
      generalize w2.alloc (.cells #[.int .u64 0, .int .i64 0, .int .u64 0, .int .i64 0] 24) = u2 at b0 b1 V1 V2 ⊢
      generalize w2.heap.size = v2 at V2 oV2 ⊢
      go_wp2_with fail
      ((with_reducible refine (HL.out _).mono ?_); rintro e wz ⟨rfl, hz⟩)
      go_wp2_with fail
      go_ret
      exact ⟨by simp, b0.out.bel.trans (hz.mono b0.out.bel.size)⟩
  · have T0 := fun U => Lib.hid (pthr_no a0_0 a0_1 a0_2 a0_3 a2 U hb0)
    clear hb0
    have x00 := b0.out.cell 0 rfl
    have x01 := b0.out.cell 1 rfl
    have x02 := b0.out.cell 2 rfl
    have x03 := b0.out.cell 3 rfl
    have x10 := b1.out.cell 0 rfl
    have x11 := b1.out.cell 1 rfl
    have x12 := b1.out.cell 2 rfl
    have x13 := b1.out.cell 3 rfl
    go_wp2_with fail
    ((with_reducible refine (T0 _).out.mono ?_); rintro e w1 ⟨rfl, h1⟩)
    replace b0 := Lib.hid (b0.out.below h1)
    replace b1 := Lib.hid (b1.out.below h1)
    have V1 := Lib.hid (Bx.mk' b0.out.bel #[.int .u64 0, .int .i64 0, .int .u64 0, .int .i64 0] 24)
    have oV1 := b1.out.lt
    replace b0 := Lib.hid (b0.out.alloc (.cells #[.int .u64 0, .int .i64 0, .int .u64 0, .int .i64 0] 24))
    replace b1 := Lib.hid (b1.out.alloc (.cells #[.int .u64 0, .int .i64 0, .int .u64 0, .int .i64 0] 24))
    go_upto_region 2 with fail
    clear h1 T0 x00 x01 x02 x03 x10 x11 x12 x13
    generalize w1.alloc (.cells #[.int .u64 0, .int .i64 0, .int .u64 0, .int .i64 0] 24) = u1 at b0 b1 V1 ⊢
    generalize w1.heap.size = v1 at V1 oV1 ⊢
    rcases hb1 : badW a1_1 a2 with _ | _
    · have T1 := fun U => Lib.hid (pthr_ok a1_0 a1_1 a1_2 a1_3 a2 U hb1)
      clear hb1
      generalize farC a1_1 a2 = f1 at T1
      have x00 := b0.out.cell 0 rfl
      have x01 := b0.out.cell 1 rfl
      have x02 := b0.out.cell 2 rfl
      have x03 := b0.out.cell 3 rfl
      have x10 := b1.out.cell 0 rfl
      have x11 := b1.out.cell 1 rfl
      have x12 := b1.out.cell 2 rfl
      have x13 := b1.out.cell 3 rfl
      go_wp2_with fail
      ((with_reducible refine (T1 _).out.mono ?_); rintro e w2 ⟨rfl, h2⟩)
      replace b0 := Lib.hid (b0.out.below h2)
      replace b1 := Lib.hid (b1.out.below h2)
      replace V1 := Lib.hid (V1.out.below h2)
      have V2 := Lib.hid (Bx.mk' b0.out.bel #[.int .u64 a1_0, .int .i64 f1, .int .u64 a1_2, .int .i64 a1_3] 24)
      have oV2 := V1.out.lt
      replace b0 := Lib.hid (b0.out.alloc (.cells #[.int .u64 a1_0, .int .i64 f1, .int .u64 a1_2, .int .i64 a1_3] 24))
      replace b1 := Lib.hid (b1.out.alloc (.cells #[.int .u64 a1_0, .int .i64 f1, .int .u64 a1_2, .int .i64 a1_3] 24))
      replace V1 := Lib.hid (V1.out.alloc (.cells #[.int .u64 a1_0, .int .i64 f1, .int .u64 a1_2, .int .i64 a1_3] 24))
      go_upto_region 3 with fail
      clear h2 T1 x00 x01 x02 x03 x10 x11 x12 x13
      generalize w2.alloc (.cells #[.int .u64 a1_0, .int .i64 f1, .int .u64 a1_2, .int .i64 a1_3] 24) = u2 at b0 b1 V1 V2 ⊢
      generalize w2.heap.size = v2 at V2 oV2 ⊢
      go_wp2_with fail
      ((with_reducible refine (HL.out _).mono ?_); rintro e wz ⟨rfl, hz⟩)
      go_wp2_with fail
      go_ret
      exact ⟨by simp, b0.out.bel.trans (hz.mono b0.out.bel.size)⟩
    · have T1 := fun U => Lib.hid (pthr_no a1_0 a1_1 a1_2 a1_3 a2 U hb1)
      clear hb1
      have x00 := b0.out.cell 0 rfl
      have x01 := b0.out.cell 1 rfl
      have x02 := b0.out.cell 2 rfl
      have x03 := b0.out.cell 3 rfl
      have x10 := b1.out.cell 0 rfl
      have x11 := b1.out.cell 1 rfl
      have x12 := b1.out.cell 2 rfl
      have x13 := b1.out.cell 3 rfl
      go_wp2_with fail
      ((with_reducible refine (T1 _).out.mono ?_); rintro e w2 ⟨rfl, h2⟩)
      replace b0 := Lib.hid (b0.out.below h2)
      replace b1 := Lib.hid (b1.out.below h2)
      replace V1 := Lib.hid (V1.out.below h2)
      have V2 := Lib.hid (Bx.mk' b0.out.bel #[.int .u64 0, .int .i64 0, .int .u64 0, .int .i64 0] 24)
      have oV2 := V1.out.lt
      replace b0 := Lib.hid (b0.out.alloc (.cells #[.int .u64 0, .int .i64 0, .int .u64 0, .int .i64 0] 24))
      replace b1 := Lib.hid (b1.out.alloc (.cells #[.int .u64 0, .int .i64 0, .int .u64 0, .int .i64 0] 24))
      replace V1 := Lib.hid (V1.out.alloc (.cells #[.int .u64 0, .int .i64 0, .int .u64 0, .int .i64 0] 24))
      go_upto_region 3 with fail
      clear h2 T1 x00 x01 x02 x03 x10 x11 x12 x13
      generalize w2.alloc (.cells #[.int .u64 0, .int .i64 0, .int .u64 0, .int .i64 0] 24) = u2 at b0 b1 V1 V2 ⊢
      generalize w2.heap.size = v2 at V2 oV2 ⊢
      go_wp2_with fail
      ((with_reducible refine (HL.out _).mono ?_); rintro e wz ⟨rfl, hz⟩)
      go_wp2_with fail
      go_ret
      exact ⟨by simp, b0.out.bel.trans (hz.mono b0.out.bel.size)⟩

theorem own : ownKnob Try.prog.godebug = none := by kernel_rfl
theorem laidOut : laidOutB Try.prog = true := by kernel_rfl

set_option maxHeartbeats 1000000 in
set_option maxRecDepth 100000 in
theorem lifted (os : Os) (started : os.Started) (H : Type) (enc : TypeId × Value → H) :
    ReturnsInHanded {} Try.checked os 8 .any (Rows.prioRisesSpec.pre6 enc Try.prog Try.f8 Rows.prioRisesRow.domain false) (Rows.prioRisesSpec.post enc Try.prog Try.f8 false true false false) := by
  refine returnsInHanded_of_change_sized (C := Try.checked) own started (by kernel_rfl) Try.func8
    (ChangeSpec.witness6 (enc := enc) (C := Try.checked) false ⟨#[], #[.agg #[.int .u64 0, .int .i64 0, .int .u64 0, .int .i64 0], .agg #[.int .u64 0, .int .i64 0, .int .u64 0, .int .i64 0], .int .i64 0], []⟩ 8 (by kernel_rfl) (by kernel_rfl) (by kernel_rfl) (by kernel_rfl)) ?_
  intro W base args ds gs before hval0 hW hcnd hsz0 hholds
  have hval : ∀ (j : Nat) t v, Try.f8.params[j]? = some t → args[j]? = some v → Value.okWide Try.prog W .any base t v := hval0
  have hsz : (DataW.weightsEach Try.prog (Try.f8.params.toList ++ Rows.prioRisesSpec.plain.varTypes Try.prog) (ds ++ gs)).all (· ≤ reachBytes) = true := hsz0
  have hW' := hW
  obtain ⟨p, q, hA0, hV, rfl, hfz, hnd⟩ := hW
  have hA : DataW.TrodAll enc Try.prog W 0 (fun _ => true) true Try.f8.params.toList args.toList ds p := hA0
  rw [Try.params8] at hA hval hsz
  obtain ⟨v0, vs0, d0, ds0, p0, q0, hargs, rfl, rfl, h0, r0⟩ := trodAll_cons hA
  obtain ⟨v1, vs1, d1, ds1, p1, q1, rfl, rfl, rfl, h1, r1⟩ := trodAll_cons r0
  obtain ⟨v2, vs2, d2, ds2, p2, q2, rfl, rfl, rfl, h2, r2⟩ := trodAll_cons r1
  obtain ⟨rfl, rfl, rfl⟩ := trodAll_nil r2
  obtain rfl : args = #[v0, v1, v2] := by cases args; simp_all
  obtain ⟨rfl, rfl⟩ := trodVars_none hV
  have k0 := h0
  have lt0 : ∀ x ∈ p0, x.block < W.heap.size := by obtain ⟨m, hm⟩ := k0; exact DataW.trod_lt m _ _ _ hm
  have k1 := h1
  have lt1 : ∀ x ∈ p1, x.block < W.heap.size := by obtain ⟨m, hm⟩ := k1; exact DataW.trod_lt m _ _ _ hm
  have k2 := h2
  have lt2 : ∀ x ∈ p2, x.block < W.heap.size := by obtain ⟨m, hm⟩ := k2; exact DataW.trod_lt m _ _ _ hm
  obtain ⟨cs0, rfl, hz0⟩ := okWide_struct Try.underlying24 (hval 0 24 v0 rfl rfl)
  obtain ⟨l0⟩ := cs0
  obtain ⟨c0_0, c0_1, c0_2, c0_3, rfl⟩ := list4 l0 (hz0.trans (by kernel_rfl))
  obtain ⟨fu0, hf0⟩ := h0
  obtain ⟨xs0, m0, -, hx0, -, hn0, hg0⟩ := DataW.trod_struct Try.underlying24 hf0
  obtain ⟨y0_0, y0_1, y0_2, y0_3, rfl⟩ := list4 xs0 hn0
  simp only [Prod.mk.injEq] at hx0
  obtain ⟨rfl, rfl⟩ := hx0
  have g0_0 : DataW.trod enc Try.prog W 0 (fun _ => true) true m0 22 (List.take (Try.prog.cellsOf 22) (List.drop 0 [c0_0, c0_1, c0_2, c0_3])) = some y0_0 := hg0 0 _ rfl
  rw [show Try.prog.cellsOf 22 = 1 from by kernel_rfl] at g0_0
  replace g0_0 : DataW.trod enc Try.prog W 0 (fun _ => true) true m0 22 [c0_0] = some y0_0 := g0_0
  have g0_1 : DataW.trod enc Try.prog W 0 (fun _ => true) true m0 3 (List.take (Try.prog.cellsOf 3) (List.drop 1 [c0_0, c0_1, c0_2, c0_3])) = some y0_1 := hg0 1 _ rfl
  rw [show Try.prog.cellsOf 3 = 1 from by kernel_rfl] at g0_1
  replace g0_1 : DataW.trod enc Try.prog W 0 (fun _ => true) true m0 3 [c0_1] = some y0_1 := g0_1
  have g0_2 : DataW.trod enc Try.prog W 0 (fun _ => true) true m0 22 (List.take (Try.prog.cellsOf 22) (List.drop 2 [c0_0, c0_1, c0_2, c0_3])) = some y0_2 := hg0 2 _ rfl
  rw [show Try.prog.cellsOf 22 = 1 from by kernel_rfl] at g0_2
  replace g0_2 : DataW.trod enc Try.prog W 0 (fun _ => true) true m0 22 [c0_2] = some y0_2 := g0_2
  have g0_3 : DataW.trod enc Try.prog W 0 (fun _ => true) true m0 3 (List.take (Try.prog.cellsOf 3) (List.drop 3 [c0_0, c0_1, c0_2, c0_3])) = some y0_3 := hg0 3 _ rfl
  rw [show Try.prog.cellsOf 3 = 1 from by kernel_rfl] at g0_3
  replace g0_3 : DataW.trod enc Try.prog W 0 (fun _ => true) true m0 3 [c0_3] = some y0_3 := g0_3
  clear hg0
  obtain ⟨a0_0, e0_0, rfl, w0_0⟩ := DataW.trod_int Try.underlying22 g0_0
  simp at e0_0
  subst e0_0
  obtain ⟨a0_1, e0_1, rfl, w0_1⟩ := DataW.trod_int Try.underlying3 g0_1
  simp at e0_1
  subst e0_1
  obtain ⟨a0_2, e0_2, rfl, w0_2⟩ := DataW.trod_int Try.underlying22 g0_2
  simp at e0_2
  subst e0_2
  obtain ⟨a0_3, e0_3, rfl, w0_3⟩ := DataW.trod_int Try.underlying3 g0_3
  simp at e0_3
  subst e0_3
  obtain ⟨cs1, rfl, hz1⟩ := okWide_struct Try.underlying24 (hval 1 24 v1 rfl rfl)
  obtain ⟨l1⟩ := cs1
  obtain ⟨c1_0, c1_1, c1_2, c1_3, rfl⟩ := list4 l1 (hz1.trans (by kernel_rfl))
  obtain ⟨fu1, hf1⟩ := h1
  obtain ⟨xs1, m1, -, hx1, -, hn1, hg1⟩ := DataW.trod_struct Try.underlying24 hf1
  obtain ⟨y1_0, y1_1, y1_2, y1_3, rfl⟩ := list4 xs1 hn1
  simp only [Prod.mk.injEq] at hx1
  obtain ⟨rfl, rfl⟩ := hx1
  have g1_0 : DataW.trod enc Try.prog W 0 (fun _ => true) true m1 22 (List.take (Try.prog.cellsOf 22) (List.drop 0 [c1_0, c1_1, c1_2, c1_3])) = some y1_0 := hg1 0 _ rfl
  rw [show Try.prog.cellsOf 22 = 1 from by kernel_rfl] at g1_0
  replace g1_0 : DataW.trod enc Try.prog W 0 (fun _ => true) true m1 22 [c1_0] = some y1_0 := g1_0
  have g1_1 : DataW.trod enc Try.prog W 0 (fun _ => true) true m1 3 (List.take (Try.prog.cellsOf 3) (List.drop 1 [c1_0, c1_1, c1_2, c1_3])) = some y1_1 := hg1 1 _ rfl
  rw [show Try.prog.cellsOf 3 = 1 from by kernel_rfl] at g1_1
  replace g1_1 : DataW.trod enc Try.prog W 0 (fun _ => true) true m1 3 [c1_1] = some y1_1 := g1_1
  have g1_2 : DataW.trod enc Try.prog W 0 (fun _ => true) true m1 22 (List.take (Try.prog.cellsOf 22) (List.drop 2 [c1_0, c1_1, c1_2, c1_3])) = some y1_2 := hg1 2 _ rfl
  rw [show Try.prog.cellsOf 22 = 1 from by kernel_rfl] at g1_2
  replace g1_2 : DataW.trod enc Try.prog W 0 (fun _ => true) true m1 22 [c1_2] = some y1_2 := g1_2
  have g1_3 : DataW.trod enc Try.prog W 0 (fun _ => true) true m1 3 (List.take (Try.prog.cellsOf 3) (List.drop 3 [c1_0, c1_1, c1_2, c1_3])) = some y1_3 := hg1 3 _ rfl
  rw [show Try.prog.cellsOf 3 = 1 from by kernel_rfl] at g1_3
  replace g1_3 : DataW.trod enc Try.prog W 0 (fun _ => true) true m1 3 [c1_3] = some y1_3 := g1_3
  clear hg1
  obtain ⟨a1_0, e1_0, rfl, w1_0⟩ := DataW.trod_int Try.underlying22 g1_0
  simp at e1_0
  subst e1_0
  obtain ⟨a1_1, e1_1, rfl, w1_1⟩ := DataW.trod_int Try.underlying3 g1_1
  simp at e1_1
  subst e1_1
  obtain ⟨a1_2, e1_2, rfl, w1_2⟩ := DataW.trod_int Try.underlying22 g1_2
  simp at e1_2
  subst e1_2
  obtain ⟨a1_3, e1_3, rfl, w1_3⟩ := DataW.trod_int Try.underlying3 g1_3
  simp at e1_3
  subst e1_3
  obtain ⟨a2, rfl, rfl, rfl, w2⟩ := open_int Try.underlying3 (hval 2 3 v2 rfl rfl) h2
  have ba0_0 := bounds_u64 w0_0
  have ba0_1 := bounds_i64 w0_1
  have ba0_2 := bounds_u64 w0_2
  have ba0_3 := bounds_i64 w0_3
  have ba1_0 := bounds_u64 w1_0
  have ba1_1 := bounds_i64 w1_1
  have ba1_2 := bounds_u64 w1_2
  have ba1_3 := bounds_i64 w1_3
  have ba2 := bounds_i64 w2
  clear hA0 hval0
  refine (walk a0_0 a0_1 a0_2 a0_3 a1_0 a1_1 a1_2 a1_3 a2 W ba0_0.1 ba0_0.2 ba0_1.1 ba0_1.2 ba0_2.1 ba0_2.2 ba0_3.1 ba0_3.2 ba1_0.1 ba1_0.2 ba1_1.1 ba1_1.2 ba1_2.1 ba1_2.2 ba1_3.1 ba1_3.2 ba2.1 ba2.2).mono fun e W' ⟨he, bel⟩ => ?_
  subst he
  exact ⟨_, rfl, _, _, _, [], _, [], hW', trodAll_mk1 (shut_bool Try.underlying4 _), (trodAll_cons_mk (Below.trod laidOut (by kernel_rfl) (of_decide_eq_true (by kernel_rfl)) k0 bel lt0) (trodAll_cons_mk (Below.trod laidOut (by kernel_rfl) (of_decide_eq_true (by kernel_rfl)) k1 bel lt1) (trodAll_cons_mk (Below.trod laidOut (by kernel_rfl) (of_decide_eq_true (by kernel_rfl)) k2 bel lt2) trodAll_mk0))), rfl, bel.frame _, fun h => by cases h⟩

theorem over : Rows.prioRisesRow.holds Try.pinned (OpenSpec.ofChange Rows.prioRisesSpec) :=
  OpenClaim.holds_of_wide 8 Try.f8 rfl rfl rfl rfl rfl rfl rfl ⟨rfl, rfl, rfl, rfl, rfl⟩ rfl rfl rfl rfl rfl (by kernel_rfl) Try.func8 (by kernel_rfl)
    (of_decide_eq_true (by kernel_rfl)) (by unfold Func.isWrapper; first | (rw [if_pos (by decide +kernel)]; kernel_rfl) | (rw [if_neg (by decide +kernel)]; exact ⟨rfl, rfl⟩))
    (fun os started H enc _ => lifted os started H enc)

/-- The statement. -/
theorem proved : Rows.PrioRisesSaid := over
#print axioms proved
end Go.Proofs.Ytcllciekbeibcaa.prioRisesLaw
