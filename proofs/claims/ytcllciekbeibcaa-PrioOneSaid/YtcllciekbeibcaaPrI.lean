/-
  The laws on prio: live. A contract over the translated program.
-/
import Derived.Test.YtcllciekbeibcaaPrH
namespace Go.Proofs.Ytcllciekbeibcaa
open Go.RowKit
set_option linter.unusedVariables false
set_option linter.unusedSimpArgs false

def L0 : List Hd := [(true, 1, 0, 1, 2, 10)]
theorem rows_lit (w : World) : RowsAt 6 cellsHd (w.alloc (.cells #[.bool true, .int .u64 1, .int .i64 0, .int .u64 1, .int .i64 2, .int .i64 10] 46)) (.slice (some ⟨w.heap.size, 0, none⟩) 1 1) L0 := by
  refine ⟨_, 1, w.heap.size, 0, rfl, fun _ => rfl, fun j x hj i u hu => ?_⟩
  match j, hj with
  | 0, hj =>
    obtain rfl : (true, 1, 0, 1, 2, 10) = x := by simpa [L0] using hj
    have := cell_of_block (j := i) (v := u) (heap_new w (.cells #[.bool true, .int .u64 1, .int .i64 0, .int .u64 1, .int .i64 2, .int .i64 10] 46)) (by simpa [cellsHd] using hu)
    simpa using this
  | j + 1, hj => simp [L0] at hj
theorem ints_lit (w : World) (x : Int) (t : TypeId) : IntsAt (w.alloc (.cells #[.int .i64 x] t)).drew (.slice (some ⟨w.heap.size, 0, none⟩) 1 1) [x] := by
  refine ⟨_, 1, w.heap.size, 0, rfl, fun _ => rfl, fun j y hj => ?_⟩
  match j, hj with
  | 0, hj =>
    obtain rfl : x = y := by simpa using hj
    exact cell_of_block (w := (w.alloc (.cells #[.int .i64 x] t)).drew) (heap_new w _) rfl
  | j + 1, hj => simp at hj

set_option maxHeartbeats 8000000 in
set_option maxRecDepth 100000 in
theorem live14_c (w : World) : Calls Try.prog 13 #[] w fun e w' => e = .returned (.bool true) ∧ Below w.heap.size w w' := by
  have hr := rows_lit w
  have hB0 := (Below.refl w.heap.size w).alloc (Nat.le_refl _) (.cells #[.bool true, .int .u64 1, .int .i64 0, .int .u64 1, .int .i64 2, .int .i64 10] 46)
  have H1 := Lib.hid (pbest_c 5 _ L0 _ (by decide) hr)
  rw [show bestL 5 L0 = (0, 1, 10, 1, 2) from by decide] at H1
  simp only at H1
  have HR := Lib.hid fun (U : World) (k : Below (w.alloc (.cells #[.bool true, .int .u64 1, .int .i64 0, .int .u64 1, .int .i64 2, .int .i64 10] 46)).heap.size (w.alloc (.cells #[.bool true, .int .u64 1, .int .i64 0, .int .u64 1, .int .i64 2, .int .i64 10] 46)) U) => proles_c 5 _ L0 U (by decide) (hr.below k)
  rw [show rolesL 5 L0 = [1] from by decide] at HR
  have HB0 := Lib.hid hB0
  have HB1 := Lib.hid (Below.refl (w.alloc (.cells #[.bool true, .int .u64 1, .int .i64 0, .int .u64 1, .int .i64 2, .int .i64 10] 46)).heap.size (w.alloc (.cells #[.bool true, .int .u64 1, .int .i64 0, .int .u64 1, .int .i64 2, .int .i64 10] 46)))
  clear hr hB0
  go_enter Try.func13, Try.ntmps13
  go_upto_region 2 with fail
  generalize w.alloc (.cells #[.bool true, .int .u64 1, .int .i64 0, .int .u64 1, .int .i64 2, .int .i64 10] 46) = w0 at H1 HR HB0 HB1 ⊢
  go_wp2_with fail
  ((with_reducible refine H1.out.mono ?_); rintro e w1 ⟨rfl, h1⟩)
  have B := Lib.hid (Bx.mk' h1 #[.int .u64 1, .int .i64 10, .int .u64 1, .int .i64 2] 24)
  clear h1 H1
  go_upto_region 3 with fail
  generalize w1.alloc (.cells #[.int .u64 1, .int .i64 10, .int .u64 1, .int .i64 2] 24) = w2 at B ⊢
  generalize w1.heap.size = vb at B ⊢
  have HR2 := Lib.hid (HR.out w2 B.out.bel)
  go_wp2_with fail
  ((with_reducible refine HR2.out.mono ?_); rintro e w3 ⟨u4, rfl, hI, h3⟩)
  replace B := Lib.hid (B.out.below h3)
  have HI := Lib.hid hI
  clear hI h3 HR2 HR
  have y0 := B.out.cell 0 rfl
  have y1 := B.out.cell 1 rfl
  have y2 := B.out.cell 2 rfl
  have y3 := B.out.cell 3 rfl
  have HT := Lib.hid (pthr_no 1 10 1 2 0 w3 (by decide))
  go_wp2_with fail
  ((with_reducible refine HT.out.mono ?_); rintro e w4 ⟨rfl, h4⟩)
  have h5 := k_alloc h4 (.cells #[.int .u64 0, .int .i64 0, .int .u64 0, .int .i64 0] 24)
  replace B := Lib.hid (B.out.below h5)
  replace HI := Lib.hid (HI.out.below h5)
  clear y0 y1 y2 y3 HT h4 h5
  go_upto_region 5 with fail
  generalize w4.alloc (.cells #[.int .u64 0, .int .i64 0, .int .u64 0, .int .i64 0] 24) = W at B HI ⊢
  have y0 := B.out.cell 0 rfl
  have y1 := B.out.cell 1 rfl
  have y2 := B.out.cell 2 rfl
  have y3 := B.out.cell 3 rfl
  have KF := Lib.hid fun (U : World) (kz : Below W.heap.size W U) => (⟨gcell_below kz y0, gcell_below kz y1, gcell_below kz y2, gcell_below kz y3, kz⟩ : U.cell? ⟨vb, 0, none⟩ = some (.int .u64 1) ∧ U.cell? ⟨vb, 1, none⟩ = some (.int .i64 10) ∧ U.cell? ⟨vb, 2, none⟩ = some (.int .u64 1) ∧ U.cell? ⟨vb, 3, none⟩ = some (.int .i64 2) ∧ Below W.heap.size W U)
  have k0 := (Below.refl W.heap.size W).drew
  have k1 := (k_alloc (Below.refl W.heap.size W) (.cells #[.int .i64 1] 3)).drew
  have Q1 := Lib.hid ((sameI_c u4 (.slice (some ⟨W.heap.size, 0, none⟩) 1 1) [1] (W.alloc (.cells #[.int .i64 1] 3)).drew (by decide) (HI.out.below k1) (ints_lit W 1 3)).mono (R' := fun e w' => e = .returned (.bool true) ∧ Below W.heap.size W w') (by rintro e w' ⟨rfl, n, rfl⟩; exact ⟨rfl, below_drewN k1 n⟩))
  have Q2 := Lib.hid fun (U : World) (k : Below W.heap.size W U) => (pown_c 5 U).mono (R' := fun e w' => e = .returned (.agg #[.int .u64 5, .int .i64 0, .int .u64 5, .int .i64 0]) ∧ Below W.heap.size W w') (by rintro e w' ⟨rfl, h⟩; exact ⟨rfl, k_call k h⟩)
  have Q3 := Lib.hid fun (U : World) (k : Below W.heap.size W U) => (pcmp_c 1 10 1 2 5 0 5 0 U).mono (R' := fun e w' => e = .returned (.int .i64 (-1)) ∧ Below W.heap.size W w') (by rintro e w' ⟨rfl, h⟩; exact ⟨rfl, k_call k h⟩)
  have E1 := fun U => eql_V 1 10 1 2 1 10 1 2 U
  have E2 := fun U => equalIn_V 1 10 1 2 1 10 1 2 U
  rw [show eqV 1 10 1 2 1 10 1 2 = true from by decide] at E1 E2
  have E3 := guard_V
  have hW := Lib.hid HB0.out
  go_region_held3 (fun U => U.cell? ⟨vb, 0, none⟩ = some (.int .u64 1) ∧ U.cell? ⟨vb, 1, none⟩ = some (.int .i64 10) ∧ U.cell? ⟨vb, 2, none⟩ = some (.int .u64 1) ∧ U.cell? ⟨vb, 3, none⟩ = some (.int .i64 2) ∧ Below W.heap.size W U)
    (first | with_reducible exact KF.out _ k10 | with_reducible exact KF.out _ k9 | with_reducible exact KF.out _ k8 | with_reducible exact KF.out _ k1 | with_reducible exact KF.out _ k0)
    (first
      | (go_at_call 20; (with_reducible refine Q1.out.mono ?_); rintro e w8 ⟨rfl, k8⟩)
      | (go_at_call 11; (with_reducible refine (Q2.out _ k8).mono ?_); rintro e w9 ⟨rfl, k9⟩)
      | (go_at_call 9; (with_reducible refine (Q3.out _ k9).mono ?_); rintro e w10 ⟨rfl, k10⟩))
  all_goals
    have K := Lib.hid (HB0.out.trans ((B.out.bel.trans (k10.mono B.out.bel.size)).mono HB0.out.size))
    clear KF k0 k1 k8 k9 k10
    go_wp2_with fail
    go_ret
    exact ⟨rfl, K.out⟩

end Go.Proofs.Ytcllciekbeibcaa
