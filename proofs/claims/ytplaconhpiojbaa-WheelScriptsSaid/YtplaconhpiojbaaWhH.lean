/-
  cmp.Compare and cmp.Or at int; the closure by which the wheel at keys of type int sorts. Contracts over the translated program.
-/
import Derived.Test.YtplaconhpiojbaaWhF
import Derived.Shelf.SlSortCmp.WholeK
import Derived.Shelf.SlSortCmp.NoneTotal
import Derived.Lib.QuietBelow
import Derived.StillTailTactics
import Derived.Test.YtplaconhpiojbaaWhG
namespace Go.Proofs.Ytplaconhpiojbaa
open Go Go.Maps Go.WideMaps
open Go.RowKit Go.Shelf Go.Lib Go.Sort
set_option linter.unusedVariables false
set_option linter.unusedSimpArgs false

set_option maxHeartbeats 8000000 in
set_option maxRecDepth 100000 in
theorem due1I_c (k1 k2 : Value) (a1 t1 a2 t2 : Int) (w : World) :
    Calls Try.prog 40 #[.agg #[k1, .int .i64 a1, .int .i64 t1], .agg #[k2, .int .i64 a2, .int .i64 t2]] w fun e w' =>
      e = .returned (.int .i64 (cmpT a1 t1 a2 t2)) ∧ ∃ q os', w' = grow (w.drewN q) os' := by
  go_enter Try.func40, Try.ntmps40
  go_upto_region 1 with fail
  have x1 : ((w.alloc (.cells #[k1, .int .i64 a1, .int .i64 t1] 82)).alloc (.cells #[k2, .int .i64 a2, .int .i64 t2] 82)).cell? ⟨w.heap.size, 1, none⟩ = some (.int .i64 a1) := by simp [go_sem]
  have x2 : ((w.alloc (.cells #[k1, .int .i64 a1, .int .i64 t1] 82)).alloc (.cells #[k2, .int .i64 a2, .int .i64 t2] 82)).cell? ⟨w.heap.size, 2, none⟩ = some (.int .i64 t1) := by simp [go_sem]
  have y1 : ((w.alloc (.cells #[k1, .int .i64 a1, .int .i64 t1] 82)).alloc (.cells #[k2, .int .i64 a2, .int .i64 t2] 82)).cell? ⟨w.heap.size + 1, 1, none⟩ = some (.int .i64 a2) := by simp [go_sem]
  have y2 : ((w.alloc (.cells #[k1, .int .i64 a1, .int .i64 t1] 82)).alloc (.cells #[k2, .int .i64 a2, .int .i64 t2] 82)).cell? ⟨w.heap.size + 1, 2, none⟩ = some (.int .i64 t2) := by simp [go_sem]
  obtain ⟨os0, hos⟩ : ∃ os, Hid ((w.alloc (.cells #[k1, .int .i64 a1, .int .i64 t1] 82)).alloc (.cells #[k2, .int .i64 a2, .int .i64 t2] 82) = grow w os) := ⟨_, Lib.hid (by rw [alloc_eq_grow, alloc_eq_grow, grow_grow])⟩
  generalize (w.alloc (.cells #[k1, .int .i64 a1, .int .i64 t1] 82)).alloc (.cells #[k2, .int .i64 a2, .int .i64 t2] 82) = W at x1 x2 y1 y2 hos ⊢
  go_still_tail 14, (by kernel_rfl)
  still_call (compare_c _ _ _)
  repeat still_step
  still_call (compare_c _ _ _)
  refine wpStill_nil ?_
  change wpList _ _ _ _ _ W.drew
  have hE := Lib.hid (show grow (w.drewN 1) os0 = W.drew by rw [hos.out]; rfl)
  clear x1 x2 y1 y2 hos
  generalize W.drew = W2 at hE ⊢
  have HC := Lib.hid (fun (V : World) (x y : Int) => or_c V.heap.size x y (V.alloc (.cells #[.int .i64 x, .int .i64 y] 3)) (by simp [go_sem]) (by simp [go_sem]))
  have hR : (if cmpI a1 a2 ≠ 0 then cmpI a1 a2 else cmpI t1 t2) = cmpT a1 t1 a2 t2 := rfl
  generalize cmpI a1 a2 = m1 at *
  generalize cmpI t1 t2 = m2 at *
  go_wp2_with (go_at_call 35; refine (HC.out _ _ _).mono ?_; rintro e w1 ⟨rfl, rfl⟩)
  go_ret
  refine ⟨rfl, 1, os0.push (.cells #[.int .i64 m1, .int .i64 m2] 3), ?_⟩
  rw [← hE.out, alloc_eq_grow, grow_grow, Array.push_eq_append]

end Go.Proofs.Ytplaconhpiojbaa
