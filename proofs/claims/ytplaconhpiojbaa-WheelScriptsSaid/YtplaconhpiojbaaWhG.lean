/-
  cmp.Compare and cmp.Or at int; the closure by which the wheel at keys of type string sorts. Contracts over the translated program.
-/
import Derived.Test.YtplaconhpiojbaaWhE
import Derived.Shelf.SlSortCmp.WholeK
import Derived.Shelf.SlSortCmp.NoneTotal
import Derived.Lib.QuietBelow
import Derived.StillTailTactics
import Derived.Test.YtplaconhpiojbaaTst
namespace Go.Proofs.Ytplaconhpiojbaa
open Go Go.Maps Go.WideMaps
open Go.RowKit Go.Shelf Go.Lib Go.Sort
set_option linter.unusedVariables false
set_option linter.unusedSimpArgs false

/-- cmp.Compare at int. -/
def cmpI (a b : Int) : Int := if a < b then -1 else if b < a then 1 else 0
/-- The order of timers: by when they are due, then by their arming. -/
def cmpT (a1 t1 a2 t2 : Int) : Int := if cmpI a1 a2 ≠ 0 then cmpI a1 a2 else cmpI t1 t2

theorem nan_c (a : Int) (w : World) : Calls Try.prog 45 #[.int .i64 a] w fun e w' => e = .returned (.bool false) ∧ w' = w := by
  go_enter Try.func45, Try.ntmps45
  go_wp2
  go_ret
  exact ⟨by simp, rfl⟩

theorem compare_c (a b : Int) (w : World) : Calls Try.prog 36 #[.int .i64 a, .int .i64 b] w fun e w' => e = .returned (.int .i64 (cmpI a b)) ∧ w' = w := by
  have HN := fun x W => Lib.hid (nan_c x W)
  unfold cmpI
  by_cases h1 : a < b
  · have k1 : decide (a < b) = true := decide_eq_true h1
    rw [if_pos h1]
    clear h1
    go_enter Try.func36, Try.ntmps36
    go_wp2_with (go_at_call 45; refine (HN _ _).out.mono ?_; rintro e w1 ⟨rfl, rfl⟩)
    go_ret
    exact ⟨rfl, rfl⟩
  · have k1 : decide (a < b) = false := decide_eq_false h1
    rw [if_neg h1]
    by_cases h2 : b < a
    · have k2 : decide (b < a) = true := decide_eq_true h2
      have k3 : decide (a > b) = true := decide_eq_true h2
      rw [if_pos h2]
      clear h1 h2
      go_enter Try.func36, Try.ntmps36
      go_wp2_with (go_at_call 45; refine (HN _ _).out.mono ?_; rintro e w1 ⟨rfl, rfl⟩)
      go_ret
      exact ⟨rfl, rfl⟩
    · have k2 : decide (b < a) = false := decide_eq_false h2
      have k3 : decide (a > b) = false := decide_eq_false h2
      rw [if_neg h2]
      clear h1 h2
      go_enter Try.func36, Try.ntmps36
      go_wp2_with (go_at_call 45; refine (HN _ _).out.mono ?_; rintro e w1 ⟨rfl, rfl⟩)
      go_ret
      exact ⟨rfl, rfl⟩

set_option maxHeartbeats 4000000 in
set_option maxRecDepth 100000 in
theorem or_c (b : Nat) (x y : Int) (w : World) (c0 : w.cell? ⟨b, 0, none⟩ = some (.int .i64 x)) (c1 : w.cell? ⟨b, 1, none⟩ = some (.int .i64 y)) :
    Calls Try.prog 35 #[.slice (some ⟨b, 0, none⟩) 2 2] w fun e w' => e = .returned (.int .i64 (if x ≠ 0 then x else y)) ∧ w' = w := by
  by_cases hx : x = 0
  · subst hx
    rw [if_neg (by simp)]
    by_cases hy : y = 0
    · subst hy
      go_enter Try.func35, Try.ntmps35
      go_wp2_with fail
      refine wp_loop_rounds 3 ?_
      rw [rounds_succ]
      go_wp2
      rw [rounds_succ]
      go_wp2
      rw [rounds_succ]
      go_wp2
      go_ret
      exact ⟨rfl, rfl⟩
    · have k1 := ne_t hy
      obtain ⟨k2, k3⟩ := k1
      go_enter Try.func35, Try.ntmps35
      go_wp2_with fail
      refine wp_loop_rounds 3 ?_
      rw [rounds_succ]
      go_wp2
      rw [rounds_succ]
      go_wp2
      go_ret
      exact ⟨rfl, rfl⟩
  · rw [if_pos hx]
    have k1 := ne_t hx
    obtain ⟨k2, k3⟩ := k1
    go_enter Try.func35, Try.ntmps35
    go_wp2_with fail
    refine wp_loop_rounds 3 ?_
    rw [rounds_succ]
    go_wp2
    go_ret
    exact ⟨rfl, rfl⟩

set_option maxHeartbeats 8000000 in
set_option maxRecDepth 100000 in
theorem due1S_c (k1 k2 : Value) (a1 t1 a2 t2 : Int) (w : World) :
    Calls Try.prog 34 #[.agg #[k1, .int .i64 a1, .int .i64 t1], .agg #[k2, .int .i64 a2, .int .i64 t2]] w fun e w' =>
      e = .returned (.int .i64 (cmpT a1 t1 a2 t2)) ∧ ∃ q os', w' = grow (w.drewN q) os' := by
  go_enter Try.func34, Try.ntmps34
  go_upto_region 1 with fail
  have x1 : ((w.alloc (.cells #[k1, .int .i64 a1, .int .i64 t1] 69)).alloc (.cells #[k2, .int .i64 a2, .int .i64 t2] 69)).cell? ⟨w.heap.size, 1, none⟩ = some (.int .i64 a1) := by simp [go_sem]
  have x2 : ((w.alloc (.cells #[k1, .int .i64 a1, .int .i64 t1] 69)).alloc (.cells #[k2, .int .i64 a2, .int .i64 t2] 69)).cell? ⟨w.heap.size, 2, none⟩ = some (.int .i64 t1) := by simp [go_sem]
  have y1 : ((w.alloc (.cells #[k1, .int .i64 a1, .int .i64 t1] 69)).alloc (.cells #[k2, .int .i64 a2, .int .i64 t2] 69)).cell? ⟨w.heap.size + 1, 1, none⟩ = some (.int .i64 a2) := by simp [go_sem]
  have y2 : ((w.alloc (.cells #[k1, .int .i64 a1, .int .i64 t1] 69)).alloc (.cells #[k2, .int .i64 a2, .int .i64 t2] 69)).cell? ⟨w.heap.size + 1, 2, none⟩ = some (.int .i64 t2) := by simp [go_sem]
  obtain ⟨os0, hos⟩ : ∃ os, Hid ((w.alloc (.cells #[k1, .int .i64 a1, .int .i64 t1] 69)).alloc (.cells #[k2, .int .i64 a2, .int .i64 t2] 69) = grow w os) := ⟨_, Lib.hid (by rw [alloc_eq_grow, alloc_eq_grow, grow_grow])⟩
  generalize (w.alloc (.cells #[k1, .int .i64 a1, .int .i64 t1] 69)).alloc (.cells #[k2, .int .i64 a2, .int .i64 t2] 69) = W at x1 x2 y1 y2 hos ⊢
  go_still_tail 14, (by kernel_rfl)
  still_call (compare_c _ _ _)
  repeat still_step
  still_call (compare_c _ _ _)
  refine wpStill_nil ?_
  change wpList _ _ _ _ _ W.drew
  have hE := Lib.hid (show grow (w.drewN 1) os0 = W.drew by rw [hos.out]; rfl)
  clear x1 x2 y1 y2 hos
  generalize W.drew = W2 at hE ⊢
  have HC := Lib.hid (fun (V : World) (x y : Int) => or_c V.heap.size x y (V.alloc (.cells #[.int .i64 x, .int .i64 y] 3)) (by simp [go_sem]) (by simp [go_sem]))
  have hR : (if cmpI a1 a2 ≠ 0 then cmpI a1 a2 else cmpI t1 t2) = cmpT a1 t1 a2 t2 := rfl
  generalize cmpI a1 a2 = m1 at *
  generalize cmpI t1 t2 = m2 at *
  go_wp2_with (go_at_call 35; refine (HC.out _ _ _).mono ?_; rintro e w1 ⟨rfl, rfl⟩)
  go_ret
  refine ⟨rfl, 1, os0.push (.cells #[.int .i64 m1, .int .i64 m2] 3), ?_⟩
  rw [← hE.out, alloc_eq_grow, grow_grow, Array.push_eq_append]

end Go.Proofs.Ytplaconhpiojbaa
