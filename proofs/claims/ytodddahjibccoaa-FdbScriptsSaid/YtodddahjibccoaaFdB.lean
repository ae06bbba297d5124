/-
  cmp.Compare, cmp.Or; the order of stations. Contracts over the translated program.
-/
import Derived.Test.YtodddahjibccoaaFdA
import Derived.Lib.QuietBelow
import Derived.StillTailTactics
namespace Go.Proofs.Ytodddahjibccoaa
open Go Go.Maps Go.WideMaps
open Go.RowKit
set_option linter.unusedVariables false
set_option linter.unusedSimpArgs false

/-- cmp.Compare at int, at texts, of stations. -/
def cmpJ (a b : Int) : Int := if a < b then -1 else if b < a then 1 else 0
def cmpM (a b : ByteArray) : Int := if blt a b then -1 else if blt b a then 1 else 0
def cmpS (v : Int) (m : ByteArray) (v2 : Int) (m2 : ByteArray) : Int := if cmpJ v v2 ≠ 0 then cmpJ v v2 else cmpM m m2

theorem cmpS_neg (v : Int) (m : ByteArray) (v2 : Int) (m2 : ByteArray) : cmpS v m v2 m2 < 0 ↔ ltS v m v2 m2 = true := by
  rw [ltS_iff]
  unfold cmpS cmpJ cmpM
  cases h1 : blt m m2 <;> cases h2 : blt m2 m <;> simp <;> repeat' split
  all_goals (first | omega | simp_all | skip)
  all_goals omega

theorem sgtr_of {x y : ByteArray} {r : Bool} (h : blt y x = r) (t : TypeId) : binOp .gtr t (.string x) (.string y) = pure (.bool r) := by
  have e : (!Op.bytesLess x.toList y.toList && !x.toList == y.toList) = blt y x := by
    rcases h1 : blt y x with _ | _
    · rcases h2 : blt x y with _ | _
      · obtain rfl := blt_tri h1 h2
        simp
      · unfold blt at h2
        rw [h2]
        rfl
    · have h2 := blt_asym h1
      have h3 : x.toList ≠ y.toList := fun e => blt_ne h1 (bl_ext (by rw [← Lib.toList_data, ← Lib.toList_data, e])).symm
      unfold blt at h2
      rw [h2]
      simp [h3]
  rw [← h, ← e]
  simp [binOp, Op.stringOp]
/-- cmp.Or of two. -/
def orJ (x y : Int) : Int := if x ≠ 0 then x else y

theorem fnanJ_c (a : Int) (w : World) : Calls Try.prog 54 #[.int .i64 a] w fun e w' => e = .returned (.bool false) ∧ w' = w := by
  go_enter Try.func54, Try.ntmps54
  go_wp2
  go_ret
  exact ⟨by simp, rfl⟩

theorem fcompareJ_c (a b : Int) (w : World) : Calls Try.prog 40 #[.int .i64 a, .int .i64 b] w fun e w' => e = .returned (.int .i64 (cmpJ a b)) ∧ w' = w := by
  have HN := fun x W => Lib.hid (fnanJ_c x W)
  unfold cmpJ
  by_cases h1 : a < b
  · have k1 : decide (a < b) = true := decide_eq_true h1
    rw [if_pos h1]
    clear h1
    go_enter Try.func40, Try.ntmps40
    go_wp2_with (go_at_call 54; refine (HN _ _).out.mono ?_; rintro e w1 ⟨rfl, rfl⟩)
    go_ret
    exact ⟨rfl, rfl⟩
  · have k1 : decide (a < b) = false := decide_eq_false h1
    rw [if_neg h1]
    by_cases h2 : b < a
    · have k2 : decide (b < a) = true := decide_eq_true h2
      have k3 : decide (a > b) = true := decide_eq_true h2
      rw [if_pos h2]
      clear h1 h2
      go_enter Try.func40, Try.ntmps40
      go_wp2_with (go_at_call 54; refine (HN _ _).out.mono ?_; rintro e w1 ⟨rfl, rfl⟩)
      go_ret
      exact ⟨rfl, rfl⟩
    · have k2 : decide (b < a) = false := decide_eq_false h2
      have k3 : decide (a > b) = false := decide_eq_false h2
      rw [if_neg h2]
      clear h1 h2
      go_enter Try.func40, Try.ntmps40
      go_wp2_with (go_at_call 54; refine (HN _ _).out.mono ?_; rintro e w1 ⟨rfl, rfl⟩)
      go_ret
      exact ⟨rfl, rfl⟩

theorem fnanM_c (a : ByteArray) (w : World) : Calls Try.prog 55 #[.string a] w fun e w' => e = .returned (.bool false) ∧ w' = w := by
  have g1 := fun t => sneq_of (x := a) (y := a) (r := true) (decide_eq_true rfl) t
  go_enter Try.func55, Try.ntmps55
  go_wp2
  go_ret
  exact ⟨by simp, rfl⟩

theorem fcompareM_c (a b : ByteArray) (w : World) : Calls Try.prog 41 #[.string a, .string b] w fun e w' => e = .returned (.int .i64 (cmpM a b)) ∧ w' = w := by
  have HN := fun x W => Lib.hid (fnanM_c x W)
  unfold cmpM
  cases h1 : blt a b with
  | true =>
    have k1 := fun t => slss_of h1 t
    rw [if_pos rfl]
    clear h1
    go_enter Try.func41, Try.ntmps41
    go_wp2_with (go_at_call 55; refine (HN _ _).out.mono ?_; rintro e w1 ⟨rfl, rfl⟩)
    go_ret
    exact ⟨rfl, rfl⟩
  | false =>
    have k1 := fun t => slss_of h1 t
    rw [if_neg (by simp)]
    cases h2 : blt b a with
    | true =>
      have k2 := fun t => sgtr_of h2 t
      rw [if_pos rfl]
      clear h1 h2
      go_enter Try.func41, Try.ntmps41
      go_wp2_with (go_at_call 55; refine (HN _ _).out.mono ?_; rintro e w1 ⟨rfl, rfl⟩)
      go_ret
      exact ⟨rfl, rfl⟩
    | false =>
      have k2 := fun t => sgtr_of h2 t
      rw [if_neg (by simp)]
      clear h1 h2
      go_enter Try.func41, Try.ntmps41
      go_wp2_with (go_at_call 55; refine (HN _ _).out.mono ?_; rintro e w1 ⟨rfl, rfl⟩)
      go_ret
      exact ⟨rfl, rfl⟩

set_option maxHeartbeats 4000000 in
set_option maxRecDepth 100000 in
theorem forc (b : Nat) (x y : Int) (w : World) (c0 : w.cell? ⟨b, 0, none⟩ = some (.int .i64 x)) (c1 : w.cell? ⟨b, 1, none⟩ = some (.int .i64 y)) :
    Calls Try.prog 39 #[.slice (some ⟨b, 0, none⟩) 2 2] w fun e w' => e = .returned (.int .i64 (orJ x y)) ∧ w' = w := by
  unfold orJ
  by_cases hx : x = 0
  · subst hx
    rw [if_neg (by simp)]
    by_cases hy : y = 0
    · subst hy
      go_enter Try.func39, Try.ntmps39
      go_wp2_with fail
      refine wp_loop_rounds 3 ?_
      rw [rounds_succ]
      go_wp2
      rw [rounds_succ]
      go_wp2
      rw [rounds_succ]
      go_wp2
      go_ret
      exact ⟨rfl, rfl⟩
    · have k1 := ne_t hy
      obtain ⟨k2, k3⟩ := k1
      go_enter Try.func39, Try.ntmps39
      go_wp2_with fail
      refine wp_loop_rounds 3 ?_
      rw [rounds_succ]
      go_wp2
      rw [rounds_succ]
      go_wp2
      go_ret
      exact ⟨rfl, rfl⟩
  · rw [if_pos hx]
    have k1 := ne_t hx
    obtain ⟨k2, k3⟩ := k1
    go_enter Try.func39, Try.ntmps39
    go_wp2_with fail
    refine wp_loop_rounds 3 ?_
    rw [rounds_succ]
    go_wp2
    go_ret
    exact ⟨rfl, rfl⟩

set_option maxHeartbeats 8000000 in
set_option maxRecDepth 100000 in
theorem bySt_c (v : Int) (m : ByteArray) (v2 : Int) (m2 : ByteArray) (w : World) :
    Calls Try.prog 23 #[.agg #[.int .i64 v, .string m], .agg #[.int .i64 v2, .string m2]] w fun e w' => e = .returned (.int .i64 (cmpS v m v2 m2)) ∧ ∃ q os', w' = Go.Sort.grow (w.drewN q) os' := by
  go_enter Try.func23, Try.ntmps23
  go_upto_region 1 with fail
  have x1 : ((w.alloc (.cells #[.int .i64 v, .string m] 52)).alloc (.cells #[.int .i64 v2, .string m2] 52)).cell? ⟨w.heap.size, 0, none⟩ = some (.int .i64 v) := by simp [go_sem]
  have x2 : ((w.alloc (.cells #[.int .i64 v, .string m] 52)).alloc (.cells #[.int .i64 v2, .string m2] 52)).cell? ⟨w.heap.size, 1, none⟩ = some (.string m) := by simp [go_sem]
  have y1 : ((w.alloc (.cells #[.int .i64 v, .string m] 52)).alloc (.cells #[.int .i64 v2, .string m2] 52)).cell? ⟨w.heap.size + 1, 0, none⟩ = some (.int .i64 v2) := by simp [go_sem]
  have y2 : ((w.alloc (.cells #[.int .i64 v, .string m] 52)).alloc (.cells #[.int .i64 v2, .string m2] 52)).cell? ⟨w.heap.size + 1, 1, none⟩ = some (.string m2) := by simp [go_sem]
  obtain ⟨os0, hos⟩ : ∃ os, Hid (((w.alloc (.cells #[.int .i64 v, .string m] 52)).alloc (.cells #[.int .i64 v2, .string m2] 52)) = Go.Sort.grow w os) := ⟨_, Lib.hid (by rw [Go.Sort.alloc_eq_grow, Go.Sort.alloc_eq_grow, Go.Sort.grow_grow])⟩
  generalize ((w.alloc (.cells #[.int .i64 v, .string m] 52)).alloc (.cells #[.int .i64 v2, .string m2] 52)) = W at x1 x2 y1 y2 hos ⊢
  go_still_tail 10, (by kernel_rfl)
  repeat (first | still_call (fcompareJ_c _ _ _) | still_call (fcompareM_c _ _ _) | still_step)
  refine wpStill_nil ?_
  change wpList _ _ _ _ _ W.drew
  have hE := Lib.hid (show Go.Sort.grow (w.drewN 1) os0 = W.drew by rw [hos.out]; rfl)
  clear x1 x2 y1 y2 hos
  generalize W.drew = W2 at hE ⊢
  have HC := Lib.hid (fun (V : World) (x y : Int) => forc V.heap.size x y (V.alloc (.cells #[.int .i64 x, .int .i64 y] 3)) (by simp [go_sem]) (by simp [go_sem]))
  have hR := Lib.hid (show orJ (cmpJ v v2) (cmpM m m2) = cmpS v m v2 m2 from rfl)
  generalize cmpJ v v2 = m1 at *
  generalize cmpM m m2 = m2' at *
  go_wp2_with (go_at_call 39; refine (HC.out _ _ _).mono ?_; rintro e w1 ⟨rfl, rfl⟩)
  go_ret
  refine ⟨by rw [← hR.out]; rfl, 1, os0.push (.cells #[.int .i64 m1, .int .i64 m2'] 3), ?_⟩
  rw [← hE.out, Go.Sort.alloc_eq_grow, Go.Sort.grow_grow, Array.push_eq_append]

theorem below_grow (w : World) (q : Nat) (os : Array Obj) : Below w.heap.size w (Go.Sort.grow (w.drewN q) os) :=
  ⟨rfl, rfl, rfl, by simp [Go.Sort.grow, World.drewN], fun k hk => by simp [Go.Sort.grow, World.drewN, Array.getElem?_append, hk]⟩
theorem bySt_b (v : Int) (m : ByteArray) (v2 : Int) (m2 : ByteArray) (w : World) :
    Calls Try.prog 23 #[.agg #[.int .i64 v, .string m], .agg #[.int .i64 v2, .string m2]] w fun e w' => e = .returned (.int .i64 (cmpS v m v2 m2)) ∧ Below w.heap.size w w' := by
  refine (bySt_c v m v2 m2 w).mono ?_
  rintro e w' ⟨rfl, q, os, rfl⟩
  exact ⟨rfl, below_grow w q os⟩

end Go.Proofs.Ytodddahjibccoaa
