/-
  prio.Compare, prio.Own, prio.Through, and the document's. Contracts over the translated program.
-/
import Derived.Test.YtolmkflhddlcnaaProg
import Derived.Test.YtolmkflhddlcnaaPrS
import Derived.Test.YtolmkflhddlcnaaTst
import Derived.Test.YtolmkflhddlcnaaKit
import Derived.Below
import Derived.Lib.QuietBelow
import Derived.StillTailTactics
import Derived.Deep.Cut
import Derived.RegionTactic
import Derived.Lib.Hide
namespace Go.Proofs.Ytolmkflhddlcnaa
open Go.RowKit
set_option linter.unusedVariables false
set_option linter.unusedSimpArgs false

theorem nanI_c (a : Int) (w : World) : Calls Try.prog 50 #[.int .i64 a] w fun e w' => e = .returned (.bool false) ∧ w' = w := by
  go_enter Try.func50, Try.ntmps50
  go_wp2
  go_ret
  exact ⟨by simp, rfl⟩

theorem compareI_c (a b : Int) (w : World) : Calls Try.prog 38 #[.int .i64 a, .int .i64 b] w fun e w' => e = .returned (.int .i64 (cmpN a b)) ∧ w' = w := by
  have HN := fun x W => Lib.hid (nanI_c x W)
  unfold cmpN
  by_cases h1 : a < b
  · have k1 : decide (a < b) = true := decide_eq_true h1
    rw [if_pos h1]
    clear h1
    go_enter Try.func38, Try.ntmps38
    go_wp2_with (go_at_call 50; refine (HN _ _).out.mono ?_; rintro e w1 ⟨rfl, rfl⟩)
    go_ret
    exact ⟨rfl, rfl⟩
  · have k1 : decide (a < b) = false := decide_eq_false h1
    rw [if_neg h1]
    by_cases h2 : b < a
    · have k2 : decide (b < a) = true := decide_eq_true h2
      have k3 : decide (a > b) = true := decide_eq_true h2
      rw [if_pos h2]
      clear h1 h2
      go_enter Try.func38, Try.ntmps38
      go_wp2_with (go_at_call 50; refine (HN _ _).out.mono ?_; rintro e w1 ⟨rfl, rfl⟩)
      go_ret
      exact ⟨rfl, rfl⟩
    · have k2 : decide (b < a) = false := decide_eq_false h2
      have k3 : decide (a > b) = false := decide_eq_false h2
      rw [if_neg h2]
      clear h1 h2
      go_enter Try.func38, Try.ntmps38
      go_wp2_with (go_at_call 50; refine (HN _ _).out.mono ?_; rintro e w1 ⟨rfl, rfl⟩)
      go_ret
      exact ⟨rfl, rfl⟩

theorem nanU_c (a : Int) (w : World) : Calls Try.prog 66 #[.int .u64 a] w fun e w' => e = .returned (.bool false) ∧ w' = w := by
  go_enter Try.func66, Try.ntmps66
  go_wp2
  go_ret
  exact ⟨by simp, rfl⟩

theorem compareU_c (a b : Int) (w : World) : Calls Try.prog 53 #[.int .u64 a, .int .u64 b] w fun e w' => e = .returned (.int .i64 (cmpN a b)) ∧ w' = w := by
  have HN := fun x W => Lib.hid (nanU_c x W)
  unfold cmpN
  by_cases h1 : a < b
  · have k1 : decide (a < b) = true := decide_eq_true h1
    rw [if_pos h1]
    clear h1
    go_enter Try.func53, Try.ntmps53
    go_wp2_with (go_at_call 66; refine (HN _ _).out.mono ?_; rintro e w1 ⟨rfl, rfl⟩)
    go_ret
    exact ⟨rfl, rfl⟩
  · have k1 : decide (a < b) = false := decide_eq_false h1
    rw [if_neg h1]
    by_cases h2 : b < a
    · have k2 : decide (b < a) = true := decide_eq_true h2
      have k3 : decide (a > b) = true := decide_eq_true h2
      rw [if_pos h2]
      clear h1 h2
      go_enter Try.func53, Try.ntmps53
      go_wp2_with (go_at_call 66; refine (HN _ _).out.mono ?_; rintro e w1 ⟨rfl, rfl⟩)
      go_ret
      exact ⟨rfl, rfl⟩
    · have k2 : decide (b < a) = false := decide_eq_false h2
      have k3 : decide (a > b) = false := decide_eq_false h2
      rw [if_neg h2]
      clear h1 h2
      go_enter Try.func53, Try.ntmps53
      go_wp2_with (go_at_call 66; refine (HN _ _).out.mono ?_; rintro e w1 ⟨rfl, rfl⟩)
      go_ret
      exact ⟨rfl, rfl⟩

set_option maxHeartbeats 4000000 in
set_option maxRecDepth 100000 in
theorem first4_c (b : Nat) (x0 x1 x2 x3 : Int) (w : World) (c0 : w.cell? ⟨b, 0, none⟩ = some (.int .i64 x0)) (c1 : w.cell? ⟨b, 1, none⟩ = some (.int .i64 x1)) (c2 : w.cell? ⟨b, 2, none⟩ = some (.int .i64 x2)) (c3 : w.cell? ⟨b, 3, none⟩ = some (.int .i64 x3)) :
    Calls Try.prog 52 #[.slice (some ⟨b, 0, none⟩) 4 4] w fun e w' => e = .returned (.int .i64 (fst4 x0 x1 x2 x3)) ∧ w' = w := by
  unfold fst4
  by_cases h0 : x0 = 0
  · subst h0
    rw [if_neg (by simp)]
    by_cases h1 : x1 = 0
    · subst h1
      rw [if_neg (by simp)]
      by_cases h2 : x2 = 0
      · subst h2
        rw [if_neg (by simp)]
        by_cases h3 : x3 = 0
        · subst h3
          go_enter Try.func52, Try.ntmps52
          go_wp2_with fail
          refine wp_loop_rounds 5 ?_
          rw [rounds_succ]
          go_wp2
          rw [rounds_succ]
          go_wp2
          rw [rounds_succ]
          go_wp2
          rw [rounds_succ]
          go_wp2
          rw [rounds_succ]
          go_wp2
          go_ret
          exact ⟨rfl, rfl⟩
        · obtain ⟨k2, k3⟩ := ne_t h3
          go_enter Try.func52, Try.ntmps52
          go_wp2_with fail
          refine wp_loop_rounds 5 ?_
          rw [rounds_succ]
          go_wp2
          rw [rounds_succ]
          go_wp2
          rw [rounds_succ]
          go_wp2
          rw [rounds_succ]
          go_wp2
          go_ret
          exact ⟨rfl, rfl⟩
      · obtain ⟨k2, k3⟩ := ne_t h2
        rw [if_pos h2]
        go_enter Try.func52, Try.ntmps52
        go_wp2_with fail
        refine wp_loop_rounds 5 ?_
        rw [rounds_succ]
        go_wp2
        rw [rounds_succ]
        go_wp2
        rw [rounds_succ]
        go_wp2
        go_ret
        exact ⟨rfl, rfl⟩
    · obtain ⟨k2, k3⟩ := ne_t h1
      rw [if_pos h1]
      go_enter Try.func52, Try.ntmps52
      go_wp2_with fail
      refine wp_loop_rounds 5 ?_
      rw [rounds_succ]
      go_wp2
      rw [rounds_succ]
      go_wp2
      go_ret
      exact ⟨rfl, rfl⟩
  · obtain ⟨k2, k3⟩ := ne_t h0
    rw [if_pos h0]
    go_enter Try.func52, Try.ntmps52
    go_wp2_with fail
    refine wp_loop_rounds 5 ?_
    rw [rounds_succ]
    go_wp2
    go_ret
    exact ⟨rfl, rfl⟩

set_option maxHeartbeats 8000000 in
set_option maxRecDepth 100000 in
theorem pcmp_c (r1 c1 b1 p1 r2 c2 b2 p2 : Int) (w : World) :
    Calls Try.prog 41 #[.agg #[.int .u64 r1, .int .i64 c1, .int .u64 b1, .int .i64 p1], .agg #[.int .u64 r2, .int .i64 c2, .int .u64 b2, .int .i64 p2]] w fun e w' => e = .returned (.int .i64 (cmpV (r1, c1, b1, p1) (r2, c2, b2, p2))) ∧ Below w.heap.size w w' := by
  go_enter Try.func41, Try.ntmps41
  go_upto_region 1 with fail
  have xr1 : ((w.alloc (.cells #[.int .u64 r1, .int .i64 c1, .int .u64 b1, .int .i64 p1] 79)).alloc (.cells #[.int .u64 r2, .int .i64 c2, .int .u64 b2, .int .i64 p2] 79)).cell? ⟨w.heap.size, 0, none⟩ = some (.int .u64 r1) := by simp [go_sem]
  have xr2 : ((w.alloc (.cells #[.int .u64 r1, .int .i64 c1, .int .u64 b1, .int .i64 p1] 79)).alloc (.cells #[.int .u64 r2, .int .i64 c2, .int .u64 b2, .int .i64 p2] 79)).cell? ⟨w.heap.size + 1, 0, none⟩ = some (.int .u64 r2) := by simp [go_sem]
  have xc1 : ((w.alloc (.cells #[.int .u64 r1, .int .i64 c1, .int .u64 b1, .int .i64 p1] 79)).alloc (.cells #[.int .u64 r2, .int .i64 c2, .int .u64 b2, .int .i64 p2] 79)).cell? ⟨w.heap.size, 1, none⟩ = some (.int .i64 c1) := by simp [go_sem]
  have xc2 : ((w.alloc (.cells #[.int .u64 r1, .int .i64 c1, .int .u64 b1, .int .i64 p1] 79)).alloc (.cells #[.int .u64 r2, .int .i64 c2, .int .u64 b2, .int .i64 p2] 79)).cell? ⟨w.heap.size + 1, 1, none⟩ = some (.int .i64 c2) := by simp [go_sem]
  have xb1 : ((w.alloc (.cells #[.int .u64 r1, .int .i64 c1, .int .u64 b1, .int .i64 p1] 79)).alloc (.cells #[.int .u64 r2, .int .i64 c2, .int .u64 b2, .int .i64 p2] 79)).cell? ⟨w.heap.size, 2, none⟩ = some (.int .u64 b1) := by simp [go_sem]
  have xb2 : ((w.alloc (.cells #[.int .u64 r1, .int .i64 c1, .int .u64 b1, .int .i64 p1] 79)).alloc (.cells #[.int .u64 r2, .int .i64 c2, .int .u64 b2, .int .i64 p2] 79)).cell? ⟨w.heap.size + 1, 2, none⟩ = some (.int .u64 b2) := by simp [go_sem]
  have xp1 : ((w.alloc (.cells #[.int .u64 r1, .int .i64 c1, .int .u64 b1, .int .i64 p1] 79)).alloc (.cells #[.int .u64 r2, .int .i64 c2, .int .u64 b2, .int .i64 p2] 79)).cell? ⟨w.heap.size, 3, none⟩ = some (.int .i64 p1) := by simp [go_sem]
  have xp2 : ((w.alloc (.cells #[.int .u64 r1, .int .i64 c1, .int .u64 b1, .int .i64 p1] 79)).alloc (.cells #[.int .u64 r2, .int .i64 c2, .int .u64 b2, .int .i64 p2] 79)).cell? ⟨w.heap.size + 1, 3, none⟩ = some (.int .i64 p2) := by simp [go_sem]
  have hB := Lib.hid (((Below.refl w.heap.size w).alloc (Nat.le_refl _) (.cells #[.int .u64 r1, .int .i64 c1, .int .u64 b1, .int .i64 p1] 79)).alloc (by simp) (.cells #[.int .u64 r2, .int .i64 c2, .int .u64 b2, .int .i64 p2] 79))
  generalize ((w.alloc (.cells #[.int .u64 r1, .int .i64 c1, .int .u64 b1, .int .i64 p1] 79)).alloc (.cells #[.int .u64 r2, .int .i64 c2, .int .u64 b2, .int .i64 p2] 79)) = W at xr1 xr2 xc1 xc2 xb1 xb2 xp1 xp2 hB ⊢
  go_still_tail 20, (by kernel_rfl)
  repeat (first | still_call (compareU_c _ _ _) | still_call (compareI_c _ _ _) | still_step)
  refine wpStill_nil ?_
  change wpList _ _ _ _ _ W.drew
  have hB2 := Lib.hid hB.out.drew
  clear xr1 xr2 xc1 xc2 xb1 xb2 xp1 xp2 hB
  generalize W.drew = W2 at hB2 ⊢
  have HC := Lib.hid (fun (V : World) (x0 x1 x2 x3 : Int) => first4_c V.heap.size x0 x1 x2 x3 (V.alloc (.cells #[.int .i64 x0, .int .i64 x1, .int .i64 x2, .int .i64 x3] 3)) (by simp [go_sem]) (by simp [go_sem]) (by simp [go_sem]) (by simp [go_sem]))
  have hR : fst4 (cmpN r1 r2) (cmpN c1 c2) (cmpN b1 b2) (cmpN p1 p2) = cmpV (r1, c1, b1, p1) (r2, c2, b2, p2) := rfl
  generalize cmpN r1 r2 = m0 at *
  generalize cmpN c1 c2 = m1 at *
  generalize cmpN b1 b2 = m2 at *
  generalize cmpN p1 p2 = m3 at *
  have HR := Lib.hid hR
  clear hR
  go_wp2_with (go_at_call 52; refine (HC.out _ _ _ _ _).mono ?_; rintro e w1 ⟨rfl, rfl⟩)
  go_ret
  exact ⟨by rw [← HR.out]; rfl, hB2.out.alloc hB2.out.size _⟩

set_option maxHeartbeats 8000000 in
set_option maxRecDepth 100000 in
theorem rcmp_c (r1 c1 b1 p1 r2 c2 b2 p2 : Int) (w : World) :
    Calls Try.prog 46 #[.agg #[.int .u64 r1, .int .i64 c1, .int .u64 b1, .int .i64 p1], .agg #[.int .u64 r2, .int .i64 c2, .int .u64 b2, .int .i64 p2]] w fun e w' => e = .returned (.int .i64 (cmpV (r1, c1, b1, p1) (r2, c2, b2, p2))) ∧ Below w.heap.size w w' := by
  have hB := Lib.hid (((Below.refl w.heap.size w).alloc (Nat.le_refl _) (.cells #[.int .u64 r1, .int .i64 c1, .int .u64 b1, .int .i64 p1] 79)).alloc (by simp) (.cells #[.int .u64 r2, .int .i64 c2, .int .u64 b2, .int .i64 p2] 79))
  have hV : ∀ n, Hid (((r1 < r2 ∧ n = -1) ∨ (r2 < r1 ∧ n = 1) ∨ (r1 = r2 ∧ ((c1 < c2 ∧ n = -1) ∨ (c2 < c1 ∧ n = 1) ∨ (c1 = c2 ∧ ((b1 < b2 ∧ n = -1) ∨ (b2 < b1 ∧ n = 1) ∨ (b1 = b2 ∧ ((p1 < p2 ∧ n = -1) ∨ (p2 < p1 ∧ n = 1) ∨ (p1 = p2 ∧ n = 0)))))))) → n = cmpV (r1, c1, b1, p1) (r2, c2, b2, p2)) := by
    intro n
    refine Lib.hid fun h => ?_
    unfold cmpV fst4 cmpN
    simp only
    repeat' split
    all_goals omega
  generalize cmpV (r1, c1, b1, p1) (r2, c2, b2, p2) = res at hV ⊢
  go_enter Try.func46, Try.ntmps46
  go_wp2_with fail
  all_goals go_ret
  all_goals (first
    | (have e := (hV (-1)).out (by simp only [bne_iff_ne, ne_eq, decide_eq_true_eq, decide_eq_false_iff_not, bne_eq_false_iff_eq, Bool.not_eq_true, and_true] at *; omega); subst e; exact ⟨rfl, hB.out⟩)
    | (have e := (hV 1).out (by simp only [bne_iff_ne, ne_eq, decide_eq_true_eq, decide_eq_false_iff_not, bne_eq_false_iff_eq, Bool.not_eq_true, and_true] at *; omega); subst e; exact ⟨rfl, hB.out⟩)
    | (have e := (hV 0).out (by simp only [bne_iff_ne, ne_eq, decide_eq_true_eq, decide_eq_false_iff_not, bne_eq_false_iff_eq, Bool.not_eq_true, and_true] at *; omega); subst e; exact ⟨rfl, hB.out⟩))

theorem pown_c (b : Int) (w : World) : Calls Try.prog 39 #[.int .u64 b] w fun e w' => e = .returned (.agg #[.int .u64 b, .int .i64 0, .int .u64 b, .int .i64 0]) ∧ Below w.heap.size w w' := by
  have hB := fun o => Lib.hid ((Below.refl w.heap.size w).alloc (Nat.le_refl _) o)
  go_enter Try.func39, Try.ntmps39
  go_wp2_with fail
  refine bodyPost_ret (v := .agg #[.int .u64 b, .int .i64 0, .int .u64 b, .int .i64 0]) (by simp [results, Try.results39, go_sem]) rfl ⟨rfl, ?_⟩
  exact (hB _).out

theorem rown_c (b : Int) (w : World) : Calls Try.prog 44 #[.int .u64 b] w fun e w' => e = .returned (.agg #[.int .u64 b, .int .i64 0, .int .u64 b, .int .i64 0]) ∧ Below w.heap.size w w' := by
  have hB := fun o => Lib.hid ((Below.refl w.heap.size w).alloc (Nat.le_refl _) o)
  go_enter Try.func44, Try.ntmps44
  go_wp2_with fail
  refine bodyPost_ret (v := .agg #[.int .u64 b, .int .i64 0, .int .u64 b, .int .i64 0]) (by simp [results, Try.results44, go_sem]) rfl ⟨rfl, ?_⟩
  exact (hB _).out

set_option maxHeartbeats 4000000 in
set_option maxRecDepth 100000 in
theorem pthr_no (r c b p k : Int) (w : World) (h : badW c k = true) : Calls Try.prog 65 #[.agg #[.int .u64 r, .int .i64 c, .int .u64 b, .int .i64 p], .int .i64 k] w fun e w' =>
    e = .returned (.tuple #[.agg #[.int .u64 0, .int .i64 0, .int .u64 0, .int .i64 0], .int .i64 1]) ∧ Below w.heap.size w w' := by
  have hB := fun o1 o2 => Lib.hid (((Below.refl w.heap.size w).alloc (Nat.le_refl _) o1).alloc (by simp) o2)
  unfold badW at h
  simp only [Bool.or_eq_true, decide_eq_true_eq] at h
  rcases Int.lt_or_le k 1 with h1 | h1
  · have d1 : decide (k < 1) = true := decide_eq_true h1
    clear h h1
    go_enter Try.func65, Try.ntmps65
    go_wp2_with fail
    refine bodyPost_ret (v := .tuple #[.agg #[.int .u64 0, .int .i64 0, .int .u64 0, .int .i64 0], .int .i64 1]) (by simp [results, Try.results65, go_sem]) rfl ⟨rfl, ?_⟩
    exact (hB _ _).out
  · have d1 : decide (k < 1) = false := decide_eq_false (by omega)
    rcases Int.lt_or_le 200000000 k with h2 | h2
    · have d2 : decide (200000000 < k) = true := decide_eq_true h2
      clear h h1 h2
      go_enter Try.func65, Try.ntmps65
      go_wp2_with fail
      refine bodyPost_ret (v := .tuple #[.agg #[.int .u64 0, .int .i64 0, .int .u64 0, .int .i64 0], .int .i64 1]) (by simp [results, Try.results65, go_sem]) rfl ⟨rfl, ?_⟩
      exact (hB _ _).out
    · have d2 : decide (200000000 < k) = false := decide_eq_false (by omega)
      rcases Int.lt_or_le c 0 with h3 | h3
      · have d3 : decide (c < 0) = true := decide_eq_true h3
        clear h h1 h2 h3
        go_enter Try.func65, Try.ntmps65
        go_wp2_with fail
        refine bodyPost_ret (v := .tuple #[.agg #[.int .u64 0, .int .i64 0, .int .u64 0, .int .i64 0], .int .i64 1]) (by simp [results, Try.results65, go_sem]) rfl ⟨rfl, ?_⟩
        exact (hB _ _).out
      · have d3 : decide (c < 0) = false := decide_eq_false (by omega)
        have d4 : decide (4294967295 < c) = true := decide_eq_true (by omega)
        clear h h1 h2 h3
        go_enter Try.func65, Try.ntmps65
        go_wp2_with fail
        refine bodyPost_ret (v := .tuple #[.agg #[.int .u64 0, .int .i64 0, .int .u64 0, .int .i64 0], .int .i64 1]) (by simp [results, Try.results65, go_sem]) rfl ⟨rfl, ?_⟩
        exact (hB _ _).out

set_option maxHeartbeats 4000000 in
set_option maxRecDepth 100000 in
theorem pthr_ok (r c b p k : Int) (w : World) (h : badW c k = false) : Calls Try.prog 65 #[.agg #[.int .u64 r, .int .i64 c, .int .u64 b, .int .i64 p], .int .i64 k] w fun e w' =>
    e = .returned (.tuple #[.agg #[.int .u64 r, .int .i64 (farC c k), .int .u64 b, .int .i64 p], .int .i64 0]) ∧ Below w.heap.size w w' := by
  have hB := fun o1 o2 => Lib.hid (((Below.refl w.heap.size w).alloc (Nat.le_refl _) o1).alloc (by simp) o2)
  unfold badW at h
  simp only [Bool.or_eq_false_iff, decide_eq_false_iff_not] at h
  obtain ⟨⟨⟨h1, h2⟩, h3⟩, h4⟩ := h
  have d1 : decide (k < 1) = false := decide_eq_false h1
  have d2 : decide (200000000 < k) = false := decide_eq_false h2
  have d3 : decide (c < 0) = false := decide_eq_false h3
  have d4 : decide (4294967295 < c) = false := decide_eq_false h4
  have hw : IntKind.i64.wrap (c + k) = c + k := IntWalk.i64_in _ (by omega)
  unfold farC
  rcases Int.lt_or_le 4294967295 (c + k) with h5 | h5
  · rw [if_neg (by omega)]
    have e5 : decide (4294967295 < c + k) = true := decide_eq_true h5
    have e6 : decide (c + k < 4294967295) = false := decide_eq_false (by omega)
    have e7 : min (c + k) 4294967295 = 4294967295 := by omega
    go_enter Try.func65, Try.ntmps65
    go_wp2_with fail
    refine bodyPost_ret (v := .tuple #[.agg #[.int .u64 r, .int .i64 4294967295, .int .u64 b, .int .i64 p], .int .i64 0]) (by simp [results, Try.results65, go_sem, e7]) rfl ⟨rfl, ?_⟩
    exact (hB _ _).out
  · rw [if_pos (by omega)]
    have e5 : decide (4294967295 < c + k) = false := decide_eq_false (by omega)
    have e7 : min (c + k) 4294967295 = c + k := by omega
    go_enter Try.func65, Try.ntmps65
    go_wp2_with fail
    refine bodyPost_ret (v := .tuple #[.agg #[.int .u64 r, .int .i64 (c + k), .int .u64 b, .int .i64 p], .int .i64 0]) (by simp [results, Try.results65, go_sem, e7]) rfl ⟨rfl, ?_⟩
    exact (hB _ _).out

set_option maxHeartbeats 4000000 in
set_option maxRecDepth 100000 in
theorem rthr_no (r c b p k : Int) (w : World) (h : badW c k = true) : Calls Try.prog 54 #[.agg #[.int .u64 r, .int .i64 c, .int .u64 b, .int .i64 p], .int .i64 k] w fun e w' =>
    e = .returned (.tuple #[.agg #[.int .u64 0, .int .i64 0, .int .u64 0, .int .i64 0], .int .i64 1]) ∧ Below w.heap.size w w' := by
  have hB := fun o1 o2 => Lib.hid (((Below.refl w.heap.size w).alloc (Nat.le_refl _) o1).alloc (by simp) o2)
  unfold badW at h
  simp only [Bool.or_eq_true, decide_eq_true_eq] at h
  rcases Int.lt_or_le k 1 with h1 | h1
  · have d1 : decide (k < 1) = true := decide_eq_true h1
    clear h h1
    go_enter Try.func54, Try.ntmps54
    go_wp2_with fail
    refine bodyPost_ret (v := .tuple #[.agg #[.int .u64 0, .int .i64 0, .int .u64 0, .int .i64 0], .int .i64 1]) (by simp [results, Try.results54, go_sem]) rfl ⟨rfl, ?_⟩
    exact (hB _ _).out
  · have d1 : decide (k < 1) = false := decide_eq_false (by omega)
    rcases Int.lt_or_le 200000000 k with h2 | h2
    · have d2 : decide (200000000 < k) = true := decide_eq_true h2
      clear h h1 h2
      go_enter Try.func54, Try.ntmps54
      go_wp2_with fail
      refine bodyPost_ret (v := .tuple #[.agg #[.int .u64 0, .int .i64 0, .int .u64 0, .int .i64 0], .int .i64 1]) (by simp [results, Try.results54, go_sem]) rfl ⟨rfl, ?_⟩
      exact (hB _ _).out
    · have d2 : decide (200000000 < k) = false := decide_eq_false (by omega)
      rcases Int.lt_or_le c 0 with h3 | h3
      · have d3 : decide (c < 0) = true := decide_eq_true h3
        clear h h1 h2 h3
        go_enter Try.func54, Try.ntmps54
        go_wp2_with fail
        refine bodyPost_ret (v := .tuple #[.agg #[.int .u64 0, .int .i64 0, .int .u64 0, .int .i64 0], .int .i64 1]) (by simp [results, Try.results54, go_sem]) rfl ⟨rfl, ?_⟩
        exact (hB _ _).out
      · have d3 : decide (c < 0) = false := decide_eq_false (by omega)
        have d4 : decide (4294967295 < c) = true := decide_eq_true (by omega)
        clear h h1 h2 h3
        go_enter Try.func54, Try.ntmps54
        go_wp2_with fail
        refine bodyPost_ret (v := .tuple #[.agg #[.int .u64 0, .int .i64 0, .int .u64 0, .int .i64 0], .int .i64 1]) (by simp [results, Try.results54, go_sem]) rfl ⟨rfl, ?_⟩
        exact (hB _ _).out

set_option maxHeartbeats 4000000 in
set_option maxRecDepth 100000 in
theorem rthr_ok (r c b p k : Int) (w : World) (h : badW c k = false) : Calls Try.prog 54 #[.agg #[.int .u64 r, .int .i64 c, .int .u64 b, .int .i64 p], .int .i64 k] w fun e w' =>
    e = .returned (.tuple #[.agg #[.int .u64 r, .int .i64 (farC c k), .int .u64 b, .int .i64 p], .int .i64 0]) ∧ Below w.heap.size w w' := by
  have hB := fun o1 o2 => Lib.hid (((Below.refl w.heap.size w).alloc (Nat.le_refl _) o1).alloc (by simp) o2)
  unfold badW at h
  simp only [Bool.or_eq_false_iff, decide_eq_false_iff_not] at h
  obtain ⟨⟨⟨h1, h2⟩, h3⟩, h4⟩ := h
  have d1 : decide (k < 1) = false := decide_eq_false h1
  have d2 : decide (200000000 < k) = false := decide_eq_false h2
  have d3 : decide (c < 0) = false := decide_eq_false h3
  have d4 : decide (4294967295 < c) = false := decide_eq_false h4
  have hw : IntKind.i64.wrap (c + k) = c + k := IntWalk.i64_in _ (by omega)
  unfold farC
  rcases Int.lt_or_le 4294967295 (c + k) with h5 | h5
  · rw [if_neg (by omega)]
    have e5 : decide (4294967295 < c + k) = true := decide_eq_true h5
    have e6 : decide (c + k < 4294967295) = false := decide_eq_false (by omega)
    have e7 : min (c + k) 4294967295 = 4294967295 := by omega
    go_enter Try.func54, Try.ntmps54
    go_wp2_with fail
    refine bodyPost_ret (v := .tuple #[.agg #[.int .u64 r, .int .i64 4294967295, .int .u64 b, .int .i64 p], .int .i64 0]) (by simp [results, Try.results54, go_sem, e7]) rfl ⟨rfl, ?_⟩
    exact (hB _ _).out
  · rw [if_pos (by omega)]
    have e5 : decide (4294967295 < c + k) = false := decide_eq_false (by omega)
    have e7 : min (c + k) 4294967295 = c + k := by omega
    go_enter Try.func54, Try.ntmps54
    go_wp2_with fail
    refine bodyPost_ret (v := .tuple #[.agg #[.int .u64 r, .int .i64 (c + k), .int .u64 b, .int .i64 p], .int .i64 0]) (by simp [results, Try.results54, go_sem, e7]) rfl ⟨rfl, ?_⟩
    exact (hB _ _).out

end Go.Proofs.Ytolmkflhddlcnaa
