/-
  The document's table: Learn: what it refuses, what it knows. Contracts over the translated program.
-/
import Derived.Test.YtodddahjibccoaaFdT
namespace Go.Proofs.Ytodddahjibccoaa
open Go Go.Maps Go.WideMaps
open Go.RowKit
set_option linter.unusedVariables false
set_option linter.unusedSimpArgs false

variable {w : World} {B q : Nat} {room age : Int} {R : List E4} {lv : Value}
theorem set_eq {R : List E4} (hu : UpF R) {k : Nat} {x : E4} (hx : R[k]? = some x) {v : Int} {m : ByteArray} (h : sameE x v m = true) (a b : Int) : setF R v m (a, b) = R.set k (v, m, a, b) := by
  obtain ⟨hk, hxk⟩ := List.getElem?_eq_some_iff.1 hx
  obtain ⟨e1, e2⟩ := (same_iff _ _ _).1 h
  unfold setF
  apply List.ext_getElem
  · simp
  · intro j h1 h2
    have hj : j < R.length := by simpa using h1
    rw [List.getElem_map, List.getElem_set]
    by_cases e : k = j
    · subst e
      rw [if_pos rfl, hxk, if_pos h]
    · rw [if_neg e, if_neg]
      intro h3
      obtain ⟨e3, e4⟩ := (same_iff _ _ _).1 h3
      have hp := List.pairwise_iff_getElem.1 hu
      rcases Nat.lt_or_gt_of_ne e with h4 | h4
      · have := hp k j hk hj h4
        rw [hxk] at this
        exact ltS_ne this ⟨e1.trans e3.symm, e2.trans e4.symm⟩
      · have := hp j k hj hk h4
        rw [hxk] at this
        exact ltS_ne this ⟨e3.trans e1.symm, e4.trans e2.symm⟩
theorem first_same (R : List E4) (v : Int) (m : ByteArray) : NoF R (fun x => sameE x v m) R.length ∨ ∃ k y, NoF R (fun x => sameE x v m) k ∧ R[k]? = some y ∧ sameE y v m = true := by
  have key : ∀ k, k ≤ R.length → NoF R (fun x => sameE x v m) k ∨ ∃ k y, NoF R (fun x => sameE x v m) k ∧ R[k]? = some y ∧ sameE y v m = true := by
    intro k
    induction k with
    | zero => intro _; exact Or.inl (NoF.zero _ _)
    | succ k ih =>
      intro hk
      rcases ih (by omega) with h | h
      · obtain ⟨x, hx⟩ := some_at (show k < R.length by omega)
        cases e : sameE x v m with
        | true => exact Or.inr ⟨k, x, h, hx, e⟩
        | false => exact Or.inl (h.succ hx e)
      · exact Or.inr h
  exact key _ (Nat.le_refl _)

set_option maxHeartbeats 8000000 in
set_option maxRecDepth 100000 in
theorem rlearn_no (qv : Value) (v : Int) (m : ByteArray) (p now : Int) (h : (mayL v m p && timeB now) = false) (w : World) :
    Calls Try.prog 17 #[qv, .int .i64 v, .string m, .int .i64 p, .int .i64 now] w fun e w' => e = .returned (.bool false) ∧ w' = w := by
  have HM := Lib.hid fun U => rmny_c m U
  have HT := Lib.hid fun U => rtime_c now U
  have V := Lib.hid (show (mayL v m p && timeB now) = (decide (m.size = 6) && !mnyB m && decide (1 ≤ v) && decide (v ≤ 4094) && decide (0 ≤ p) && decide (p ≤ 15) && timeB now) from rfl)
  rw [h] at V
  clear h
  generalize timeB now = tb at HT V
  generalize mnyB m = mn at HM V
  by_cases h6 : m.size = 6
  · obtain ⟨k1, k1'⟩ := eq_t (show (m.size : Int) = 6 by omega)
    rw [decide_eq_true h6, Bool.true_and] at V
    clear h6
    cases mn with
    | true =>
      go_enter Try.func17, Try.ntmps17
      go_wp2_with fail
      ((with_reducible refine (HM.out _).mono ?_); rintro e w1 ⟨rfl, rfl⟩)
      go_wp2_with fail
      go_ret
      exact ⟨rfl, rfl⟩
    | false =>
      rw [Bool.not_false, Bool.true_and] at V
      by_cases h1 : 1 ≤ v
      · have k2 : decide (v < 1) = false := decide_eq_false (by omega)
        rw [decide_eq_true h1, Bool.true_and] at V
        by_cases h2 : v ≤ 4094
        · have k3 : decide (4094 < v) = false := decide_eq_false (by omega)
          rw [decide_eq_true h2, Bool.true_and] at V
          by_cases h3 : 0 ≤ p
          · have k4 : decide (p < 0) = false := decide_eq_false (by omega)
            rw [decide_eq_true h3, Bool.true_and] at V
            by_cases h4 : p ≤ 15
            · have k5 : decide (15 < p) = false := decide_eq_false (by omega)
              rw [decide_eq_true h4, Bool.true_and] at V
              have V2 := V.out
              subst V2
              clear h1 h2 h3 h4 V
              go_enter Try.func17, Try.ntmps17
              go_wp2_with fail
              ((with_reducible refine (HM.out _).mono ?_); rintro e w1 ⟨rfl, rfl⟩)
              go_wp2_with fail
              ((with_reducible refine (HT.out _).mono ?_); rintro e w2 ⟨rfl, rfl⟩)
              go_wp2_with fail
              go_ret
              exact ⟨rfl, rfl⟩
            · have k5 : decide (15 < p) = true := decide_eq_true (by omega)
              clear h1 h2 h3 h4 V
              go_enter Try.func17, Try.ntmps17
              go_wp2_with fail
              ((with_reducible refine (HM.out _).mono ?_); rintro e w1 ⟨rfl, rfl⟩)
              go_wp2_with fail
              go_ret
              exact ⟨rfl, rfl⟩
          · have k4 : decide (p < 0) = true := decide_eq_true (by omega)
            clear h1 h2 h3 V
            go_enter Try.func17, Try.ntmps17
            go_wp2_with fail
            ((with_reducible refine (HM.out _).mono ?_); rintro e w1 ⟨rfl, rfl⟩)
            go_wp2_with fail
            go_ret
            exact ⟨rfl, rfl⟩
        · have k3 : decide (4094 < v) = true := decide_eq_true (by omega)
          clear h1 h2 V
          go_enter Try.func17, Try.ntmps17
          go_wp2_with fail
          ((with_reducible refine (HM.out _).mono ?_); rintro e w1 ⟨rfl, rfl⟩)
          go_wp2_with fail
          go_ret
          exact ⟨rfl, rfl⟩
      · have k2 : decide (v < 1) = true := decide_eq_true (by omega)
        clear h1 V
        go_enter Try.func17, Try.ntmps17
        go_wp2_with fail
        ((with_reducible refine (HM.out _).mono ?_); rintro e w1 ⟨rfl, rfl⟩)
        go_wp2_with fail
        go_ret
        exact ⟨rfl, rfl⟩
  · obtain ⟨k1, k1'⟩ := ne_t (show (m.size : Int) ≠ 6 by omega)
    clear h6 V
    go_enter Try.func17, Try.ntmps17
    go_wp2_with fail
    go_ret
    exact ⟨rfl, rfl⟩

/-- What is known of one that it takes. -/
theorem may_all {v : Int} {m : ByteArray} {p now : Int} (h : (mayL v m p && timeB now) = true) : (m.size : Int) = 6 ∧ mnyB m = false ∧ ¬ v < 1 ∧ ¬ 4094 < v ∧ ¬ p < 0 ∧ ¬ 15 < p ∧ timeB now = true := by
  unfold mayL at h
  simp only [Bool.and_eq_true, decide_eq_true_eq, Bool.not_eq_true'] at h
  obtain ⟨⟨⟨⟨⟨⟨h1, h2⟩, h3⟩, h4⟩, h5⟩, h6⟩, h7⟩ := h
  exact ⟨by omega, h2, by omega, by omega, by omega, by omega, h7⟩

end Go.Proofs.Ytodddahjibccoaa
