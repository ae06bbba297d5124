/-
  The wheel's laws over a list of times: what is armed after k of them, one arming, the earliest.
-/
import Derived.Test.YtplaconhpiojbaaWhN
import Derived.Test.YtplaconhpiojbaaMemI
namespace Go.Proofs.Ytplaconhpiojbaa
open Go Go.Maps Go.WideMaps
open Go.RowKit
set_option linter.unusedVariables false
set_option linter.unusedSimpArgs false

/-- WHAT IS ARMED AFTER k TIMES. -/
def stL (A : List Int) : Nat → List T3
  | 0 => []
  | k + 1 => if 0 ≤ A.getD k 0 then stL A k ++ [(.int .i64 k, A.getD k 0, ((stL A k).length : Int) + 1)] else stL A k

theorem stL_len (A : List Int) : ∀ k, (stL A k).length ≤ k
  | 0 => Nat.le_refl _
  | k + 1 => by
    have := stL_len A k
    unfold stL
    split
    · simp; omega
    · omega

theorem stL_mem (A : List Int) : ∀ k, ∀ x ∈ stL A k, ∃ j : Nat, j < k ∧ x.1 = .int .i64 j ∧ x.2.1 = A.getD j 0 ∧ 0 ≤ A.getD j 0 ∧ 1 ≤ x.2.2 ∧ x.2.2 ≤ (stL A k).length
  | 0, x, h => by simp [stL] at h
  | k + 1, x, h => by
    unfold stL at h ⊢
    split at h
    · next h0 =>
      rw [if_pos h0]
      rcases List.mem_append.1 h with h | h
      · obtain ⟨j, a, b, c, d, e, f⟩ := stL_mem A k x h
        exact ⟨j, by omega, b, c, d, e, by simp; omega⟩
      · simp at h
        subst h
        exact ⟨k, by omega, rfl, rfl, h0, by show (1 : Int) ≤ ((stL A k).length : Int) + 1; omega, by simp⟩
    · next h0 =>
      rw [if_neg h0]
      obtain ⟨j, a, b, c, d, e, f⟩ := stL_mem A k x h
      exact ⟨j, by omega, b, c, d, e, f⟩

theorem stL_new (A : List Int) (k : Nat) : hasT (stL A k) (.int .i64 k) = false := by
  unfold hasT
  rw [List.any_eq_false]
  intro x hx
  obtain ⟨j, hj, e, _⟩ := stL_mem A k x hx
  rw [e]
  have : (Lit.int .i64 (j : Int)).sameKey (.int .i64 (k : Int)) = false := Maps.sameKey_ne (fun e => by injection e with _ e; omega)
  simp [this]

theorem stL_put (A : List Int) (k : Nat) (q : Int × Int) : putT (stL A k) (.int .i64 k) q = stL A k ++ [(.int .i64 k, q)] := by
  unfold putT
  rw [delT_not (stL_new A k)]

theorem stL_pos {A : List Int} {k : Nat} {a : Int} (ha : A[k]? = some a) (h : 0 ≤ a) : stL A (k + 1) = stL A k ++ [(.int .i64 k, a, ((stL A k).length : Int) + 1)] := by
  have e : A.getD k 0 = a := by rw [List.getD_eq_getElem?_getD, ha]; rfl
  show (if 0 ≤ A.getD k 0 then _ else _) = _
  rw [e, if_pos h]
theorem stL_neg {A : List Int} {k : Nat} {a : Int} (ha : A[k]? = some a) (h : a < 0) : stL A (k + 1) = stL A k := by
  have e : A.getD k 0 = a := by rw [List.getD_eq_getElem?_getD, ha]; rfl
  show (if 0 ≤ A.getD k 0 then _ else _) = _
  rw [e, if_neg (by omega)]

theorem wf64 {a : Int} (h1 : -9223372036854775808 ≤ a) (h2 : a ≤ 9223372036854775807) : (Lit.int .i64 a).wf = true := WalkArith.wf_i64 (by omega)

/-- One arming. -/
theorem armI_pos {w : World} {p mb k : Nat} {A : List Int} {a : Int} (h : HasI w p mb 60 (stL A k).length (stL A k)) (hk : k < 60) (ha : A[k]? = some a) (h0 : 0 ≤ a) :
    Calls Try.prog 19 #[.pointer (some ⟨p, 0, none⟩), .int .i64 k, .int .i64 a] w fun e w' => e = .returned (.int .i64 0) ∧ HasI w' p mb 60 (stL A (k + 1)).length (stL A (k + 1)) ∧ Tw w w' p mb := by
  have hl := stL_len A k
  refine (armI_put h k (wf64 (by omega) (by omega)) a h0 (by omega) (by omega) (by omega) (Or.inr (by omega))).mono ?_
  rintro e w' ⟨rfl, h1, h2⟩
  rw [stL_put] at h1
  rw [stL_pos ha h0]
  exact ⟨rfl, by simpa using h1, h2⟩

theorem armI_min {w : World} {p mb k : Nat} {A : List Int} {a : Int} (h : HasI w p mb 60 (stL A k).length (stL A k)) (ha : A[k]? = some a) (h0 : a < 0) :
    Calls Try.prog 19 #[.pointer (some ⟨p, 0, none⟩), .int .i64 k, .int .i64 a] w fun e w' => e = .returned (.int .i64 1) ∧ HasI w' p mb 60 (stL A (k + 1)).length (stL A (k + 1)) ∧ Tw w w' p mb := by
  refine (armI_neg p (.int .i64 k) a h0 w).mono ?_
  rintro e w' ⟨rfl, rfl⟩
  rw [stL_neg ha h0]
  exact ⟨rfl, h, Tw.refl _ _ _⟩

theorem getT_last {L : List T3} {k : Lit} {q : Int × Int} (hk : WideAt.IsKeyLit k) (h : hasT L k = false) : getT (L ++ [(k, q)]) k = q ∧ hasT (L ++ [(k, q)]) k = true := by
  unfold hasT at *
  unfold getT
  constructor
  · rw [List.find?_append]
    have : L.find? (fun x => x.1.sameKey k) = none := List.find?_eq_none.2 (fun x hx => by simpa using (List.any_eq_false.1 h) x hx)
    rw [this]
    simp [WideAt.sameKey_self hk]
  · simp [WideAt.sameKey_self hk]

theorem getT_none {L : List T3} {k : Lit} (h : hasT L k = false) : getT L k = (0, 0) := by
  unfold hasT at h
  unfold getT
  rw [List.find?_eq_none.2 (fun x hx => by simpa using (List.any_eq_false.1 h) x hx)]
  rfl

/-- The earliest so far; -1: none. -/
def BestG (D : List T3) (b : Int) : Prop := (b = -1 ∧ Best D 0 false) ∨ (0 ≤ b ∧ Best D b true)

theorem bestG_step {D : List T3} {b a : Int} (h : BestG D b) (ha : 0 ≤ a) (k : Nat) (t : Int) :
    ((b < 0 ∨ a < b) → BestG (D ++ [(.int .i64 k, a, t)]) a) ∧ (¬ (b < 0 ∨ a < b) → BestG (D ++ [(.int .i64 k, a, t)]) b) := by
  rcases h with ⟨rfl, h⟩ | ⟨hb, h⟩
  · exact ⟨fun _ => Or.inr ⟨ha, best_first (x := (.int .i64 k, a, t)) h⟩, fun hq => absurd (Or.inl (by omega)) hq⟩
  · exact ⟨fun hq => Or.inr ⟨ha, best_less (x := (.int .i64 k, a, t)) h (by simp; omega)⟩, fun hq => Or.inr ⟨hb, best_more (x := (.int .i64 k, a, t)) h (by simp; omega)⟩⟩

/-- A cell of an argument, in any later world. -/
theorem ints_cell {w U : World} {v : Value} {l : List Int} (h : IntsAt w v l) (hb : Below w.heap.size w U) : IntsAt U v l := h.below hb

end Go.Proofs.Ytplaconhpiojbaa
