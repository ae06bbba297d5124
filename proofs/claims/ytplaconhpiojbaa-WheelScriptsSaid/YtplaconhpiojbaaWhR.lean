/-
  The wheel's laws: all that was armed comes out in order.
-/
import Derived.Test.YtplaconhpiojbaaWhQ
namespace Go.Proofs.Ytplaconhpiojbaa
open Go Go.Maps Go.WideMaps
open Go.RowKit
set_option linter.unusedVariables false
set_option linter.unusedSimpArgs false

theorem stL_pair (A : List Int) : ∀ k, (stL A k).Pairwise (fun x y => kNum x < kNum y ∧ x.2.2 < y.2.2)
  | 0 => List.Pairwise.nil
  | k + 1 => by
    have ih := stL_pair A k
    have hm := stL_mem A k
    unfold stL
    split
    · rw [List.pairwise_append]
      refine ⟨ih, by simp, fun x hx y hy => ?_⟩
      simp at hy
      subst hy
      obtain ⟨j, h1, h2, _, _, _, h3⟩ := hm x hx
      unfold kNum
      rw [h2]
      refine ⟨?_, ?_⟩
      · show (j : Int) < (k : Int)
        omega
      · show x.2.2 < ((stL A k).length : Int) + 1
        omega
    · exact ih

theorem pair_or {α : Type} {R : α → α → Prop} : ∀ {l : List α}, l.Pairwise R → ∀ {x y : α}, x ∈ l → y ∈ l → x = y ∨ R x y ∨ R y x
  | [], _, _, _, hx, _ => by cases hx
  | a :: r, hp, x, y, hx, hy => by
    obtain ⟨h1, h2⟩ := List.pairwise_cons.1 hp
    rcases List.mem_cons.1 hx with ex | hx'
    · rcases List.mem_cons.1 hy with ey | hy'
      · exact Or.inl (ex.trans ey.symm)
      · exact Or.inr (Or.inl (ex ▸ h1 y hy'))
    · rcases List.mem_cons.1 hy with ey | hy'
      · exact Or.inr (Or.inr (ey ▸ h1 x hx'))
      · exact pair_or h2 hx' hy'

theorem all_sorted {A : List Int} {n : Nat} {D : List T3} (hp : (stL A n).Perm D) (hs : SortedT D) : D.Pairwise (fun x y => x.2.1 ≤ y.2.1 ∧ (x.2.1 = y.2.1 → kNum x < kNum y)) := by
  have h0 := stL_pair A n
  have hn : (stL A n).Nodup := h0.imp (fun {x y} h e => by rw [e] at h; omega)
  have hd : D.Nodup := hp.nodup_iff.1 hn
  have hb := List.Pairwise.and hs hd
  refine List.Pairwise.imp_of_mem (fun {x y} hx hy h => ?_) hb
  obtain ⟨h1, h2⟩ := h
  unfold ltT at h1
  refine ⟨by omega, fun e => ?_⟩
  rcases pair_or h0 (hp.mem_iff.2 hx) (hp.mem_iff.2 hy) with h | h | h
  · exact absurd h h2
  · exact h.1
  · omega

theorem all_at {A : List Int} {n : Nat} {D : List T3} (hn : n = A.length) (hp : (stL A n).Perm D) {x : T3} (hx : x ∈ D) : ∃ j : Nat, kNum x = (j : Int) ∧ j < A.length ∧ A[j]? = some x.2.1 ∧ 0 ≤ x.2.1 := by
  obtain ⟨j, h1, h2, h3, h4, _⟩ := stL_mem A n x (hp.mem_iff.2 hx)
  subst hn
  refine ⟨j, by unfold kNum; rw [h2], h1, ?_, by rw [h3]; exact h4⟩
  rw [h3, List.getElem?_eq_getElem h1, List.getD_eq_getElem?_getD, List.getElem?_eq_getElem h1]
  rfl

theorem all_two {α : Type} {R : α → α → Prop} {D : List α} (h : D.Pairwise R) {i : Nat} {x y : α} (hx : D[i]? = some x) (hy : D[i + 1]? = some y) : R x y := by
  obtain ⟨h1, rfl⟩ := List.getElem?_eq_some_iff.1 hx
  obtain ⟨h2, rfl⟩ := List.getElem?_eq_some_iff.1 hy
  exact List.pairwise_iff_getElem.1 h i (i + 1) h1 h2 (by omega)

theorem some_at {α : Type} {D : List α} {k : Nat} (h : k < D.length) : ∃ y, D[k]? = some y := ⟨D[k], List.getElem?_eq_getElem h⟩

/-- Of two that stand side by side. -/
theorem all_case {ax ay : Int} {jx j : Nat} (h1 : ax ≤ ay) (h2 : ax = ay → (jx : Int) < (j : Int)) : decide (ay < ax) = false ∧ (((ax == ay) = false) ∨ ((ax == ay) = true ∧ decide (j ≤ jx) = false)) := by
  refine ⟨decide_eq_false (by omega), ?_⟩
  by_cases e : ax = ay
  · have := h2 e
    exact Or.inr ⟨by simp [e], decide_eq_false (by omega)⟩
  · exact Or.inl (by simp [e])

theorem due_all {L : List T3} {last : Int} (h : ∀ x ∈ L, x.2.1 ≤ last) : dueL last L = L ∧ latL last L = [] := by
  unfold dueL latL
  refine ⟨List.filter_eq_self.2 fun x hx => by simpa using h x hx, List.filter_eq_nil_iff.2 fun x hx => by simpa using h x hx⟩

theorem max_all {L : List T3} {last a : Int} {q : T3} (h : ∀ x ∈ L, x.2.1 ≤ last) (e : q.2.1 = a) : ∀ x ∈ L ++ [q], x.2.1 ≤ max last a := by
  intro x hx
  rcases List.mem_append.1 hx with hx | hx
  · have := h x hx
    omega
  · simp at hx
    rw [hx]
    omega

end Go.Proofs.Ytplaconhpiojbaa
