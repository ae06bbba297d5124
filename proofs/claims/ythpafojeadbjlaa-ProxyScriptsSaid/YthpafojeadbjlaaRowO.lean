/-
  A row of one's own whose cells are those of a list: it lies in memory as such a list.
-/
import Derived.Test.YthpafojeadbjlaaRowG
import Derived.Laws.AppendOwn
namespace Go.Proofs.Ythpafojeadbjlaa
open Go.RowKit
set_option linter.unusedVariables false

section
variable {α : Type} {size : Nat} {cells : α → List Value}
theorem flat_len (hcl : ∀ a, (cells a).length = size) : ∀ L : List α, (L.flatMap cells).length = L.length * size
  | [] => by simp
  | x :: r => by rw [List.flatMap_cons, List.length_append, flat_len hcl r, hcl, List.length_cons, Nat.succ_mul, Nat.add_comm]
theorem flat_get (hcl : ∀ a, (cells a).length = size) : ∀ (L : List α) (j i : Nat) (x : α), L[j]? = some x → i < size → (L.flatMap cells)[j * size + i]? = (cells x)[i]?
  | [], j, i, x, h, _ => by simp at h
  | y :: r, 0, i, x, h, hi => by
    obtain rfl : y = x := by simpa using h
    rw [List.flatMap_cons, Nat.zero_mul, Nat.zero_add, List.getElem?_append_left (by rw [hcl]; exact hi)]
  | y :: r, j + 1, i, x, h, hi => by
    rw [List.flatMap_cons, List.getElem?_append_right (by rw [hcl, Nat.succ_mul]; omega), hcl]
    have e : (j + 1) * size + i - size = j * size + i := by rw [Nat.succ_mul]; omega
    rw [e]
    exact flat_get hcl r j i x (by simpa using h) hi
theorem rowsAt_own (h0 : 0 < size) (hcl : ∀ a, (cells a).length = size) {w : World} {base e n : Nat} {v : Value} {L : List α} (h : w.ownsRow base e size v n (L.flatMap cells)) : RowsAt size cells w v L := by
  have hn : L.length = n := by
    have h1 := h.1
    rw [flat_len hcl] at h1
    exact Nat.eq_of_mul_eq_mul_right h0 h1
  rcases h.2 with ⟨rfl, h1⟩ | ⟨g, cap, cur, rfl, hb, hg, -, -, -, -⟩
  · have : L = [] := List.eq_nil_of_length_eq_zero (by omega)
    subst this
    exact RowsAt.nil w
  · subst hn
    refine ⟨_, cap, g, 0, rfl, fun _ => rfl, fun j x hj i u hu => ?_⟩
    have hi : i < size := by rw [← hcl x]; exact (List.getElem?_eq_some_iff.1 hu).1
    have := h.cells (g := g) rfl (j * size + i) u (by rw [flat_get hcl L j i x hj hi]; exact hu)
    have e : (⟨g, 0, none⟩ : Addr).add (j * size + i) = ⟨g, 0 + j * size + i, none⟩ := by unfold Addr.add; split <;> simp_all
    rw [← e]
    exact this
end

end Go.Proofs.Ythpafojeadbjlaa
