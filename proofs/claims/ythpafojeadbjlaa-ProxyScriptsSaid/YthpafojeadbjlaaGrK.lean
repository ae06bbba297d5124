/-
  Rows of one's own beside other blocks. It speaks of no function.
-/
import Derived.Test.YthpafojeadbjlaaRowO
import Derived.Test.YthpafojeadbjlaaMemL
import Derived.Test.YthpafojeadbjlaaTst
namespace Go.Proofs.Ythpafojeadbjlaa
open Go.RowKit
set_option linter.unusedVariables false
set_option linter.unusedSimpArgs false

theorem g_keeps {w w' : World} {B n k : Nat} {e ty : TypeId} {s : Nat} {v : Value} {xs : List Value} {cs : Array Value} {f : Nat × Nat} (h : w.ownsRow B e s v n xs) (hg : w.grownBy w' v.ownBlock) (hk : w.heap[k]? = some (.cells cs ty f)) (hne : e ≠ ty) : w'.heap[k]? = some (.cells cs ty f) := by
  rw [hg.block k (lt_of_block hk) (fun e1 => ?_)]
  · exact hk
  · rcases h.2 with ⟨hv, -⟩ | ⟨g, cap, cur, hv, -, hh, -⟩
    · rw [hv] at e1
      simp [Value.ownBlock] at e1
    · rw [hv] at e1
      simp [Value.ownBlock] at e1
      subst e1
      have e2 := hk.symm.trans hh
      simp at e2
      exact hne e2.2.1.symm
theorem g_set {w : World} {base size n t j : Nat} {e ty : TypeId} {v u : Value} {xs : List Value} {cs : Array Value} {f : Nat × Nat} (h : w.ownsRow base e size v n xs) (ht : w.heap[t]? = some (.cells cs ty f)) (hne : e ≠ ty) : (w.setCell ⟨t, j, none⟩ u).ownsRow base e size v n xs := by
  refine ⟨h.1, ?_⟩
  rcases h.2 with h0 | ⟨g, cap, cur, e1, hb, hg, hr⟩
  · exact Or.inl h0
  · refine Or.inr ⟨g, cap, cur, e1, hb, heap_store_other hg ?_, hr⟩
    rintro rfl
    have e2 := hg.symm.trans ht
    simp at e2
    exact hne e2.2.1
theorem g_below {w w' : World} {base size n : Nat} {e : TypeId} {v : Value} {xs : List Value} (h : w.ownsRow base e size v n xs) (k : Below w.heap.size w w') : w'.ownsRow base e size v n xs := by
  refine ⟨h.1, ?_⟩
  rcases h.2 with h0 | ⟨g, cap, cur, e1, hb, hg, hr⟩
  · exact Or.inl h0
  · exact Or.inr ⟨g, cap, cur, e1, hb, below_block k (lt_of_block hg) hg, hr⟩
theorem g_slice {w : World} {base e size n : Nat} {v : Value} {xs : List Value} (h : w.ownsRow base e size v n xs) : ∃ p cap, v = .slice p n cap := by
  rcases h.2 with ⟨rfl, rfl⟩ | ⟨g, cap, cur, rfl, _⟩
  · exact ⟨none, 0, rfl⟩
  · exact ⟨_, cap, rfl⟩
theorem g_new (w : World) (xs : List Value) (t : TypeId) : ∀ j u, xs[j]? = some u → (w.alloc (.cells xs.toArray t)).cell? ((⟨w.heap.size, 0, none⟩ : Addr).add j) = some u := by
  intro j u hj
  have e : (⟨w.heap.size, 0, none⟩ : Addr).add j = ⟨w.heap.size, j, none⟩ := by unfold Addr.add; split <;> simp_all
  rw [e]
  exact cell_of_block (heap_new w _) (by simpa using hj)
theorem g_cell {w : World} {t j b o : Nat} {u v : Value} (h : w.cell? ⟨b, o, none⟩ = some v) (hne : b ≠ t) : (w.setCell ⟨t, j, none⟩ u).cell? ⟨b, o, none⟩ = some v := by
  have hb := gcell_lt h
  have e : (w.setCell ⟨t, j, none⟩ u).heap[b]? = w.heap[b]? := by
    obtain ⟨ob, hob⟩ : ∃ ob, w.heap[b]? = some ob := ⟨_, Array.getElem?_eq_getElem hb⟩
    rw [hob]
    exact heap_store_other hob hne
  unfold World.cell? at h ⊢
  simp only at h ⊢
  rw [e]
  exact h

end Go.Proofs.Ythpafojeadbjlaa
