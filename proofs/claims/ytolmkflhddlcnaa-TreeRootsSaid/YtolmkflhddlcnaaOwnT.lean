/-
  What calls turn, by the types of the blocks; one block alone; rows that grow. They speak of no program.
-/
import Derived.Test.YtolmkflhddlcnaaPrG
import Derived.LoopTactic
import Derived.Laws.AppendOwn
import Derived.Laws.OwnMore
namespace Go.Proofs.Ytolmkflhddlcnaa
open Go.RowKit
set_option linter.unusedVariables false
set_option linter.unusedSimpArgs false

/-- WHAT CALLS TURN: blocks from B on, of some types alone. -/
structure Tt (P : TypeId → Bool) (B : Nat) (w w' : World) : Prop where
  os : w'.os = w.os
  tape : w'.tape = w.tape
  output : w'.output = w.output
  size : w.heap.size ≤ w'.heap.size
  block : ∀ k, k < w.heap.size → (k < B ∨ ∀ cs t f, w.heap[k]? = some (.cells cs t f) → P t = false) → w'.heap[k]? = w.heap[k]?

section
variable {P : TypeId → Bool} {B : Nat} {w w' a c : World}
theorem Tt.refl (P : TypeId → Bool) (B : Nat) (w : World) : Tt P B w w := ⟨rfl, rfl, rfl, Nat.le_refl _, fun _ _ _ => rfl⟩
theorem Tt.trans (h : Tt P B w a) (k : Tt P B a c) : Tt P B w c := by
  refine ⟨k.os.trans h.os, k.tape.trans h.tape, k.output.trans h.output, Nat.le_trans h.size k.size, fun i hi h2 => ?_⟩
  have e := h.block i hi h2
  refine (k.block i (Nat.lt_of_lt_of_le hi h.size) ?_).trans e
  rw [e]
  exact h2
theorem Tt.ofBelow (h : Below w.heap.size w w') : Tt P B w w' := ⟨h.os, h.tape, h.output, h.size, fun k hk _ => h.block k hk⟩
theorem Tt.below (h : Tt P B w w') {b : Nat} (hB : b ≤ B) (hw : b ≤ w.heap.size) : Below b w w' :=
  ⟨h.os, h.tape, h.output, h.size, fun k hk => h.block k (by omega) (Or.inl (by omega))⟩
theorem Tt.drewN (h : Tt P B w w') (n : Nat) : Tt P B w (w'.drewN n) := ⟨h.os, h.tape, h.output, h.size, h.block⟩
theorem Tt.drewL (h : Tt P B w w') (n : Nat) : Tt P B (w.drewN n) w' := ⟨h.os, h.tape, h.output, h.size, h.block⟩
/-- A block of another type stands. -/
theorem Tt.cells {b : Nat} {xs : Array Value} {t : TypeId} {f : Nat × Nat} (k : Tt P B w w') (hx : w.heap[b]? = some (.cells xs t f)) (ht : P t = false) : w'.heap[b]? = some (.cells xs t f) :=
  (k.block b (Array.getElem?_eq_some_iff.1 hx).1 (Or.inr fun cs t' f' e => by
    have e := hx.symm.trans e
    simp at e
    rw [← e.2.1]
    exact ht)).trans hx
theorem Tt.low {b : Nat} {o : Obj} (k : Tt P B w w') (hb : b < B) (hx : w.heap[b]? = some o) : w'.heap[b]? = some o :=
  (k.block b (Array.getElem?_eq_some_iff.1 hx).1 (Or.inl hb)).trans hx
theorem Tt.grow (h : Tt P B w a) (k : Below a.heap.size a c) : Tt P B w c := h.trans (Tt.ofBelow k)
end

/-- ONE BLOCK ALONE IS TURNED. -/
structure Only (b : Nat) (w w' : World) : Prop where
  os : w'.os = w.os
  tape : w'.tape = w.tape
  output : w'.output = w.output
  size : w.heap.size ≤ w'.heap.size
  block : ∀ k, k < w.heap.size → k ≠ b → w'.heap[k]? = w.heap[k]?
section
variable {b : Nat} {w w' a c : World}
theorem Only.refl (b : Nat) (w : World) : Only b w w := ⟨rfl, rfl, rfl, Nat.le_refl _, fun _ _ _ => rfl⟩
theorem Only.trans (h : Only b w a) (k : Only b a c) : Only b w c :=
  ⟨k.os.trans h.os, k.tape.trans h.tape, k.output.trans h.output, Nat.le_trans h.size k.size, fun i hi h1 => (k.block i (Nat.lt_of_lt_of_le hi h.size) h1).trans (h.block i hi h1)⟩
theorem Only.ofBelow (h : Below w.heap.size w w') : Only b w w' := ⟨h.os, h.tape, h.output, h.size, fun k hk _ => h.block k hk⟩
theorem Only.setCell (w : World) (b j : Nat) (u : Value) : Only b w (w.setCell ⟨b, j, none⟩ u) :=
  ⟨rfl, rfl, rfl, by simp [World.setCell], fun k _ h1 => RowKit.Below.heap_setCell _ _ _ _ h1⟩
theorem Only.drewN (h : Only b w w') (n : Nat) : Only b w (w'.drewN n) := ⟨h.os, h.tape, h.output, h.size, h.block⟩
theorem Only.drewL (h : Only b w w') (n : Nat) : Only b (w.drewN n) w' := ⟨h.os, h.tape, h.output, h.size, h.block⟩
theorem Only.set (h : Only b w w') (j : Nat) (u : Value) : Only b w (w'.setCell ⟨b, j, none⟩ u) := h.trans (Only.setCell _ _ _ _)
theorem Only.tt {P : TypeId → Bool} {B : Nat} (h : Only b w w') {xs : Array Value} {t : TypeId} {f : Nat × Nat} (hb : w.heap[b]? = some (.cells xs t f)) (ht : P t = true) (hB : B ≤ b) : Tt P B w w' := by
  refine ⟨h.os, h.tape, h.output, h.size, fun k hk h2 => h.block k hk ?_⟩
  rintro rfl
  rcases h2 with h2 | h2
  · omega
  · have := h2 _ _ _ hb
    rw [ht] at this
    cases this
theorem Only.cells (h : Only b w w') {k : Nat} {o : Obj} (hk : w.heap[k]? = some o) (hne : k ≠ b) : w'.heap[k]? = some o :=
  (h.block k (Array.getElem?_eq_some_iff.1 hk).1 hne).trans hk
end


theorem owns_only {w w' : World} {base size n t : Nat} {e ty : TypeId} {v : Value} {xs : List Value} {cs : Array Value} {f : Nat × Nat} (h : w.ownsRow base e size v n xs) (x : Only t w w') (ht : w.heap[t]? = some (.cells cs ty f)) (hne : e ≠ ty) : w'.ownsRow base e size v n xs := by
  refine ⟨h.1, ?_⟩
  rcases h.2 with h0 | ⟨g, cap, cur, e1, hb, hg, hr⟩
  · exact Or.inl h0
  · refine Or.inr ⟨g, cap, cur, e1, hb, x.cells hg ?_, hr⟩
    rintro rfl
    have e2 := hg.symm.trans ht
    simp at e2
    exact hne e2.2.1
theorem owns_tt {P : TypeId → Bool} {B : Nat} {w w' : World} {base size n : Nat} {e : TypeId} {v : Value} {xs : List Value} (h : w.ownsRow base e size v n xs) (x : Tt P B w w') (hp : P e = false) : w'.ownsRow base e size v n xs := by
  refine ⟨h.1, ?_⟩
  rcases h.2 with h0 | ⟨g, cap, cur, e1, hb, hg, hr⟩
  · exact Or.inl h0
  · exact Or.inr ⟨g, cap, cur, e1, hb, x.cells hg hp, hr⟩

/-- A row that grew. -/
theorem Tt.grown {P : TypeId → Bool} {B : Nat} {w w' : World} {e : TypeId} {size n : Nat} {v : Value} {xs : List Value} (ho : w.ownsRow B e size v n xs) (hp : P e = true) (hg : w.grownBy w' v.ownBlock) : Tt P B w w' := by
  refine ⟨hg.os, hg.tape, hg.output, hg.size, fun k hk h2 => hg.block k hk fun e1 => ?_⟩
  have hlt := ho.lt k e1.symm
  rcases h2 with h2 | h2
  · omega
  · rcases ho.2 with ⟨rfl, _⟩ | ⟨g, cap, cur, rfl, hb, hgg, _⟩
    · simp [Value.ownBlock] at e1
    · simp [Value.ownBlock] at e1
      subst e1
      have := h2 _ _ _ hgg
      rw [hp] at this
      cases this

theorem owns_slice {w : World} {base e size n : Nat} {v : Value} {xs : List Value} (h : w.ownsRow base e size v n xs) : ∃ p cap, v = .slice p n cap := by
  rcases h.2 with ⟨rfl, rfl⟩ | ⟨g, cap, cur, rfl, _⟩
  · exact ⟨none, 0, rfl⟩
  · exact ⟨_, cap, rfl⟩

end Go.Proofs.Ytolmkflhddlcnaa
