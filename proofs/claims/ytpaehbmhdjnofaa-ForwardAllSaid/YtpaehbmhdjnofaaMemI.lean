/-
  Lists of numbers and of ports that lie in memory: what a slice's value means.
-/
import Derived.Test.YtpaehbmhdjnofaaVlS
import Derived.Test.YtpaehbmhdjnofaaKit
import Derived.Laws.AppendOwn
import Derived.WalkKit
namespace Go.Proofs.Ytpaehbmhdjnofaa
open Go.RowKit
set_option linter.unusedVariables false

theorem icell_lt {w : World} {b o : Nat} {v : Value} (h : w.cell? ⟨b, o, none⟩ = some v) : b < w.heap.size := by
  unfold World.cell? at h
  simp only at h
  split at h
  · next hb => exact lt_of_block hb
  · cases h
theorem icell_below {w w' : World} {b o : Nat} {v : Value} (k : Below w.heap.size w w') (h : w.cell? ⟨b, o, none⟩ = some v) : w'.cell? ⟨b, o, none⟩ = some v :=
  ((below_cells k).1 b o (icell_lt h)).trans h

/-- A list of numbers. -/
def IntsAt (w : World) (v : Value) (l : List Int) : Prop :=
  ∃ (p : Option Addr) (cap b off : Nat), v = .slice p l.length cap ∧ (l ≠ [] → p = some ⟨b, off, none⟩) ∧ ∀ j x, l[j]? = some x → w.cell? ⟨b, off + j, none⟩ = some (.int .i64 x)
/-- A port in three cells, and a list of them. -/
def PtAt (w : World) (b o : Nat) (r : Pt) : Prop :=
  w.cell? ⟨b, o, none⟩ = some (.int .i64 r.dft) ∧ ∃ vt vp, w.cell? ⟨b, o + 1, none⟩ = some vt ∧ w.cell? ⟨b, o + 2, none⟩ = some vp ∧ IntsAt w vt r.tag ∧ IntsAt w vp r.pln
def PtsAt (w : World) (v : Value) (L : List Pt) : Prop :=
  ∃ (p : Option Addr) (cap b off : Nat), v = .slice p L.length cap ∧ (L ≠ [] → p = some ⟨b, off, none⟩) ∧ ∀ j r, L[j]? = some r → PtAt w b (off + j * 3) r

theorem IntsAt.below {w w' : World} {v : Value} {l : List Int} (h : IntsAt w v l) (k : Below w.heap.size w w') : IntsAt w' v l := by
  obtain ⟨p, cap, b, off, hv, hp, hc⟩ := h
  exact ⟨p, cap, b, off, hv, hp, fun j s hj => icell_below k (hc j s hj)⟩
theorem PtAt.below {w w' : World} {b o : Nat} {r : Pt} (h : PtAt w b o r) (k : Below w.heap.size w w') : PtAt w' b o r := by
  obtain ⟨h1, vt, vp, h2, h3, h4, h5⟩ := h
  exact ⟨icell_below k h1, vt, vp, icell_below k h2, icell_below k h3, h4.below k, h5.below k⟩
theorem PtsAt.below {w w' : World} {v : Value} {L : List Pt} (h : PtsAt w v L) (k : Below w.heap.size w w') : PtsAt w' v L := by
  obtain ⟨p, cap, b, off, hv, hp, hc⟩ := h
  exact ⟨p, cap, b, off, hv, hp, fun j s hj => (hc j s hj).below k⟩
theorem IntsAt.slice {w : World} {v : Value} {l : List Int} (h : IntsAt w v l) : ∃ p cap, v = .slice p l.length cap := by
  obtain ⟨p, cap, b, off, hv, _⟩ := h
  exact ⟨p, cap, hv⟩
theorem PtsAt.slice {w : World} {v : Value} {l : List Pt} (h : PtsAt w v l) : ∃ p cap, v = .slice p l.length cap := by
  obtain ⟨p, cap, b, off, hv, _⟩ := h
  exact ⟨p, cap, hv⟩
theorem IntsAt.nil (w : World) : IntsAt w (.slice none 0 0) [] := ⟨none, 0, 0, 0, rfl, fun h => absurd rfl h, fun j s hj => by simp at hj⟩
theorem PtsAt.nil (w : World) : PtsAt w (.slice none 0 0) [] := ⟨none, 0, 0, 0, rfl, fun h => absurd rfl h, fun j s hj => by simp at hj⟩
theorem IntsAt.of_owns {w : World} {base n : Nat} {v : Value} {l : List Int} {t : TypeId} (h : w.ownsRow base t 1 v n (l.map (Value.int .i64))) : IntsAt w v l := by
  have hn : l.length = n := by have := h.1; simpa using this
  rcases h.2 with ⟨rfl, h0⟩ | ⟨g, cap, cur, rfl, hb, hg, -, -, -, -⟩
  · have : l = [] := List.eq_nil_of_length_eq_zero (by omega)
    subst this
    exact IntsAt.nil w
  · subst hn
    refine ⟨_, cap, g, 0, rfl, fun _ => rfl, fun j s hj => ?_⟩
    have := h.cells (g := g) rfl j (.int .i64 s) (by simp [hj])
    have e : (⟨g, 0, none⟩ : Addr).add j = ⟨g, 0 + j, none⟩ := by unfold Addr.add; split <;> simp_all
    rw [← e]
    exact this
theorem iowns_below {w w' : World} {base e size n : Nat} {v : Value} {xs : List Value} (h : w.ownsRow base e size v n xs) (k : Below w.heap.size w w') : w'.ownsRow base e size v n xs := by
  refine h.kept (row := none) ⟨k.os, k.tape, k.output, k.size, fun j hj _ => k.block j hj⟩ ?_
  rcases hv : v.ownBlock with _ | g
  · exact .inl rfl
  · exact .inr (by simp)

/-- The block behind w0's end holds xs; what lay is as it was. -/
def IBox (w0 w : World) (xs : Array Value) (t : TypeId) : Prop := w.heap[w0.heap.size]? = some (.cells xs t (0, 0)) ∧ Below w0.heap.size w0 w
theorem IBox.start (w0 : World) (xs : Array Value) (t : TypeId) : IBox w0 (w0.alloc (.cells xs t)) xs t := ⟨heap_new _ _, (Below.refl _ w0).alloc (Nat.le_refl _) _⟩
theorem IBox.below {w0 w w' : World} {xs : Array Value} {t : TypeId} (h : IBox w0 w xs t) (k : Below w.heap.size w w') : IBox w0 w' xs t :=
  ⟨below_block k (lt_of_block h.1) h.1, h.2.trans (k.mono h.2.size)⟩
theorem IBox.cell {w0 w : World} {xs : Array Value} {t : TypeId} (h : IBox w0 w xs t) (j : Nat) {v : Value} (hj : xs[j]? = some v) : w.cell? ⟨w0.heap.size, j, none⟩ = some v := cell_of_block h.1 hj
theorem IBox.free {w0 w : World} {xs : Array Value} {t : TypeId} (h : IBox w0 w xs t) (j : Nat) : w.frozen? ⟨w0.heap.size, j, none⟩ = false := free_of_block h.1
theorem IBox.lt {w0 w : World} {xs : Array Value} {t : TypeId} (h : IBox w0 w xs t) : w0.heap.size < w.heap.size := lt_of_block h.1
theorem IBox.set {w0 w : World} {xs : Array Value} {t : TypeId} (h : IBox w0 w xs t) (j : Nat) (v : Value) : IBox w0 (w.setCell ⟨w0.heap.size, j, none⟩ v) (xs.setIfInBounds j v) t :=
  ⟨heap_store h.1, h.2.setCell (p := ⟨w0.heap.size, j, none⟩) (Nat.le_refl _) _⟩

end Go.Proofs.Ytpaehbmhdjnofaa
