/-
  A world that has turned at some blocks alone; what lies elsewhere stays. It speaks of no function.
-/
import Derived.Test.YthpafojeadbjlaaKit
import Derived.Test.YthpafojeadbjlaaMemL
import Derived.WalkKit
import Derived.Maps.RangeWalk
namespace Go.Proofs.Ythpafojeadbjlaa
open Go Go.Maps Go.ChangeMaps Go.RowKit
set_option linter.unusedVariables false

/-- It has turned at the blocks of S alone. -/
structure TwS (S : Nat → Prop) (w w' : World) : Prop where
  os : w'.os = w.os
  tape : w'.tape = w.tape
  output : w'.output = w.output
  size : w.heap.size ≤ w'.heap.size
  block : ∀ k, k < w.heap.size → ¬ S k → w'.heap[k]? = w.heap[k]?

variable {S : Nat → Prop} {w w' w'' : World}
theorem TwS.refl (S : Nat → Prop) (w : World) : TwS S w w := ⟨rfl, rfl, rfl, Nat.le_refl _, fun _ _ _ => rfl⟩
theorem TwS.ofBelow (h : Below w.heap.size w w') : TwS S w w' := ⟨h.os, h.tape, h.output, h.size, fun k hk _ => h.block k hk⟩
/-- The second step may turn what is new besides. -/
theorem TwS.trans {S' : Nat → Prop} (h : TwS S w w') (k : TwS S' w' w'') (hs : ∀ b, b < w.heap.size → S' b → S b) : TwS S w w'' :=
  ⟨k.os.trans h.os, k.tape.trans h.tape, k.output.trans h.output, Nat.le_trans h.size k.size, fun b hb hn => (k.block b (Nat.lt_of_lt_of_le hb h.size) (fun e => hn (hs b hb e))).trans (h.block b hb hn)⟩
theorem TwS.mono {S' : Nat → Prop} (h : TwS S w w') (hs : ∀ b, b < w.heap.size → S b → S' b) : TwS S' w w' := ⟨h.os, h.tape, h.output, h.size, fun b hb hn => h.block b hb (fun e => hn (hs b hb e))⟩
theorem TwS.below {B : Nat} (h : TwS S w w') (hS : ∀ b, S b → B ≤ b) (hB : B ≤ w.heap.size) : Below B w w' :=
  ⟨h.os, h.tape, h.output, h.size, fun b hb => h.block b (by omega) (fun e => by have := hS b e; omega)⟩
theorem TwS.drew (h : TwS S w w') : TwS S w w'.drew := ⟨h.os, h.tape, h.output, h.size, h.block⟩
theorem TwS.set (w : World) (p j : Nat) (u : Value) (hp : S p) : TwS S w (w.setCell ⟨p, j, none⟩ u) :=
  ⟨rfl, rfl, rfl, by simp [World.setCell], fun k _ h1 => Below.heap_setCell _ _ _ _ (fun e => h1 (by rw [e]; exact hp))⟩
theorem TwS.turned {b : Nat} (h : w.mapTurned w' b) (hb : S b) : TwS S w w' :=
  ⟨h.grown.os, h.grown.tape, h.grown.output, h.grown.size, fun k hk h2 => h.grown.block k hk (fun e => h2 (by cases e; exact hb))⟩
theorem TwS.grown {row : Option Nat} (h : w.grownBy w' row) (hr : ∀ g, row = some g → S g) : TwS S w w' :=
  ⟨h.os, h.tape, h.output, h.size, fun b hb hn => h.block b hb (fun e => hn (hr b e.symm))⟩
theorem TwS.blk {b : Nat} {o : Obj} (h : TwS S w w') (hb : w.heap[b]? = some o) (hn : ¬ S b) : w'.heap[b]? = some o := (h.block b (lt_of_block hb) hn).trans hb

/-- A block that holds no text. -/
def NoStr (w : World) (k : Nat) : Prop := ∀ xs t f, w.heap[k]? = some (.cells xs t f) → ∀ (j : Nat) s, xs[j]? ≠ some (.string s)
theorem NoStr.of {k : Nat} {xs : Array Value} {t : TypeId} {f : Nat × Nat} (h : w.heap[k]? = some (.cells xs t f)) (hx : ∀ (j : Nat) s, xs[j]? ≠ some (.string s)) : NoStr w k := by
  intro ys u g hy
  rw [h] at hy
  cases hy
  exact hx
theorem NoStr.map {k : Nat} {es : Array _} {c : Nat} (h : w.heap[k]? = some (.map es c)) : NoStr w k := by
  intro ys u g hy
  rw [h] at hy
  cases hy
theorem NoStr.new {k : Nat} (h : w.heap.size ≤ k) : NoStr w k := by
  intro ys u g hy
  have := lt_of_block hy
  omega
theorem str_ne {b o k : Nat} {s : ByteArray} (h : w.cell? ⟨b, o, none⟩ = some (.string s)) (hn : NoStr w k) : b ≠ k := by
  rintro rfl
  unfold World.cell? at h
  simp only at h
  split at h
  · next hb => exact hn _ _ _ hb o s (by simpa using h)
  · cases h
theorem TwS.cell {b o : Nat} {v : Value} (h : TwS S w w') (hc : w.cell? ⟨b, o, none⟩ = some v) (hn : ¬ S b) : w'.cell? ⟨b, o, none⟩ = some v := by
  rw [← hc]
  exact World.cell?_of_block (w := w) (h.block b (cell_lt' hc) hn)
theorem TwS.str {b o : Nat} {s : ByteArray} (h : TwS S w w') (hS : ∀ k, S k → NoStr w k) (hc : w.cell? ⟨b, o, none⟩ = some (.string s)) : w'.cell? ⟨b, o, none⟩ = some (.string s) :=
  h.cell hc (fun e => str_ne hc (hS b e) rfl)
theorem AddrsG.tws {v : Value} {l : List ByteArray} (ha : AddrsAt w v l) (h : TwS S w w') (hS : ∀ k, S k → NoStr w k) : AddrsAt w' v l := by
  obtain ⟨q, cap, b, off, hv, hq, hc⟩ := ha
  exact ⟨q, cap, b, off, hv, fun hne => ⟨(hq hne).1, (hq hne).2.1, fun h => by cases h⟩, fun j s hj => h.str hS (hc j s hj)⟩
theorem addrs_set {p j : Nat} {u v : Value} {l : List ByteArray} (ha : AddrsAt w v l) (hn : NoStr w p) : AddrsAt (w.setCell ⟨p, j, none⟩ u) v l :=
  AddrsG.tws (S := fun k => k = p) ha (TwS.set w p j u rfl) (fun k hk => by subst hk; exact hn)
theorem no_str_bs {b : Bool} {p : Option Addr} {n c : Nat} : ∀ (j : Nat) s, (#[Value.bool b, .slice p n c] : Array Value)[j]? ≠ some (.string s) := by
  intro j s h
  rcases j with _ | _ | j <;> simp at h
theorem addrs_slice {l : List ByteArray} {v : Value} (h : AddrsAt w v l) : ∃ q n c, v = .slice q n c := by
  obtain ⟨q, c, rfl⟩ := h.slice
  exact ⟨_, _, _, rfl⟩
end Go.Proofs.Ythpafojeadbjlaa
