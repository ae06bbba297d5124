/-
  Small lemmas on memory, for every seat: a store into a block that is known whole; what a fresh slice holds. They speak of no program.
-/
import Derived.Below
import Derived.OneCell
import Derived.Laws.MakeOwn
import Derived.Laws.IdiomStrings
import Derived.Laws.Rows
import Derived.Lib.Hide
import Derived.Deep.Quiet
namespace Go.Proofs.Ythpafojeadbjlaa
open Go.RowKit

/-- A store into a block whose cells are known. -/
theorem heap_store {w : World} {b j : Nat} {v : Value} {xs : Array Value} {t : TypeId} {f : Nat × Nat} (h : w.heap[b]? = some (.cells xs t f)) :
    (w.setCell ⟨b, j, none⟩ v).heap[b]? = some (.cells (xs.setIfInBounds j v) t f) := by
  have hlt := lt_of_block h
  have h' : w.heap[b] = .cells xs t f := by simpa [Array.getElem?_eq_getElem hlt] using h
  show (w.heap.modify b _)[b]? = _
  rw [Array.getElem?_eq_getElem (by simpa using hlt), Array.getElem_modify_self, h']
  rfl

theorem heap_store_other {w : World} {b c j : Nat} {v : Value} {o : Obj} (h : w.heap[b]? = some o) (hne : b ≠ c) : (w.setCell ⟨c, j, none⟩ v).heap[b]? = some o := by
  rw [Below.heap_setCell _ _ _ _ hne]; exact h

theorem cell_of_block {w : World} {b j : Nat} {v : Value} {xs : Array Value} {t : TypeId} {f : Nat × Nat} (h : w.heap[b]? = some (.cells xs t f)) (hj : xs[j]? = some v) :
    w.cell? ⟨b, j, none⟩ = some v := by simp [World.cell?, h, hj]

theorem free_of_block {w : World} {b j : Nat} {xs : Array Value} {t : TypeId} (h : w.heap[b]? = some (.cells xs t (0, 0))) :
    w.frozen? ⟨b, j, none⟩ = false := by simp [World.frozen?, h]

theorem below_block {B : Nat} {w w' : World} (h : Below B w w') {b : Nat} {o : Obj} (hb : b < B) (ho : w.heap[b]? = some o) : w'.heap[b]? = some o :=
  (h.block b hb).trans ho

/-- What lay stays as it lay. -/
theorem below_cells {w w' : World} {B : Nat} (h : Below B w w') : (∀ b o, b < B → w'.cell? ⟨b, o, none⟩ = w.cell? ⟨b, o, none⟩) ∧ (∀ b o, b < B → w'.frozen? ⟨b, o, none⟩ = w.frozen? ⟨b, o, none⟩) :=
  ⟨fun b o hb => h.cell (p := ⟨b, o, none⟩) hb, fun b o hb => h.frozen (p := ⟨b, o, none⟩) hb⟩

theorem below_drewN {B : Nat} {a w : World} (h : Below B a w) (q : Nat) : Below B a (w.drewN q) := ⟨h.os, h.tape, h.output, h.size, h.block⟩

theorem heap_new (w : World) (o : Obj) : (w.alloc o).heap[w.heap.size]? = some o := heap_alloc_new w o

theorem heap_old {w : World} {o p : Obj} {b : Nat} (h : w.heap[b]? = some o) : (w.alloc p).heap[b]? = some o :=
  (Below.heap_alloc w p b (lt_of_block h)).trans h

/-- The cells of a byte row. -/
def byteRow (l : List UInt8) : Array Value := (l.map fun b => Value.int .u8 (b.toNat : Int)).toArray

theorem byteRow_size (l : List UInt8) : (byteRow l).size = l.length := by simp [byteRow]

theorem byteRow_at (l : List UInt8) (j : Nat) (hj : j < l.length) : (byteRow l)[j]? = some (.int .u8 (l[j].toNat : Int)) := by
  simp [byteRow, hj]

theorem byteRow_set (l : List UInt8) (j : Nat) (b : UInt8) : (byteRow l).setIfInBounds j (.int .u8 (b.toNat : Int)) = byteRow (l.set j b) := by
  apply Array.ext'
  simp [byteRow, List.map_set]

theorem madeCells_bytes (n : Nat) : madeCells (Value.int .u8 0).cells (n * 1) = byteRow (List.replicate n 0) := by
  apply Array.ext
  · simp [size_madeCells, byteRow_size]
  · intro i h1 h2
    simp [madeCells, byteRow, Value.cells, Nat.mod_one]

/-- 'string(b)' of a block that is known whole, from its beginning. -/
theorem run_string_of_row {P : Program} {w : World} {b cap : Nat} {l : List UInt8} {t : TypeId} {f : Nat × Nat} (src dst e : TypeId) (h : w.heap[b]? = some (.cells (byteRow l) t f))
    (hs : P.underlying src = some (.slice e)) (he : P.underlying e = some (.int .u8)) (hd : P.underlying dst = some .string) (n : Nat) (hn : n = l.length) :
    (convert src dst (.slice (some ⟨b, 0, none⟩) n cap)).run P w = .ok (.string ⟨l.toArray⟩) w := by
  subst hn
  refine run_convert_bytes_back w src dst e _ cap l hs he hd fun j hj => ?_
  have : (⟨b, 0, none⟩ : Addr).add j = ⟨b, j, none⟩ := by unfold Addr.add; split <;> simp_all
  rw [this]
  exact cell_of_block h (byteRow_at l j hj)

theorem below_then {w a b : World} (h : Below w.heap.size w a) (k : Below a.heap.size a b) : Below w.heap.size w b := h.trans (k.mono h.size)

theorem cell_far {w : World} {b c j k : Nat} {v u : Value} (h : w.cell? ⟨b, j, none⟩ = some u) (hne : b ≠ c) : (w.setCell ⟨c, k, none⟩ v).cell? ⟨b, j, none⟩ = some u := by
  rw [World.cell?_setCell_other w ⟨c, k, none⟩ ⟨b, j, none⟩ v (fun e => hne (by cases e; rfl))]; exact h

end Go.Proofs.Ythpafojeadbjlaa
