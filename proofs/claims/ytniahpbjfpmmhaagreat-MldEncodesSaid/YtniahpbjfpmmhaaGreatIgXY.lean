/-
  Which messages of one group may be, and their bytes: igmp.isDetailed, oneByte, tellingMayBe, mayBe, one, Encode where a message is neither a query nor a report of version 3.
  The bytes of a message of one group: the writer's one, and Encode where a message is neither a query nor a report of version 3.
-/
import Derived.Test.YtniahpbjfpmmhaaGreatIgW
import Derived.Test.YtniahpbjfpmmhaaGreatIgA
import Derived.Test.YtniahpbjfpmmhaaGreatFill
import Derived.Test.YtniahpbjfpmmhaaGreatIgF
namespace Go.Proofs.YtniahpbjfpmmhaaGreat
open Go.RowKit
set_option linter.unusedVariables false

def detB (q : Bool) (rob ev : Int) (ns : Nat) : Bool := q || decide (rob ≠ 0) || decide (ev ≠ 0) || decide (ns ≠ 0)
def oneB (k v : Int) : Int × Bool :=
  if k = 2 ∧ v = 1 then (18, true) else if k = 2 ∧ v = 2 then (22, true) else if k = 3 ∧ v = 2 then (23, true) else (0, false)

def tellB (k v : Int) (g : ByteArray) (nr : Nat) : Bool := (oneB k v).2 && grpB g 4 && decide (nr = 0)

def mayOneB (k v : Int) (g : ByteArray) (mx : Int) (q : Bool) (rob ev : Int) (ns nr : Nat) : Bool := decide (mx = 0) && !detB q rob ev ns && tellB k v g nr

/-- A writer's block b, and a message's box behind w0's end, while it writes. -/
def WF (b : Nat) (w0 : World) (xs : Array Value) (t : TypeId) (l : List UInt8) (w : World) : Prop :=
  Wr.Bld b l w ∧ Below b w0 w ∧ Wr.KeptO b w0 w ∧ w.heap[w0.heap.size]? = some (.cells xs t (0, 0)) ∧ b < w0.heap.size
theorem WF.start {b : Nat} {w0 : World} {xs : Array Value} {t : TypeId} {l : List UInt8} (h : Wr.Bld b l w0) : WF b w0 xs t l (w0.alloc (.cells xs t)) := by
  have hb : Below w0.heap.size w0 (w0.alloc (.cells xs t)) := (Below.refl _ w0).alloc (Nat.le_refl _) _
  exact ⟨h.alloc _, hb.mono (Nat.le_of_lt h.lt), Wr.KeptO.of_below hb, heap_new _ _, h.lt⟩
theorem WF.below {b : Nat} {w0 w w' : World} {xs : Array Value} {t : TypeId} {l : List UInt8} (h : WF b w0 xs t l w) (k : Below w.heap.size w w') : WF b w0 xs t l w' :=
  ⟨h.1.below k, h.2.1.trans (k.mono (Nat.le_of_lt h.1.lt)), h.2.2.1.trans (Wr.KeptO.of_below k), below_block k (lt_of_block h.2.2.2.1) h.2.2.2.1, h.2.2.2.2⟩
theorem WF.wrote {b : Nat} {w0 w w' : World} {xs : Array Value} {t : TypeId} {l l' : List UInt8} (h : WF b w0 xs t l w) (ht : t ≠ 5) (b2 : Wr.Bld b l' w') (k : Below b w w') (o : Wr.KeptO b w w') : WF b w0 xs t l' w' :=
  ⟨b2, h.2.1.trans k, h.2.2.1.trans o, o _ _ _ _ (by have := h.2.2.2.2; omega) ht h.2.2.2.1, h.2.2.2.2⟩
theorem WF.cell {b : Nat} {w0 w : World} {xs : Array Value} {t : TypeId} {l : List UInt8} (h : WF b w0 xs t l w) (j : Nat) {v : Value} (hj : xs[j]? = some v) : w.cell? ⟨w0.heap.size, j, none⟩ = some v := cell_of_block h.2.2.2.1 hj

theorem put_n (n k : Nat) (h1 : 1 ≤ k) (h4 : k ≤ 4) (hn : n < 256 ^ k) : (putSpec n k).1.data.toList = bytesOf n k := by rw [put_ok n k h1 h4 hn]

def oneL (c : Nat) (g : ByteArray) : List UInt8 := [] ++ bytesOf c 1 ++ bytesOf 0 1 ++ bytesOf 0 2 ++ g.data.toList

end Go.Proofs.YtniahpbjfpmmhaaGreat
