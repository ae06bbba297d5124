/-
  The bytes of a frame: ether.Encode and the document's answer siphonref03.Encode are the same.
-/
import Derived.Test.YthpafojeadbjlaaEthA
import Derived.Test.YthpafojeadbjlaaBld
import Derived.Test.YthpafojeadbjlaaBits
import Derived.Deep.RegionWith
namespace Go.Proofs.Ythpafojeadbjlaa
open Go.RowKit
set_option linter.unusedVariables false

/-- The bytes of a frame. -/
def encL (d s : ByteArray) (t : Bool) (v p y : Int) (x : ByteArray) : List UInt8 :=
  d.data.toList ++ s.data.toList ++ (if t = true then [129, 0] ++ bytesOf (p * 8192 + v).toNat 2 else []) ++ bytesOf y.toNat 2 ++ x.data.toList

/-- What Encode answers. -/
def encF (d s : ByteArray) (t : Bool) (v p y : Int) (x : ByteArray) : ByteArray × Int :=
  if FOk d s t v p y x then (⟨(encL d s t v p y x).toArray⟩, 0) else (⟨#[]⟩, 1)

theorem put2 (n : Int) (h0 : 0 ≤ n) (h1 : n ≤ 65535) : putSpec n 2 = (⟨(bytesOf n.toNat 2).toArray⟩, 0) := by
  obtain ⟨N, rfl⟩ := Int.eq_ofNat_of_zero_le h0
  exact put_ok N 2 (by omega) (by omega) (by omega)

theorem len_pos_ne {l : List UInt8} (h : 0 < l.length) : l ≠ [] := by rintro rfl; simp at h
theorem ret_s2 {a b : List UInt8} {v : Value} (h : a = b) : Ending.returned (.tuple #[.string ⟨a.toArray⟩, v]) = .returned (.tuple #[.string ⟨b.toArray⟩, v]) := by rw [h]

/-- A box laid first, calls that make memory, then a second box and what is written from it on. -/
theorem eenc_boxed {w w1 : World} {o : Obj} (h1 : Below (w.alloc o).heap.size (w.alloc o) w1) : Below w.heap.size w w1 :=
  ((Below.refl _ w).alloc (Nat.le_refl _) o).trans (h1.mono (by simp))
theorem eenc_below {w w1 w2 : World} {o p : Obj} (h1 : Below (w.alloc o).heap.size (w.alloc o) w1) (h2 : Below w1.heap.size (w1.alloc p) w2) : Below w.heap.size w w2 := by
  have a := eenc_boxed h1
  have b : Below w1.heap.size w1 w2 := ((Below.refl _ w1).alloc (Nat.le_refl _) p).trans h2
  exact a.trans (b.mono a.size)

end Go.Proofs.Ythpafojeadbjlaa
