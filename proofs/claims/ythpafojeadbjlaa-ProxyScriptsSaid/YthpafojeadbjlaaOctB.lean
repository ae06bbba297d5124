/-
  What octet.Get, Put, Wide, Eight and Cut answer: contracts over the translated program, at every argument.
-/
import Derived.Test.YthpafojeadbjlaaOctA
import Derived.Lib.Strings
import Derived.Lib.UnsafeStr
import Derived.Lib.BufferWrite
namespace Go.Proofs.Ythpafojeadbjlaa
open Go.RowKit

/-- n bytes of s from a on. -/
def subs (s : ByteArray) (a n : Nat) : List UInt8 := (s.data.toList.drop a).take n

/-- What Get answers: the number and the error's number. -/
def getSpec (s : ByteArray) (a width : Int) : Int × Int :=
  if a < 0 ∨ width < 1 ∨ 4 < width then (0, 1) else if (s.size : Int) - a < width then (0, 2) else ((be (subs s a.toNat width.toNat) : Int), 0)

def wideSpec (s : ByteArray) (a : Int) : Int × Int :=
  if a < 0 then (0, 1) else if (s.size : Int) - a < 8 then (0, 2) else ((be (subs s a.toNat 8) : Int), 0)

def putSpec (n width : Int) : ByteArray × Int :=
  if width < 1 ∨ 4 < width ∨ n < 0 ∨ (256 ^ width.toNat : Nat) ≤ n then (⟨#[]⟩, 1) else (⟨(bytesOf n.toNat width.toNat).toArray⟩, 0)

def cutSpec (s : ByteArray) (a n : Int) : ByteArray × Int :=
  if a < 0 ∨ n < 0 then (⟨#[]⟩, 1) else if (s.size : Int) - a < n then (⟨#[]⟩, 2) else (⟨(subs s a.toNat n.toNat).toArray⟩, 0)

theorem subs_extract (s : ByteArray) (a n : Nat) : (s.extract a (a + n)).data.toList = subs s a n := by
  rw [Lib.extract_data]; unfold subs; rw [show a + n - a = n from by omega]

theorem pow_cases (W : Nat) (h1 : 1 ≤ W) (h2 : W ≤ 4) : W = 1 ∨ W = 2 ∨ W = 3 ∨ W = 4 := by omega

theorem byteRow_cells (l : List UInt8) : (Lib.byteCells l).toArray = byteRow l := rfl

theorem extract_mk (s : ByteArray) (a n : Nat) : s.extract a (a + n) = ⟨(subs s a n).toArray⟩ := by
  apply ByteArray.ext
  apply Array.toList_inj.1
  rw [subs_extract]

end Go.Proofs.Ythpafojeadbjlaa
