/-
  Which frames may be: ether.mayBe and the document's answer siphonref03.May say the same.
-/
import Derived.Test.YthpafojeadbjlaaSub
import Derived.Test.YthpafojeadbjlaaBase
import Derived.BigGuardPart
import Derived.Deep.QuietTactic
import Derived.BigQuiet
namespace Go.Proofs.Ythpafojeadbjlaa
open Go.RowKit

/-- A frame that may be. -/
def FOk (d s : ByteArray) (t : Bool) (v p y : Int) (x : ByteArray) : Prop :=
  d.size = 6 ∧ s.size = 6 ∧ x.size ≤ 2000 ∧ 0 ≤ y ∧ y ≤ 65535 ∧ (if t = true then 0 ≤ v ∧ v ≤ 4094 ∧ 0 ≤ p ∧ p ≤ 7 else v = 0 ∧ p = 0 ∧ y ≠ 33024)

instance (d s : ByteArray) (t : Bool) (v p y : Int) (x : ByteArray) : Decidable (FOk d s t v p y x) := by unfold FOk; infer_instance

def okF (d s : ByteArray) (t : Bool) (v p y : Int) (x : ByteArray) : Bool := decide (FOk d s t v p y x)

theorem ret_bool {a b : Bool} (h : a = b) : Ending.returned (.bool a) = .returned (.bool b) := by rw [h]
theorem bool_of {a b : Bool} (h : a = true ↔ b = true) : a = b := Bool.eq_iff_iff.2 h
theorem okF_plain (d s : ByteArray) (v p y : Int) (x : ByteArray) : okF d s false v p y x = true ↔ d.size = 6 ∧ s.size = 6 ∧ x.size ≤ 2000 ∧ 0 ≤ y ∧ y ≤ 65535 ∧ v = 0 ∧ p = 0 ∧ y ≠ 33024 := by
  simp [okF, FOk]
theorem okF_tagged (d s : ByteArray) (v p y : Int) (x : ByteArray) : okF d s true v p y x = true ↔ d.size = 6 ∧ s.size = 6 ∧ x.size ≤ 2000 ∧ 0 ≤ y ∧ y ≤ 65535 ∧ 0 ≤ v ∧ v ≤ 4094 ∧ 0 ≤ p ∧ p ≤ 7 := by
  simp [okF, FOk]

end Go.Proofs.Ythpafojeadbjlaa
