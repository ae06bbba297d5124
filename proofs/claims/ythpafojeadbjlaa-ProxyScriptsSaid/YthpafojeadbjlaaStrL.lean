/-
  Texts in their order, plainly; comparisons of texts at the operation. It speaks of no function.
-/
import Derived.WalkKit
import Derived.Sort.Walk0
namespace Go.Proofs.Ythpafojeadbjlaa
open Go.RowKit
set_option linter.unusedVariables false

/-- One text ahead of another. -/
def blt (a b : ByteArray) : Bool := Op.bytesLess a.toList b.toList
theorem blt_iff (a b : ByteArray) : blt a b = true ↔ a.data.toList < b.data.toList := by
  unfold blt
  rw [bytesLess_eq, Lib.toList_data, Lib.toList_data, decide_eq_true_iff]
theorem blt_irrefl (a : ByteArray) : blt a a = false := by
  rw [Bool.eq_false_iff, ne_eq, blt_iff]
  exact List.lt_irrefl _
theorem blt_trans {a b c : ByteArray} (h : blt a b = true) (k : blt b c = true) : blt a c = true := by
  rw [blt_iff] at *
  exact List.lt_trans h k
theorem bl_ext {a b : ByteArray} (h : a.data.toList = b.data.toList) : a = b := ByteArray.ext (Array.toList_inj.1 h)
theorem blt_tri {a b : ByteArray} (h : blt a b = false) (k : blt b a = false) : a = b := by
  rw [Bool.eq_false_iff, ne_eq, blt_iff] at *
  exact bl_ext (List.le_antisymm (List.not_lt.1 k) (List.not_lt.1 h))
theorem blt_asym {a b : ByteArray} (h : blt a b = true) : blt b a = false := by
  rcases k : blt b a with _ | _
  · rfl
  · have := blt_trans h k
    rw [blt_irrefl] at this
    cases this
theorem blt_ne {a b : ByteArray} (h : blt a b = true) : a ≠ b := by
  rintro rfl
  rw [blt_irrefl] at h
  cases h
theorem slss_of {x y : ByteArray} {r : Bool} (h : blt x y = r) (t : TypeId) : binOp .lss t (.string x) (.string y) = pure (.bool r) := by
  rw [← h]
  simp [binOp, Op.stringOp, blt]
theorem seql_of {x y : ByteArray} {r : Bool} (h : decide (x = y) = r) (t : TypeId) : binOp .eql t (.string x) (.string y) = pure (.bool r) := by
  rw [← h]
  have e : (x.toList == y.toList) = decide (x = y) := by
    rw [Lib.toList_data, Lib.toList_data, Bool.eq_iff_iff, beq_iff_eq, decide_eq_true_iff]
    exact ⟨fun e => ByteArray.ext (Array.toList_inj.1 e), fun e => by rw [e]⟩
  simp [binOp, Op.stringOp, e]
theorem sneq_of {x y : ByteArray} {r : Bool} (h : decide (x = y) = r) (t : TypeId) : binOp .neq t (.string x) (.string y) = pure (.bool !r) := by
  rw [← h]
  have e : (x.toList == y.toList) = decide (x = y) := by
    rw [Lib.toList_data, Lib.toList_data, Bool.eq_iff_iff, beq_iff_eq, decide_eq_true_iff]
    exact ⟨fun e => ByteArray.ext (Array.toList_inj.1 e), fun e => by rw [e]⟩
  simp [binOp, Op.stringOp, e]

end Go.Proofs.Ythpafojeadbjlaa
