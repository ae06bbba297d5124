/-
  Tests in their Bool form.
-/
import Derived.WalkKit
namespace Go.Proofs.Ythpafojeadbjlaa

theorem ne_t {a b : Int} (h : a ≠ b) : (a == b) = false ∧ (a != b) = true := by simp [h]
theorem eq_t {a b : Int} (h : a = b) : (a == b) = true ∧ (a != b) = false := by simp [h]

end Go.Proofs.Ythpafojeadbjlaa
