/-
  Small lemmas: tests in their Bool form; what Put answers where the number fits.
-/
import Derived.Test.YthpafojeadbjlaaOctB
import Derived.Test.YthpafojeadbjlaaTst
namespace Go.Proofs.Ythpafojeadbjlaa
open Go.RowKit

theorem put_no (n W : Int) (h : W < 1 ∨ 4 < W ∨ n < 0 ∨ (256 ^ W.toNat : Nat) ≤ n) : putSpec n W = (⟨#[]⟩, 1) := by unfold putSpec; rw [if_pos h]
theorem put_ok (N W : Nat) (h1 : 1 ≤ W) (h4 : W ≤ 4) (hN : N < 256 ^ W) : putSpec N W = (⟨(bytesOf N W).toArray⟩, 0) := by
  unfold putSpec
  rw [if_neg (by rw [Int.toNat_natCast]; intro h; rcases h with h | h | h | h <;> first | omega | exact Nat.lt_irrefl _ (Nat.lt_of_lt_of_le hN (by exact_mod_cast h)))]
  rfl
theorem bytes_size (N W : Nat) : (⟨(bytesOf N W).toArray⟩ : ByteArray).size = W := by rw [ByteArray.size_mk', List.size_toArray, bytesOf_length]

end Go.Proofs.Ythpafojeadbjlaa
