/-
  What the functions of package octet answer: spread, number, Get, Put, Wide, Eight (contracts over the translated program). No condition but what each theorem names.
-/
import Derived.Test.YthpafojeadbjlaaProg
import Derived.Test.YthpafojeadbjlaaOctMath
import Derived.Test.YthpafojeadbjlaaKit
import Derived.WalkKit
import Derived.BigQuiet
import Derived.Deep.QuietTactic
import Derived.Outline
import Derived.LoopTactic
import Derived.WalkSpells
import Derived.WalkLawsBesides
import Derived.Laws.BitsAllLaws
namespace Go.Proofs.Ythpafojeadbjlaa
open Go.RowKit

/-- Byte j of the w bytes of n. -/
def bAt (n w j : Nat) : UInt8 := UInt8.ofNat (n / 256 ^ (w - 1 - j))

theorem bAt_eq (n w j : Nat) (h : j < w) : (bytesOf n w)[j]'(by rw [bytesOf_length]; exact h) = bAt n w j := by
  simp [bytesOf, bAt]

/-- The shifted number's lowest byte. -/
theorem shr_byte (n w j : Nat) : ((n : Int) / 2 ^ (8 * (w - 1 - j)) % 256) = ((bAt n w j).toNat : Int) := by
  unfold bAt
  rw [UInt8.toNat_ofNat']
  have p : (2 : Int) ^ (8 * (w - 1 - j)) = ((256 ^ (w - 1 - j) : Nat) : Int) := by
    rw [show (256 : Nat) = 2 ^ 8 from rfl, ← Nat.pow_mul]
    simp
  rw [p]
  simp

theorem info_u8 : (Try.prog.info? 5).map (fun i => (i.zero, i.size, i.bytes)) = some (some (.int .u8 0), 1, 1) := by kernel_rfl

/-- What the row holds when k bytes have been told. -/
def part (n w k : Nat) : List UInt8 := (bytesOf n w).take k ++ List.replicate (w - k) 0

theorem part_zero (n w : Nat) : part n w 0 = List.replicate w 0 := by simp [part]
theorem part_all (n w : Nat) : part n w w = bytesOf n w := by simp [part, List.take_of_length_le, bytesOf_length]
theorem part_length (n w k : Nat) (h : k ≤ w) : (part n w k).length = w := by simp [part, bytesOf_length]; omega
theorem part_succ (n w k : Nat) (h : k < w) : (part n w k).set k (bAt n w k) = part n w (k + 1) := by
  have hl : ((bytesOf n w).take k).length = k := by simp [bytesOf_length]; omega
  unfold part
  rw [List.set_append_right _ _ (by omega), hl, Nat.sub_self, show w - k = (w - (k + 1)) + 1 from by omega, List.replicate_succ, List.set_cons_zero,
    List.take_succ_eq_append_getElem (by rw [bytesOf_length]; exact h), List.append_assoc]
  rw [bAt_eq n w k h]
  rfl

theorem ret_u64 {a b : Int} (h : a = b) : Ending.returned (.int .u64 a) = .returned (.int .u64 b) := by rw [h]

end Go.Proofs.Ythpafojeadbjlaa
