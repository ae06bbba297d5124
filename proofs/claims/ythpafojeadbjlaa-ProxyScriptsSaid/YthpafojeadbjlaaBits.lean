/-
  Bit operations on int where both numbers are at least 0. No program is imported.
-/
import Derived.Laws.BitsAllLaws
import Derived.Laws.Bits128
namespace Go.Proofs.Ythpafojeadbjlaa

theorem i64_wrap_small (n : Nat) (h : n < 2 ^ 63) : IntKind.i64.wrap (n : Int) = n := by
  rw [IntKind.wrap_i64]; omega
theorem i64_or_nat (a b : Nat) (ha : a < 2 ^ 63) (hb : b < 2 ^ 63) : bits .or .i64 (a : Int) (b : Int) = ((a ||| b : Nat) : Int) := by
  show IntKind.i64.wrap ((BitVec.ofInt 64 (a : Int) ||| BitVec.ofInt 64 (b : Int)).toNat : Nat) = _
  rw [BitVec.toNat_or, ofInt_u64 a (by omega), ofInt_u64 b (by omega), i64_wrap_small _ (Nat.or_lt_two_pow ha hb)]
theorem i64_and_nat (a b : Nat) (ha : a < 2 ^ 63) (hb : b < 2 ^ 63) : bits .and .i64 (a : Int) (b : Int) = ((a &&& b : Nat) : Int) := by
  show IntKind.i64.wrap ((BitVec.ofInt 64 (a : Int) &&& BitVec.ofInt 64 (b : Int)).toNat : Nat) = _
  rw [BitVec.toNat_and, ofInt_u64 a (by omega), ofInt_u64 b (by omega), i64_wrap_small _ (Nat.lt_of_le_of_lt Nat.and_le_left ha)]

/-- A mask of the k lowest bits. -/
theorem i64_mask (n : Int) (k : Nat) (h0 : 0 ≤ n) (h1 : n < 9223372036854775808) (hk : k < 63) : bits .and .i64 n (((2 ^ k - 1 : Nat)) : Int) = n % ((2 ^ k : Nat) : Int) := by
  obtain ⟨N, rfl⟩ := Int.eq_ofNat_of_zero_le h0
  have hp : (2 : Nat) ^ k < 2 ^ 63 := Nat.pow_lt_pow_right (by omega) hk
  rw [i64_and_nat N (2 ^ k - 1) (by omega) (by omega), Nat.and_two_pow_sub_one_eq_mod]
  rfl
/-- One bit. -/
theorem i64_bit (n : Int) (k : Nat) (h0 : 0 ≤ n) (h1 : n < 9223372036854775808) (hk : k < 63) : bits .and .i64 n ((2 ^ k : Nat) : Int) = n / ((2 ^ k : Nat) : Int) % 2 * ((2 ^ k : Nat) : Int) := by
  obtain ⟨N, rfl⟩ := Int.eq_ofNat_of_zero_le h0
  have hp : (2 : Nat) ^ k < 2 ^ 63 := Nat.pow_lt_pow_right (by omega) hk
  rw [i64_and_nat N (2 ^ k) (by omega) hp, nat_bit]
  simp
/-- A number above k lowest bits. -/
theorem i64_join (a b : Int) (k : Nat) (h0 : 0 ≤ a) (h1 : 0 ≤ b) (h2 : b < ((2 ^ k : Nat) : Int)) (h3 : a * ((2 ^ k : Nat) : Int) < 9223372036854775808) (hk : k < 63) :
    bits .or .i64 (a * ((2 ^ k : Nat) : Int)) b = a * ((2 ^ k : Nat) : Int) + b := by
  obtain ⟨A, rfl⟩ := Int.eq_ofNat_of_zero_le h0
  obtain ⟨B, rfl⟩ := Int.eq_ofNat_of_zero_le h1
  have hp : (2 : Nat) ^ k < 2 ^ 63 := Nat.pow_lt_pow_right (by omega) hk
  have e : ((A : Int) * ((2 ^ k : Nat) : Int)) = ((A * 2 ^ k : Nat) : Int) := by simp
  rw [e] at h3 ⊢
  rw [i64_or_nat (A * 2 ^ k) B (by omega) (by omega), nat_join k _ _ (Nat.mul_mod_left _ _) (by omega)]
  simp
end Go.Proofs.Ythpafojeadbjlaa
