/-
  How many bits a number has: math/bits.Len, by the shelf's contract.
-/
import Derived.Test.YtfdiaaggmjlkbaaProg
import Derived.Test.YtfdiaaggmjlkbaaCodeM
import Derived.Shelf.Small.Bits
namespace Go.Proofs.Ytfdiaaggmjlkbaa
open Go.Shelf

def lays125_ren : Go.Shelf.Ren := ⟨fun | 125 => 88 | 128 => 92 | 129 => 93 | n => n, fun | 46 => 98 | 3 => 3 | 51 => 109 | 53 => 84 | 4 => 4 | 5 => 5 | 9 => 9 | n => n, fun | n => n⟩
theorem lays125 : Go.Proofs.Lays.n125 Try.prog lays125_ren := {
  mixed := by kernel_rfl
  f125 := Try.func88.trans (congrArg some (by kernel_rfl))
  f128 := Try.func92.trans (congrArg some (by kernel_rfl))
  f129 := Try.func93.trans (congrArg some (by kernel_rfl))
  t3 := Try.underlying3
  a3 := Try.isAgg3
  z3 := Try.sizeOf3
  v3 := Try.zeroValue3
  t4 := Try.underlying4
  a4 := Try.isAgg4
  z4 := Try.sizeOf4
  v4 := Try.zeroValue4
  t5 := Try.underlying5
  a5 := Try.isAgg5
  z5 := Try.sizeOf5
  v5 := Try.zeroValue5
  t9 := Try.underlying9
  a9 := Try.isAgg9
  z9 := Try.sizeOf9
  v9 := Try.zeroValue9
  t46 := Try.underlying98
  a46 := Try.isAgg98
  z46 := Try.sizeOf98
  v46 := Try.zeroValue98
  t51 := Try.underlying109
  a51 := Try.isAgg109
  z51 := Try.sizeOf109
  v51 := Try.zeroValue109
  t53 := Try.underlying84
  a53 := Try.isAgg84
  z53 := Try.sizeOf84
  v53 := Try.zeroValue84 }

theorem len_c (x L : Nat) (w : World) (h1 : 2 ^ L ≤ x) (h2 : x < 2 ^ (L + 1)) (hL : L < 64) :
    Calls Try.prog 88 #[.int .u64 x] w fun e w' => e = .returned (.int .i64 ((L : Int) + 1)) ∧ w = w' := by
  have hx : x < 2 ^ 64 := Nat.lt_of_lt_of_le h2 (Nat.pow_le_pow_right (by omega) hL)
  refine (Any.bits_Len lays125 (x : Int) w (by omega) (by omega)).mono fun e w' h => ⟨h.1.trans ?_, h.2.symm⟩
  rw [Int.toNat_natCast, len_of x L h1 h2 hL]
  rfl

end Go.Proofs.Ytfdiaaggmjlkbaa
