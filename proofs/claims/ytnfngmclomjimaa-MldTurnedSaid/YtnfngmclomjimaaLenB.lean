/-
  How many bits a number has: math/bits.Len, by the shelf's contract.
-/
import Derived.Test.YtnfngmclomjimaaProg
import Derived.Test.YtnfngmclomjimaaCodeM
import Derived.Shelf.Small.Bits
namespace Go.Proofs.Ytnfngmclomjimaa
open Go.Shelf

def lays125_ren : Go.Shelf.Ren := ⟨fun | 125 => 83 | 128 => 90 | 129 => 91 | n => n, fun | 46 => 39 | 3 => 3 | 51 => 125 | 53 => 81 | 4 => 4 | 5 => 5 | 9 => 9 | n => n, fun | n => n⟩
theorem lays125 : Go.Proofs.Lays.n125 Try.prog lays125_ren := {
  mixed := by kernel_rfl
  f125 := Try.func83.trans (congrArg some (by kernel_rfl))
  f128 := Try.func90.trans (congrArg some (by kernel_rfl))
  f129 := Try.func91.trans (congrArg some (by kernel_rfl))
  t3 := Try.underlying3
  a3 := Try.isAgg3
  z3 := Try.sizeOf3
  v3 := Try.zeroValue3
  t4 := Try.underlying4
  a4 := Try.isAgg4
  z4 := Try.sizeOf4
  v4 := Try.zeroValue4
  t5 := Try.underlying5
  a5 := Try.isAgg5
  z5 := Try.sizeOf5
  v5 := Try.zeroValue5
  t9 := Try.underlying9
  a9 := Try.isAgg9
  z9 := Try.sizeOf9
  v9 := Try.zeroValue9
  t46 := Try.underlying39
  a46 := Try.isAgg39
  z46 := Try.sizeOf39
  v46 := Try.zeroValue39
  t51 := Try.underlying125
  a51 := Try.isAgg125
  z51 := Try.sizeOf125
  v51 := Try.zeroValue125
  t53 := Try.underlying81
  a53 := Try.isAgg81
  z53 := Try.sizeOf81
  v53 := Try.zeroValue81 }

theorem len_c (x L : Nat) (w : World) (h1 : 2 ^ L ≤ x) (h2 : x < 2 ^ (L + 1)) (hL : L < 64) :
    Calls Try.prog 83 #[.int .u64 x] w fun e w' => e = .returned (.int .i64 ((L : Int) + 1)) ∧ w = w' := by
  have hx : x < 2 ^ 64 := Nat.lt_of_lt_of_le h2 (Nat.pow_le_pow_right (by omega) hL)
  refine (Any.bits_Len lays125 (x : Int) w (by omega) (by omega)).mono fun e w' h => ⟨h.1.trans ?_, h.2.symm⟩
  rw [Int.toNat_natCast, len_of x L h1 h2 hL]
  rfl

end Go.Proofs.Ytnfngmclomjimaa
