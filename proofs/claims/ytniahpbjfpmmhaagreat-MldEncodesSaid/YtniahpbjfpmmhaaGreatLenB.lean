/-
  How many bits a number has: math/bits.Len, by the shelf's contract.
-/
import Derived.Test.YtniahpbjfpmmhaaGreatProg
import Derived.Test.YtniahpbjfpmmhaaGreatCodeM
import Derived.Shelf.Small.Bits
namespace Go.Proofs.YtniahpbjfpmmhaaGreat
open Go.Shelf

def lays125_ren : Go.Shelf.Ren := ⟨fun | 125 => 102 | 128 => 109 | 129 => 110 | n => n, fun | 46 => 107 | 3 => 3 | 51 => 124 | 53 => 84 | 4 => 4 | 5 => 5 | 9 => 9 | n => n, fun | n => n⟩
theorem lays125 : Go.Proofs.Lays.n125 Tryz.prog lays125_ren := {
  mixed := by kernel_rfl
  f125 := Tryz.func102.trans (congrArg some (by kernel_rfl))
  f128 := Tryz.func109.trans (congrArg some (by kernel_rfl))
  f129 := Tryz.func110.trans (congrArg some (by kernel_rfl))
  t3 := Tryz.underlying3
  a3 := Tryz.isAgg3
  z3 := Tryz.sizeOf3
  v3 := Tryz.zeroValue3
  t4 := Tryz.underlying4
  a4 := Tryz.isAgg4
  z4 := Tryz.sizeOf4
  v4 := Tryz.zeroValue4
  t5 := Tryz.underlying5
  a5 := Tryz.isAgg5
  z5 := Tryz.sizeOf5
  v5 := Tryz.zeroValue5
  t9 := Tryz.underlying9
  a9 := Tryz.isAgg9
  z9 := Tryz.sizeOf9
  v9 := Tryz.zeroValue9
  t46 := Tryz.underlying107
  a46 := Tryz.isAgg107
  z46 := Tryz.sizeOf107
  v46 := Tryz.zeroValue107
  t51 := Tryz.underlying124
  a51 := Tryz.isAgg124
  z51 := Tryz.sizeOf124
  v51 := Tryz.zeroValue124
  t53 := Tryz.underlying84
  a53 := Tryz.isAgg84
  z53 := Tryz.sizeOf84
  v53 := Tryz.zeroValue84 }

theorem len_c (x L : Nat) (w : World) (h1 : 2 ^ L ≤ x) (h2 : x < 2 ^ (L + 1)) (hL : L < 64) :
    Calls Tryz.prog 102 #[.int .u64 x] w fun e w' => e = .returned (.int .i64 ((L : Int) + 1)) ∧ w = w' := by
  have hx : x < 2 ^ 64 := Nat.lt_of_lt_of_le h2 (Nat.pow_le_pow_right (by omega) hL)
  refine (Any.bits_Len lays125 (x : Int) w (by omega) (by omega)).mono fun e w' h => ⟨h.1.trans ?_, h.2.symm⟩
  rw [Int.toNat_natCast, len_of x L h1 h2 hL]
  rfl

end Go.Proofs.YtniahpbjfpmmhaaGreat
