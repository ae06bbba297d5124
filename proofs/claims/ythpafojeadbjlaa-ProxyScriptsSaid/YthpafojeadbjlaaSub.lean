/-
  Parts of a text, byte by byte (plain lemmas).
-/
import Derived.Test.YthpafojeadbjlaaOctB
namespace Go.Proofs.Ythpafojeadbjlaa
open Go.RowKit

theorem subs_succ (s : ByteArray) (A k : Nat) (h : A + k < s.size) : subs s A (k + 1) = subs s A k ++ [s[A + k]] := by
  have hl : (s.data.toList.drop A).length = s.size - A := by simp
  unfold subs
  rw [List.take_succ_eq_append_getElem (by omega)]
  congr 1
  simp
  rfl

theorem ret_i64 {a b : Int} (h : a = b) : Ending.returned (.int .i64 a) = .returned (.int .i64 b) := by rw [h]

theorem ret_i64p {a b : Int} {v : Value} (h : a = b) : Ending.returned (.tuple #[.int .i64 a, v]) = .returned (.tuple #[.int .i64 b, v]) := by rw [h]

end Go.Proofs.Ythpafojeadbjlaa
