/-
  The laws on prio: told, equality of vectors, live. Contracts over the translated program.
-/
import Derived.Test.YtolmkflhddlcnaaPrF
import Derived.Test.YtolmkflhddlcnaaRowO
import Derived.Laws.StructEq
import Derived.Deep.RegionHeld3
namespace Go.Proofs.Ytolmkflhddlcnaa
open Go.RowKit
set_option linter.unusedVariables false
set_option linter.unusedSimpArgs false

theorem hd_len (a : Hd) : (cellsHd a).length = 6 := rfl
theorem info_Hd : (Try.prog.info? 84).map (fun i => (i.zero, i.size, i.bytes)) = some (some (.agg #[.bool false, .int .u64 0, .int .i64 0, .int .u64 0, .int .i64 0, .int .i64 0]), 6, 48) := by kernel_rfl
theorem hd_one (a : Hd) : ∀ u ∈ cellsHd a, u.oneCell' = true := by intro u hu; simp [cellsHd] at hu; rcases hu with rfl | rfl | rfl | rfl | rfl | rfl <;> rfl
theorem cells_new (w : World) (xs : List Value) (t : TypeId) : ∀ j u, xs[j]? = some u → (w.alloc (.cells xs.toArray t)).cell? ((⟨w.heap.size, 0, none⟩ : Addr).add j) = some u := by
  intro j u hj
  have e : (⟨w.heap.size, 0, none⟩ : Addr).add j = ⟨w.heap.size, j, none⟩ := by unfold Addr.add; split <;> simp_all
  rw [e]
  exact cell_of_block (heap_new w _) (by simpa using hj)

def eqV (r1 c1 b1 p1 r2 c2 b2 p2 : Int) : Bool := r1 == r2 && (c1 == c2 && (b1 == b2 && p1 == p2))
theorem guard_V : Try.prog.eqGuardType Try.prog.depth 79 = false := by kernel_rfl
theorem fields_V : (Try.prog.fieldsOf 79).toList = [⟨"Root", 44, 0, false, "", "", 0⟩, ⟨"Cost", 3, 1, false, "", "", 8⟩, ⟨"Bridge", 44, 2, false, "", "", 16⟩, ⟨"Port", 3, 3, false, "", "", 24⟩] := by kernel_rfl
theorem und_V : Try.prog.underlying 79 = some (.struct (Try.prog.fieldsOf 79)) := by kernel_rfl
theorem stood_V : Try.prog.stoodInHeld 79 = false := by kernel_rfl
theorem equalIn_V (r1 c1 b1 p1 r2 c2 b2 p2 : Int) (w : World) : (Op.equalIn 10000 79 (.agg #[.int .u64 r1, .int .i64 c1, .int .u64 b1, .int .i64 p1]) (.agg #[.int .u64 r2, .int .i64 c2, .int .u64 b2, .int .i64 p2])).run Try.prog w = .ok (eqV r1 c1 b1 p1 r2 c2 b2 p2) w := by
  rw [show 10000 = 9999 + 1 from rfl, run_equalIn_struct w 9999 _ _ _ und_V stood_V, fields_V]
  have hu := Try.underlying44
  have hi := Try.underlying3
  have hz1 := Try.sizeOf44
  have hz2 := Try.sizeOf3
  have ha1 := Try.isAgg44
  have ha2 := Try.isAgg3
  unfold eqV
  simp [Op.eqFields, part, go_sem, Result.andThen, hz1, hz2, ha1, ha2]
  all_goals (rcases Bool.eq_false_or_eq_true (r1 == r2) with h1 | h1 <;> rcases Bool.eq_false_or_eq_true (c1 == c2) with h2 | h2 <;> rcases Bool.eq_false_or_eq_true (b1 == b2) with h3 | h3 <;> rcases Bool.eq_false_or_eq_true (p1 == p2) with h4 | h4 <;> simp_all [go_sem, Result.andThen])
theorem eql_V (r1 c1 b1 p1 r2 c2 b2 p2 : Int) (w : World) : (binOp .eql 79 (.agg #[.int .u64 r1, .int .i64 c1, .int .u64 b1, .int .i64 p1]) (.agg #[.int .u64 r2, .int .i64 c2, .int .u64 b2, .int .i64 p2])).run Try.prog w = .ok (.bool (eqV r1 c1 b1 p1 r2 c2 b2 p2)) w := by
  rw [run_eql_struct, equalIn_V]; rfl
theorem eqV_self (r c b p : Int) : eqV r c b p r c b p = true := by simp [eqV]

end Go.Proofs.Ytolmkflhddlcnaa
