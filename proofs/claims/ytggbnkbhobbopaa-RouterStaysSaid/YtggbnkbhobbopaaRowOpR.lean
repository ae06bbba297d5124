/-
  Lists of siphon/siphonlaw19.Op that came in as data.
-/
import Derived.Test.YtggbnkbhobbopaaRowG
namespace Go.Proofs.Ytggbnkbhobbopaa
open Go.RowKit Go.ChangeShapes Go.WideShapes Go.Deep
set_option linter.unusedVariables false

abbrev OpR := Int × Int × Int × Int
def cellsOpR (x : OpR) : List Value := [.int .i64 x.1, .int .i64 x.2.1, .int .i64 x.2.2.1, .int .i64 x.2.2.2]
def GoodOpR (x : OpR) : Prop := (-9223372036854775808 ≤ x.1 ∧ x.1 ≤ 9223372036854775807) ∧ (-9223372036854775808 ≤ x.2.1 ∧ x.2.1 ≤ 9223372036854775807) ∧ (-9223372036854775808 ≤ x.2.2.1 ∧ x.2.2.1 ≤ 9223372036854775807) ∧ (-9223372036854775808 ≤ x.2.2.2 ∧ x.2.2.2 ≤ 9223372036854775807)

theorem listOpR {β : Type} (l : List β) (h : l.length = 4) : ∃ x0 x1 x2 x3 : β, l = [x0, x1, x2, x3] := by
  match l, h with
  | [x0, x1, x2, x3], _ => exact ⟨x0, x1, x2, x3, rfl⟩

section
variable {H : Type} {enc : TypeId × Value → H} {w : World} {base : Nat} {spare : Nat → Bool} {held : Bool}
theorem elemOpR (fuel : Nat) (cs : List Value) (x : DataW H × List MemPlace) (hcs : cs.length = 4) (h : DataW.trod enc Try.prog w base spare held fuel 23 cs = some x) : ∃ a : OpR, cs = cellsOpR a ∧ GoodOpR a := by
  obtain ⟨c0, c1, c2, c3, rfl⟩ := listOpR cs hcs
  obtain ⟨ys, m, -, -, -, hn, hg⟩ := DataW.trod_struct Try.underlying23 h
  obtain ⟨y0, y1, y2, y3, rfl⟩ := listOpR ys hn
  have g0 : DataW.trod enc Try.prog w base spare held m 3 (List.take (Try.prog.cellsOf 3) (List.drop 0 [c0, c1, c2, c3])) = some y0 := hg 0 _ rfl
  rw [show Try.prog.cellsOf 3 = 1 from by kernel_rfl] at g0
  have g1 : DataW.trod enc Try.prog w base spare held m 3 (List.take (Try.prog.cellsOf 3) (List.drop 1 [c0, c1, c2, c3])) = some y1 := hg 1 _ rfl
  rw [show Try.prog.cellsOf 3 = 1 from by kernel_rfl] at g1
  have g2 : DataW.trod enc Try.prog w base spare held m 3 (List.take (Try.prog.cellsOf 3) (List.drop 2 [c0, c1, c2, c3])) = some y2 := hg 2 _ rfl
  rw [show Try.prog.cellsOf 3 = 1 from by kernel_rfl] at g2
  have g3 : DataW.trod enc Try.prog w base spare held m 3 (List.take (Try.prog.cellsOf 3) (List.drop 3 [c0, c1, c2, c3])) = some y3 := hg 3 _ rfl
  rw [show Try.prog.cellsOf 3 = 1 from by kernel_rfl] at g3
  obtain ⟨a0, e0, -, w0⟩ := DataW.trod_int Try.underlying3 g0
  obtain ⟨a1, e1, -, w1⟩ := DataW.trod_int Try.underlying3 g1
  obtain ⟨a2, e2, -, w2⟩ := DataW.trod_int Try.underlying3 g2
  obtain ⟨a3, e3, -, w3⟩ := DataW.trod_int Try.underlying3 g3
  simp at e0 e1 e2 e3
  subst e0 e1 e2 e3
  exact ⟨(a0, a1, a2, a3), rfl, bounds_i64 w0, bounds_i64 w1, bounds_i64 w2, bounds_i64 w3⟩

theorem openOpR {fuel : Nat} {cs : List Value} {x : DataW H × List MemPlace} (h : DataW.trod enc Try.prog w base spare held fuel 35 cs = some x) :
    ∃ (v : Value) (L : List OpR), cs = [v] ∧ RowsAt 4 cellsOpR w v L ∧ L.length ≤ maxLen ∧ ∀ r ∈ L, GoodOpR r :=
  rows_open (size := 4) (cells := cellsOpR) (good := GoodOpR) Try.underlying35 (by kernel_rfl) (by decide) (fun _ => rfl) (fun fuel cs x => elemOpR fuel cs x) h
end

end Go.Proofs.Ytggbnkbhobbopaa
