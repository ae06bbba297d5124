/-
  Lists of siphon/api.Timed that came in as data.
-/
import Derived.Test.YthpafojeadbjlaaRowG
namespace Go.Proofs.Ythpafojeadbjlaa
open Go.RowKit Go.ChangeShapes Go.WideShapes Go.Deep
set_option linter.unusedVariables false

abbrev Tmd := ByteArray × Int
def cellsTmd (x : Tmd) : List Value := [.string x.1, .int .i64 x.2]
def GoodTmd (x : Tmd) : Prop := x.1.size ≤ maxLen ∧ (-9223372036854775808 ≤ x.2 ∧ x.2 ≤ 9223372036854775807)

theorem listTmd {β : Type} (l : List β) (h : l.length = 2) : ∃ x0 x1 : β, l = [x0, x1] := by
  match l, h with
  | [x0, x1], _ => exact ⟨x0, x1, rfl⟩

section
variable {H : Type} {enc : TypeId × Value → H} {w : World} {base : Nat} {spare : Nat → Bool} {held : Bool}
theorem elemTmd (fuel : Nat) (cs : List Value) (x : DataW H × List MemPlace) (hcs : cs.length = 2) (h : DataW.trod enc Try.prog w base spare held fuel 65 cs = some x) : ∃ a : Tmd, cs = cellsTmd a ∧ GoodTmd a := by
  obtain ⟨c0, c1, rfl⟩ := listTmd cs hcs
  obtain ⟨ys, m, -, -, -, hn, hg⟩ := DataW.trod_struct Try.underlying65 h
  obtain ⟨y0, y1, rfl⟩ := listTmd ys hn
  have g0 : DataW.trod enc Try.prog w base spare held m 35 (List.take (Try.prog.cellsOf 35) (List.drop 0 [c0, c1])) = some y0 := hg 0 _ rfl
  rw [show Try.prog.cellsOf 35 = 1 from by kernel_rfl] at g0
  have g1 : DataW.trod enc Try.prog w base spare held m 3 (List.take (Try.prog.cellsOf 3) (List.drop 1 [c0, c1])) = some y1 := hg 1 _ rfl
  rw [show Try.prog.cellsOf 3 = 1 from by kernel_rfl] at g1
  obtain ⟨a0, e0, -, w0⟩ := DataW.trod_string Try.underlying35 g0
  obtain ⟨a1, e1, -, w1⟩ := DataW.trod_int Try.underlying3 g1
  simp at e0 e1
  subst e0 e1
  exact ⟨(a0, a1), rfl, w0, bounds_i64 w1⟩

theorem openTmd {fuel : Nat} {cs : List Value} {x : DataW H × List MemPlace} (h : DataW.trod enc Try.prog w base spare held fuel 30 cs = some x) :
    ∃ (v : Value) (L : List Tmd), cs = [v] ∧ RowsAt 2 cellsTmd w v L ∧ L.length ≤ maxLen ∧ ∀ r ∈ L, GoodTmd r :=
  rows_open (size := 2) (cells := cellsTmd) (good := GoodTmd) Try.underlying30 (by kernel_rfl) (by decide) (fun _ => rfl) (fun fuel cs x => elemTmd fuel cs x) h
end

end Go.Proofs.Ythpafojeadbjlaa
