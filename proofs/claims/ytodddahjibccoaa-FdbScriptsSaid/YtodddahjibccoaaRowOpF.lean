/-
  Lists of siphon/siphonlaw13.Op that came in as data.
-/
import Derived.Test.YtodddahjibccoaaRowG
namespace Go.Proofs.Ytodddahjibccoaa
open Go.RowKit Go.ChangeShapes Go.WideShapes Go.Deep
set_option linter.unusedVariables false

abbrev OpF := Int × Int × ByteArray × Int × Int
def cellsOpF (x : OpF) : List Value := [.int .i64 x.1, .int .i64 x.2.1, .string x.2.2.1, .int .i64 x.2.2.2.1, .int .i64 x.2.2.2.2]
def GoodOpF (x : OpF) : Prop := (-9223372036854775808 ≤ x.1 ∧ x.1 ≤ 9223372036854775807) ∧ (-9223372036854775808 ≤ x.2.1 ∧ x.2.1 ≤ 9223372036854775807) ∧ x.2.2.1.size ≤ maxLen ∧ (-9223372036854775808 ≤ x.2.2.2.1 ∧ x.2.2.2.1 ≤ 9223372036854775807) ∧ (-9223372036854775808 ≤ x.2.2.2.2 ∧ x.2.2.2.2 ≤ 9223372036854775807)

theorem listOpF5 {β : Type} (l : List β) (h : l.length = 5) : ∃ x0 x1 x2 x3 x4 : β, l = [x0, x1, x2, x3, x4] := by
  match l, h with
  | [x0, x1, x2, x3, x4], _ => exact ⟨x0, x1, x2, x3, x4, rfl⟩

section
variable {H : Type} {enc : TypeId × Value → H} {w : World} {base : Nat} {spare : Nat → Bool} {held : Bool}
theorem elemOpF (fuel : Nat) (cs : List Value) (x : DataW H × List MemPlace) (hcs : cs.length = 5) (h : DataW.trod enc Try.prog w base spare held fuel 35 cs = some x) : ∃ a : OpF, cs = cellsOpF a ∧ GoodOpF a := by
  obtain ⟨c0, c1, c2, c3, c4, rfl⟩ := listOpF5 cs hcs
  obtain ⟨ys, m, -, -, -, hn, hg⟩ := DataW.trod_struct Try.underlying35 h
  obtain ⟨y_0, y_1, y_2, y_3, y_4, rfl⟩ := listOpF5 ys hn
  have g_0 : DataW.trod enc Try.prog w base spare held m 3 (List.take (Try.prog.cellsOf 3) (List.drop 0 [c0, c1, c2, c3, c4])) = some y_0 := hg 0 _ rfl
  rw [show Try.prog.cellsOf 3 = 1 from by kernel_rfl] at g_0
  replace g_0 : DataW.trod enc Try.prog w base spare held m 3 [c0] = some y_0 := g_0
  have g_1 : DataW.trod enc Try.prog w base spare held m 3 (List.take (Try.prog.cellsOf 3) (List.drop 1 [c0, c1, c2, c3, c4])) = some y_1 := hg 1 _ rfl
  rw [show Try.prog.cellsOf 3 = 1 from by kernel_rfl] at g_1
  replace g_1 : DataW.trod enc Try.prog w base spare held m 3 [c1] = some y_1 := g_1
  have g_2 : DataW.trod enc Try.prog w base spare held m 33 (List.take (Try.prog.cellsOf 33) (List.drop 2 [c0, c1, c2, c3, c4])) = some y_2 := hg 2 _ rfl
  rw [show Try.prog.cellsOf 33 = 1 from by kernel_rfl] at g_2
  replace g_2 : DataW.trod enc Try.prog w base spare held m 33 [c2] = some y_2 := g_2
  have g_3 : DataW.trod enc Try.prog w base spare held m 3 (List.take (Try.prog.cellsOf 3) (List.drop 3 [c0, c1, c2, c3, c4])) = some y_3 := hg 3 _ rfl
  rw [show Try.prog.cellsOf 3 = 1 from by kernel_rfl] at g_3
  replace g_3 : DataW.trod enc Try.prog w base spare held m 3 [c3] = some y_3 := g_3
  have g_4 : DataW.trod enc Try.prog w base spare held m 3 (List.take (Try.prog.cellsOf 3) (List.drop 4 [c0, c1, c2, c3, c4])) = some y_4 := hg 4 _ rfl
  rw [show Try.prog.cellsOf 3 = 1 from by kernel_rfl] at g_4
  replace g_4 : DataW.trod enc Try.prog w base spare held m 3 [c4] = some y_4 := g_4
  obtain ⟨a0, e0, -, w0⟩ := DataW.trod_int Try.underlying3 g_0
  obtain ⟨a1, e1, -, w1⟩ := DataW.trod_int Try.underlying3 g_1
  obtain ⟨a2, e2, -, w2⟩ := DataW.trod_string Try.underlying33 g_2
  obtain ⟨a3, e3, -, w3⟩ := DataW.trod_int Try.underlying3 g_3
  obtain ⟨a4, e4, -, w4⟩ := DataW.trod_int Try.underlying3 g_4
  simp at e0 e1 e2 e3 e4
  subst e0 e1 e2 e3 e4
  exact ⟨(a0, a1, a2, a3, a4), rfl, bounds_i64 w0, bounds_i64 w1, w2, bounds_i64 w3, bounds_i64 w4⟩

theorem openOpF {fuel : Nat} {cs : List Value} {x : DataW H × List MemPlace} (h : DataW.trod enc Try.prog w base spare held fuel 22 cs = some x) :
    ∃ (v : Value) (L : List OpF), cs = [v] ∧ RowsAt 5 cellsOpF w v L ∧ L.length ≤ maxLen ∧ ∀ r ∈ L, GoodOpF r :=
  rows_open (size := 5) (cells := cellsOpF) (good := GoodOpF) Try.underlying22 (by kernel_rfl) (by decide) (fun _ => rfl) (fun fuel cs x => elemOpF fuel cs x) h
end

end Go.Proofs.Ytodddahjibccoaa
