/-
  Lists of siphon/siphonref14.Heard that came in as data.
-/
import Derived.Test.YtolmkflhddlcnaaRowG
namespace Go.Proofs.Ytolmkflhddlcnaa
open Go.RowKit Go.ChangeShapes Go.WideShapes Go.Deep
set_option linter.unusedVariables false

abbrev Hd := Bool × Int × Int × Int × Int × Int
def cellsHd (x : Hd) : List Value := [.bool x.1, .int .u64 x.2.1, .int .i64 x.2.2.1, .int .u64 x.2.2.2.1, .int .i64 x.2.2.2.2.1, .int .i64 x.2.2.2.2.2]
def GoodHd (x : Hd) : Prop := True ∧ (0 ≤ x.2.1 ∧ x.2.1 ≤ 18446744073709551615) ∧ (-9223372036854775808 ≤ x.2.2.1 ∧ x.2.2.1 ≤ 9223372036854775807) ∧ (0 ≤ x.2.2.2.1 ∧ x.2.2.2.1 ≤ 18446744073709551615) ∧ (-9223372036854775808 ≤ x.2.2.2.2.1 ∧ x.2.2.2.2.1 ≤ 9223372036854775807) ∧ (-9223372036854775808 ≤ x.2.2.2.2.2 ∧ x.2.2.2.2.2 ≤ 9223372036854775807)

theorem listHd3 {β : Type} (l : List β) (h : l.length = 3) : ∃ x0 x1 x2 : β, l = [x0, x1, x2] := by
  match l, h with
  | [x0, x1, x2], _ => exact ⟨x0, x1, x2, rfl⟩

theorem listHd4 {β : Type} (l : List β) (h : l.length = 4) : ∃ x0 x1 x2 x3 : β, l = [x0, x1, x2, x3] := by
  match l, h with
  | [x0, x1, x2, x3], _ => exact ⟨x0, x1, x2, x3, rfl⟩

theorem listHd6 {β : Type} (l : List β) (h : l.length = 6) : ∃ x0 x1 x2 x3 x4 x5 : β, l = [x0, x1, x2, x3, x4, x5] := by
  match l, h with
  | [x0, x1, x2, x3, x4, x5], _ => exact ⟨x0, x1, x2, x3, x4, x5, rfl⟩

section
variable {H : Type} {enc : TypeId × Value → H} {w : World} {base : Nat} {spare : Nat → Bool} {held : Bool}
theorem elemHd (fuel : Nat) (cs : List Value) (x : DataW H × List MemPlace) (hcs : cs.length = 6) (h : DataW.trod enc Try.prog w base spare held fuel 89 cs = some x) : ∃ a : Hd, cs = cellsHd a ∧ GoodHd a := by
  obtain ⟨c0, c1, c2, c3, c4, c5, rfl⟩ := listHd6 cs hcs
  obtain ⟨ys, m, -, -, -, hn, hg⟩ := DataW.trod_struct Try.underlying89 h
  obtain ⟨y_0, y_1, y_2, rfl⟩ := listHd3 ys hn
  have g_0 : DataW.trod enc Try.prog w base spare held m 4 (List.take (Try.prog.cellsOf 4) (List.drop 0 [c0, c1, c2, c3, c4, c5])) = some y_0 := hg 0 _ rfl
  rw [show Try.prog.cellsOf 4 = 1 from by kernel_rfl] at g_0
  replace g_0 : DataW.trod enc Try.prog w base spare held m 4 [c0] = some y_0 := g_0
  have g_1 : DataW.trod enc Try.prog w base spare held m 79 (List.take (Try.prog.cellsOf 79) (List.drop 1 [c0, c1, c2, c3, c4, c5])) = some y_1 := hg 1 _ rfl
  rw [show Try.prog.cellsOf 79 = 4 from by kernel_rfl] at g_1
  replace g_1 : DataW.trod enc Try.prog w base spare held m 79 [c1, c2, c3, c4] = some y_1 := g_1
  have g_2 : DataW.trod enc Try.prog w base spare held m 3 (List.take (Try.prog.cellsOf 3) (List.drop 5 [c0, c1, c2, c3, c4, c5])) = some y_2 := hg 2 _ rfl
  rw [show Try.prog.cellsOf 3 = 1 from by kernel_rfl] at g_2
  replace g_2 : DataW.trod enc Try.prog w base spare held m 3 [c5] = some y_2 := g_2
  obtain ⟨a0, e0, -⟩ := DataW.trod_bool Try.underlying4 g_0
  obtain ⟨ys_1, m_1, -, -, -, hn_1, hg_1⟩ := DataW.trod_struct Try.underlying79 g_1
  obtain ⟨y_1_0, y_1_1, y_1_2, y_1_3, rfl⟩ := listHd4 ys_1 hn_1
  have g_1_0 : DataW.trod enc Try.prog w base spare held m_1 44 (List.take (Try.prog.cellsOf 44) (List.drop 0 [c1, c2, c3, c4])) = some y_1_0 := hg_1 0 _ rfl
  rw [show Try.prog.cellsOf 44 = 1 from by kernel_rfl] at g_1_0
  replace g_1_0 : DataW.trod enc Try.prog w base spare held m_1 44 [c1] = some y_1_0 := g_1_0
  have g_1_1 : DataW.trod enc Try.prog w base spare held m_1 3 (List.take (Try.prog.cellsOf 3) (List.drop 1 [c1, c2, c3, c4])) = some y_1_1 := hg_1 1 _ rfl
  rw [show Try.prog.cellsOf 3 = 1 from by kernel_rfl] at g_1_1
  replace g_1_1 : DataW.trod enc Try.prog w base spare held m_1 3 [c2] = some y_1_1 := g_1_1
  have g_1_2 : DataW.trod enc Try.prog w base spare held m_1 44 (List.take (Try.prog.cellsOf 44) (List.drop 2 [c1, c2, c3, c4])) = some y_1_2 := hg_1 2 _ rfl
  rw [show Try.prog.cellsOf 44 = 1 from by kernel_rfl] at g_1_2
  replace g_1_2 : DataW.trod enc Try.prog w base spare held m_1 44 [c3] = some y_1_2 := g_1_2
  have g_1_3 : DataW.trod enc Try.prog w base spare held m_1 3 (List.take (Try.prog.cellsOf 3) (List.drop 3 [c1, c2, c3, c4])) = some y_1_3 := hg_1 3 _ rfl
  rw [show Try.prog.cellsOf 3 = 1 from by kernel_rfl] at g_1_3
  replace g_1_3 : DataW.trod enc Try.prog w base spare held m_1 3 [c4] = some y_1_3 := g_1_3
  obtain ⟨a1, e1, -, w1⟩ := DataW.trod_int Try.underlying44 g_1_0
  obtain ⟨a2, e2, -, w2⟩ := DataW.trod_int Try.underlying3 g_1_1
  obtain ⟨a3, e3, -, w3⟩ := DataW.trod_int Try.underlying44 g_1_2
  obtain ⟨a4, e4, -, w4⟩ := DataW.trod_int Try.underlying3 g_1_3
  obtain ⟨a5, e5, -, w5⟩ := DataW.trod_int Try.underlying3 g_2
  simp at e0 e1 e2 e3 e4 e5
  subst e0 e1 e2 e3 e4 e5
  exact ⟨(a0, a1, a2, a3, a4, a5), rfl, trivial, bounds_u64 w1, bounds_i64 w2, bounds_u64 w3, bounds_i64 w4, bounds_i64 w5⟩

theorem openHd {fuel : Nat} {cs : List Value} {x : DataW H × List MemPlace} (h : DataW.trod enc Try.prog w base spare held fuel 69 cs = some x) :
    ∃ (v : Value) (L : List Hd), cs = [v] ∧ RowsAt 6 cellsHd w v L ∧ L.length ≤ maxLen ∧ ∀ r ∈ L, GoodHd r :=
  rows_open (size := 6) (cells := cellsHd) (good := GoodHd) Try.underlying69 (by kernel_rfl) (by decide) (fun _ => rfl) (fun fuel cs x => elemHd fuel cs x) h
end

end Go.Proofs.Ytolmkflhddlcnaa
