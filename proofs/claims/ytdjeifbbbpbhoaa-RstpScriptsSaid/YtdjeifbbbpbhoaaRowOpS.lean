/-
  Lists of siphon/siphonlaw15.Op that came in as data.
-/
import Derived.Test.YtdjeifbbbpbhoaaRowG
namespace Go.Proofs.Ytdjeifbbbpbhoaa
open Go.RowKit Go.ChangeShapes Go.WideShapes Go.Deep
set_option linter.unusedVariables false

abbrev OpS := Int × Int × Bool × Int × Int × Int × Int × Int × Bool × Bool × Bool × Int
def cellsOpS (x : OpS) : List Value := [.int .i64 x.1, .int .i64 x.2.1, .bool x.2.2.1, .int .u64 x.2.2.2.1, .int .i64 x.2.2.2.2.1, .int .u64 x.2.2.2.2.2.1, .int .i64 x.2.2.2.2.2.2.1, .int .i64 x.2.2.2.2.2.2.2.1, .bool x.2.2.2.2.2.2.2.2.1, .bool x.2.2.2.2.2.2.2.2.2.1, .bool x.2.2.2.2.2.2.2.2.2.2.1, .int .i64 x.2.2.2.2.2.2.2.2.2.2.2]
def GoodOpS (x : OpS) : Prop := (-9223372036854775808 ≤ x.1 ∧ x.1 ≤ 9223372036854775807) ∧ (-9223372036854775808 ≤ x.2.1 ∧ x.2.1 ≤ 9223372036854775807) ∧ True ∧ (0 ≤ x.2.2.2.1 ∧ x.2.2.2.1 ≤ 18446744073709551615) ∧ (-9223372036854775808 ≤ x.2.2.2.2.1 ∧ x.2.2.2.2.1 ≤ 9223372036854775807) ∧ (0 ≤ x.2.2.2.2.2.1 ∧ x.2.2.2.2.2.1 ≤ 18446744073709551615) ∧ (-9223372036854775808 ≤ x.2.2.2.2.2.2.1 ∧ x.2.2.2.2.2.2.1 ≤ 9223372036854775807) ∧ (-9223372036854775808 ≤ x.2.2.2.2.2.2.2.1 ∧ x.2.2.2.2.2.2.2.1 ≤ 9223372036854775807) ∧ True ∧ True ∧ True ∧ (-9223372036854775808 ≤ x.2.2.2.2.2.2.2.2.2.2.2 ∧ x.2.2.2.2.2.2.2.2.2.2.2 ≤ 9223372036854775807)

theorem listOpS4 {β : Type} (l : List β) (h : l.length = 4) : ∃ x0 x1 x2 x3 : β, l = [x0, x1, x2, x3] := by
  match l, h with
  | [x0, x1, x2, x3], _ => exact ⟨x0, x1, x2, x3, rfl⟩

theorem listOpS5 {β : Type} (l : List β) (h : l.length = 5) : ∃ x0 x1 x2 x3 x4 : β, l = [x0, x1, x2, x3, x4] := by
  match l, h with
  | [x0, x1, x2, x3, x4], _ => exact ⟨x0, x1, x2, x3, x4, rfl⟩

theorem listOpS12 {β : Type} (l : List β) (h : l.length = 12) : ∃ x0 x1 x2 x3 x4 x5 x6 x7 x8 x9 x10 x11 : β, l = [x0, x1, x2, x3, x4, x5, x6, x7, x8, x9, x10, x11] := by
  match l, h with
  | [x0, x1, x2, x3, x4, x5, x6, x7, x8, x9, x10, x11], _ => exact ⟨x0, x1, x2, x3, x4, x5, x6, x7, x8, x9, x10, x11, rfl⟩

section
variable {H : Type} {enc : TypeId × Value → H} {w : World} {base : Nat} {spare : Nat → Bool} {held : Bool}
theorem elemOpS (fuel : Nat) (cs : List Value) (x : DataW H × List MemPlace) (hcs : cs.length = 12) (h : DataW.trod enc Try.prog w base spare held fuel 40 cs = some x) : ∃ a : OpS, cs = cellsOpS a ∧ GoodOpS a := by
  obtain ⟨c0, c1, c2, c3, c4, c5, c6, c7, c8, c9, c10, c11, rfl⟩ := listOpS12 cs hcs
  obtain ⟨ys, m, -, -, -, hn, hg⟩ := DataW.trod_struct Try.underlying40 h
  obtain ⟨y_0, y_1, y_2, y_3, y_4, rfl⟩ := listOpS5 ys hn
  have g_0 : DataW.trod enc Try.prog w base spare held m 3 (List.take (Try.prog.cellsOf 3) (List.drop 0 [c0, c1, c2, c3, c4, c5, c6, c7, c8, c9, c10, c11])) = some y_0 := hg 0 _ rfl
  rw [show Try.prog.cellsOf 3 = 1 from by kernel_rfl] at g_0
  replace g_0 : DataW.trod enc Try.prog w base spare held m 3 [c0] = some y_0 := g_0
  have g_1 : DataW.trod enc Try.prog w base spare held m 3 (List.take (Try.prog.cellsOf 3) (List.drop 1 [c0, c1, c2, c3, c4, c5, c6, c7, c8, c9, c10, c11])) = some y_1 := hg 1 _ rfl
  rw [show Try.prog.cellsOf 3 = 1 from by kernel_rfl] at g_1
  replace g_1 : DataW.trod enc Try.prog w base spare held m 3 [c1] = some y_1 := g_1
  have g_2 : DataW.trod enc Try.prog w base spare held m 4 (List.take (Try.prog.cellsOf 4) (List.drop 2 [c0, c1, c2, c3, c4, c5, c6, c7, c8, c9, c10, c11])) = some y_2 := hg 2 _ rfl
  rw [show Try.prog.cellsOf 4 = 1 from by kernel_rfl] at g_2
  replace g_2 : DataW.trod enc Try.prog w base spare held m 4 [c2] = some y_2 := g_2
  have g_3 : DataW.trod enc Try.prog w base spare held m 38 (List.take (Try.prog.cellsOf 38) (List.drop 3 [c0, c1, c2, c3, c4, c5, c6, c7, c8, c9, c10, c11])) = some y_3 := hg 3 _ rfl
  rw [show Try.prog.cellsOf 38 = 8 from by kernel_rfl] at g_3
  replace g_3 : DataW.trod enc Try.prog w base spare held m 38 [c3, c4, c5, c6, c7, c8, c9, c10] = some y_3 := g_3
  have g_4 : DataW.trod enc Try.prog w base spare held m 3 (List.take (Try.prog.cellsOf 3) (List.drop 11 [c0, c1, c2, c3, c4, c5, c6, c7, c8, c9, c10, c11])) = some y_4 := hg 4 _ rfl
  rw [show Try.prog.cellsOf 3 = 1 from by kernel_rfl] at g_4
  replace g_4 : DataW.trod enc Try.prog w base spare held m 3 [c11] = some y_4 := g_4
  obtain ⟨a0, e0, -, w0⟩ := DataW.trod_int Try.underlying3 g_0
  obtain ⟨a1, e1, -, w1⟩ := DataW.trod_int Try.underlying3 g_1
  obtain ⟨a2, e2, -⟩ := DataW.trod_bool Try.underlying4 g_2
  obtain ⟨ys_3, m_3, -, -, -, hn_3, hg_3⟩ := DataW.trod_struct Try.underlying38 g_3
  obtain ⟨y_3_0, y_3_1, y_3_2, y_3_3, y_3_4, rfl⟩ := listOpS5 ys_3 hn_3
  have g_3_0 : DataW.trod enc Try.prog w base spare held m_3 36 (List.take (Try.prog.cellsOf 36) (List.drop 0 [c3, c4, c5, c6, c7, c8, c9, c10])) = some y_3_0 := hg_3 0 _ rfl
  rw [show Try.prog.cellsOf 36 = 4 from by kernel_rfl] at g_3_0
  replace g_3_0 : DataW.trod enc Try.prog w base spare held m_3 36 [c3, c4, c5, c6] = some y_3_0 := g_3_0
  have g_3_1 : DataW.trod enc Try.prog w base spare held m_3 3 (List.take (Try.prog.cellsOf 3) (List.drop 4 [c3, c4, c5, c6, c7, c8, c9, c10])) = some y_3_1 := hg_3 1 _ rfl
  rw [show Try.prog.cellsOf 3 = 1 from by kernel_rfl] at g_3_1
  replace g_3_1 : DataW.trod enc Try.prog w base spare held m_3 3 [c7] = some y_3_1 := g_3_1
  have g_3_2 : DataW.trod enc Try.prog w base spare held m_3 4 (List.take (Try.prog.cellsOf 4) (List.drop 5 [c3, c4, c5, c6, c7, c8, c9, c10])) = some y_3_2 := hg_3 2 _ rfl
  rw [show Try.prog.cellsOf 4 = 1 from by kernel_rfl] at g_3_2
  replace g_3_2 : DataW.trod enc Try.prog w base spare held m_3 4 [c8] = some y_3_2 := g_3_2
  have g_3_3 : DataW.trod enc Try.prog w base spare held m_3 4 (List.take (Try.prog.cellsOf 4) (List.drop 6 [c3, c4, c5, c6, c7, c8, c9, c10])) = some y_3_3 := hg_3 3 _ rfl
  rw [show Try.prog.cellsOf 4 = 1 from by kernel_rfl] at g_3_3
  replace g_3_3 : DataW.trod enc Try.prog w base spare held m_3 4 [c9] = some y_3_3 := g_3_3
  have g_3_4 : DataW.trod enc Try.prog w base spare held m_3 4 (List.take (Try.prog.cellsOf 4) (List.drop 7 [c3, c4, c5, c6, c7, c8, c9, c10])) = some y_3_4 := hg_3 4 _ rfl
  rw [show Try.prog.cellsOf 4 = 1 from by kernel_rfl] at g_3_4
  replace g_3_4 : DataW.trod enc Try.prog w base spare held m_3 4 [c10] = some y_3_4 := g_3_4
  obtain ⟨ys_3_0, m_3_0, -, -, -, hn_3_0, hg_3_0⟩ := DataW.trod_struct Try.underlying36 g_3_0
  obtain ⟨y_3_0_0, y_3_0_1, y_3_0_2, y_3_0_3, rfl⟩ := listOpS4 ys_3_0 hn_3_0
  have g_3_0_0 : DataW.trod enc Try.prog w base spare held m_3_0 22 (List.take (Try.prog.cellsOf 22) (List.drop 0 [c3, c4, c5, c6])) = some y_3_0_0 := hg_3_0 0 _ rfl
  rw [show Try.prog.cellsOf 22 = 1 from by kernel_rfl] at g_3_0_0
  replace g_3_0_0 : DataW.trod enc Try.prog w base spare held m_3_0 22 [c3] = some y_3_0_0 := g_3_0_0
  have g_3_0_1 : DataW.trod enc Try.prog w base spare held m_3_0 3 (List.take (Try.prog.cellsOf 3) (List.drop 1 [c3, c4, c5, c6])) = some y_3_0_1 := hg_3_0 1 _ rfl
  rw [show Try.prog.cellsOf 3 = 1 from by kernel_rfl] at g_3_0_1
  replace g_3_0_1 : DataW.trod enc Try.prog w base spare held m_3_0 3 [c4] = some y_3_0_1 := g_3_0_1
  have g_3_0_2 : DataW.trod enc Try.prog w base spare held m_3_0 22 (List.take (Try.prog.cellsOf 22) (List.drop 2 [c3, c4, c5, c6])) = some y_3_0_2 := hg_3_0 2 _ rfl
  rw [show Try.prog.cellsOf 22 = 1 from by kernel_rfl] at g_3_0_2
  replace g_3_0_2 : DataW.trod enc Try.prog w base spare held m_3_0 22 [c5] = some y_3_0_2 := g_3_0_2
  have g_3_0_3 : DataW.trod enc Try.prog w base spare held m_3_0 3 (List.take (Try.prog.cellsOf 3) (List.drop 3 [c3, c4, c5, c6])) = some y_3_0_3 := hg_3_0 3 _ rfl
  rw [show Try.prog.cellsOf 3 = 1 from by kernel_rfl] at g_3_0_3
  replace g_3_0_3 : DataW.trod enc Try.prog w base spare held m_3_0 3 [c6] = some y_3_0_3 := g_3_0_3
  obtain ⟨a3, e3, -, w3⟩ := DataW.trod_int Try.underlying22 g_3_0_0
  obtain ⟨a4, e4, -, w4⟩ := DataW.trod_int Try.underlying3 g_3_0_1
  obtain ⟨a5, e5, -, w5⟩ := DataW.trod_int Try.underlying22 g_3_0_2
  obtain ⟨a6, e6, -, w6⟩ := DataW.trod_int Try.underlying3 g_3_0_3
  obtain ⟨a7, e7, -, w7⟩ := DataW.trod_int Try.underlying3 g_3_1
  obtain ⟨a8, e8, -⟩ := DataW.trod_bool Try.underlying4 g_3_2
  obtain ⟨a9, e9, -⟩ := DataW.trod_bool Try.underlying4 g_3_3
  obtain ⟨a10, e10, -⟩ := DataW.trod_bool Try.underlying4 g_3_4
  obtain ⟨a11, e11, -, w11⟩ := DataW.trod_int Try.underlying3 g_4
  simp at e0 e1 e2 e3 e4 e5 e6 e7 e8 e9 e10 e11
  subst e0 e1 e2 e3 e4 e5 e6 e7 e8 e9 e10 e11
  exact ⟨(a0, a1, a2, a3, a4, a5, a6, a7, a8, a9, a10, a11), rfl, bounds_i64 w0, bounds_i64 w1, trivial, bounds_u64 w3, bounds_i64 w4, bounds_u64 w5, bounds_i64 w6, bounds_i64 w7, trivial, trivial, trivial, bounds_i64 w11⟩

theorem openOpS {fuel : Nat} {cs : List Value} {x : DataW H × List MemPlace} (h : DataW.trod enc Try.prog w base spare held fuel 24 cs = some x) :
    ∃ (v : Value) (L : List OpS), cs = [v] ∧ RowsAt 12 cellsOpS w v L ∧ L.length ≤ maxLen ∧ ∀ r ∈ L, GoodOpS r :=
  rows_open (size := 12) (cells := cellsOpS) (good := GoodOpS) Try.underlying24 (by kernel_rfl) (by decide) (fun _ => rfl) (fun fuel cs x => elemOpS fuel cs x) h
end

end Go.Proofs.Ytdjeifbbbpbhoaa
