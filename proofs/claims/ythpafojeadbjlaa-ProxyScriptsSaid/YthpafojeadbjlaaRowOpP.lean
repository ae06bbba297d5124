/-
  Lists of siphon/siphonlaw21.Op that came in as data: their fields, and the lists in them.
-/
import Derived.Test.YthpafojeadbjlaaRowGw
namespace Go.Proofs.Ythpafojeadbjlaa
open Go.RowKit Go.ChangeShapes Go.WideShapes Go.Deep
set_option linter.unusedVariables false

structure OpP where
  op : Int
  vl : Int
  gr : ByteArray
  ex : Bool
  srcv : Value
  src : List ByteArray
def cellsOpP (x : OpP) : List Value := [.int .i64 x.op, .int .i64 x.vl, .string x.gr, .bool x.ex, x.srcv]
def GoodOpP (w : World) (x : OpP) : Prop := (-9223372036854775808 ≤ x.op ∧ x.op ≤ 9223372036854775807) ∧ (-9223372036854775808 ≤ x.vl ∧ x.vl ≤ 9223372036854775807) ∧ x.gr.size ≤ 140737488351232 ∧ True ∧ (AddrsAt w x.srcv x.src ∧ x.src.length ≤ maxLen ∧ ∀ s ∈ x.src, s.size ≤ 140737488351232)

theorem listOpP2 {β : Type} (l : List β) (h : l.length = 2) : ∃ x0 x1 : β, l = [x0, x1] := by
  match l, h with
  | [x0, x1], _ => exact ⟨x0, x1, rfl⟩

theorem listOpP4 {β : Type} (l : List β) (h : l.length = 4) : ∃ x0 x1 x2 x3 : β, l = [x0, x1, x2, x3] := by
  match l, h with
  | [x0, x1, x2, x3], _ => exact ⟨x0, x1, x2, x3, rfl⟩

theorem listOpP5 {β : Type} (l : List β) (h : l.length = 5) : ∃ x0 x1 x2 x3 x4 : β, l = [x0, x1, x2, x3, x4] := by
  match l, h with
  | [x0, x1, x2, x3, x4], _ => exact ⟨x0, x1, x2, x3, x4, rfl⟩

section
variable {H : Type} {enc : TypeId × Value → H} {w : World} {base : Nat} {spare : Nat → Bool} {held : Bool}
theorem elemOpP (fuel : Nat) (cs : List Value) (x : DataW H × List MemPlace) (hcs : cs.length = 5) (h : DataW.trod enc Try.prog w base spare held fuel 49 cs = some x) (hw : Wt Try.prog 49 x.1) : ∃ a : OpP, cs = cellsOpP a ∧ GoodOpP w a := by
  obtain ⟨c0, c1, c2, c3, c4, rfl⟩ := listOpP5 cs hcs
  obtain ⟨ys, m, -, hd, -, hn, hg⟩ := DataW.trod_struct Try.underlying49 h
  obtain ⟨y_0, y_1, y_2, y_3, rfl⟩ := listOpP4 ys hn
  rw [hd] at hw
  have g_0 : DataW.trod enc Try.prog w base spare held m 3 (List.take (Try.prog.cellsOf 3) (List.drop 0 [c0, c1, c2, c3, c4])) = some y_0 := hg 0 _ rfl
  rw [show Try.prog.cellsOf 3 = 1 from by kernel_rfl] at g_0
  replace g_0 : DataW.trod enc Try.prog w base spare held m 3 [c0] = some y_0 := g_0
  have w_0 : Wt Try.prog 3 y_0.1 := Wt.struct Try.underlying49 hw 0 _ rfl _ rfl
  have g_1 : DataW.trod enc Try.prog w base spare held m 3 (List.take (Try.prog.cellsOf 3) (List.drop 1 [c0, c1, c2, c3, c4])) = some y_1 := hg 1 _ rfl
  rw [show Try.prog.cellsOf 3 = 1 from by kernel_rfl] at g_1
  replace g_1 : DataW.trod enc Try.prog w base spare held m 3 [c1] = some y_1 := g_1
  have w_1 : Wt Try.prog 3 y_1.1 := Wt.struct Try.underlying49 hw 1 _ rfl _ rfl
  have g_2 : DataW.trod enc Try.prog w base spare held m 35 (List.take (Try.prog.cellsOf 35) (List.drop 2 [c0, c1, c2, c3, c4])) = some y_2 := hg 2 _ rfl
  rw [show Try.prog.cellsOf 35 = 1 from by kernel_rfl] at g_2
  replace g_2 : DataW.trod enc Try.prog w base spare held m 35 [c2] = some y_2 := g_2
  have w_2 : Wt Try.prog 35 y_2.1 := Wt.struct Try.underlying49 hw 2 _ rfl _ rfl
  have g_3 : DataW.trod enc Try.prog w base spare held m 28 (List.take (Try.prog.cellsOf 28) (List.drop 3 [c0, c1, c2, c3, c4])) = some y_3 := hg 3 _ rfl
  rw [show Try.prog.cellsOf 28 = 2 from by kernel_rfl] at g_3
  replace g_3 : DataW.trod enc Try.prog w base spare held m 28 [c3, c4] = some y_3 := g_3
  have w_3 : Wt Try.prog 28 y_3.1 := Wt.struct Try.underlying49 hw 3 _ rfl _ rfl
  clear hg
  obtain ⟨a0, e0, -, w0⟩ := DataW.trod_int Try.underlying3 g_0
  simp at e0
  subst e0
  obtain ⟨a1, e1, -, w1⟩ := DataW.trod_int Try.underlying3 g_1
  simp at e1
  subst e1
  obtain ⟨a2, e2, d2, -⟩ := DataW.trod_string Try.underlying35 g_2
  rw [d2] at w_2
  simp at e2
  subst e2
  obtain ⟨ys_3, m_3, -, hd_3, -, hn_3, hg_3⟩ := DataW.trod_struct Try.underlying28 g_3
  obtain ⟨y_3_0, y_3_1, rfl⟩ := listOpP2 ys_3 hn_3
  rw [hd_3] at w_3
  have g_3_0 : DataW.trod enc Try.prog w base spare held m_3 4 (List.take (Try.prog.cellsOf 4) (List.drop 0 [c3, c4])) = some y_3_0 := hg_3 0 _ rfl
  rw [show Try.prog.cellsOf 4 = 1 from by kernel_rfl] at g_3_0
  replace g_3_0 : DataW.trod enc Try.prog w base spare held m_3 4 [c3] = some y_3_0 := g_3_0
  have w_3_0 : Wt Try.prog 4 y_3_0.1 := Wt.struct Try.underlying28 w_3 0 _ rfl _ rfl
  have g_3_1 : DataW.trod enc Try.prog w base spare held m_3 26 (List.take (Try.prog.cellsOf 26) (List.drop 1 [c3, c4])) = some y_3_1 := hg_3 1 _ rfl
  rw [show Try.prog.cellsOf 26 = 1 from by kernel_rfl] at g_3_1
  replace g_3_1 : DataW.trod enc Try.prog w base spare held m_3 26 [c4] = some y_3_1 := g_3_1
  have w_3_1 : Wt Try.prog 26 y_3_1.1 := Wt.struct Try.underlying28 w_3 1 _ rfl _ rfl
  clear hg_3
  obtain ⟨a3, e3, -⟩ := DataW.trod_bool Try.underlying4 g_3_0
  simp at e3
  subst e3
  obtain ⟨v4, a4, e4, h4, q4, s4⟩ := addrs_openW g_3_1 w_3_1
  simp at e4
  subst e4
  exact ⟨⟨a0, a1, a2, a3, c4, a4⟩, rfl, bounds_i64 w0, bounds_i64 w1, (by simpa using Wt.str w_2), trivial, ⟨h4, q4, s4⟩⟩

theorem openOpP {fuel : Nat} {cs : List Value} {x : DataW H × List MemPlace} (h : DataW.trod enc Try.prog w base spare held fuel 39 cs = some x) (hw : Wt Try.prog 39 x.1) :
    ∃ (v : Value) (L : List OpP), cs = [v] ∧ RowsAt 5 cellsOpP w v L ∧ (L.length ≤ maxLen ∧ ∀ p n c, v = .slice p n c → n ≤ c) ∧ ∀ r ∈ L, GoodOpP w r :=
  rows_openW (size := 5) (cells := cellsOpP) (good := GoodOpP w) Try.underlying39 (by kernel_rfl) (by decide) (fun _ => rfl) (fun fuel cs x => elemOpP fuel cs x) h hw
end

end Go.Proofs.Ythpafojeadbjlaa
