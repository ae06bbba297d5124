/-
  Lists of siphon/api.State that came in as data: their fields, and the lists in them.
-/
import Derived.Test.YthpafojeadbjlaaRowGw
import Derived.Test.YthpafojeadbjlaaRowTmd
namespace Go.Proofs.Ythpafojeadbjlaa
open Go.RowKit Go.ChangeShapes Go.WideShapes Go.Deep
set_option linter.unusedVariables false

structure StR where
  ex : Bool
  tm : Int
  srcv : Value
  src : List Tmd
def cellsStR (x : StR) : List Value := [.bool x.ex, .int .i64 x.tm, x.srcv]
def GoodStR (w : World) (x : StR) : Prop := True ∧ (-9223372036854775808 ≤ x.tm ∧ x.tm ≤ 9223372036854775807) ∧ (RowsAt 2 cellsTmd w x.srcv x.src ∧ x.src.length ≤ maxLen ∧ ∀ r ∈ x.src, GoodTmd r)

theorem listStR3 {β : Type} (l : List β) (h : l.length = 3) : ∃ x0 x1 x2 : β, l = [x0, x1, x2] := by
  match l, h with
  | [x0, x1, x2], _ => exact ⟨x0, x1, x2, rfl⟩

section
variable {H : Type} {enc : TypeId × Value → H} {w : World} {base : Nat} {spare : Nat → Bool} {held : Bool}
theorem elemStR (fuel : Nat) (cs : List Value) (x : DataW H × List MemPlace) (hcs : cs.length = 3) (h : DataW.trod enc Try.prog w base spare held fuel 32 cs = some x) (hw : Wt Try.prog 32 x.1) : ∃ a : StR, cs = cellsStR a ∧ GoodStR w a := by
  obtain ⟨c0, c1, c2, rfl⟩ := listStR3 cs hcs
  obtain ⟨ys, m, -, hd, -, hn, hg⟩ := DataW.trod_struct Try.underlying32 h
  obtain ⟨y_0, y_1, y_2, rfl⟩ := listStR3 ys hn
  rw [hd] at hw
  have g_0 : DataW.trod enc Try.prog w base spare held m 4 (List.take (Try.prog.cellsOf 4) (List.drop 0 [c0, c1, c2])) = some y_0 := hg 0 _ rfl
  rw [show Try.prog.cellsOf 4 = 1 from by kernel_rfl] at g_0
  replace g_0 : DataW.trod enc Try.prog w base spare held m 4 [c0] = some y_0 := g_0
  have w_0 : Wt Try.prog 4 y_0.1 := Wt.struct Try.underlying32 hw 0 _ rfl _ rfl
  have g_1 : DataW.trod enc Try.prog w base spare held m 3 (List.take (Try.prog.cellsOf 3) (List.drop 1 [c0, c1, c2])) = some y_1 := hg 1 _ rfl
  rw [show Try.prog.cellsOf 3 = 1 from by kernel_rfl] at g_1
  replace g_1 : DataW.trod enc Try.prog w base spare held m 3 [c1] = some y_1 := g_1
  have w_1 : Wt Try.prog 3 y_1.1 := Wt.struct Try.underlying32 hw 1 _ rfl _ rfl
  have g_2 : DataW.trod enc Try.prog w base spare held m 30 (List.take (Try.prog.cellsOf 30) (List.drop 2 [c0, c1, c2])) = some y_2 := hg 2 _ rfl
  rw [show Try.prog.cellsOf 30 = 1 from by kernel_rfl] at g_2
  replace g_2 : DataW.trod enc Try.prog w base spare held m 30 [c2] = some y_2 := g_2
  have w_2 : Wt Try.prog 30 y_2.1 := Wt.struct Try.underlying32 hw 2 _ rfl _ rfl
  clear hg
  obtain ⟨a0, e0, -⟩ := DataW.trod_bool Try.underlying4 g_0
  simp at e0
  subst e0
  obtain ⟨a1, e1, -, w1⟩ := DataW.trod_int Try.underlying3 g_1
  simp at e1
  subst e1
  obtain ⟨v2, a2, e2, h2, q2, s2⟩ := openTmd g_2
  simp at e2
  subst e2
  exact ⟨⟨a0, a1, c2, a2⟩, rfl, trivial, bounds_i64 w1, ⟨h2, q2, s2⟩⟩

theorem openStR {fuel : Nat} {cs : List Value} {x : DataW H × List MemPlace} (h : DataW.trod enc Try.prog w base spare held fuel 22 cs = some x) (hw : Wt Try.prog 22 x.1) :
    ∃ (v : Value) (L : List StR), cs = [v] ∧ RowsAt 3 cellsStR w v L ∧ (L.length ≤ maxLen ∧ ∀ p n c, v = .slice p n c → n ≤ c) ∧ ∀ r ∈ L, GoodStR w r :=
  rows_openW (size := 3) (cells := cellsStR) (good := GoodStR w) Try.underlying22 (by kernel_rfl) (by decide) (fun _ => rfl) (fun fuel cs x => elemStR fuel cs x) h hw
end

end Go.Proofs.Ythpafojeadbjlaa
