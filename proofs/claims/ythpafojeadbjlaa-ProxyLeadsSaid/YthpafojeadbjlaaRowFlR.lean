/-
  Lists of siphon/api.Filter that came in as data: their fields, and the lists in them.
-/
import Derived.Test.YthpafojeadbjlaaRowGw
namespace Go.Proofs.Ythpafojeadbjlaa
open Go.RowKit Go.ChangeShapes Go.WideShapes Go.Deep
set_option linter.unusedVariables false

structure FlR where
  ex : Bool
  srcv : Value
  src : List ByteArray
def cellsFlR (x : FlR) : List Value := [.bool x.ex, x.srcv]
def GoodFlR (w : World) (x : FlR) : Prop := True ∧ (AddrsAt w x.srcv x.src ∧ x.src.length ≤ maxLen ∧ ∀ s ∈ x.src, s.size ≤ 140737488351232)

theorem listFlR2 {β : Type} (l : List β) (h : l.length = 2) : ∃ x0 x1 : β, l = [x0, x1] := by
  match l, h with
  | [x0, x1], _ => exact ⟨x0, x1, rfl⟩

section
variable {H : Type} {enc : TypeId × Value → H} {w : World} {base : Nat} {spare : Nat → Bool} {held : Bool}
theorem elemFlR (fuel : Nat) (cs : List Value) (x : DataW H × List MemPlace) (hcs : cs.length = 2) (h : DataW.trod enc Try.prog w base spare held fuel 28 cs = some x) (hw : Wt Try.prog 28 x.1) : ∃ a : FlR, cs = cellsFlR a ∧ GoodFlR w a := by
  obtain ⟨c0, c1, rfl⟩ := listFlR2 cs hcs
  obtain ⟨ys, m, -, hd, -, hn, hg⟩ := DataW.trod_struct Try.underlying28 h
  obtain ⟨y_0, y_1, rfl⟩ := listFlR2 ys hn
  rw [hd] at hw
  have g_0 : DataW.trod enc Try.prog w base spare held m 4 (List.take (Try.prog.cellsOf 4) (List.drop 0 [c0, c1])) = some y_0 := hg 0 _ rfl
  rw [show Try.prog.cellsOf 4 = 1 from by kernel_rfl] at g_0
  replace g_0 : DataW.trod enc Try.prog w base spare held m 4 [c0] = some y_0 := g_0
  have w_0 : Wt Try.prog 4 y_0.1 := Wt.struct Try.underlying28 hw 0 _ rfl _ rfl
  have g_1 : DataW.trod enc Try.prog w base spare held m 26 (List.take (Try.prog.cellsOf 26) (List.drop 1 [c0, c1])) = some y_1 := hg 1 _ rfl
  rw [show Try.prog.cellsOf 26 = 1 from by kernel_rfl] at g_1
  replace g_1 : DataW.trod enc Try.prog w base spare held m 26 [c1] = some y_1 := g_1
  have w_1 : Wt Try.prog 26 y_1.1 := Wt.struct Try.underlying28 hw 1 _ rfl _ rfl
  clear hg
  obtain ⟨a0, e0, -⟩ := DataW.trod_bool Try.underlying4 g_0
  simp at e0
  subst e0
  obtain ⟨v1, a1, e1, h1, q1, s1⟩ := addrs_openW g_1 w_1
  simp at e1
  subst e1
  exact ⟨⟨a0, c1, a1⟩, rfl, trivial, ⟨h1, q1, s1⟩⟩

theorem openFlR {fuel : Nat} {cs : List Value} {x : DataW H × List MemPlace} (h : DataW.trod enc Try.prog w base spare held fuel 59 cs = some x) (hw : Wt Try.prog 59 x.1) :
    ∃ (v : Value) (L : List FlR), cs = [v] ∧ RowsAt 2 cellsFlR w v L ∧ (L.length ≤ maxLen ∧ ∀ p n c, v = .slice p n c → n ≤ c) ∧ ∀ r ∈ L, GoodFlR w r :=
  rows_openW (size := 2) (cells := cellsFlR) (good := GoodFlR w) Try.underlying59 (by kernel_rfl) (by decide) (fun _ => rfl) (fun fuel cs x => elemFlR fuel cs x) h hw
end

end Go.Proofs.Ythpafojeadbjlaa
