/-
  Lists of siphon/siphonlaw20.Op that came in as data.
-/
import Derived.Test.YtlpcndmblnpjmaaDoorRowG
namespace Go.Proofs.YtlpcndmblnpjmaaDoor
open Go.RowKit Go.ChangeShapes Go.WideShapes Go.Deep
set_option linter.unusedVariables false

abbrev OpQ := Int × ByteArray × Int
def cellsOpQ (x : OpQ) : List Value := [.int .i64 x.1, .string x.2.1, .int .i64 x.2.2]
def GoodOpQ (x : OpQ) : Prop := (-9223372036854775808 ≤ x.1 ∧ x.1 ≤ 9223372036854775807) ∧ x.2.1.size ≤ maxLen ∧ (-9223372036854775808 ≤ x.2.2 ∧ x.2.2 ≤ 9223372036854775807)

section
variable {H : Type} {enc : TypeId × Value → H} {w : World} {base : Nat} {spare : Nat → Bool} {held : Bool}
theorem elemOpQ (fuel : Nat) (cs : List Value) (x : DataW H × List MemPlace) (hcs : cs.length = 3) (h : DataW.trod enc Tryd.prog w base spare held fuel 62 cs = some x) : ∃ a : OpQ, cs = cellsOpQ a ∧ GoodOpQ a := by
  obtain ⟨c0, c1, c2, rfl⟩ := glist3 cs hcs
  obtain ⟨ys, m, -, -, -, hn, hg⟩ := DataW.trod_struct Tryd.underlying62 h
  obtain ⟨y0, y1, y2, rfl⟩ := glist3 ys hn
  have g0 : DataW.trod enc Tryd.prog w base spare held m 3 (List.take (Tryd.prog.cellsOf 3) (List.drop 0 [c0, c1, c2])) = some y0 := hg 0 _ rfl
  rw [show Tryd.prog.cellsOf 3 = 1 from by kernel_rfl] at g0
  have g1 : DataW.trod enc Tryd.prog w base spare held m 22 (List.take (Tryd.prog.cellsOf 22) (List.drop 1 [c0, c1, c2])) = some y1 := hg 1 _ rfl
  rw [show Tryd.prog.cellsOf 22 = 1 from by kernel_rfl] at g1
  have g2 : DataW.trod enc Tryd.prog w base spare held m 3 (List.take (Tryd.prog.cellsOf 3) (List.drop 2 [c0, c1, c2])) = some y2 := hg 2 _ rfl
  rw [show Tryd.prog.cellsOf 3 = 1 from by kernel_rfl] at g2
  obtain ⟨a0, e0, -, w0⟩ := DataW.trod_int Tryd.underlying3 g0
  obtain ⟨a1, e1, -, w1⟩ := DataW.trod_string Tryd.underlying22 g1
  obtain ⟨a2, e2, -, w2⟩ := DataW.trod_int Tryd.underlying3 g2
  simp at e0 e1 e2
  subst e0 e1 e2
  exact ⟨(a0, a1, a2), rfl, bounds_i64 w0, w1, bounds_i64 w2⟩

theorem openOpQ {fuel : Nat} {cs : List Value} {x : DataW H × List MemPlace} (h : DataW.trod enc Tryd.prog w base spare held fuel 60 cs = some x) :
    ∃ (v : Value) (L : List OpQ), cs = [v] ∧ RowsAt 3 cellsOpQ w v L ∧ L.length ≤ maxLen ∧ ∀ r ∈ L, GoodOpQ r :=
  rows_open (size := 3) (cells := cellsOpQ) (good := GoodOpQ) Tryd.underlying60 (by kernel_rfl) (by decide) (fun _ => rfl) (fun fuel cs x => elemOpQ fuel cs x) h
end

end Go.Proofs.YtlpcndmblnpjmaaDoor
