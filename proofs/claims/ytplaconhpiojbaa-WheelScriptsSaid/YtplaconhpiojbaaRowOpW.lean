/-
  Lists of siphon/siphonlaw10.Op that came in as data.
-/
import Derived.Test.YtplaconhpiojbaaRowG
namespace Go.Proofs.Ytplaconhpiojbaa
open Go.RowKit Go.ChangeShapes Go.WideShapes Go.Deep
set_option linter.unusedVariables false

abbrev OpW := Int × ByteArray × Int
def cellsOpW (x : OpW) : List Value := [.int .i64 x.1, .string x.2.1, .int .i64 x.2.2]
def GoodOpW (x : OpW) : Prop := (-9223372036854775808 ≤ x.1 ∧ x.1 ≤ 9223372036854775807) ∧ x.2.1.size ≤ maxLen ∧ (-9223372036854775808 ≤ x.2.2 ∧ x.2.2 ≤ 9223372036854775807)

section
variable {H : Type} {enc : TypeId × Value → H} {w : World} {base : Nat} {spare : Nat → Bool} {held : Bool}
theorem elemOpW (fuel : Nat) (cs : List Value) (x : DataW H × List MemPlace) (hcs : cs.length = 3) (h : DataW.trod enc Try.prog w base spare held fuel 34 cs = some x) : ∃ a : OpW, cs = cellsOpW a ∧ GoodOpW a := by
  obtain ⟨c0, c1, c2, rfl⟩ := glist3 cs hcs
  obtain ⟨ys, m, -, -, -, hn, hg⟩ := DataW.trod_struct Try.underlying34 h
  obtain ⟨y0, y1, y2, rfl⟩ := glist3 ys hn
  have g0 : DataW.trod enc Try.prog w base spare held m 3 (List.take (Try.prog.cellsOf 3) (List.drop 0 [c0, c1, c2])) = some y0 := hg 0 _ rfl
  rw [show Try.prog.cellsOf 3 = 1 from by kernel_rfl] at g0
  have g1 : DataW.trod enc Try.prog w base spare held m 9 (List.take (Try.prog.cellsOf 9) (List.drop 1 [c0, c1, c2])) = some y1 := hg 1 _ rfl
  rw [show Try.prog.cellsOf 9 = 1 from by kernel_rfl] at g1
  have g2 : DataW.trod enc Try.prog w base spare held m 3 (List.take (Try.prog.cellsOf 3) (List.drop 2 [c0, c1, c2])) = some y2 := hg 2 _ rfl
  rw [show Try.prog.cellsOf 3 = 1 from by kernel_rfl] at g2
  obtain ⟨a0, e0, -, w0⟩ := DataW.trod_int Try.underlying3 g0
  obtain ⟨a1, e1, -, w1⟩ := DataW.trod_string Try.underlying9 g1
  obtain ⟨a2, e2, -, w2⟩ := DataW.trod_int Try.underlying3 g2
  simp at e0 e1 e2
  subst e0 e1 e2
  exact ⟨(a0, a1, a2), rfl, bounds_i64 w0, w1, bounds_i64 w2⟩

theorem openOpW {fuel : Nat} {cs : List Value} {x : DataW H × List MemPlace} (h : DataW.trod enc Try.prog w base spare held fuel 22 cs = some x) :
    ∃ (v : Value) (L : List OpW), cs = [v] ∧ RowsAt 3 cellsOpW w v L ∧ L.length ≤ maxLen ∧ ∀ r ∈ L, GoodOpW r :=
  rows_open (size := 3) (cells := cellsOpW) (good := GoodOpW) Try.underlying22 (by kernel_rfl) (by decide) (fun _ => rfl) (fun fuel cs x => elemOpW fuel cs x) h
end

end Go.Proofs.Ytplaconhpiojbaa
