/-
  Lists of uint64 that came in as data.
-/
import Derived.Test.YtolmkflhddlcnaaRowG
namespace Go.Proofs.Ytolmkflhddlcnaa
open Go.RowKit Go.ChangeShapes Go.WideShapes Go.Deep
set_option linter.unusedVariables false

abbrev U64 := Int
def cellsU64 (x : U64) : List Value := [.int .u64 x]
def GoodU64 (x : U64) : Prop := 0 ≤ x ∧ x ≤ 18446744073709551615
/-- A slice is not longer than its room. -/
def CapOk (v : Value) : Prop := ∀ p n c, v = .slice p n c → n ≤ c

section
variable {H : Type} {enc : TypeId × Value → H} {w : World} {base : Nat} {spare : Nat → Bool} {held : Bool}
theorem elemU64 (fuel : Nat) (cs : List Value) (x : DataW H × List MemPlace) (hcs : cs.length = 1) (h : DataW.trod enc Try.prog w base spare held fuel 44 cs = some x) : ∃ a : U64, cs = cellsU64 a ∧ GoodU64 a := by
  obtain ⟨c0, rfl⟩ : ∃ c0, cs = [c0] := by
    match cs, hcs with
    | [c0], _ => exact ⟨c0, rfl⟩
  obtain ⟨a0, e0, -, w0⟩ := DataW.trod_int Try.underlying44 h
  simp at e0
  subst e0
  exact ⟨a0, rfl, bounds_u64 w0⟩

theorem openU64 {fuel : Nat} {cs : List Value} {x : DataW H × List MemPlace} (h : DataW.trod enc Try.prog w base spare held fuel 22 cs = some x) :
    ∃ (v : Value) (L : List U64), cs = [v] ∧ RowsAt 1 cellsU64 w v L ∧ (L.length ≤ maxLen ∧ CapOk v) ∧ ∀ r ∈ L, GoodU64 r := by
  obtain ⟨v, L, e, h1, h2, h3⟩ := rows_open (size := 1) (cells := cellsU64) (good := GoodU64) Try.underlying22 (by kernel_rfl) (by decide) (fun _ => rfl) (fun fuel cs x => elemU64 fuel cs x) h
  refine ⟨v, L, e, h1, ⟨h2, fun p n c hv => ?_⟩, h3⟩
  subst hv
  rcases open_slice Try.underlying22 h with ⟨e2, -⟩ | ⟨a, len, cap, m, k, D, Pl, e2, -, hl, -⟩
  · rw [e] at e2
    simp at e2
    omega
  · rw [e] at e2
    simp at e2
    omega
end

end Go.Proofs.Ytolmkflhddlcnaa
