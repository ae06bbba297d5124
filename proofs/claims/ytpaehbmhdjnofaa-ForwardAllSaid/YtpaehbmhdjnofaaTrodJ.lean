/-
  A list of numbers as an argument, opened.
-/
import Derived.Test.YtpaehbmhdjnofaaProg
import Derived.Test.YtpaehbmhdjnofaaMemI
import Derived.ChangeSlices
import Derived.OpenShut
import Derived.Deep.Slices
import Derived.ChangeArms
import Derived.ChangeSame
namespace Go.Proofs.Ytpaehbmhdjnofaa
open Go.RowKit Go.ChangeShapes Go.WideShapes Go.Deep
set_option linter.unusedVariables false

section
variable {H : Type} {enc : TypeId × Value → H} {w : World} {base : Nat} {spare : Nat → Bool} {held : Bool}

theorem iat_plain {b off k : Nat} {spot : Option Nat} {v : Value} (h : w.cell? ((⟨b, off, spot⟩ : Addr).add k) = some v) : w.cell? ⟨b, off + k, none⟩ = some v := by
  have hs := World.cell?_spot h
  unfold Addr.add at h hs
  split at h
  · next h0 =>
    subst h0
    simp at hs
    subst hs
    simpa using h
  · exact h

/-- Each number is one of 64 bits. -/
def I64 (l : List Int) : Prop := ∀ x ∈ l, -9223372036854775808 ≤ x ∧ x ≤ 9223372036854775807

theorem ints_open {fuel : Nat} {cs : List Value} {x : DataW H × List MemPlace} (h : DataW.trod enc Try.prog w base spare held fuel 22 cs = some x) :
    ∃ v l, cs = [v] ∧ IntsAt w v l ∧ l.length ≤ maxLen ∧ I64 l := by
  rcases open_ints (k := .i64) Try.underlying22 Try.underlying3 (by kernel_rfl) h with ⟨rfl, -⟩ | ⟨a, len, cap, ss, rfl, -, hl, hm, hz, -, hc, hwf⟩
  · exact ⟨_, [], rfl, IntsAt.nil _, Nat.zero_le _, fun x hx => by simp at hx⟩
  · obtain ⟨b, off, spot⟩ := a
    have hss : len ≤ ss.length := by rw [hz]; split <;> omega
    have hL : (ss.take len).length = len := by rw [List.length_take]; omega
    have cell : ∀ j s, (ss.take len)[j]? = some s → w.cell? ((⟨b, off, spot⟩ : Addr).add j) = some (.int .i64 s) := by
      intro j s hj
      have hjl : j < len := by
        have := (List.getElem?_eq_some_iff.1 hj).1
        omega
      have := hc j (by omega)
      rw [List.getElem?_take_of_lt hjl] at hj
      rw [this]
      simp [List.getD, hj]
    refine ⟨_, ss.take len, rfl, ⟨some ⟨b, off, spot⟩, cap, b, off, by rw [hL], fun hne => ?_, fun j s hj => iat_plain (cell j s hj)⟩, by omega, fun x hx => bounds_i64 (hwf x (List.mem_of_mem_take hx))⟩
    have h0 : 0 < (ss.take len).length := by
      rcases hh : ss.take len with _ | ⟨y, ys⟩
      · exact absurd hh hne
      · simp
    have := World.cell?_spot (cell 0 _ (List.getElem?_eq_getElem h0))
    have hsp : spot = none := by simpa [Addr.add] using this
    rw [hsp]

end
end Go.Proofs.Ytpaehbmhdjnofaa
