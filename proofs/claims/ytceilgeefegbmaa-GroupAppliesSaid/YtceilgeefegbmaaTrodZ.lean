/-
  Lists of addresses among a law's arguments, with each address' size. It speaks of the translated program's types alone.
-/
import Derived.Test.YtceilgeefegbmaaProg
import Derived.Test.YtceilgeefegbmaaMemL
import Derived.SliceStrings
import Derived.Deep.Slices
import Derived.ChangeArms
import Derived.ChangeSame
namespace Go.Proofs.Ytceilgeefegbmaa
open Go.RowKit Go.ChangeShapes Go.WideShapes Go.Deep
set_option linter.unusedVariables false

section
variable {H : Type} {enc : TypeId × Value → H} {w : World} {base : Nat} {spare : Nat → Bool} {held : Bool}
theorem at_plainz {b off k : Nat} {spot : Option Nat} {v : Value} (h : w.cell? ((⟨b, off, spot⟩ : Addr).add k) = some v) : w.cell? ⟨b, off + k, none⟩ = some v := by
  have hs := World.cell?_spot h
  unfold Addr.add at h hs
  split at h
  · next h0 =>
    subst h0
    simp at hs
    subst hs
    simpa using h
  · exact h

theorem addrsz_open {fuel : Nat} {cs : List Value} {x : DataW H × List MemPlace} (h : DataW.trod enc Try.prog w base spare held fuel 35 cs = some x) :
    ∃ v l, cs = [v] ∧ AddrsAt w v l ∧ l.length ≤ maxLen ∧ ∀ s ∈ l, s.size ≤ maxLen := by
  rcases open_strings Try.underlying35 Try.underlying25 (by kernel_rfl) h with ⟨rfl, -⟩ | ⟨a, len, cap, ss, rfl, -, hl, hm, hz, -, hc, hsz⟩
  · exact ⟨_, [], rfl, AddrsG.nil _ _ _, Nat.zero_le _, fun s hs => by cases hs⟩
  · obtain ⟨b, off, spot⟩ := a
    have hss : len ≤ ss.length := by rw [hz]; split <;> omega
    have hL : (ss.take len).length = len := by rw [List.length_take]; omega
    have cell : ∀ j s, (ss.take len)[j]? = some s → w.cell? ((⟨b, off, spot⟩ : Addr).add j) = some (.string s) := by
      intro j s hj
      have hjl : j < len := by
        have := (List.getElem?_eq_some_iff.1 hj).1
        omega
      have := hc j (by omega)
      rw [List.getElem?_take_of_lt hjl] at hj
      rw [this]
      simp [List.getD, hj]
    refine ⟨_, ss.take len, rfl, ⟨some ⟨b, off, spot⟩, cap, b, off, by rw [hL], fun hne => ⟨?_, Nat.zero_le _, fun h => by cases h⟩, fun j s hj => at_plainz (cell j s hj)⟩, by omega, fun s hs => hsz s (List.mem_of_mem_take hs)⟩
    have h0 : 0 < (ss.take len).length := by
      rcases hh : ss.take len with _ | ⟨y, ys⟩
      · exact absurd hh hne
      · simp
    have := World.cell?_spot (cell 0 _ (List.getElem?_eq_getElem h0))
    have hsp : spot = none := by simpa [Addr.add] using this
    rw [hsp]
end
end Go.Proofs.Ytceilgeefegbmaa
