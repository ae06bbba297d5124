/-
  VLANs: the document's rises and SameInts; member. Contracts over the translated program.
-/
import Derived.Test.YtpaehbmhdjnofaaVlA
namespace Go.Proofs.Ytpaehbmhdjnofaa
open Go.RowKit
set_option linter.unusedVariables false

set_option maxHeartbeats 1000000 in
set_option maxRecDepth 100000 in
theorem sameI_c (v1 v2 : Value) (l : List Int) (w : World) (hl : l.length ≤ 9223372036854775807) (h1 : IntsAt w v1 l) (h2 : IntsAt w v2 l) :
    Calls Try.prog 13 #[v1, v2] w fun e w' => e = .returned (.bool true) ∧ ∃ n, w' = w.drewN n := by
  obtain ⟨p1, c1, b1, o1, rfl, hp1, hc1⟩ := h1
  obtain ⟨p2, c2, b2, o2, rfl, hp2, hc2⟩ := h2
  have HP1 := Lib.hid hp1
  have HP2 := Lib.hid hp2
  have HC1 := Lib.hid hc1
  have HC2 := Lib.hid hc2
  clear hp1 hp2 hc1 hc2
  go_enter Try.func13, Try.ntmps13
  go_wp2
  go_loopw [5] (fun i wr => ∃ k n : Nat, k ≤ l.length ∧ i = .int .i64 k ∧ wr = w.drewN n) (fun i _ => l.length - (intOf i).toNat)
  case atStart => exact ⟨0, 0, Nat.zero_le _, rfl, rfl⟩
  case round =>
    obtain ⟨k, n, hk, rfl, rfl⟩ := hrel
    by_cases hlt : k < l.length
    · have hne : l ≠ [] := by rintro rfl; simp at hlt
      obtain rfl := HP1.out hne
      obtain rfl := HP2.out hne
      have hs : l[k]? = some l[k] := List.getElem?_eq_getElem hlt
      have x1 := HC1.out k _ hs
      have x2 := HC2.out k _ hs
      generalize l[k] = s at x1 x2
      clear hs hne
      have hlt' : (k : Int) < (l.length : Int) := by omega
      go_wp2
      go_quiet (fail)
      go_wp2
      go_roundw
      case rel => exact ⟨k + 1, _, by omega, by go_num, rfl⟩
      case measure => simp [intOf]; omega
    · obtain rfl : k = l.length := by omega
      go_wp2
      go_ret
      exact ⟨rfl, _, rfl⟩

theorem ris_pos (l : List Int) (k : Nat) (h : k < l.length) (hr : risGo 0 (l.take k) = true) : (∃ hk : 0 < k, lastGo 0 (l.take k) = l[k - 1]'(by omega)) ∨ (k = 0 ∧ lastGo 0 (l.take k) = 0) := by
  rcases k with _ | k
  · exact .inr ⟨rfl, rfl⟩
  · refine .inl ⟨by omega, ?_⟩
    rw [List.take_succ_eq_append_getElem (by omega), lastGo_snoc]
    rfl

end Go.Proofs.Ytpaehbmhdjnofaa
