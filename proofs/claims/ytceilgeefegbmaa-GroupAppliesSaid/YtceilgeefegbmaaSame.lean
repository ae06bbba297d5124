/-
  siphonref08.SameAddrs of two lists that hold the same.
  siphonref08.Same of two messages that hold the same.
-/
import Derived.Test.YtceilgeefegbmaaMemL
import Derived.Test.YtceilgeefegbmaaTst
import Derived.Test.YtceilgeefegbmaaProg
import Derived.LoopTactic
import Derived.BigQuiet
import Derived.Deep.QuietTactic
import Derived.Outline
namespace Go.Proofs.Ytceilgeefegbmaa
open Go.RowKit
set_option linter.unusedVariables false

set_option maxHeartbeats 1000000 in
set_option maxRecDepth 100000 in
theorem sameA_c (v1 v2 : Value) (l : List ByteArray) (w : World) (hl : l.length ≤ 9223372036854775807) (h1 : AddrsAt w v1 l) (h2 : AddrsAt w v2 l) :
    Calls Try.prog 39 #[v1, v2] w fun e w' => e = .returned (.bool true) ∧ ∃ n, w' = w.drewN n := by
  obtain ⟨p1, c1, b1, o1, rfl, hp1, hc1⟩ := h1
  obtain ⟨p2, c2, b2, o2, rfl, hp2, hc2⟩ := h2
  have HP1 := Lib.hid hp1
  have HP2 := Lib.hid hp2
  have HC1 := Lib.hid hc1
  have HC2 := Lib.hid hc2
  clear hp1 hp2 hc1 hc2
  go_enter Try.func39, Try.ntmps39
  go_wp2
  go_loopw [5] (fun i wr => ∃ k n : Nat, k ≤ l.length ∧ i = .int .i64 k ∧ wr = w.drewN n) (fun i _ => l.length - (intOf i).toNat)
  case atStart => exact ⟨0, 0, Nat.zero_le _, rfl, rfl⟩
  case round =>
    obtain ⟨k, n, hk, rfl, rfl⟩ := hrel
    by_cases hlt : k < l.length
    · have hne : l ≠ [] := by rintro rfl; simp at hlt
      obtain rfl := (HP1.out hne).1
      obtain rfl := (HP2.out hne).1
      have hs : l[k]? = some l[k] := List.getElem?_eq_getElem hlt
      have x1 := HC1.out k _ hs
      have x2 := HC2.out k _ hs
      generalize l[k] = s at x1 x2
      clear hs hne
      have hlt' : (k : Int) < (l.length : Int) := by omega
      go_wp2
      go_quiet (fail)
      go_wp2
      go_roundw
      case rel => exact ⟨k + 1, _, by omega, by go_num, rfl⟩
      case measure => simp [intOf]; omega
    · obtain rfl : k = l.length := by omega
      go_wp2
      go_ret
      exact ⟨rfl, _, rfl⟩

theorem RecsG.drewN {B : Nat} {ty : Bool} {w : World} {v : Value} {L : List Rec} (h : RecsG B ty w v L) (n : Nat) : RecsG B ty (w.drewN n) v L := h
theorem AddrsG.drewN {B : Nat} {ty : Bool} {w : World} {v : Value} {l : List ByteArray} (h : AddrsG B ty w v l) (n : Nat) : AddrsG B ty (w.drewN n) v l := h

end Go.Proofs.Ytceilgeefegbmaa
