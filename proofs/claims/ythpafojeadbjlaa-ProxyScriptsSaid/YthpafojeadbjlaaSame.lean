/-
  siphonref08.SameAddrs of two lists that hold the same.
  siphonref08.Same of two messages that hold the same.
-/
import Derived.Test.YthpafojeadbjlaaMemL
import Derived.Test.YthpafojeadbjlaaTst
import Derived.Test.YthpafojeadbjlaaProg
import Derived.LoopTactic
import Derived.BigQuiet
import Derived.Deep.QuietTactic
import Derived.Outline
namespace Go.Proofs.Ythpafojeadbjlaa
open Go.RowKit
set_option linter.unusedVariables false

set_option maxHeartbeats 1000000 in
set_option maxRecDepth 100000 in
theorem sameA_c (v1 v2 : Value) (l : List ByteArray) (w : World) (hl : l.length ≤ 9223372036854775807) (h1 : AddrsAt w v1 l) (h2 : AddrsAt w v2 l) :
    Calls Try.prog 28 #[v1, v2] w fun e w' => e = .returned (.bool true) ∧ ∃ n, w' = w.drewN n := by
  obtain ⟨p1, c1, b1, o1, rfl, hp1, hc1⟩ := h1
  obtain ⟨p2, c2, b2, o2, rfl, hp2, hc2⟩ := h2
  have HP1 := Lib.hid hp1
  have HP2 := Lib.hid hp2
  have HC1 := Lib.hid hc1
  have HC2 := Lib.hid hc2
  clear hp1 hp2 hc1 hc2
  go_enter Try.func28, Try.ntmps28
  go_wp2
  go_loopw [5] (fun i wr => ∃ k n : Nat, k ≤ l.length ∧ i = .int .i64 k ∧ wr = w.drewN n) (fun i _ => l.length - (intOf i).toNat)
  case atStart => exact ⟨0, 0, Nat.zero_le _, rfl, rfl⟩
  case round =>
    obtain ⟨k, n, hk, rfl, rfl⟩ := hrel
    by_cases hlt : k < l.length
    · have hne : l ≠ [] := by rintro rfl; simp at hlt
      obtain rfl := (HP1.out hne).1
      obtain rfl := (HP2.out hne).1
      have hs : l[k]? = some l[k] := List.getElem?_eq_getElem hlt
      have x1 := HC1.out k _ hs
      have x2 := HC2.out k _ hs
      generalize l[k] = s at x1 x2
      clear hs hne
      have hlt' : (k : Int) < (l.length : Int) := by omega
      go_wp2
      go_quiet (fail)
      go_wp2
      go_roundw
      case rel => exact ⟨k + 1, _, by omega, by go_num, rfl⟩
      case measure => simp [intOf]; omega
    · obtain rfl : k = l.length := by omega
      go_wp2
      go_ret
      exact ⟨rfl, _, rfl⟩

theorem RecsG.drewN {B : Nat} {ty : Bool} {w : World} {v : Value} {L : List Rec} (h : RecsG B ty w v L) (n : Nat) : RecsG B ty (w.drewN n) v L := h
theorem AddrsG.drewN {B : Nat} {ty : Bool} {w : World} {v : Value} {l : List ByteArray} (h : AddrsG B ty w v l) (n : Nat) : AddrsG B ty (w.drewN n) v l := h

set_option maxHeartbeats 1000000 in
set_option maxRecDepth 100000 in
theorem sameR_c (v1 v2 : Value) (L : List Rec) (w : World) (hl : L.length ≤ 9223372036854775807) (hs : ∀ r ∈ L, r.srcs.length ≤ 9223372036854775807) (h1 : RecsAt w v1 L) (h2 : RecsAt w v2 L) :
    Calls Try.prog 21 #[v1, v2] w fun e w' => e = .returned (.bool true) ∧ ∃ n, w' = w.drewN n := by
  obtain ⟨p1, c1, b1, o1, rfl, hp1, hc1⟩ := h1
  obtain ⟨p2, c2, b2, o2, rfl, hp2, hc2⟩ := h2
  have HP1 := Lib.hid hp1
  have HP2 := Lib.hid hp2
  have HC1 := Lib.hid hc1
  have HC2 := Lib.hid hc2
  have HS := Lib.hid hs
  clear hp1 hp2 hc1 hc2 hs
  go_enter Try.func21, Try.ntmps21
  go_wp2
  go_loopw [5] (fun i wr => ∃ k : Nat, k ≤ L.length ∧ i = .int .i64 k ∧ Hid (∃ n, wr = w.drewN n)) (fun i _ => L.length - (intOf i).toNat)
  case atStart => exact ⟨0, Nat.zero_le _, rfl, Lib.hid ⟨0, rfl⟩⟩
  case round =>
    obtain ⟨k, hk, rfl, hw⟩ := hrel
    by_cases hlt : k < L.length
    · have hne : L ≠ [] := by rintro rfl; simp at hlt
      obtain rfl := (HP1.out hne).1
      obtain rfl := (HP2.out hne).1
      have hs : L[k]? = some L[k] := List.getElem?_eq_getElem hlt
      have hq := HS.out L[k] (List.getElem_mem hlt)
      have x1 : RecAt wr b1 (o1 + k * 3) L[k] := by obtain ⟨n, rfl⟩ := hw.out; exact HC1.out k _ hs
      have x2 : RecAt wr b2 (o2 + k * 3) L[k] := by obtain ⟨n, rfl⟩ := hw.out; exact HC2.out k _ hs
      generalize L[k] = r at x1 x2 hq
      obtain ⟨x11, x12, vs1, x13, a1⟩ := x1
      obtain ⟨x21, x22, vs2, x23, a2⟩ := x2
      have HQ := Lib.hid fun n => sameA_c vs1 vs2 r.srcs (wr.drewN n) hq (a1.drewN n) (a2.drewN n)
      obtain ⟨rk, hrk⟩ : ∃ x, x = r.kind := ⟨_, rfl⟩
      obtain ⟨rg, hrg⟩ : ∃ x, x = r.group := ⟨_, rfl⟩
      rw [← hrk] at x11 x21
      rw [← hrg] at x12 x22
      have A1 := Lib.hid a1
      have A2 := Lib.hid a2
      clear hs hne hrk hrg a1 a2 hq
      have hlt' : (k : Int) < (L.length : Int) := by omega
      go_wp2
      go_quiet ((go_at_call 28; exact Calls.quiet_of (HQ.out _)))
      go_wp2
      go_roundw
      case rel => exact ⟨k + 1, by omega, by go_num, Lib.hid (by obtain ⟨n, hn⟩ := hw.out; exact ⟨_, by rw [hn]; exact World.drewN_drewN _ _ _⟩)⟩
      case measure => simp [intOf]; omega
    · obtain rfl : k = L.length := by omega
      obtain ⟨n, hn⟩ := hw.out
      have HW := Lib.hid hn
      clear hn
      go_wp2
      go_ret
      exact ⟨rfl, _, HW.out⟩

end Go.Proofs.Ythpafojeadbjlaa
