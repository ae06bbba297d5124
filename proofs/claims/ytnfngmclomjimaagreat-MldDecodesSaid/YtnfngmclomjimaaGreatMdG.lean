/-
  The document's small answers for group messages of IPv6: siphonref09.group, siphonref08.Sources, Sized, Joined, Bare, siphonref07.Exact8, Exact16. Contracts over the translated program.
-/
import Derived.Test.YtnfngmclomjimaaGreatIgH
import Derived.Test.YtnfngmclomjimaaGreatIgBr
import Derived.Test.YtnfngmclomjimaaGreatCodeE
import Derived.Test.YtnfngmclomjimaaGreatMdWr
namespace Go.Proofs.YtnfngmclomjimaaGreat
open Go.RowKit
set_option linter.unusedVariables false

set_option maxHeartbeats 400000 in
theorem rgroup9_c (a : ByteArray) (w : World) :
    Calls Tryz.prog 20 #[.string a] w fun e w' => e = .returned (.bool (grpB a 16)) ∧ w = w' := by
  have HG : ∀ U, Calls Tryz.prog 45 #[.string a] U fun e w' => e = .returned (.bool (isGrp a)) ∧ U = w' := fun U => by
    unfold isGrp
    by_cases h : (a.size = 4 ∧ 224 ≤ (byteAt a 0).toNat ∧ (byteAt a 0).toNat ≤ 239) ∨ (a.size = 16 ∧ (byteAt a 0).toNat = 255)
    · rw [decide_eq_true h]; exact isgrp_yes a U h
    · rw [decide_eq_false h]; exact isgrp_no a U (fun k => h (.inl k)) (fun k => h (.inr k))
  have HG := Lib.hid HG
  by_cases h : (a.size : Int) = 16
  · obtain ⟨p1, p2⟩ := eq_t h
    have V := Lib.hid (show grpB a 16 = isGrp a by unfold grpB; rw [decide_eq_true h]; rfl)
    clear h
    go_enter Tryz.func20, Tryz.ntmps20
    go_wp2_with fail
    refine (HG.out _).mono ?_
    rintro e w1 ⟨rfl, rfl⟩
    go_wp2_with fail
    go_ret
    exact ⟨by rw [V.out]; rfl, rfl⟩
  · obtain ⟨p1, p2⟩ := ne_t h
    have V := Lib.hid (show grpB a 16 = false by unfold grpB; rw [decide_eq_false h]; rfl)
    clear h
    go_enter Tryz.func20, Tryz.ntmps20
    go_wp2_with fail
    go_ret
    exact ⟨by rw [V.out]; rfl, rfl⟩

set_option maxHeartbeats 400000 in
theorem rSources_no (s : ByteArray) (a n : Nat) (w : World) (hs : s.size ≤ 281474976710000) (ha : a ≤ s.size) (hn : n ≤ 65535) (h : s.size < a + n * 16) :
    Calls Tryz.prog 41 #[.string s, .int .i64 a, .int .i64 n, .int .i64 16] w fun e w' => e = .returned (.tuple #[.slice none 0 0, .bool false]) ∧ w = w' := by
  have H := Lib.hid fun U => rsrc_no s a n 16 U hs ha hn (by omega) h
  rw [show ((16 : Nat) : Int) = 16 from rfl] at H
  clear h
  go_enter Tryz.func41, Tryz.ntmps41
  go_wp2_with fail
  refine (H.out _).mono ?_
  rintro e w1 ⟨rfl, rfl⟩
  go_wp2_with fail
  go_ret2
  exact ⟨rfl, rfl⟩

set_option maxHeartbeats 400000 in
theorem rSources_c (s : ByteArray) (a n : Nat) (w : World) (hs : s.size ≤ 281474976710000) (hn : n ≤ 65535) (h : a + n * 16 ≤ s.size) :
    Calls Tryz.prog 41 #[.string s, .int .i64 a, .int .i64 n, .int .i64 16] w fun e w' => ∃ p c, e = .returned (.tuple #[.slice p n c, .bool true]) ∧ AddrsG w.heap.size true w' (.slice p n c) (addrsL s a n 16) ∧ Below w.heap.size w w' := by
  have H := Lib.hid fun U => rsrc_c s a n 16 U hs hn (by omega) h
  rw [show ((16 : Nat) : Int) = 16 from rfl] at H
  have hal := addrsL_length s a n 16
  generalize addrsL s a n 16 = al at *
  clear h
  go_enter Tryz.func41, Tryz.ntmps41
  go_wp2_with fail
  refine (H.out _).mono ?_
  rintro e w1 ⟨v, rfl, hv, h1⟩
  obtain ⟨p, c, rfl⟩ := hv.slice
  rw [hal] at hv ⊢
  have HV := Lib.hid hv
  have HB := Lib.hid h1
  clear hv h1 hal
  go_wp2_with fail
  go_ret2
  exact ⟨p, c, rfl, HV.out, HB.out⟩

set_option maxHeartbeats 400000 in
theorem rSized_c (v : Value) (L : List ByteArray) (w : World) (hl : L.length ≤ 9223372036854775807) (ha : AddrsAt w v L) :
    Calls Tryz.prog 56 #[v, .int .i64 16] w fun e w' => e = .returned (.bool (srcsB L 16)) ∧ w = w' := by
  have H := Lib.hid (rsized_c v L 16 w hl ha)
  obtain ⟨p, c, rfl⟩ := ha.slice
  clear ha
  go_enter Tryz.func56, Tryz.ntmps56
  go_wp2_with fail
  refine H.out.mono ?_
  rintro e w1 ⟨rfl, rfl⟩
  go_wp2_with fail
  go_ret
  exact ⟨rfl, rfl⟩

set_option maxHeartbeats 400000 in
theorem rJoined_c (v : Value) (L : List ByteArray) (w : World) (hl : L.length ≤ 9223372036854775807) (hf : (flatL L).length ≤ 1000000) (ha : AddrsAt w v L) :
    Calls Tryz.prog 59 #[v] w fun e w' => e = .returned (.string ⟨(flatL L).toArray⟩) ∧ w = w' := by
  have H := Lib.hid (rjoin_c v L w hl hf ha)
  obtain ⟨p, c, rfl⟩ := ha.slice
  clear ha
  go_enter Tryz.func59, Tryz.ntmps59
  go_wp2_with fail
  refine H.out.mono ?_
  rintro e w1 ⟨rfl, rfl⟩
  go_wp2_with fail
  go_ret
  exact ⟨rfl, rfl⟩

end Go.Proofs.YtnfngmclomjimaaGreat
