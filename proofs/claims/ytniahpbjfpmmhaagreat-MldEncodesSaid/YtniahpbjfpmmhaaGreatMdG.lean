/-
  The document's small answers for group messages of IPv6: siphonref09.group, siphonref08.Sources, Sized, Joined, Bare, siphonref07.Exact8, Exact16. Contracts over the translated program.
-/
import Derived.Test.YtniahpbjfpmmhaaGreatIgH
import Derived.Test.YtniahpbjfpmmhaaGreatIgBq
import Derived.Test.YtniahpbjfpmmhaaGreatCodeE
import Derived.Test.YtniahpbjfpmmhaaGreatMdWr
namespace Go.Proofs.YtniahpbjfpmmhaaGreat
open Go.RowKit
set_option linter.unusedVariables false

set_option maxHeartbeats 400000 in
theorem rgroup9_c (a : ByteArray) (w : World) :
    Calls Tryz.prog 30 #[.string a] w fun e w' => e = .returned (.bool (grpB a 16)) ∧ w = w' := by
  have HG : ∀ U, Calls Tryz.prog 63 #[.string a] U fun e w' => e = .returned (.bool (isGrp a)) ∧ U = w' := fun U => by
    unfold isGrp
    by_cases h : (a.size = 4 ∧ 224 ≤ (byteAt a 0).toNat ∧ (byteAt a 0).toNat ≤ 239) ∨ (a.size = 16 ∧ (byteAt a 0).toNat = 255)
    · rw [decide_eq_true h]; exact isgrp_yes a U h
    · rw [decide_eq_false h]; exact isgrp_no a U (fun k => h (.inl k)) (fun k => h (.inr k))
  have HG := Lib.hid HG
  by_cases h : (a.size : Int) = 16
  · obtain ⟨p1, p2⟩ := eq_t h
    have V := Lib.hid (show grpB a 16 = isGrp a by unfold grpB; rw [decide_eq_true h]; rfl)
    clear h
    go_enter Tryz.func30, Tryz.ntmps30
    go_wp2_with fail
    refine (HG.out _).mono ?_
    rintro e w1 ⟨rfl, rfl⟩
    go_wp2_with fail
    go_ret
    exact ⟨by rw [V.out]; rfl, rfl⟩
  · obtain ⟨p1, p2⟩ := ne_t h
    have V := Lib.hid (show grpB a 16 = false by unfold grpB; rw [decide_eq_false h]; rfl)
    clear h
    go_enter Tryz.func30, Tryz.ntmps30
    go_wp2_with fail
    go_ret
    exact ⟨by rw [V.out]; rfl, rfl⟩

set_option maxHeartbeats 400000 in
theorem rSized_c (v : Value) (L : List ByteArray) (w : World) (hl : L.length ≤ 9223372036854775807) (ha : AddrsAt w v L) :
    Calls Tryz.prog 33 #[v, .int .i64 16] w fun e w' => e = .returned (.bool (srcsB L 16)) ∧ w = w' := by
  have H := Lib.hid (rsized_c v L 16 w hl ha)
  obtain ⟨p, c, rfl⟩ := ha.slice
  clear ha
  go_enter Tryz.func33, Tryz.ntmps33
  go_wp2_with fail
  refine H.out.mono ?_
  rintro e w1 ⟨rfl, rfl⟩
  go_wp2_with fail
  go_ret
  exact ⟨rfl, rfl⟩

set_option maxHeartbeats 400000 in
theorem rJoined_c (v : Value) (L : List ByteArray) (w : World) (hl : L.length ≤ 9223372036854775807) (hf : (flatL L).length ≤ 1000000) (ha : AddrsAt w v L) :
    Calls Tryz.prog 37 #[v] w fun e w' => e = .returned (.string ⟨(flatL L).toArray⟩) ∧ w = w' := by
  have H := Lib.hid (rjoin_c v L w hl hf ha)
  obtain ⟨p, c, rfl⟩ := ha.slice
  clear ha
  go_enter Tryz.func37, Tryz.ntmps37
  go_wp2_with fail
  refine H.out.mono ?_
  rintro e w1 ⟨rfl, rfl⟩
  go_wp2_with fail
  go_ret
  exact ⟨rfl, rfl⟩

end Go.Proofs.YtniahpbjfpmmhaaGreat
