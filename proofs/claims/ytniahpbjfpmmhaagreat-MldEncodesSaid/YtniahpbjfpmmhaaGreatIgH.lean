/-
  Reading records, the document's answer: siphonref08.group, sources, Records.
-/
import Derived.Test.YtniahpbjfpmmhaaGreatIgDE
import Derived.Test.YtniahpbjfpmmhaaGreatRefQ
import Derived.Test.YtniahpbjfpmmhaaGreatEthDR
import Derived.RegionTactic
namespace Go.Proofs.YtniahpbjfpmmhaaGreat
open Go.RowKit
set_option linter.unusedVariables false

set_option maxHeartbeats 400000 in
theorem rgroup_c (a : ByteArray) (size : Int) (w : World) :
    Calls Tryz.prog 60 #[.string a, .int .i64 size] w fun e w' => e = .returned (.bool (grpB a size)) ∧ w = w' := by
  have HG : ∀ U, Calls Tryz.prog 63 #[.string a] U fun e w' => e = .returned (.bool (isGrp a)) ∧ U = w' := fun U => by
    unfold isGrp
    by_cases h : (a.size = 4 ∧ 224 ≤ (byteAt a 0).toNat ∧ (byteAt a 0).toNat ≤ 239) ∨ (a.size = 16 ∧ (byteAt a 0).toNat = 255)
    · rw [decide_eq_true h]; exact isgrp_yes a U h
    · rw [decide_eq_false h]; exact isgrp_no a U (fun k => h (.inl k)) (fun k => h (.inr k))
  have HG := Lib.hid HG
  by_cases h : (a.size : Int) = size
  · obtain ⟨p1, p2⟩ := eq_t h
    have V := Lib.hid (show grpB a size = isGrp a by unfold grpB; rw [decide_eq_true h]; rfl)
    clear h
    go_enter Tryz.func60, Tryz.ntmps60
    go_wp2_with fail
    refine (HG.out _).mono ?_
    rintro e w1 ⟨rfl, rfl⟩
    go_wp2_with fail
    go_ret
    exact ⟨by rw [V.out]; rfl, rfl⟩
  · obtain ⟨p1, p2⟩ := ne_t h
    have V := Lib.hid (show grpB a size = false by unfold grpB; rw [decide_eq_false h]; rfl)
    clear h
    go_enter Tryz.func60, Tryz.ntmps60
    go_wp2_with fail
    go_ret
    exact ⟨by rw [V.out]; rfl, rfl⟩

end Go.Proofs.YtniahpbjfpmmhaaGreat
