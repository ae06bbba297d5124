/-
  Records' bytes at every argument: igmp.Body; which messages are few (siphonlaw08.few).
-/
import Derived.Test.YtniahpbjfpmmhaaGreatIgBde
namespace Go.Proofs.YtniahpbjfpmmhaaGreat
open Go.RowKit
set_option linter.unusedVariables false

set_option maxHeartbeats 1000000 in
set_option maxRecDepth 100000 in
theorem body_c (v : Value) (L : List Rec) (size : Int) (w : World) (hl : L.length ≤ 9223372036854775807) (hs : ∀ r ∈ L, r.srcs.length ≤ 9223372036854775807) (ha : RecsAt w v L) :
    Calls Tryz.prog 78 #[v, .int .i64 size] w (BodyPost (bodyI L size) w) := by
  rcases hz : sizeB size with _ | _
  · have V := Lib.hid (show bodyI L size = (1, ⟨#[]⟩) by unfold bodyI; rw [if_pos (.inl hz)])
    have HZ := Lib.hid fun U => issize_c size U
    rw [hz] at HZ
    clear hz ha
    go_enter Tryz.func78, Tryz.ntmps78
    go_wp2_with fail
    ((with_reducible refine (HZ.out _).mono ?_); rintro e w1 ⟨rfl, rfl⟩)
    go_wp2_with fail
    go_ret2
    unfold BodyPost
    rw [V.out]
    exact ⟨rfl, Below.refl _ _⟩
  · by_cases h30 : 30 < L.length
    · have V := Lib.hid (show bodyI L size = (1, ⟨#[]⟩) by unfold bodyI; rw [if_pos (.inr h30)])
      have HZ := Lib.hid fun U => issize_c size U
      rw [hz] at HZ
      obtain ⟨p, cap, rfl⟩ := ha.slice
      have h30' : (30 : Int) < (L.length : Int) := by omega
      clear hz ha h30
      go_enter Tryz.func78, Tryz.ntmps78
      go_wp2_with fail
      ((with_reducible refine (HZ.out _).mono ?_); rintro e w1 ⟨rfl, rfl⟩)
      go_wp2_with fail
      go_ret2
      unfold BodyPost
      rw [V.out]
      exact ⟨rfl, Below.refl _ _⟩
    · exact body_go v L size w hz (by omega) hs ha

def fewB (ns : Nat) (L : List Rec) : Bool := decide (ns ≤ 100) && decide (L.length ≤ 40) && L.all (fun r => decide (r.srcs.length ≤ 100))

end Go.Proofs.YtniahpbjfpmmhaaGreat
