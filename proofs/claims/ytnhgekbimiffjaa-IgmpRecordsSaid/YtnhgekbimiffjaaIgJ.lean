/-
  Reading records, the document's answer: siphonref08.Records at every argument.
-/
import Derived.Test.YtnhgekbimiffjaaIgI
namespace Go.Proofs.Ytnhgekbimiffjaa
open Go.RowKit
set_option linter.unusedVariables false

set_option maxHeartbeats 1000000 in
set_option maxRecDepth 100000 in
theorem rrecs_c (s : ByteArray) (n Z : Int) (w : World) (hs : s.size ≤ 281474976710000) (n1 : -9223372036854775808 ≤ n) :
    Calls Try.prog 19 #[.string s, .int .i64 n, .int .i64 Z] w (RecsPost (recsI s n Z) w) := by
  by_cases h0 : n < 0
  · have V := Lib.hid (show recsI s n Z = (1, []) by unfold recsI; rw [if_pos (.inl h0)])
    go_enter Try.func19, Try.ntmps19
    go_wp2_with fail
    go_ret2
    unfold RecsPost
    rw [V.out]
    exact ⟨_, rfl, RecsG.nil _ _ _, Below.refl _ _⟩
  · have h0' : 0 ≤ n := by omega
    by_cases h4 : Z = 4 ∨ Z = 16
    · by_cases h3 : 30 < n
      · have V := Lib.hid (show recsI s n Z = (3, []) by unfold recsI; rw [if_neg (by omega), if_pos h3])
        rcases h4 with rfl | rfl
        all_goals
          have d0 : decide (n < 0) = false := decide_eq_false h0
          clear h0
          go_enter Try.func19, Try.ntmps19
          go_wp2_with fail
          go_ret2
          unfold RecsPost
          rw [V.out]
          exact ⟨_, rfl, RecsG.nil _ _ _, Below.refl _ _⟩
      · obtain ⟨N, rfl⟩ := Int.eq_ofNat_of_zero_le h0'
        obtain ⟨K, rfl⟩ := Int.eq_ofNat_of_zero_le (show 0 ≤ Z by omega)
        have V : recsI s N K = recsGo s K N 0 := by unfold recsI; rw [if_neg (by omega), if_neg h3]; rfl
        rw [V]
        exact rrecs_go s N K w hs (by omega) (by omega)
    · have V := Lib.hid (show recsI s n Z = (1, []) by unfold recsI; rw [if_pos (.inr (by omega))])
      obtain ⟨a1, a2⟩ := ne_t (show Z ≠ 4 by omega)
      obtain ⟨b1, b2⟩ := ne_t (show Z ≠ 16 by omega)
      clear h4 h0
      go_enter Try.func19, Try.ntmps19
      go_wp2_with fail
      go_ret2
      unfold RecsPost
      rw [V.out]
      exact ⟨_, rfl, RecsG.nil _ _ _, Below.refl _ _⟩

end Go.Proofs.Ytnhgekbimiffjaa
