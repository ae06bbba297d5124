/-
  What the document's answers for layer 1 (siphonref01) are: the same functions of the arguments as those of package octet.
-/
import Derived.Test.YtnhgekbimiffjaaSub
namespace Go.Proofs.Ytnhgekbimiffjaa
open Go.RowKit

set_option maxHeartbeats 400000 in
theorem fits_yes (s : ByteArray) (a n : Int) (w : World) (hs : s.size ≤ 9223372036854775807) (h1 : 0 ≤ a) (h3 : a ≤ s.size) (h : n ≤ (s.size : Int) - a) :
    Calls Try.prog 83 #[.string s, .int .i64 a, .int .i64 n] w fun e w' => e = .returned (.bool true) ∧ w = w' := by
  go_enter Try.func83, Try.ntmps83
  go_wp2
  go_ret
  exact ⟨rfl, rfl⟩

set_option maxHeartbeats 400000 in
theorem fits_no (s : ByteArray) (a n : Int) (w : World) (hs : s.size ≤ 9223372036854775807) (h1 : 0 ≤ a) (h2 : a ≤ 9223372036854775807) (h : (s.size : Int) - a < n) :
    Calls Try.prog 83 #[.string s, .int .i64 a, .int .i64 n] w fun e w' => e = .returned (.bool false) ∧ w = w' := by
  have h' : ¬ n ≤ (s.size : Int) - a := by omega
  by_cases h3 : a ≤ s.size
  · go_enter Try.func83, Try.ntmps83
    go_wp2
    go_ret
    exact ⟨rfl, rfl⟩
  · go_enter Try.func83, Try.ntmps83
    go_wp2
    go_ret
    exact ⟨rfl, rfl⟩

set_option maxHeartbeats 1000000 in
set_option maxRecDepth 100000 in
theorem rget_c (s : ByteArray) (a width : Int) (w : World) (hs : s.size ≤ 9223372036854775807) (ha : -9223372036854775808 ≤ a) (h2 : a ≤ 9223372036854775807) :
    Calls Try.prog 58 #[.string s, .int .i64 a, .int .i64 width] w fun e w' => e = .returned (.tuple #[.int .i64 (getSpec s a width).1, .int .i64 (getSpec s a width).2]) ∧ w = w' := by
  by_cases c0 : a < 0 ∨ width < 1 ∨ 4 < width
  · have hv : getSpec s a width = (0, 1) := by unfold getSpec; rw [if_pos c0]
    rw [hv]
    rcases c0 with c1 | c1 | c1
    · go_enter Try.func58, Try.ntmps58
      go_wp2
      go_ret2
      exact ⟨rfl, rfl⟩
    · by_cases c2 : a < 0
      all_goals
        go_enter Try.func58, Try.ntmps58
        go_wp2
        go_ret2
        exact ⟨rfl, rfl⟩
    · have c3 : ¬ width < 1 := by omega
      by_cases c2 : a < 0
      all_goals
        go_enter Try.func58, Try.ntmps58
        go_wp2
        go_ret2
        exact ⟨rfl, rfl⟩
  · have c3 : 0 ≤ a := by omega
    have c4 : 1 ≤ width := by omega
    have c5 : width ≤ 4 := by omega
    by_cases c6 : (s.size : Int) - a < width
    · have hv : getSpec s a width = (0, 2) := by unfold getSpec; rw [if_neg c0, if_pos c6]
      rw [hv]
      clear c0 hv
      go_enter Try.func58, Try.ntmps58
      go_wp2_with (go_at_call 83; refine (fits_no _ _ _ _ hs c3 h2 c6).mono ?_; rintro e w' ⟨rfl, rfl⟩)
      go_ret2
      exact ⟨rfl, rfl⟩
    · have c7 : width ≤ (s.size : Int) - a := by omega
      have hv : getSpec s a width = ((be (subs s a.toNat width.toNat) : Int), 0) := by unfold getSpec; rw [if_neg c0, if_neg c6]
      rw [hv]
      clear c0 c6 hv
      obtain ⟨A, rfl⟩ := Int.eq_ofNat_of_zero_le c3
      obtain ⟨W, rfl⟩ := Int.eq_ofNat_of_zero_le (show 0 ≤ width by omega)
      rw [Int.toNat_natCast, Int.toNat_natCast]
      go_enter Try.func58, Try.ntmps58
      go_wp2_with (go_at_call 83; refine (fits_yes _ _ _ _ hs c3 (by omega) c7).mono ?_; rintro e w' ⟨rfl, rfl⟩)
      go_loop [8, 9] (fun n i => ∃ k : Nat, k ≤ W ∧ i = .int .i64 k ∧ n = .int .i64 (be (subs s A k) : Int)) (fun _ i => W - (intOf i).toNat)
      case atStart => exact ⟨0, Nat.zero_le _, rfl, by simp [subs, be_nil]⟩
      case round =>
        obtain ⟨k, hk, rfl, rfl⟩ := hrel
        by_cases hlt : k < W
        · have hi : A + k < s.size := by omega
          have hb : (be (subs s A k) : Int) ≤ 16777215 := by
            have := be_lt (subs s A k)
            have h4 : (subs s A k).length ≤ 3 := by simp [subs]; omega
            have h5 : 256 ^ (subs s A k).length ≤ 256 ^ 3 := Nat.pow_le_pow_right (by omega) h4
            omega
          have hs1 : be (subs s A (k + 1)) = 256 * be (subs s A k) + s[A + k].toNat := by rw [subs_succ _ _ _ hi, be_snoc]
          have hc : (s[A + k].toNat : Int) < 256 := by have := s[A + k].toNat_lt; omega
          have H1 := Lib.hid hs1
          clear hs1
          go_wp2
          go_round
          case rel => exact ⟨k + 1, hlt, by go_num, by rw [H1.out]; go_num⟩
          case measure => simp [intOf]; omega
        · obtain rfl : k = W := by omega
          go_wp2
          go_ret2
          exact ⟨rfl, rfl⟩

end Go.Proofs.Ytnhgekbimiffjaa
