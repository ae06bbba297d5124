/-
  What octet.Wide and octet.Eight answer: contracts over the translated program, at every argument.
-/
import Derived.Test.YtcahhkmbigjhlaaOctB
namespace Go.Proofs.Ytcahhkmbigjhlaa
open Go.RowKit

theorem eq8 {s : ByteArray} {A W : Nat} (h : (A : Int) + (W : Int) ≤ s.size) : (subs s A W).length = W := by simp [subs]; omega

set_option maxHeartbeats 400000 in
theorem wide_c (s : ByteArray) (a : Int) (w : World) (hs : s.size ≤ 9223372036854775807) (ha : -9223372036854775808 ≤ a) (h2 : a ≤ 9223372036854775807) :
    Calls Try.prog 17 #[.string s, .int .i64 a] w fun e w' => e = .returned (.tuple #[.int .u64 (wideSpec s a).1, .int .i64 (wideSpec s a).2]) ∧ Below w.heap.size w w' := by
  by_cases c1 : a < 0
  · have hv : wideSpec s a = (0, 1) := by simp [wideSpec, c1]
    rw [hv]
    go_enter Try.func17, Try.ntmps17
    go_wp2
    go_ret2
    exact ⟨rfl, Below.refl _ _⟩
  · have c3 : 0 ≤ a := by omega
    by_cases c6 : (s.size : Int) - a < 8
    · have hv : wideSpec s a = (0, 2) := by simp only [wideSpec, if_neg c1, if_pos c6]
      rw [hv]
      clear c1 hv
      go_enter Try.func17, Try.ntmps17
      go_wp2_with (go_at_call 33; refine (stands_no _ _ _ _ hs c3 h2 c6).mono ?_; rintro e w' ⟨rfl, rfl⟩)
      go_ret2
      exact ⟨rfl, Below.refl _ _⟩
    · have c7 : 8 ≤ (s.size : Int) - a := by omega
      have hv : wideSpec s a = ((be (subs s a.toNat 8) : Int), 0) := by simp only [wideSpec, if_neg c1, if_neg c6]
      rw [hv]
      clear c1 c6 hv
      obtain ⟨A, rfl⟩ := Int.eq_ofNat_of_zero_le c3
      have hz : (s.extract A (A + 8)).size ≤ 8 := by simp; omega
      go_enter Try.func17, Try.ntmps17
      go_wp2_with (first | (go_at_call 33; refine (stands_yes _ _ _ _ hs c3 h2 c7).mono ?_; rintro e w' ⟨rfl, rfl⟩) | (go_at_call 34; refine (number_c _ _ hz).mono ?_; rintro e w' ⟨rfl, hb⟩))
      go_ret2
      exact ⟨rfl, hb⟩

set_option maxHeartbeats 400000 in
theorem eight_c (n : Int) (w : World) (h0 : 0 ≤ n) :
    Calls Try.prog 27 #[.int .u64 n] w fun e w' => e = .returned (.string ⟨(bytesOf n.toNat 8).toArray⟩) ∧ Below w.heap.size w w' := by
  obtain ⟨N, rfl⟩ := Int.eq_ofNat_of_zero_le h0
  have hc := fun U => spread_c N 8 U (by omega)
  have HC := Lib.hid hc
  clear hc
  go_enter Try.func27, Try.ntmps27
  go_wp2_with (go_at_call 38; refine (HC.out _).mono ?_; rintro e w' ⟨rfl, hb⟩)
  go_ret
  exact ⟨rfl, hb⟩

end Go.Proofs.Ytcahhkmbigjhlaa
