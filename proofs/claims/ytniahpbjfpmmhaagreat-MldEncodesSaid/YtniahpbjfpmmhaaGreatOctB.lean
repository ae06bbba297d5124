/-
  What octet.Get, Put, Wide, Eight and Cut answer: contracts over the translated program, at every argument.
-/
import Derived.Test.YtniahpbjfpmmhaaGreatOctA
import Derived.Lib.Strings
import Derived.Lib.UnsafeStr
import Derived.Lib.BufferWrite
namespace Go.Proofs.YtniahpbjfpmmhaaGreat
open Go.RowKit

/-- n bytes of s from a on. -/
def subs (s : ByteArray) (a n : Nat) : List UInt8 := (s.data.toList.drop a).take n

/-- What Get answers: the number and the error's number. -/
def getSpec (s : ByteArray) (a width : Int) : Int × Int :=
  if a < 0 ∨ width < 1 ∨ 4 < width then (0, 1) else if (s.size : Int) - a < width then (0, 2) else ((be (subs s a.toNat width.toNat) : Int), 0)

def wideSpec (s : ByteArray) (a : Int) : Int × Int :=
  if a < 0 then (0, 1) else if (s.size : Int) - a < 8 then (0, 2) else ((be (subs s a.toNat 8) : Int), 0)

def putSpec (n width : Int) : ByteArray × Int :=
  if width < 1 ∨ 4 < width ∨ n < 0 ∨ (256 ^ width.toNat : Nat) ≤ n then (⟨#[]⟩, 1) else (⟨(bytesOf n.toNat width.toNat).toArray⟩, 0)

def cutSpec (s : ByteArray) (a n : Int) : ByteArray × Int :=
  if a < 0 ∨ n < 0 then (⟨#[]⟩, 1) else if (s.size : Int) - a < n then (⟨#[]⟩, 2) else (⟨(subs s a.toNat n.toNat).toArray⟩, 0)

set_option maxHeartbeats 400000 in
theorem narrow_yes (n : Int) (w : World) (h1 : 1 ≤ n) (h2 : n ≤ 4) :
    Calls Tryz.prog 56 #[.int .i64 n] w fun e w' => e = .returned (.bool true) ∧ w = w' := by
  go_enter Tryz.func56, Tryz.ntmps56
  go_wp2
  go_ret
  exact ⟨rfl, rfl⟩

set_option maxHeartbeats 400000 in
theorem narrow_no (n : Int) (w : World) (h : n < 1 ∨ 4 < n) :
    Calls Tryz.prog 56 #[.int .i64 n] w fun e w' => e = .returned (.bool false) ∧ w = w' := by
  rcases h with h | h
  · have h0 : ¬ 1 ≤ n := by omega
    go_enter Tryz.func56, Tryz.ntmps56
    go_wp2
    go_ret
    exact ⟨rfl, rfl⟩
  · have h0 : 1 ≤ n := by omega
    have h1 : ¬ n ≤ 4 := by omega
    go_enter Tryz.func56, Tryz.ntmps56
    go_wp2
    go_ret
    exact ⟨rfl, rfl⟩

set_option maxHeartbeats 400000 in
theorem stands_yes (s : ByteArray) (a n : Int) (w : World) (hs : s.size ≤ 9223372036854775807) (h1 : 0 ≤ a) (h2 : a ≤ 9223372036854775807) (h : n ≤ (s.size : Int) - a) :
    Calls Tryz.prog 54 #[.string s, .int .i64 a, .int .i64 n] w fun e w' => e = .returned (.bool true) ∧ w = w' := by
  go_enter Tryz.func54, Tryz.ntmps54
  go_wp2
  go_ret
  exact ⟨rfl, rfl⟩

set_option maxHeartbeats 400000 in
theorem stands_no (s : ByteArray) (a n : Int) (w : World) (hs : s.size ≤ 9223372036854775807) (h1 : 0 ≤ a) (h2 : a ≤ 9223372036854775807) (h : (s.size : Int) - a < n) :
    Calls Tryz.prog 54 #[.string s, .int .i64 a, .int .i64 n] w fun e w' => e = .returned (.bool false) ∧ w = w' := by
  have h' : ¬ n ≤ (s.size : Int) - a := by omega
  go_enter Tryz.func54, Tryz.ntmps54
  go_wp2
  go_ret
  exact ⟨rfl, rfl⟩

theorem subs_extract (s : ByteArray) (a n : Nat) : (s.extract a (a + n)).data.toList = subs s a n := by
  rw [Lib.extract_data]; unfold subs; rw [show a + n - a = n from by omega]

set_option maxHeartbeats 400000 in
theorem get_c (s : ByteArray) (a width : Int) (w : World) (hs : s.size ≤ 9223372036854775807) (ha : -9223372036854775808 ≤ a) (h2 : a ≤ 9223372036854775807) :
    Calls Tryz.prog 67 #[.string s, .int .i64 a, .int .i64 width] w fun e w' => e = .returned (.tuple #[.int .i64 (getSpec s a width).1, .int .i64 (getSpec s a width).2]) ∧ Below w.heap.size w w' := by
  by_cases c1 : a < 0
  · have hv : getSpec s a width = (0, 1) := by simp [getSpec, c1]
    rw [hv]
    go_enter Tryz.func67, Tryz.ntmps67
    go_wp2
    go_ret2
    exact ⟨rfl, Below.refl _ _⟩
  · by_cases c2 : width < 1 ∨ 4 < width
    · have hv : getSpec s a width = (0, 1) := by simp [getSpec, c2]
      rw [hv]
      have c3 : 0 ≤ a := by omega
      go_enter Tryz.func67, Tryz.ntmps67
      go_wp2_with (go_at_call 56; refine (narrow_no _ _ c2).mono ?_; rintro e w' ⟨rfl, rfl⟩)
      go_ret2
      exact ⟨rfl, Below.refl _ _⟩
    · have c3 : 0 ≤ a := by omega
      have c4 : 1 ≤ width := by omega
      have c5 : width ≤ 4 := by omega
      by_cases c6 : (s.size : Int) - a < width
      · have hv : getSpec s a width = (0, 2) := by simp only [getSpec, if_neg (show ¬ (a < 0 ∨ width < 1 ∨ 4 < width) by omega), if_pos c6]
        rw [hv]
        clear c1 c2 hv
        go_enter Tryz.func67, Tryz.ntmps67
        go_wp2_with (first | (go_at_call 56; refine (narrow_yes _ _ c4 c5).mono ?_; rintro e w' ⟨rfl, rfl⟩) | (go_at_call 54; refine (stands_no _ _ _ _ hs c3 h2 c6).mono ?_; rintro e w' ⟨rfl, rfl⟩))
        go_ret2
        exact ⟨rfl, Below.refl _ _⟩
      · have c7 : width ≤ (s.size : Int) - a := by omega
        have hv : getSpec s a width = ((be (subs s a.toNat width.toNat) : Int), 0) := by simp only [getSpec, if_neg (show ¬ (a < 0 ∨ width < 1 ∨ 4 < width) by omega), if_neg c6]
        rw [hv]
        clear c1 c2 c6 hv
        obtain ⟨A, rfl⟩ := Int.eq_ofNat_of_zero_le c3
        obtain ⟨W, rfl⟩ := Int.eq_ofNat_of_zero_le (show 0 ≤ width by omega)
        have hz : (s.extract A (A + W)).size ≤ 8 := by simp; omega
        have hfit : (be (List.take W (List.drop A s.data.toList)) : Int) ≤ 4294967295 := by
          have := be_lt (subs s A W)
          have h4 : (subs s A W).length ≤ 4 := by simp [subs]; omega
          have h5 : 256 ^ (subs s A W).length ≤ 256 ^ 4 := Nat.pow_le_pow_right (by omega) h4
          show ((be (subs s A W) : Nat) : Int) ≤ _
          omega
        go_enter Tryz.func67, Tryz.ntmps67
        go_wp2_with (first | (go_at_call 56; refine (narrow_yes _ _ c4 c5).mono ?_; rintro e w' ⟨rfl, rfl⟩) | (go_at_call 54; refine (stands_yes _ _ _ _ hs c3 h2 c7).mono ?_; rintro e w' ⟨rfl, rfl⟩) | (go_at_call 85; refine (number_c _ _ hz).mono ?_; rintro e w' ⟨rfl, hb⟩))
        go_ret2
        exact ⟨rfl, hb⟩

theorem pow_cases (W : Nat) (h1 : 1 ≤ W) (h2 : W ≤ 4) : W = 1 ∨ W = 2 ∨ W = 3 ∨ W = 4 := by omega

set_option maxHeartbeats 400000 in
theorem put_c (n width : Int) (w : World) (hn1 : -9223372036854775808 ≤ n) (hn2 : n ≤ 9223372036854775807) :
    Calls Tryz.prog 26 #[.int .i64 n, .int .i64 width] w fun e w' => e = .returned (.tuple #[.string (putSpec n width).1, .int .i64 (putSpec n width).2]) ∧ Below w.heap.size w w' := by
  by_cases c1 : width < 1 ∨ 4 < width
  · have hv : putSpec n width = (⟨#[]⟩, 1) := by unfold putSpec; rw [if_pos (by omega)]
    rw [hv]
    go_enter Tryz.func26, Tryz.ntmps26
    go_wp2_with (go_at_call 56; refine (narrow_no _ _ c1).mono ?_; rintro e w' ⟨rfl, rfl⟩)
    go_ret2
    exact ⟨rfl, Below.refl _ _⟩
  · have c4 : 1 ≤ width := by omega
    have c5 : width ≤ 4 := by omega
    obtain ⟨W, rfl⟩ := Int.eq_ofNat_of_zero_le (show 0 ≤ width by omega)
    by_cases c6 : n < 0
    · have hv : putSpec n W = (⟨#[]⟩, 1) := by unfold putSpec; rw [if_pos (by omega)]
      rw [hv]
      clear c1 hv
      go_enter Tryz.func26, Tryz.ntmps26
      go_wp2_with (go_at_call 56; refine (narrow_yes _ _ c4 c5).mono ?_; rintro e w' ⟨rfl, rfl⟩)
      go_ret2
      exact ⟨rfl, Below.refl _ _⟩
    · obtain ⟨N, rfl⟩ := Int.eq_ofNat_of_zero_le (show 0 ≤ n by omega)
      have c7 : (0 : Int) ≤ N := by omega
      have p : (2 : Int) ^ (8 * W) = ((256 ^ W : Nat) : Int) := by
        rw [show (256 : Nat) = 2 ^ 8 from rfl, ← Nat.pow_mul]
        simp
      by_cases c8 : 256 ^ W ≤ N
      · have hv : putSpec N W = (⟨#[]⟩, 1) := by unfold putSpec; rw [if_pos (by rw [Int.toNat_natCast]; right; right; right; exact_mod_cast c8)]
        rw [hv]
        have hq : ((N : Int) / 2 ^ (8 * W) == 0) = false := by
          rw [p, beq_eq_false_iff_ne]
          have : 0 < N / 256 ^ W := Nat.div_pos c8 (Nat.pow_pos (by omega))
          rw [← Int.natCast_ediv]
          omega
        have hq2 : ((N : Int) / 2 ^ (8 * W) != 0) = true := by simp only [bne, hq]; rfl
        clear c1 hv p c8
        go_enter Tryz.func26, Tryz.ntmps26
        go_wp2_with (go_at_call 56; refine (narrow_yes _ _ c4 c5).mono ?_; rintro e w' ⟨rfl, rfl⟩)
        go_ret2
        exact ⟨rfl, Below.refl _ _⟩
      · have hv : putSpec N W = (⟨(bytesOf N W).toArray⟩, 0) := by
          unfold putSpec
          rw [if_neg (by rw [Int.toNat_natCast]; intro h; rcases h with h | h | h | h <;> first | omega | exact c8 (by exact_mod_cast h))]
          rfl
        rw [hv]
        have hq : ((N : Int) / 2 ^ (8 * W) == 0) = true := by
          rw [p, beq_iff_eq, ← Int.natCast_ediv, Nat.div_eq_of_lt (by omega)]
          rfl
        have hq2 : ((N : Int) / 2 ^ (8 * W) != 0) = false := by simp only [bne, hq]; rfl
        have hu : (N : Int) ≤ 18446744073709551615 := by omega
        have HC := Lib.hid fun U => spread_c N W U (by omega)
        clear c1 hv p c8
        go_enter Tryz.func26, Tryz.ntmps26
        go_wp2_with (first | (go_at_call 56; refine (narrow_yes _ _ c4 c5).mono ?_; rintro e w' ⟨rfl, rfl⟩) | (go_at_call 57; refine (HC.out _).mono ?_; rintro e w' ⟨rfl, hb⟩))
        go_ret2
        exact ⟨rfl, hb⟩

theorem byteRow_cells (l : List UInt8) : (Lib.byteCells l).toArray = byteRow l := rfl

theorem extract_mk (s : ByteArray) (a n : Nat) : s.extract a (a + n) = ⟨(subs s a n).toArray⟩ := by
  apply ByteArray.ext
  apply Array.toList_inj.1
  rw [subs_extract]

end Go.Proofs.YtniahpbjfpmmhaaGreat
