/-
  Codes of times: what the document's answers (siphonref07) are: the same as those of package code.
-/
import Derived.Test.YtniahpbjfpmmhaaGreatCodeA
namespace Go.Proofs.YtniahpbjfpmmhaaGreat
open Go.RowKit
set_option linter.unusedVariables false

theorem pow12 (b H : Nat) (hb : b ≤ 12) (hH : H = 2 ^ b) : 1 ≤ H ∧ H ≤ 4096 := by
  subst hH
  have := Nat.pow_le_pow_right (show 2 > 0 by omega) hb
  have := Nat.pow_pos (n := b) (show 0 < 2 by omega)
  omega
theorem pow_part (b k H : Nat) (hk : k ≤ b) (hH : H = 2 ^ b) : 8 * 2 ^ k ≤ 8 * H := by
  subst hH
  have := Nat.pow_le_pow_right (show 2 > 0 by omega) hk
  omega

theorem half_le (H d j p : Nat) (hz : H ≤ 4096) (hd : d < H) (hp : p < 8) (hj : j < p + 3) : (H + d) * 2 ^ j ≤ 8388608 := by
  have h1 : 2 ^ j ≤ 2 ^ 10 := Nat.pow_le_pow_right (by omega) (by omega)
  have h2 : (H + d) * 2 ^ j ≤ 8192 * 2 ^ 10 := Nat.mul_le_mul (by omega) h1
  omega

set_option maxHeartbeats 1000000 in
set_option maxRecDepth 100000 in
theorem rdec_small (c : Int) (b H : Nat) (w : World) (hb : b ≤ 12) (hH : H = 2 ^ b) (h0 : 0 ≤ c) (h1 : c < 8 * (H : Int)) :
    Calls Tryz.prog 64 #[.int .i64 c, .int .i64 b] w fun e w' => e = .returned (.int .i64 c) ∧ w = w' := by
  have hz := pow12 b H hb hH
  have HP := Lib.hid fun k hk => pow_part b k H hk hH
  have HH := Lib.hid hH
  clear hH
  go_enter Tryz.func64, Tryz.ntmps64
  go_wp2
  go_loop [5, 6] (fun half i => ∃ k : Nat, k ≤ b ∧ i = .int .i64 k ∧ half = .int .i64 ((8 * 2 ^ k : Nat) : Int)) (fun _ i => b - (intOf i).toNat)
  case atStart => exact ⟨0, Nat.zero_le _, rfl, rfl⟩
  case round =>
    obtain ⟨k, hk, rfl, rfl⟩ := hrel
    have hq := HP.out k hk
    by_cases hlt : k < b
    · obtain ⟨q, hq'⟩ : ∃ q, q = 8 * 2 ^ k := ⟨_, rfl⟩
      rw [← hq'] at hq ⊢
      have hs : ((8 * 2 ^ (k + 1) : Nat) : Int) = 2 * (q : Int) := by rw [hq', Nat.pow_succ]; omega
      have HS := Lib.hid hs
      clear hs hq'
      go_wp2
      go_round
      case rel => exact ⟨k + 1, hlt, by go_num, by rw [HS.out]⟩
      case measure => simp [intOf]; omega
    · obtain rfl : k = b := by omega
      rw [← HH.out] at *
      have e : ((8 * H : Nat) : Int) = 8 * (H : Int) := by omega
      rw [e]
      clear e
      go_wp2
      go_ret
      exact ⟨rfl, rfl⟩

set_option maxHeartbeats 1000000 in
set_option maxRecDepth 100000 in
theorem rdec_great (c : Int) (b H p d : Nat) (w : World) (hb : b ≤ 12) (hH : H = 2 ^ b) (hp : p < 8) (hd : d < H) (h0 : 0 ≤ c) (h1 : 8 * (H : Int) ≤ c) (hc : c ≤ 65535) (e1 : c / (H : Int) % 8 = p) (e2 : c % (H : Int) = d) :
    Calls Tryz.prog 64 #[.int .i64 c, .int .i64 b] w fun e w' => e = .returned (.int .i64 (((H + d) * 2 ^ (p + 3) : Nat) : Int)) ∧ w = w' := by
  obtain ⟨hz, hz2⟩ := pow12 b H hb hH
  have HP := Lib.hid fun k hk => pow_part b k H hk hH
  have HH := Lib.hid hH
  have hzi : (1 : Int) ≤ (H : Int) := by omega
  have E1 := Lib.hid e1
  have E2 := Lib.hid e2
  clear hH e1 e2
  go_enter Tryz.func64, Tryz.ntmps64
  go_wp2
  go_loop [5, 6] (fun half i => ∃ k : Nat, k ≤ b ∧ i = .int .i64 k ∧ half = .int .i64 ((8 * 2 ^ k : Nat) : Int)) (fun _ i => b - (intOf i).toNat)
  case atStart => exact ⟨0, Nat.zero_le _, rfl, rfl⟩
  case round =>
    obtain ⟨k, hk, rfl, rfl⟩ := hrel
    have hq := HP.out k hk
    by_cases hlt : k < b
    · obtain ⟨q, hq'⟩ : ∃ q, q = 8 * 2 ^ k := ⟨_, rfl⟩
      rw [← hq'] at hq ⊢
      have hs : ((8 * 2 ^ (k + 1) : Nat) : Int) = 2 * (q : Int) := by rw [hq', Nat.pow_succ]; omega
      have HS := Lib.hid hs
      clear hs hq'
      go_wp2
      go_round
      case rel => exact ⟨k + 1, hlt, by go_num, by rw [HS.out]⟩
      case measure => simp [intOf]; omega
    · obtain rfl : k = b := by omega
      rw [← HH.out] at *
      have e : ((8 * H : Nat) : Int) = 8 * (H : Int) := by omega
      rw [e]
      clear e
      have e1 := E1.out
      have e2 := E2.out
      have e3 : 8 * (H : Int) / 8 = (H : Int) := by omega
      have hm : 0 ≤ c % (H : Int) := by omega
      go_wp2
      have d0 : 0 ≤ c / (H : Int) := Int.ediv_nonneg h0 (by omega)
      have d1 : c / (H : Int) ≤ 65535 := Int.le_trans (Int.ediv_le_self _ h0) hc
      clear e2 e3 hm h1
      have HB := Lib.hid fun j hj => half_le H d j p hz2 hd hp hj
      go_loop [8, 9] (fun n i => ∃ j : Nat, j ≤ p + 3 ∧ i = .int .i64 j ∧ n = .int .i64 (((H + d) * 2 ^ j : Nat) : Int)) (fun _ i => p + 3 - (intOf i).toNat)
      case atStart => exact ⟨0, Nat.zero_le _, rfl, by rw [Nat.pow_zero, Nat.mul_one]; go_num⟩
      case round =>
        obtain ⟨j, hj, rfl, rfl⟩ := hrel
        by_cases hlt : j < p + 3
        · have hq := HB.out j (by omega)
          obtain ⟨q, hq'⟩ : ∃ q, q = (H + d) * 2 ^ j := ⟨_, rfl⟩
          rw [← hq'] at hq ⊢
          have HS := Lib.hid (show (((H + d) * 2 ^ (j + 1) : Nat) : Int) = 2 * (q : Int) by rw [hq', Nat.pow_succ, ← Nat.mul_assoc]; omega)
          have hlt2 : (j : Int) < (p : Int) + 3 := by omega
          clear hq' hlt
          go_wp2
          go_round
          case rel => exact ⟨j + 1, by omega, by go_num, by rw [HS.out]⟩
          case measure => simp [intOf]; omega
        · obtain rfl : j = p + 3 := by omega
          go_wp2
          go_ret
          exact ⟨rfl, rfl⟩

theorem rdec_c (c : Int) (b : Nat) (w : World) (hb : b ≤ 12) (h0 : 0 ≤ c) (h1 : c < ((16 * 2 ^ b : Nat) : Int)) :
    Calls Tryz.prog 64 #[.int .i64 c, .int .i64 b] w fun e w' => e = .returned (.int .i64 (decN b c.toNat)) ∧ w = w' := by
  obtain ⟨C, rfl⟩ := Int.eq_ofNat_of_zero_le h0
  rw [Int.toNat_natCast]
  have hz := pow12 b (2 ^ b) hb rfl
  by_cases h : C < 8 * 2 ^ b
  · rw [dec_small b C h]
    exact rdec_small C b (2 ^ b) w hb rfl h0 (by omega)
  · obtain ⟨p, d, hp, hd, e⟩ := split_great b C (by omega) (by omega)
    have hg := dec_great b p d hp hd
    rw [← e] at hg
    rw [hg]
    have hH : 0 < 2 ^ b := by omega
    have e' : C = d + (8 + p) * 2 ^ b := by rw [e, Nat.add_mul]; omega
    have f1 : C / 2 ^ b = 8 + p := by rw [e', Nat.add_mul_div_right _ _ hH, Nat.div_eq_of_lt hd, Nat.zero_add]
    have f2 : C % 2 ^ b = d := by rw [e', Nat.add_mul_mod_self_right, Nat.mod_eq_of_lt hd]
    refine rdec_great C b (2 ^ b) p d w hb rfl hp hd h0 (by omega) (by omega) ?_ ?_
    · rw [← Int.natCast_ediv, f1]; omega
    · rw [← Int.natCast_emod, f2]

end Go.Proofs.YtniahpbjfpmmhaaGreat
