/-
  Codes of times, plain: what a code's number is, which code a number has, and what follows. They speak of no program.
-/
import Derived.Lib.ItoaNum
namespace Go.Proofs.YtniahpbjfpmmhaaGreat

/-- The number of code c, of b bits of the small part. -/
def decN (b c : Nat) : Nat := if c < 8 * 2 ^ b then c else (c % 2 ^ b + 2 ^ b) * 2 ^ (c / 2 ^ b % 8 + 3)
/-- The code of number n. -/
def encN (b n : Nat) : Nat :=
  if n < 8 * 2 ^ b then n
  else if 8 * 2 ^ b * 256 ≤ n then 16 * 2 ^ b - 1
  else 8 * 2 ^ b + (Nat.log2 n - (b + 3)) * 2 ^ b + (n / 2 ^ (Nat.log2 n - (b + 3) + 3) - 2 ^ b)

theorem pow_le8 (p : Nat) (hp : p < 8) : 2 ^ p ≤ 128 := by
  have : 2 ^ p ≤ 2 ^ 7 := Nat.pow_le_pow_right (by omega) (by omega)
  omega

/-- A great code in its parts. -/
theorem dec_great (b p d : Nat) (hp : p < 8) (hd : d < 2 ^ b) : decN b (8 * 2 ^ b + p * 2 ^ b + d) = (2 ^ b + d) * 2 ^ (p + 3) := by
  have hH : 0 < 2 ^ b := Nat.pow_pos (by omega)
  unfold decN
  rw [if_neg (by omega)]
  have e1 : (8 * 2 ^ b + p * 2 ^ b + d) = d + (8 + p) * 2 ^ b := by rw [Nat.add_mul]; omega
  rw [e1, Nat.add_mul_mod_self_right, Nat.mod_eq_of_lt hd, Nat.add_mul_div_right _ _ hH, Nat.div_eq_of_lt hd, Nat.zero_add, Nat.add_mod_left, Nat.mod_eq_of_lt hp, Nat.add_comm d]

theorem split_great (b c : Nat) (h1 : 8 * 2 ^ b ≤ c) (h2 : c < 16 * 2 ^ b) : ∃ p d, p < 8 ∧ d < 2 ^ b ∧ c = 8 * 2 ^ b + p * 2 ^ b + d := by
  have hH : 0 < 2 ^ b := Nat.pow_pos (by omega)
  refine ⟨c / 2 ^ b - 8, c % 2 ^ b, ?_, Nat.mod_lt _ hH, ?_⟩
  · have : c / 2 ^ b < 16 := (Nat.div_lt_iff_lt_mul hH).2 h2
    omega
  · have h8 : 8 ≤ c / 2 ^ b := (Nat.le_div_iff_mul_le hH).2 h1
    have e := Nat.div_add_mod c (2 ^ b)
    have : 8 * 2 ^ b + (c / 2 ^ b - 8) * 2 ^ b = 2 ^ b * (c / 2 ^ b) := by
      rw [← Nat.add_mul, show 8 + (c / 2 ^ b - 8) = c / 2 ^ b from by omega, Nat.mul_comm]
    omega

/-- The next code's number is greater. -/
theorem dec_succ (b c : Nat) (h : c + 1 < 16 * 2 ^ b) : decN b c < decN b (c + 1) := by
  have hH : 0 < 2 ^ b := Nat.pow_pos (by omega)
  by_cases h1 : c + 1 < 8 * 2 ^ b
  · unfold decN
    rw [if_pos (by omega), if_pos h1]
    omega
  · by_cases h2 : c + 1 = 8 * 2 ^ b
    · rw [h2]
      have := dec_great b 0 0 (by omega) hH
      simp only [Nat.zero_mul, Nat.add_zero, Nat.zero_add] at this
      rw [this]
      unfold decN
      rw [if_pos (by omega)]
      omega
    · obtain ⟨p, d, hp, hd, rfl⟩ := split_great b c (by omega) (by omega)
      rw [dec_great b p d hp hd]
      by_cases h3 : d + 1 < 2 ^ b
      · rw [show 8 * 2 ^ b + p * 2 ^ b + d + 1 = 8 * 2 ^ b + p * 2 ^ b + (d + 1) from by omega, dec_great b p (d + 1) hp h3]
        exact (Nat.mul_lt_mul_right (Nat.pow_pos (by omega))).2 (by omega)
      · have hp7 : p + 1 < 8 := by
          rcases Nat.lt_or_ge (p + 1) 8 with h4 | h4
          · exact h4
          · have : p = 7 := by omega
            subst this
            omega
        rw [show 8 * 2 ^ b + p * 2 ^ b + d + 1 = 8 * 2 ^ b + (p + 1) * 2 ^ b + 0 from by rw [Nat.add_mul]; omega, dec_great b (p + 1) 0 hp7 hH]
        rw [show p + 1 + 3 = (p + 3) + 1 from by omega, Nat.pow_succ 2 (p + 3), Nat.add_zero, ← Nat.mul_assoc, Nat.mul_right_comm]
        exact (Nat.mul_lt_mul_right (Nat.pow_pos (by omega))).2 (by omega)

theorem dec_lt (b c d : Nat) (h : c < d) (hd : d < 16 * 2 ^ b) : decN b c < decN b d := by
  induction d with
  | zero => omega
  | succ d ih =>
    rcases Nat.lt_or_ge c d with h1 | h1
    · exact Nat.lt_trans (ih h1 (by omega)) (dec_succ b d hd)
    · obtain rfl : c = d := by omega
      exact dec_succ b c hd

theorem dec_le (b c d : Nat) (h : c ≤ d) (hd : d < 16 * 2 ^ b) : decN b c ≤ decN b d := by
  rcases Nat.lt_or_ge c d with h1 | h1
  · exact Nat.le_of_lt (dec_lt b c d h1 hd)
  · rw [show c = d from by omega]; exact Nat.le_refl _

theorem dec_top (b : Nat) : decN b (16 * 2 ^ b - 1) + 1024 = 8 * 2 ^ b * 256 := by
  have hH : 0 < 2 ^ b := Nat.pow_pos (by omega)
  have := dec_great b 7 (2 ^ b - 1) (by omega) (by omega)
  rw [show 8 * 2 ^ b + 7 * 2 ^ b + (2 ^ b - 1) = 16 * 2 ^ b - 1 from by omega] at this
  rw [this, show (2 : Nat) ^ (7 + 3) = 1024 from rfl]
  omega

/-- A great number in its parts. -/
theorem log_parts (b n : Nat) (h1 : 8 * 2 ^ b ≤ n) (h2 : n < 8 * 2 ^ b * 256) :
    ∃ p d r, p < 8 ∧ d < 2 ^ b ∧ r < 2 ^ (p + 3) ∧ n = (2 ^ b + d) * 2 ^ (p + 3) + r ∧ Nat.log2 n = b + 3 + p ∧ n / 2 ^ (p + 3) = 2 ^ b + d := by
  have hH : 0 < 2 ^ b := Nat.pow_pos (by omega)
  have hn : n ≠ 0 := by omega
  have l1 : 2 ^ Nat.log2 n ≤ n := Nat.log2_self_le hn
  have l2 : n < 2 ^ (Nat.log2 n + 1) := Nat.lt_log2_self
  have e3 : 8 * 2 ^ b = 2 ^ (b + 3) := by rw [Nat.pow_add, Nat.mul_comm]
  have e11 : 8 * 2 ^ b * 256 = 2 ^ (b + 3 + 8) := by rw [e3, Nat.pow_add _ _ 8]
  have g1 : b + 3 ≤ Nat.log2 n := by
    rcases Nat.lt_or_ge (Nat.log2 n) (b + 3) with h | h
    · have := Nat.pow_le_pow_right (show 2 > 0 by omega) (show Nat.log2 n + 1 ≤ b + 3 from h)
      omega
    · exact h
  have g2 : Nat.log2 n < b + 3 + 8 := by
    rcases Nat.lt_or_ge (Nat.log2 n) (b + 3 + 8) with h | h
    · exact h
    · have := Nat.pow_le_pow_right (show 2 > 0 by omega) h
      omega
  obtain ⟨p, hp⟩ : ∃ p, Nat.log2 n = b + 3 + p := ⟨Nat.log2 n - (b + 3), by omega⟩
  have hP : 0 < 2 ^ (p + 3) := Nat.pow_pos (by omega)
  have k1 : 2 ^ b * 2 ^ (p + 3) ≤ n := by rw [← Nat.pow_add, show b + (p + 3) = b + 3 + p from by omega, ← hp]; exact l1
  have k2 : n < 2 * 2 ^ b * 2 ^ (p + 3) := by
    rw [Nat.mul_comm 2, ← Nat.pow_succ, ← Nat.pow_add, show b.succ + (p + 3) = b + 3 + p + 1 from by omega, ← hp]; exact l2
  have q1 : 2 ^ b ≤ n / 2 ^ (p + 3) := (Nat.le_div_iff_mul_le hP).2 k1
  have q2 : n / 2 ^ (p + 3) < 2 * 2 ^ b := (Nat.div_lt_iff_lt_mul hP).2 k2
  refine ⟨p, n / 2 ^ (p + 3) - 2 ^ b, n % 2 ^ (p + 3), by omega, by omega, Nat.mod_lt _ hP, ?_, hp, by omega⟩
  rw [show 2 ^ b + (n / 2 ^ (p + 3) - 2 ^ b) = n / 2 ^ (p + 3) from by omega, Nat.mul_comm]
  exact (Nat.div_add_mod n _).symm

/-- The code of a number: it is one, its number is not more, and the next one's is. -/
theorem enc_is (b n : Nat) : encN b n < 16 * 2 ^ b ∧ decN b (encN b n) ≤ n ∧ (encN b n + 1 < 16 * 2 ^ b → n < decN b (encN b n + 1)) := by
  have hH : 0 < 2 ^ b := Nat.pow_pos (by omega)
  by_cases h1 : n < 8 * 2 ^ b
  · have e : encN b n = n := by unfold encN; rw [if_pos h1]
    rw [e]
    have d : decN b n = n := by unfold decN; rw [if_pos h1]
    refine ⟨by omega, by omega, fun h => ?_⟩
    have := dec_succ b n h
    omega
  · by_cases h2 : 8 * 2 ^ b * 256 ≤ n
    · have e : encN b n = 16 * 2 ^ b - 1 := by unfold encN; rw [if_neg h1, if_pos h2]
      rw [e]
      have := dec_top b
      exact ⟨by omega, by omega, fun h => by omega⟩
    · obtain ⟨p, d, r, hp, hd, hr, hn, hl, hq⟩ := log_parts b n (by omega) (by omega)
      have e : encN b n = 8 * 2 ^ b + p * 2 ^ b + d := by
        unfold encN
        rw [if_neg h1, if_neg h2, hl, show b + 3 + p - (b + 3) = p from by omega, hq, show 2 ^ b + d - 2 ^ b = d from by omega]
      have hc : 8 * 2 ^ b + p * 2 ^ b + d < 16 * 2 ^ b := by
        have : p * 2 ^ b ≤ 7 * 2 ^ b := Nat.mul_le_mul_right _ (by omega)
        omega
      rw [e]
      refine ⟨hc, by rw [dec_great b p d hp hd]; omega, fun h => ?_⟩
      by_cases h3 : d + 1 < 2 ^ b
      · rw [show 8 * 2 ^ b + p * 2 ^ b + d + 1 = 8 * 2 ^ b + p * 2 ^ b + (d + 1) from by omega, dec_great b p (d + 1) hp h3, ← Nat.add_assoc, Nat.add_mul (2 ^ b + d) 1]
        omega
      · have hp7 : p + 1 < 8 := by
          rcases Nat.lt_or_ge (p + 1) 8 with h4 | h4
          · exact h4
          · have : p = 7 := by omega
            subst this
            omega
        rw [show 8 * 2 ^ b + p * 2 ^ b + d + 1 = 8 * 2 ^ b + (p + 1) * 2 ^ b + 0 from by rw [Nat.add_mul]; omega, dec_great b (p + 1) 0 hp7 hH]
        rw [show p + 1 + 3 = (p + 3) + 1 from by omega, Nat.pow_succ 2 (p + 3), Nat.add_zero, ← Nat.mul_assoc, Nat.mul_right_comm]
        have : (2 ^ b + d + 1) * 2 ^ (p + 3) ≤ 2 ^ b * 2 * 2 ^ (p + 3) := Nat.mul_le_mul_right _ (by omega)
        rw [Nat.add_mul _ 1] at this
        omega

/-- There is just one such code. -/
theorem enc_one (b n c : Nat) (h1 : c < 16 * 2 ^ b) (h2 : decN b c ≤ n) (h3 : c + 1 < 16 * 2 ^ b → n < decN b (c + 1)) : c = encN b n := by
  obtain ⟨k1, k2, k3⟩ := enc_is b n
  rcases Nat.lt_trichotomy c (encN b n) with h | h | h
  · have := h3 (by omega)
    have := dec_le b (c + 1) (encN b n) h k1
    omega
  · exact h
  · have := k3 (by omega)
    have := dec_le b (encN b n + 1) c h h1
    omega

theorem enc_dec (b c : Nat) (h : c < 16 * 2 ^ b) : encN b (decN b c) = c :=
  (enc_one b (decN b c) c h (Nat.le_refl _) (fun h1 => dec_succ b c h1)).symm

theorem enc_near (b n : Nat) (h : n ≤ decN b (16 * 2 ^ b - 1)) : 2 ^ b * (n - decN b (encN b n)) ≤ n := by
  by_cases h1 : n < 8 * 2 ^ b
  · have e : encN b n = n := by unfold encN; rw [if_pos h1]
    have d : decN b n = n := by unfold decN; rw [if_pos h1]
    rw [e, d, Nat.sub_self]; omega
  · have ht := dec_top b
    obtain ⟨p, d, r, hp, hd, hr, hn, hl, hq⟩ := log_parts b n (by omega) (by omega)
    have e : encN b n = 8 * 2 ^ b + p * 2 ^ b + d := by
      unfold encN
      rw [if_neg h1, if_neg (by omega), hl, show b + 3 + p - (b + 3) = p from by omega, hq, show 2 ^ b + d - 2 ^ b = d from by omega]
    rw [e, dec_great b p d hp hd]
    have : n - (2 ^ b + d) * 2 ^ (p + 3) = r := by omega
    rw [this]
    have : 2 ^ b * r ≤ 2 ^ b * 2 ^ (p + 3) := Nat.mul_le_mul_left _ (by omega)
    rw [Nat.add_mul] at hn
    omega

theorem enc_small (b n : Nat) (h : n < 8 * 2 ^ b) : encN b n = n := by unfold encN; rw [if_pos h]
theorem dec_small (b n : Nat) (h : n < 8 * 2 ^ b) : decN b n = n := by unfold decN; rw [if_pos h]

/-- How many bits a number has. -/
theorem len_of (x L : Nat) (h1 : 2 ^ L ≤ x) (h2 : x < 2 ^ (L + 1)) (hL : L < 64) : Lib.bitLen x = L + 1 := by
  have hx : x ≠ 0 := by have := Nat.pow_pos (n := L) (show 0 < 2 by omega); omega
  obtain ⟨b1, b2, b3⟩ := Lib.bitLenAux_bounds 64 x (Nat.lt_of_lt_of_le h2 (Nat.pow_le_pow_right (by omega) hL)) hx
  show Lib.bitLenAux 64 x = _
  generalize Lib.bitLenAux 64 x = a at b1 b2 b3
  rcases Nat.lt_trichotomy a (L + 1) with h | h | h
  · have := Nat.pow_le_pow_right (show 2 > 0 by omega) (show a ≤ L by omega)
    omega
  · exact h
  · have := Nat.pow_le_pow_right (show 2 > 0 by omega) (show L + 1 ≤ a - 1 by omega)
    omega

end Go.Proofs.YtniahpbjfpmmhaaGreat
