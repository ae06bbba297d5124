/-
  Codes of times: what package code answers. Contracts over the translated program.
-/
import Derived.Test.YtniahpbjfpmmhaaGreatProg
import Derived.Test.YtniahpbjfpmmhaaGreatTst
import Derived.Test.YtniahpbjfpmmhaaGreatKit
import Derived.Test.YtniahpbjfpmmhaaGreatCodeM
import Derived.Test.YtniahpbjfpmmhaaGreatLenB
import Derived.Deep.QuietTactic
import Derived.BigQuiet
import Derived.Outline
import Derived.LoopTactic
import Derived.WalkSpells
import Derived.WalkLawsBesides
import Derived.Laws.BitsAllLaws
namespace Go.Proofs.YtniahpbjfpmmhaaGreat
open Go.RowKit
set_option linter.unusedVariables false

theorem flip_w {P : Program} {f : FuncId} {args : Array Value} {w : World} {V : Value} (h : Calls P f args w fun e w' => e = .returned V ∧ w = w') : Calls P f args w fun e w' => e = .returned V ∧ w' = w :=
  h.mono fun _ _ h => ⟨h.1, h.2.symm⟩

theorem least_4 (w : World) : Calls Tryz.prog 101 #[.int .u64 4] w fun e w' => e = .returned (.int .i64 128) ∧ w = w' := by
  go_enter Tryz.func101, Tryz.ntmps101
  go_wp2
  go_ret
  exact ⟨rfl, rfl⟩
theorem least_12 (w : World) : Calls Tryz.prog 101 #[.int .u64 12] w fun e w' => e = .returned (.int .i64 32768) ∧ w = w' := by
  go_enter Tryz.func101, Tryz.ntmps101
  go_wp2
  go_ret
  exact ⟨rfl, rfl⟩
theorem hidden_4 (w : World) : Calls Tryz.prog 104 #[.int .u64 4] w fun e w' => e = .returned (.int .i64 16) ∧ w = w' := by
  go_enter Tryz.func104, Tryz.ntmps104
  go_wp2
  go_ret
  exact ⟨rfl, rfl⟩
theorem hidden_12 (w : World) : Calls Tryz.prog 104 #[.int .u64 12] w fun e w' => e = .returned (.int .i64 4096) ∧ w = w' := by
  go_enter Tryz.func104, Tryz.ntmps104
  go_wp2
  go_ret
  exact ⟨rfl, rfl⟩
theorem most_4 (w : World) : Calls Tryz.prog 103 #[.int .u64 4] w fun e w' => e = .returned (.int .i64 255) ∧ w = w' := by
  go_enter Tryz.func103, Tryz.ntmps103
  go_wp2_with fail
  refine (least_4 _).mono ?_
  rintro e w' ⟨rfl, rfl⟩
  go_wp2
  go_ret
  exact ⟨rfl, rfl⟩
theorem most_12 (w : World) : Calls Tryz.prog 103 #[.int .u64 12] w fun e w' => e = .returned (.int .i64 65535) ∧ w = w' := by
  go_enter Tryz.func103, Tryz.ntmps103
  go_wp2_with fail
  refine (least_12 _).mono ?_
  rintro e w' ⟨rfl, rfl⟩
  go_wp2
  go_ret
  exact ⟨rfl, rfl⟩

/-- What Dec and Enc answer. -/
def decI (b : Nat) (c : Int) : Int × Int := if c < 0 ∨ ((16 * 2 ^ b : Nat) : Int) ≤ c then (0, 1) else ((decN b c.toNat : Int), 0)
def encI (b : Nat) (n : Int) : Int × Int := if n < 0 then (0, 1) else ((encN b n.toNat : Int), 0)

theorem ret_two {a b : Int} {v : Value} (h : a = b) : Ending.returned (.tuple #[.int .i64 a, v]) = .returned (.tuple #[.int .i64 b, v]) := by rw [h]
theorem ret_one {a b : Int} (h : a = b) : Ending.returned (.int .i64 a) = .returned (.int .i64 b) := by rw [h]
theorem div_cast (M p q : Nat) (h : M / 2 ^ (p + 3) = q) : (M : Int) / 2 ^ (p + 3) = (q : Int) := by rw [← h]; simp
theorem wrap_num (H d p : Nat) (hH : H ≤ 4096) (hd : d < H) (hp : p < 8) : wrap64 (((d : Int) + H) * 2 ^ (p + 3)) = (((H + d) * 2 ^ (p + 3) : Nat) : Int) := by
  have e : ((d : Int) + H) * 2 ^ (p + 3) = (((H + d) * 2 ^ (p + 3) : Nat) : Int) := by push_cast; rw [Int.add_comm]
  rw [e]
  have h1 : 2 ^ (p + 3) ≤ 2 ^ 10 := Nat.pow_le_pow_right (by omega) (by omega)
  have h2 : (H + d) * 2 ^ (p + 3) ≤ 8192 * 2 ^ 10 := Nat.mul_le_mul (by omega) h1
  unfold wrap64
  omega

set_option maxHeartbeats 1000000 in
set_option maxRecDepth 100000 in
theorem num4_great (c : Int) (p d : Nat) (w : World) (hp : p < 8) (hd : d < 16) (hc : c = 128 + (p : Int) * 16 + (d : Int)) :
    Calls Tryz.prog 92 #[.int .u64 4, .int .i64 c] w fun e w' => e = .returned (.tuple #[.int .i64 (((16 + d) * 2 ^ (p + 3) : Nat) : Int), .int .i64 0]) ∧ ∃ n, w' = w.drewN n := by
  have h0 : 0 ≤ c := by omega
  have h1 : c ≤ 255 := by omega
  have h2 : 128 ≤ c := by omega
  have e1 : (c - 128) / 16 = (p : Int) := by omega
  have e2 : c % 16 = (d : Int) := by omega
  have hpi : (p : Int) < 8 := by omega
  have hdi : (d : Int) < 16 := by omega
  have E := Lib.hid (wrap_num 16 d p (by omega) hd hp)
  clear hc
  go_enter Tryz.func92, Tryz.ntmps92
  go_wp2_with fail
  refine (most_4 _).mono ?_
  rintro e w' ⟨rfl, rfl⟩
  go_wp2_with fail
  refine (least_4 _).mono ?_
  rintro e w' ⟨rfl, rfl⟩
  go_wp2_with fail
  refine (least_4 _).mono ?_
  rintro e w' ⟨rfl, rfl⟩
  go_wp2_with fail
  go_quiet ((go_at_call 104; exact Calls.quiet_of_same (flip_w (hidden_4 _))))
  go_wp2
  go_ret2
  exact ⟨by rw [← E.out]; rfl, _, rfl⟩

set_option maxHeartbeats 1000000 in
set_option maxRecDepth 100000 in
theorem num4_small (c : Int) (w : World) (h0 : 0 ≤ c) (h1 : c < 128) :
    Calls Tryz.prog 92 #[.int .u64 4, .int .i64 c] w fun e w' => e = .returned (.tuple #[.int .i64 c, .int .i64 0]) ∧ w = w' := by
  have h2 : c ≤ 255 := by omega
  go_enter Tryz.func92, Tryz.ntmps92
  go_wp2_with fail
  refine (most_4 _).mono ?_
  rintro e w' ⟨rfl, rfl⟩
  go_wp2_with fail
  refine (least_4 _).mono ?_
  rintro e w' ⟨rfl, rfl⟩
  go_wp2_with fail
  go_ret2
  exact ⟨rfl, rfl⟩

set_option maxHeartbeats 1000000 in
set_option maxRecDepth 100000 in
theorem num4_no (c : Int) (w : World) (h : c < 0 ∨ 255 < c) :
    Calls Tryz.prog 92 #[.int .u64 4, .int .i64 c] w fun e w' => e = .returned (.tuple #[.int .i64 0, .int .i64 1]) ∧ w = w' := by
  by_cases h0 : c < 0
  · clear h
    go_enter Tryz.func92, Tryz.ntmps92
    go_wp2_with fail
    go_ret2
    exact ⟨rfl, rfl⟩
  · have h1 : 255 < c := by omega
    have h2 : 0 ≤ c := by omega
    clear h h0
    go_enter Tryz.func92, Tryz.ntmps92
    go_wp2_with fail
    refine (most_4 _).mono ?_
    rintro e w' ⟨rfl, rfl⟩
    go_wp2_with fail
    go_ret2
    exact ⟨rfl, rfl⟩

theorem num4_c (c : Int) (w : World) :
    Calls Tryz.prog 92 #[.int .u64 4, .int .i64 c] w fun e w' => e = .returned (.tuple #[.int .i64 (decI 4 c).1, .int .i64 (decI 4 c).2]) ∧ ∃ n, w' = w.drewN n := by
  have z : w = w.drewN 0 := rfl
  by_cases h : c < 0 ∨ 255 < c
  · have hv : decI 4 c = (0, 1) := by unfold decI; rw [if_pos (by omega)]
    rw [hv]
    exact (num4_no c w h).mono fun _ _ h => ⟨h.1, 0, h.2.symm⟩
  · obtain ⟨C, rfl⟩ := Int.eq_ofNat_of_zero_le (show 0 ≤ c by omega)
    have hv : decI 4 C = ((decN 4 C : Int), 0) := by unfold decI; rw [if_neg (by omega)]; rfl
    rw [hv]
    by_cases h1 : C < 128
    · rw [dec_small 4 C (by omega)]
      exact (num4_small C w (by omega) (by omega)).mono fun _ _ h => ⟨h.1, 0, h.2.symm⟩
    · obtain ⟨p, d, hp, hd, e⟩ := split_great 4 C (by omega) (by omega)
      have hg := dec_great 4 p d hp hd
      rw [← e] at hg
      rw [hg]
      exact num4_great C p d w hp hd (by omega)

set_option maxHeartbeats 1000000 in
set_option maxRecDepth 100000 in
theorem dec8_c (c : Int) (w : World) :
    Calls Tryz.prog 74 #[.int .i64 c] w fun e w' => e = .returned (.tuple #[.int .i64 (decI 4 c).1, .int .i64 (decI 4 c).2]) ∧ ∃ n, w' = w.drewN n := by
  have H1 := Lib.hid fun U => num4_c c U
  go_enter Tryz.func74, Tryz.ntmps74
  go_wp2_with fail
  refine (H1.out _).mono ?_
  rintro e w1 ⟨rfl, n, rfl⟩
  go_wp2_with fail
  go_ret2
  exact ⟨rfl, _, rfl⟩

set_option maxHeartbeats 1000000 in
set_option maxRecDepth 100000 in
theorem cod4_great (n : Int) (p d : Nat) (w : World) (hp : p < 8) (hd : d < 16) (h3 : n ≤ 9223372036854775807) (hL : ∀ U, Calls Tryz.prog 102 #[.int .u64 n] U fun e w' => e = .returned (.int .i64 ((p : Int) + 8)) ∧ U = w')
    (h2 : 128 ≤ n) (e1 : n / 2 ^ (p + 3) = (d : Int) + 16) :
    Calls Tryz.prog 91 #[.int .u64 4, .int .i64 n] w fun e w' => e = .returned (.tuple #[.int .i64 ((128 + p * 16 + d : Nat) : Int), .int .i64 0]) ∧ ∃ n, w' = w.drewN n := by
  have h0 : 0 ≤ n := by omega
  have hpi : (p : Int) < 8 := by omega
  have hdi : (d : Int) < 16 := by omega
  have HL := Lib.hid hL
  have H128 := Lib.hid fun U => len_c 128 7 U (by decide) (by decide) (by decide)
  clear hL
  go_enter Tryz.func91, Tryz.ntmps91
  go_wp2_with fail
  refine (least_4 _).mono ?_
  rintro e w' ⟨rfl, rfl⟩
  go_wp2_with fail
  refine (HL.out _).mono ?_
  rintro e w' ⟨rfl, rfl⟩
  go_wp2_with fail
  refine (least_4 _).mono ?_
  rintro e w' ⟨rfl, rfl⟩
  go_wp2_with fail
  refine (H128.out _).mono ?_
  rintro e w' ⟨rfl, rfl⟩
  go_wp2_with fail
  go_quiet ((go_at_call 104; exact Calls.quiet_of_same (flip_w (hidden_4 _))))
  go_wp2_with fail
  refine (least_4 _).mono ?_
  rintro e w' ⟨rfl, rfl⟩
  go_wp2_with fail
  go_ret2
  refine ⟨ret_two ?_, _, rfl⟩
  push_cast
  omega

set_option maxHeartbeats 1000000 in
set_option maxRecDepth 100000 in
theorem cod4_huge (n : Int) (L : Nat) (w : World) (h2 : 128 ≤ n) (h3 : n ≤ 9223372036854775807) (hl1 : 15 ≤ L) (hl2 : L < 64) (hL : ∀ U, Calls Tryz.prog 102 #[.int .u64 n] U fun e w' => e = .returned (.int .i64 ((L : Int) + 1)) ∧ U = w') :
    Calls Tryz.prog 91 #[.int .u64 4, .int .i64 n] w fun e w' => e = .returned (.tuple #[.int .i64 255, .int .i64 0]) ∧ w = w' := by
  have h0 : 0 ≤ n := by omega
  have h4 : (15 : Int) ≤ (L : Int) := by omega
  have h5 : (L : Int) < 64 := by omega
  have HL := Lib.hid hL
  have H128 := Lib.hid fun U => len_c 128 7 U (by decide) (by decide) (by decide)
  clear hL
  go_enter Tryz.func91, Tryz.ntmps91
  go_wp2_with fail
  refine (least_4 _).mono ?_
  rintro e w' ⟨rfl, rfl⟩
  go_wp2_with fail
  refine (HL.out _).mono ?_
  rintro e w' ⟨rfl, rfl⟩
  go_wp2_with fail
  refine (least_4 _).mono ?_
  rintro e w' ⟨rfl, rfl⟩
  go_wp2_with fail
  refine (H128.out _).mono ?_
  rintro e w' ⟨rfl, rfl⟩
  go_wp2_with fail
  refine (most_4 _).mono ?_
  rintro e w' ⟨rfl, rfl⟩
  go_wp2_with fail
  go_ret2
  exact ⟨rfl, rfl⟩

set_option maxHeartbeats 1000000 in
set_option maxRecDepth 100000 in
theorem cod4_small (n : Int) (w : World) (h0 : 0 ≤ n) (h1 : n < 128) :
    Calls Tryz.prog 91 #[.int .u64 4, .int .i64 n] w fun e w' => e = .returned (.tuple #[.int .i64 n, .int .i64 0]) ∧ w = w' := by
  go_enter Tryz.func91, Tryz.ntmps91
  go_wp2_with fail
  refine (least_4 _).mono ?_
  rintro e w' ⟨rfl, rfl⟩
  go_wp2_with fail
  go_ret2
  exact ⟨rfl, rfl⟩

set_option maxHeartbeats 1000000 in
set_option maxRecDepth 100000 in
theorem cod4_no (n : Int) (w : World) (h0 : n < 0) :
    Calls Tryz.prog 91 #[.int .u64 4, .int .i64 n] w fun e w' => e = .returned (.tuple #[.int .i64 0, .int .i64 1]) ∧ w = w' := by
  go_enter Tryz.func91, Tryz.ntmps91
  go_wp2_with fail
  go_ret2
  exact ⟨rfl, rfl⟩

theorem cod4_c (n : Int) (w : World) (hn : n ≤ 9223372036854775807) :
    Calls Tryz.prog 91 #[.int .u64 4, .int .i64 n] w fun e w' => e = .returned (.tuple #[.int .i64 (encI 4 n).1, .int .i64 (encI 4 n).2]) ∧ ∃ n, w' = w.drewN n := by
  by_cases h : n < 0
  · have hv : encI 4 n = (0, 1) := by unfold encI; rw [if_pos h]
    rw [hv]
    exact (cod4_no n w h).mono fun _ _ h => ⟨h.1, 0, h.2.symm⟩
  · obtain ⟨M, rfl⟩ := Int.eq_ofNat_of_zero_le (show 0 ≤ n by omega)
    have hv : encI 4 M = ((encN 4 M : Int), 0) := by unfold encI; rw [if_neg (by omega)]; rfl
    rw [hv]
    by_cases h1 : M < 128
    · rw [enc_small 4 M (by omega)]
      exact (cod4_small M w (by omega) (by omega)).mono fun _ _ h => ⟨h.1, 0, h.2.symm⟩
    · by_cases h2 : 32768 ≤ M
      · have e : encN 4 M = 255 := by unfold encN; rw [if_neg (by omega), if_pos (by omega)]
        rw [e]
        have l1 : 2 ^ Nat.log2 M ≤ M := Nat.log2_self_le (by omega)
        have l2 : M < 2 ^ (Nat.log2 M + 1) := Nat.lt_log2_self
        have l3 : 15 ≤ Nat.log2 M := (Nat.le_log2 (by omega)).2 (by omega)
        have l4 : Nat.log2 M < 64 := (Nat.log2_lt (by omega)).2 (by omega)
        exact (cod4_huge M (Nat.log2 M) w (by omega) (by omega) l3 l4 (fun U => len_c M _ U l1 l2 l4)).mono fun _ _ h => ⟨h.1, 0, h.2.symm⟩
      · obtain ⟨p, d, r, hp, hd, hr, hm, hl, hq⟩ := log_parts 4 M (by omega) (by omega)
        have e : encN 4 M = 128 + p * 16 + d := by
          unfold encN
          rw [if_neg (by omega), if_neg (by omega), hl, show 4 + 3 + p - (4 + 3) = p from by omega, hq]
          omega
        rw [e]
        have l1 : 2 ^ Nat.log2 M ≤ M := Nat.log2_self_le (by omega)
        have l2 : M < 2 ^ (Nat.log2 M + 1) := Nat.lt_log2_self
        rw [hl] at l1 l2
        refine cod4_great M p d w hp hd (by omega) (fun U => (len_c M _ U l1 l2 (by omega)).mono fun _ _ h => ⟨h.1.trans (ret_one ?_), h.2⟩) (by omega) ?_
        · omega
        · rw [div_cast M p _ hq]
          omega

set_option maxHeartbeats 1000000 in
set_option maxRecDepth 100000 in
theorem enc8_c (n : Int) (w : World) (hn : n ≤ 9223372036854775807) :
    Calls Tryz.prog 73 #[.int .i64 n] w fun e w' => e = .returned (.tuple #[.int .i64 (encI 4 n).1, .int .i64 (encI 4 n).2]) ∧ ∃ n, w' = w.drewN n := by
  have H1 := Lib.hid fun U => cod4_c n U hn
  go_enter Tryz.func73, Tryz.ntmps73
  go_wp2_with fail
  refine (H1.out _).mono ?_
  rintro e w1 ⟨rfl, n, rfl⟩
  go_wp2_with fail
  go_ret2
  exact ⟨rfl, _, rfl⟩

set_option maxHeartbeats 1000000 in
set_option maxRecDepth 100000 in
theorem num12_great (c : Int) (p d : Nat) (w : World) (hp : p < 8) (hd : d < 4096) (hc : c = 32768 + (p : Int) * 4096 + (d : Int)) :
    Calls Tryz.prog 92 #[.int .u64 12, .int .i64 c] w fun e w' => e = .returned (.tuple #[.int .i64 (((4096 + d) * 2 ^ (p + 3) : Nat) : Int), .int .i64 0]) ∧ ∃ n, w' = w.drewN n := by
  have h0 : 0 ≤ c := by omega
  have h1 : c ≤ 65535 := by omega
  have h2 : 32768 ≤ c := by omega
  have e1 : (c - 32768) / 4096 = (p : Int) := by omega
  have e2 : c % 4096 = (d : Int) := by omega
  have hpi : (p : Int) < 8 := by omega
  have hdi : (d : Int) < 4096 := by omega
  have E := Lib.hid (wrap_num 4096 d p (by omega) hd hp)
  clear hc
  go_enter Tryz.func92, Tryz.ntmps92
  go_wp2_with fail
  refine (most_12 _).mono ?_
  rintro e w' ⟨rfl, rfl⟩
  go_wp2_with fail
  refine (least_12 _).mono ?_
  rintro e w' ⟨rfl, rfl⟩
  go_wp2_with fail
  refine (least_12 _).mono ?_
  rintro e w' ⟨rfl, rfl⟩
  go_wp2_with fail
  go_quiet ((go_at_call 104; exact Calls.quiet_of_same (flip_w (hidden_12 _))))
  go_wp2
  go_ret2
  exact ⟨by rw [← E.out]; rfl, _, rfl⟩

set_option maxHeartbeats 1000000 in
set_option maxRecDepth 100000 in
theorem num12_small (c : Int) (w : World) (h0 : 0 ≤ c) (h1 : c < 32768) :
    Calls Tryz.prog 92 #[.int .u64 12, .int .i64 c] w fun e w' => e = .returned (.tuple #[.int .i64 c, .int .i64 0]) ∧ w = w' := by
  have h2 : c ≤ 65535 := by omega
  go_enter Tryz.func92, Tryz.ntmps92
  go_wp2_with fail
  refine (most_12 _).mono ?_
  rintro e w' ⟨rfl, rfl⟩
  go_wp2_with fail
  refine (least_12 _).mono ?_
  rintro e w' ⟨rfl, rfl⟩
  go_wp2_with fail
  go_ret2
  exact ⟨rfl, rfl⟩

set_option maxHeartbeats 1000000 in
set_option maxRecDepth 100000 in
theorem num12_no (c : Int) (w : World) (h : c < 0 ∨ 65535 < c) :
    Calls Tryz.prog 92 #[.int .u64 12, .int .i64 c] w fun e w' => e = .returned (.tuple #[.int .i64 0, .int .i64 1]) ∧ w = w' := by
  by_cases h0 : c < 0
  · clear h
    go_enter Tryz.func92, Tryz.ntmps92
    go_wp2_with fail
    go_ret2
    exact ⟨rfl, rfl⟩
  · have h1 : 65535 < c := by omega
    have h2 : 0 ≤ c := by omega
    clear h h0
    go_enter Tryz.func92, Tryz.ntmps92
    go_wp2_with fail
    refine (most_12 _).mono ?_
    rintro e w' ⟨rfl, rfl⟩
    go_wp2_with fail
    go_ret2
    exact ⟨rfl, rfl⟩

theorem num12_c (c : Int) (w : World) :
    Calls Tryz.prog 92 #[.int .u64 12, .int .i64 c] w fun e w' => e = .returned (.tuple #[.int .i64 (decI 12 c).1, .int .i64 (decI 12 c).2]) ∧ ∃ n, w' = w.drewN n := by
  have z : w = w.drewN 0 := rfl
  by_cases h : c < 0 ∨ 65535 < c
  · have hv : decI 12 c = (0, 1) := by unfold decI; rw [if_pos (by omega)]
    rw [hv]
    exact (num12_no c w h).mono fun _ _ h => ⟨h.1, 0, h.2.symm⟩
  · obtain ⟨C, rfl⟩ := Int.eq_ofNat_of_zero_le (show 0 ≤ c by omega)
    have hv : decI 12 C = ((decN 12 C : Int), 0) := by unfold decI; rw [if_neg (by omega)]; rfl
    rw [hv]
    by_cases h1 : C < 32768
    · rw [dec_small 12 C (by omega)]
      exact (num12_small C w (by omega) (by omega)).mono fun _ _ h => ⟨h.1, 0, h.2.symm⟩
    · obtain ⟨p, d, hp, hd, e⟩ := split_great 12 C (by omega) (by omega)
      have hg := dec_great 12 p d hp hd
      rw [← e] at hg
      rw [hg]
      exact num12_great C p d w hp hd (by omega)

set_option maxHeartbeats 1000000 in
set_option maxRecDepth 100000 in
theorem dec16_c (c : Int) (w : World) :
    Calls Tryz.prog 76 #[.int .i64 c] w fun e w' => e = .returned (.tuple #[.int .i64 (decI 12 c).1, .int .i64 (decI 12 c).2]) ∧ ∃ n, w' = w.drewN n := by
  have H1 := Lib.hid fun U => num12_c c U
  go_enter Tryz.func76, Tryz.ntmps76
  go_wp2_with fail
  refine (H1.out _).mono ?_
  rintro e w1 ⟨rfl, n, rfl⟩
  go_wp2_with fail
  go_ret2
  exact ⟨rfl, _, rfl⟩

set_option maxHeartbeats 1000000 in
set_option maxRecDepth 100000 in
theorem cod12_great (n : Int) (p d : Nat) (w : World) (hp : p < 8) (hd : d < 4096) (h3 : n ≤ 9223372036854775807) (hL : ∀ U, Calls Tryz.prog 102 #[.int .u64 n] U fun e w' => e = .returned (.int .i64 ((p : Int) + 16)) ∧ U = w')
    (h2 : 32768 ≤ n) (e1 : n / 2 ^ (p + 3) = (d : Int) + 4096) :
    Calls Tryz.prog 91 #[.int .u64 12, .int .i64 n] w fun e w' => e = .returned (.tuple #[.int .i64 ((32768 + p * 4096 + d : Nat) : Int), .int .i64 0]) ∧ ∃ n, w' = w.drewN n := by
  have h0 : 0 ≤ n := by omega
  have hpi : (p : Int) < 8 := by omega
  have hdi : (d : Int) < 4096 := by omega
  have HL := Lib.hid hL
  have H128 := Lib.hid fun U => len_c 32768 15 U (by decide) (by decide) (by decide)
  clear hL
  go_enter Tryz.func91, Tryz.ntmps91
  go_wp2_with fail
  refine (least_12 _).mono ?_
  rintro e w' ⟨rfl, rfl⟩
  go_wp2_with fail
  refine (HL.out _).mono ?_
  rintro e w' ⟨rfl, rfl⟩
  go_wp2_with fail
  refine (least_12 _).mono ?_
  rintro e w' ⟨rfl, rfl⟩
  go_wp2_with fail
  refine (H128.out _).mono ?_
  rintro e w' ⟨rfl, rfl⟩
  go_wp2_with fail
  go_quiet ((go_at_call 104; exact Calls.quiet_of_same (flip_w (hidden_12 _))))
  go_wp2_with fail
  refine (least_12 _).mono ?_
  rintro e w' ⟨rfl, rfl⟩
  go_wp2_with fail
  go_ret2
  refine ⟨ret_two ?_, _, rfl⟩
  push_cast
  omega

set_option maxHeartbeats 1000000 in
set_option maxRecDepth 100000 in
theorem cod12_huge (n : Int) (L : Nat) (w : World) (h2 : 32768 ≤ n) (h3 : n ≤ 9223372036854775807) (hl1 : 23 ≤ L) (hl2 : L < 64) (hL : ∀ U, Calls Tryz.prog 102 #[.int .u64 n] U fun e w' => e = .returned (.int .i64 ((L : Int) + 1)) ∧ U = w') :
    Calls Tryz.prog 91 #[.int .u64 12, .int .i64 n] w fun e w' => e = .returned (.tuple #[.int .i64 65535, .int .i64 0]) ∧ w = w' := by
  have h0 : 0 ≤ n := by omega
  have h4 : (23 : Int) ≤ (L : Int) := by omega
  have h5 : (L : Int) < 64 := by omega
  have HL := Lib.hid hL
  have H128 := Lib.hid fun U => len_c 32768 15 U (by decide) (by decide) (by decide)
  clear hL
  go_enter Tryz.func91, Tryz.ntmps91
  go_wp2_with fail
  refine (least_12 _).mono ?_
  rintro e w' ⟨rfl, rfl⟩
  go_wp2_with fail
  refine (HL.out _).mono ?_
  rintro e w' ⟨rfl, rfl⟩
  go_wp2_with fail
  refine (least_12 _).mono ?_
  rintro e w' ⟨rfl, rfl⟩
  go_wp2_with fail
  refine (H128.out _).mono ?_
  rintro e w' ⟨rfl, rfl⟩
  go_wp2_with fail
  refine (most_12 _).mono ?_
  rintro e w' ⟨rfl, rfl⟩
  go_wp2_with fail
  go_ret2
  exact ⟨rfl, rfl⟩

set_option maxHeartbeats 1000000 in
set_option maxRecDepth 100000 in
theorem cod12_small (n : Int) (w : World) (h0 : 0 ≤ n) (h1 : n < 32768) :
    Calls Tryz.prog 91 #[.int .u64 12, .int .i64 n] w fun e w' => e = .returned (.tuple #[.int .i64 n, .int .i64 0]) ∧ w = w' := by
  go_enter Tryz.func91, Tryz.ntmps91
  go_wp2_with fail
  refine (least_12 _).mono ?_
  rintro e w' ⟨rfl, rfl⟩
  go_wp2_with fail
  go_ret2
  exact ⟨rfl, rfl⟩

set_option maxHeartbeats 1000000 in
set_option maxRecDepth 100000 in
theorem cod12_no (n : Int) (w : World) (h0 : n < 0) :
    Calls Tryz.prog 91 #[.int .u64 12, .int .i64 n] w fun e w' => e = .returned (.tuple #[.int .i64 0, .int .i64 1]) ∧ w = w' := by
  go_enter Tryz.func91, Tryz.ntmps91
  go_wp2_with fail
  go_ret2
  exact ⟨rfl, rfl⟩

theorem cod12_c (n : Int) (w : World) (hn : n ≤ 9223372036854775807) :
    Calls Tryz.prog 91 #[.int .u64 12, .int .i64 n] w fun e w' => e = .returned (.tuple #[.int .i64 (encI 12 n).1, .int .i64 (encI 12 n).2]) ∧ ∃ n, w' = w.drewN n := by
  by_cases h : n < 0
  · have hv : encI 12 n = (0, 1) := by unfold encI; rw [if_pos h]
    rw [hv]
    exact (cod12_no n w h).mono fun _ _ h => ⟨h.1, 0, h.2.symm⟩
  · obtain ⟨M, rfl⟩ := Int.eq_ofNat_of_zero_le (show 0 ≤ n by omega)
    have hv : encI 12 M = ((encN 12 M : Int), 0) := by unfold encI; rw [if_neg (by omega)]; rfl
    rw [hv]
    by_cases h1 : M < 32768
    · rw [enc_small 12 M (by omega)]
      exact (cod12_small M w (by omega) (by omega)).mono fun _ _ h => ⟨h.1, 0, h.2.symm⟩
    · by_cases h2 : 8388608 ≤ M
      · have e : encN 12 M = 65535 := by unfold encN; rw [if_neg (by omega), if_pos (by omega)]
        rw [e]
        have l1 : 2 ^ Nat.log2 M ≤ M := Nat.log2_self_le (by omega)
        have l2 : M < 2 ^ (Nat.log2 M + 1) := Nat.lt_log2_self
        have l3 : 23 ≤ Nat.log2 M := (Nat.le_log2 (by omega)).2 (by omega)
        have l4 : Nat.log2 M < 64 := (Nat.log2_lt (by omega)).2 (by omega)
        exact (cod12_huge M (Nat.log2 M) w (by omega) (by omega) l3 l4 (fun U => len_c M _ U l1 l2 l4)).mono fun _ _ h => ⟨h.1, 0, h.2.symm⟩
      · obtain ⟨p, d, r, hp, hd, hr, hm, hl, hq⟩ := log_parts 12 M (by omega) (by omega)
        have e : encN 12 M = 32768 + p * 4096 + d := by
          unfold encN
          rw [if_neg (by omega), if_neg (by omega), hl, show 12 + 3 + p - (12 + 3) = p from by omega, hq]
          omega
        rw [e]
        have l1 : 2 ^ Nat.log2 M ≤ M := Nat.log2_self_le (by omega)
        have l2 : M < 2 ^ (Nat.log2 M + 1) := Nat.lt_log2_self
        rw [hl] at l1 l2
        refine cod12_great M p d w hp hd (by omega) (fun U => (len_c M _ U l1 l2 (by omega)).mono fun _ _ h => ⟨h.1.trans (ret_one ?_), h.2⟩) (by omega) ?_
        · omega
        · rw [div_cast M p _ hq]
          omega

set_option maxHeartbeats 1000000 in
set_option maxRecDepth 100000 in
theorem enc16_c (n : Int) (w : World) (hn : n ≤ 9223372036854775807) :
    Calls Tryz.prog 75 #[.int .i64 n] w fun e w' => e = .returned (.tuple #[.int .i64 (encI 12 n).1, .int .i64 (encI 12 n).2]) ∧ ∃ n, w' = w.drewN n := by
  have H1 := Lib.hid fun U => cod12_c n U hn
  go_enter Tryz.func75, Tryz.ntmps75
  go_wp2_with fail
  refine (H1.out _).mono ?_
  rintro e w1 ⟨rfl, n, rfl⟩
  go_wp2_with fail
  go_ret2
  exact ⟨rfl, _, rfl⟩

end Go.Proofs.YtniahpbjfpmmhaaGreat
