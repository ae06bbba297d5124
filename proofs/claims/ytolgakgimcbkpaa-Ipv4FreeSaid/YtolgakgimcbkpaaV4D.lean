/-
  The packet of any bytes: ipv4.headOf and ipv4.Decode, as contracts over the translated program.
-/
import Derived.Test.YtolgakgimcbkpaaV4B
import Derived.Test.YtolgakgimcbkpaaOctCut
import Derived.Deep.RegionHeld3
namespace Go.Proofs.Ytolgakgimcbkpaa
open Go.RowKit
set_option linter.unusedVariables false
set_option linter.unusedSimpArgs false

set_option maxHeartbeats 1000000 in
set_option maxRecDepth 100000 in
theorem vnum_c (s : ByteArray) (a n : Int) (A : Nat) (w : World) (hA : w.cell? ⟨A, 0, none⟩ = some (.string s)) (hs : s.size ≤ 140737488500000) (ha : -9223372036854775808 ≤ a) (h2 : a ≤ 9223372036854775807) :
    Calls Try.prog 22 #[.int .i64 a, .int .i64 n, .pointer (some ⟨A, 0, none⟩)] w fun e w' => e = .returned (.int .i64 (numv s a n)) ∧ Below w.heap.size w w' := by
  have H1 := Lib.hid fun U => get_c s a n U (by omega) ha h2
  go_enter Try.func22, Try.ntmps22
  go_wp2_with fail
  refine (H1.out _).mono ?_
  rintro e w1 ⟨rfl, h1⟩
  go_wp2_with fail
  go_ret
  exact ⟨rfl, h1⟩

set_option maxHeartbeats 1000000 in
set_option maxRecDepth 100000 in
theorem vpart_c (s : ByteArray) (a n : Int) (A : Nat) (w : World) (hA : w.cell? ⟨A, 0, none⟩ = some (.string s)) (hs : s.size ≤ 140737488500000) (ha : -9223372036854775808 ≤ a) (h2 : a ≤ 9223372036854775807) :
    Calls Try.prog 24 #[.int .i64 a, .int .i64 n, .pointer (some ⟨A, 0, none⟩)] w fun e w' => e = .returned (.string (subv s a n)) ∧ Below w.heap.size w w' := by
  have H1 := Lib.hid fun U => cut_c s a n U (by omega) ha h2
  go_enter Try.func24, Try.ntmps24
  go_wp2_with fail
  refine (H1.out _).mono ?_
  rintro e w1 ⟨rfl, h1⟩
  go_wp2_with fail
  go_ret
  exact ⟨rfl, h1⟩

/-- The size that a head tells of itself. -/
def hsz (s : ByteArray) : Nat := (numv s 0 1).toNat % 16 * 4
/-- The head with which a text begins, or why there is none. -/
def headV (s : ByteArray) : ByteArray × Int :=
  if s.size < 20 then (⟨#[]⟩, 2)
  else if numv s 0 1 / 16 ≠ 4 ∨ hsz s < 20 then (⟨#[]⟩, 3)
  else if s.size < hsz s then (⟨#[]⟩, 2)
  else if sumN (s.extract 0 (hsz s)).data.toList ≠ 0 then (⟨#[]⟩, 4)
  else (s.extract 0 (hsz s), 0)

theorem hsz_int (s : ByteArray) : (hsz s : Int) = numv s 0 1 % 16 * 4 := by
  unfold hsz
  have := numv_le1 s 0
  omega

set_option maxHeartbeats 2000000 in
set_option maxRecDepth 100000 in
theorem head_c (s : ByteArray) (w : World) (hs : s.size ≤ 140737488500000) :
    Calls Try.prog 21 #[.string s] w fun e w' => e = .returned (.tuple #[.string (headV s).1, .int .i64 (headV s).2]) ∧ Below w.heap.size w w' := by
  unfold headV
  by_cases c1 : s.size < 20
  · rw [if_pos c1]
    go_enter Try.func21, Try.ntmps21
    go_wp2_with fail
    go_ret2
    exact ⟨rfl, Below.refl _ _⟩
  · rw [if_neg c1]
    have H1 := Lib.hid fun U => get_c s 0 1 U (by omega) (by omega) (by omega)
    have hq : (getSpec s 0 1).1 = numv s 0 1 := rfl
    rw [hq] at H1
    clear hq
    have hq := numv_le1 s 0
    have hk := hsz_int s
    obtain ⟨q, eq⟩ : ∃ q, q = numv s 0 1 := ⟨_, rfl⟩
    obtain ⟨K, eK⟩ : ∃ K, K = hsz s := ⟨_, rfl⟩
    rw [← eq] at hq hk H1 ⊢
    rw [← eK] at hk ⊢
    clear eq eK
    obtain ⟨q0, q1⟩ := hq
    by_cases c2 : q / 16 ≠ 4 ∨ K < 20
    · rw [if_pos c2]
      by_cases c3 : q / 16 = 4
      · obtain ⟨t1, t2⟩ := eq_t c3
        have u1 : q % 16 * 4 < 20 := by omega
        clear c2 c3 hk
        go_enter Try.func21, Try.ntmps21
        go_wp2_with fail
        refine (H1.out _).mono ?_
        rintro e w1 ⟨rfl, h1⟩
        go_wp2_with fail
        go_ret2
        exact ⟨rfl, h1⟩
      · obtain ⟨t1, t2⟩ := ne_t c3
        clear c2 c3 hk
        go_enter Try.func21, Try.ntmps21
        go_wp2_with fail
        refine (H1.out _).mono ?_
        rintro e w1 ⟨rfl, h1⟩
        go_wp2_with fail
        go_ret2
        exact ⟨rfl, h1⟩
    · rw [if_neg c2]
      obtain ⟨t1, t2⟩ := eq_t (show q / 16 = 4 by omega)
      have u1 : 20 ≤ q % 16 * 4 := by omega
      have u2 : q % 16 * 4 ≤ 60 := by omega
      have H2 := Lib.hid fun U => cut_c s 0 K U (by omega) (by omega) (by omega)
      rw [hk] at H2
      by_cases c3 : s.size < K
      · rw [if_pos c3]
        have hv : cutSpec s 0 (q % 16 * 4) = (⟨#[]⟩, 2) := by unfold cutSpec; rw [if_neg (by omega), if_pos (by omega)]
        rw [hv] at H2
        clear c2 c3 hk hv
        go_enter Try.func21, Try.ntmps21
        go_wp2_with fail
        refine (H1.out _).mono ?_
        rintro e w1 ⟨rfl, h1⟩
        go_wp2_with fail
        refine (H2.out _).mono ?_
        rintro e w2 ⟨rfl, h2⟩
        go_wp2_with fail
        go_ret2
        exact ⟨rfl, below_then h1 h2⟩
      · rw [if_neg c3]
        have hv : cutSpec s 0 (q % 16 * 4) = (s.extract 0 K, 0) := by
          have := cut_okv s 0 K (by omega)
          rw [Nat.zero_add, hk] at this
          exact this
        rw [hv] at H2
        have hz := ext_size s 0 K (by omega)
        rw [Nat.zero_add] at hz
        have H3 := Lib.hid fun U => right_c (s.extract 0 K) U (by omega)
        obtain ⟨n, en⟩ : ∃ n, n = sumN (s.extract 0 K).data.toList := ⟨_, rfl⟩
        obtain ⟨X, eX⟩ : ∃ X, X = s.extract 0 K := ⟨_, rfl⟩
        rw [← en] at H3 ⊢
        rw [← eX] at H2 H3 ⊢
        by_cases c4 : n ≠ 0
        · rw [if_pos c4]
          have hb : ((n : Int) == 0) = false := (ne_t (by omega)).1
          rw [hb] at H3
          clear c2 c3 hk hv en eX c4 hz hb
          go_enter Try.func21, Try.ntmps21
          go_wp2_with fail
          refine (H1.out _).mono ?_
          rintro e w1 ⟨rfl, h1⟩
          go_wp2_with fail
          refine (H2.out _).mono ?_
          rintro e w2 ⟨rfl, h2⟩
          go_wp2_with fail
          refine (H3.out _).mono ?_
          rintro e w3 ⟨rfl, h3⟩
          go_wp2_with fail
          go_ret2
          exact ⟨rfl, below_then (below_then h1 h2) h3⟩
        · rw [if_neg c4]
          have hb : ((n : Int) == 0) = true := (eq_t (by omega)).1
          rw [hb] at H3
          clear c2 c3 hk hv en eX c4 hz hb
          go_enter Try.func21, Try.ntmps21
          go_wp2_with fail
          refine (H1.out _).mono ?_
          rintro e w1 ⟨rfl, h1⟩
          go_wp2_with fail
          refine (H2.out _).mono ?_
          rintro e w2 ⟨rfl, h2⟩
          go_wp2_with fail
          refine (H3.out _).mono ?_
          rintro e w3 ⟨rfl, h3⟩
          go_wp2_with fail
          go_ret2
          exact ⟨rfl, below_then (below_then h1 h2) h3⟩

end Go.Proofs.Ytolgakgimcbkpaa
