/-
  The packet of any bytes, the document's answer: siphonref04.Decode.
-/
import Derived.Test.YtocckinnmdgdfaaV4F
import Derived.StillTailTactics
namespace Go.Proofs.Ytocckinnmdgdfaa
open Go.RowKit
set_option linter.unusedVariables false
set_option linter.unusedSimpArgs false

set_option maxHeartbeats 400000 in
theorem vat_c (s : ByteArray) (a width : Int) (w : World) (hs : s.size ≤ 9223372036854775807) (ha : -9223372036854775808 ≤ a) (h2 : a ≤ 9223372036854775807) :
    Calls Try.prog 40 #[.string s, .int .i64 a, .int .i64 width] w fun e w' => e = .returned (.int .i64 (numv s a width)) ∧ w = w' := by
  have H1 := Lib.hid fun U => rget_c s a width U hs ha h2
  go_enter Try.func40, Try.ntmps40
  go_wp2_with fail
  refine (H1.out _).mono ?_
  rintro e w1 ⟨rfl, rfl⟩
  go_wp2_with fail
  go_ret
  exact ⟨rfl, rfl⟩

theorem wrap_b (b : UInt8) : wrap64 (b.toNat : Int) = (b.toNat : Int) := by
  unfold wrap64
  have := b.toNat_lt
  omega

theorem numv_byte (s : ByteArray) (A : Nat) (h : A < s.size) : numv s A 1 = (s[A].toNat : Int) := by
  have n1 := numv_of s A 1 (by omega) (by omega) (by omega)
  rw [show ((1 : Nat) : Int) = 1 from rfl] at n1
  rw [n1, subs_succ s A 0 (by omega)]
  have e : subs s A 0 = [] := by unfold subs; rw [List.take_zero]
  rw [e, List.nil_append]
  simp [be]

set_option maxHeartbeats 4000000 in
set_option maxRecDepth 100000 in
theorem rvdec_short (s : ByteArray) (w : World) (hs : s.size ≤ 140737488351232) (hz : s.size < 20) :
    Calls Try.prog 27 #[.string s] w fun e w' => e = .returned (.tuple #[.agg #[.int .i64 0, .int .i64 0, .int .i64 0, .string ⟨#[]⟩, .string ⟨#[]⟩, .string ⟨#[]⟩, .string ⟨#[]⟩], .int .i64 2]) ∧ Below w.heap.size w w' := by
  go_enter Try.func27, Try.ntmps27
  go_wp2_with fail
  refine bodyPost_ret (v := .tuple #[.agg #[.int .i64 0, .int .i64 0, .int .i64 0, .string ⟨#[]⟩, .string ⟨#[]⟩, .string ⟨#[]⟩, .string ⟨#[]⟩], .int .i64 2]) (by simp [results, Try.results27, go_sem]) rfl ⟨rfl, ?_⟩
  exact (Below.refl _ w).alloc (Nat.le_refl _) _

set_option maxHeartbeats 4000000 in
set_option maxRecDepth 100000 in
theorem rvdec_ver (s : ByteArray) (w : World) (hs : s.size ≤ 140737488351232) (hz : 20 ≤ s.size) (hq : s[0].toNat / 16 ≠ 4) :
    Calls Try.prog 27 #[.string s] w fun e w' => e = .returned (.tuple #[.agg #[.int .i64 0, .int .i64 0, .int .i64 0, .string ⟨#[]⟩, .string ⟨#[]⟩, .string ⟨#[]⟩, .string ⟨#[]⟩], .int .i64 3]) ∧ Below w.heap.size w w' := by
  have u0 : (0 : Int) < (s.size : Int) := by omega
  have u1 : (20 : Int) ≤ (s.size : Int) := by omega
  have u2 : (s[0].toNat : Int) < 256 := by have := s[0].toNat_lt; omega
  obtain ⟨t1, t2⟩ := ne_t (show (s[0].toNat : Int) / 16 ≠ 4 by omega)
  clear hq
  go_enter Try.func27, Try.ntmps27
  go_wp2_with fail
  refine bodyPost_ret (v := .tuple #[.agg #[.int .i64 0, .int .i64 0, .int .i64 0, .string ⟨#[]⟩, .string ⟨#[]⟩, .string ⟨#[]⟩, .string ⟨#[]⟩], .int .i64 3]) (by simp [results, Try.results27, go_sem]) rfl ⟨rfl, ?_⟩
  exact (Below.refl _ w).alloc (Nat.le_refl _) _

set_option maxHeartbeats 4000000 in
set_option maxRecDepth 100000 in
theorem rvdec_words (s : ByteArray) (w : World) (hs : s.size ≤ 140737488351232) (hz : 20 ≤ s.size) (hq : s[0].toNat / 16 = 4) (hk : 4 * (s[0].toNat % 16) < 20) :
    Calls Try.prog 27 #[.string s] w fun e w' => e = .returned (.tuple #[.agg #[.int .i64 0, .int .i64 0, .int .i64 0, .string ⟨#[]⟩, .string ⟨#[]⟩, .string ⟨#[]⟩, .string ⟨#[]⟩], .int .i64 3]) ∧ Below w.heap.size w w' := by
  have u0 : (0 : Int) < (s.size : Int) := by omega
  have u1 : (20 : Int) ≤ (s.size : Int) := by omega
  have u2 : (s[0].toNat : Int) < 256 := by have := s[0].toNat_lt; omega
  obtain ⟨t1, t2⟩ := eq_t (show (s[0].toNat : Int) / 16 = 4 by omega)
  have u3 : 4 * ((s[0].toNat : Int) % 16) < 20 := by omega
  clear hq hk
  go_enter Try.func27, Try.ntmps27
  go_wp2_with fail
  refine bodyPost_ret (v := .tuple #[.agg #[.int .i64 0, .int .i64 0, .int .i64 0, .string ⟨#[]⟩, .string ⟨#[]⟩, .string ⟨#[]⟩, .string ⟨#[]⟩], .int .i64 3]) (by simp [results, Try.results27, go_sem]) rfl ⟨rfl, ?_⟩
  exact (Below.refl _ w).alloc (Nat.le_refl _) _

set_option maxHeartbeats 4000000 in
set_option maxRecDepth 100000 in
theorem rvdec_cut (s : ByteArray) (w : World) (hs : s.size ≤ 140737488351232) (hz : 20 ≤ s.size) (hq : s[0].toNat / 16 = 4) (hk : 20 ≤ 4 * (s[0].toNat % 16)) (hk2 : s.size < 4 * (s[0].toNat % 16)) :
    Calls Try.prog 27 #[.string s] w fun e w' => e = .returned (.tuple #[.agg #[.int .i64 0, .int .i64 0, .int .i64 0, .string ⟨#[]⟩, .string ⟨#[]⟩, .string ⟨#[]⟩, .string ⟨#[]⟩], .int .i64 2]) ∧ Below w.heap.size w w' := by
  have u0 : (0 : Int) < (s.size : Int) := by omega
  have u1 : (20 : Int) ≤ (s.size : Int) := by omega
  have u2 : (s[0].toNat : Int) < 256 := by have := s[0].toNat_lt; omega
  obtain ⟨t1, t2⟩ := eq_t (show (s[0].toNat : Int) / 16 = 4 by omega)
  have u3 : (20 : Int) ≤ 4 * ((s[0].toNat : Int) % 16) := by omega
  have u4 : (s.size : Int) < 4 * ((s[0].toNat : Int) % 16) := by omega
  clear hq hk hk2
  go_enter Try.func27, Try.ntmps27
  go_wp2_with fail
  refine bodyPost_ret (v := .tuple #[.agg #[.int .i64 0, .int .i64 0, .int .i64 0, .string ⟨#[]⟩, .string ⟨#[]⟩, .string ⟨#[]⟩, .string ⟨#[]⟩], .int .i64 2]) (by simp [results, Try.results27, go_sem]) rfl ⟨rfl, ?_⟩
  exact (Below.refl _ w).alloc (Nat.le_refl _) _

set_option maxHeartbeats 4000000 in
set_option maxRecDepth 100000 in
theorem rvdec_sum (s : ByteArray) (w : World) (hs : s.size ≤ 140737488351232) (hz : 20 ≤ s.size) (hq : s[0].toNat / 16 = 4) (hk : 20 ≤ 4 * (s[0].toNat % 16)) (hk2 : 4 * (s[0].toNat % 16) ≤ s.size) (hn : sumN (s.extract 0 (4 * (s[0].toNat % 16))).data.toList ≠ 0) :
    Calls Try.prog 27 #[.string s] w fun e w' => e = .returned (.tuple #[.agg #[.int .i64 0, .int .i64 0, .int .i64 0, .string ⟨#[]⟩, .string ⟨#[]⟩, .string ⟨#[]⟩, .string ⟨#[]⟩], .int .i64 4]) ∧ Below w.heap.size w w' := by
  have u0 : (0 : Int) < (s.size : Int) := by omega
  have u1 : (20 : Int) ≤ (s.size : Int) := by omega
  have u2 : (s[0].toNat : Int) < 256 := by have := s[0].toNat_lt; omega
  obtain ⟨t1, t2⟩ := eq_t (show (s[0].toNat : Int) / 16 = 4 by omega)
  have u3 : (20 : Int) ≤ 4 * ((s[0].toNat : Int) % 16) := by omega
  have u4 : 4 * ((s[0].toNat : Int) % 16) ≤ (s.size : Int) := by omega
  have hzz := ext_size s 0 (4 * (s[0].toNat % 16)) (by omega)
  rw [Nat.zero_add] at hzz
  have H1 := Lib.hid fun U => rsum_c (s.extract 0 (4 * (s[0].toNat % 16))) U (by omega)
  obtain ⟨n, en⟩ : ∃ n, n = sumN (s.extract 0 (4 * (s[0].toNat % 16))).data.toList := ⟨_, rfl⟩
  rw [← en] at H1 hn
  obtain ⟨t3, t4⟩ := ne_t (show (n : Int) ≠ 0 by omega)
  clear hq hk hk2 en hn hzz
  go_enter Try.func27, Try.ntmps27
  go_wp2_with fail
  refine (H1.out _).mono ?_
  rintro e w1 ⟨rfl, rfl⟩
  go_wp2_with fail
  refine bodyPost_ret (v := .tuple #[.agg #[.int .i64 0, .int .i64 0, .int .i64 0, .string ⟨#[]⟩, .string ⟨#[]⟩, .string ⟨#[]⟩, .string ⟨#[]⟩], .int .i64 4]) (by simp [results, Try.results27, go_sem]) rfl ⟨rfl, ?_⟩
  exact (Below.refl _ w).alloc (Nat.le_refl _) _

set_option maxHeartbeats 4000000 in
set_option maxRecDepth 100000 in
theorem rvdec_form (s : ByteArray) (w : World) (hs : s.size ≤ 140737488351232) (hz : 20 ≤ s.size) (hq : s[0].toNat / 16 = 4) (hk : 20 ≤ 4 * (s[0].toNat % 16)) (hk2 : 4 * (s[0].toNat % 16) ≤ s.size) (hn : sumN (s.extract 0 (4 * (s[0].toNat % 16))).data.toList = 0) (ha : numv s 2 2 < (4 * (s[0].toNat % 16) : Nat)) :
    Calls Try.prog 27 #[.string s] w fun e w' => e = .returned (.tuple #[.agg #[.int .i64 0, .int .i64 0, .int .i64 0, .string ⟨#[]⟩, .string ⟨#[]⟩, .string ⟨#[]⟩, .string ⟨#[]⟩], .int .i64 3]) ∧ Below w.heap.size w w' := by
  have u0 : (0 : Int) < (s.size : Int) := by omega
  have u1 : (20 : Int) ≤ (s.size : Int) := by omega
  have u2 : (s[0].toNat : Int) < 256 := by have := s[0].toNat_lt; omega
  obtain ⟨t1, t2⟩ := eq_t (show (s[0].toNat : Int) / 16 = 4 by omega)
  have u3 : (20 : Int) ≤ 4 * ((s[0].toNat : Int) % 16) := by omega
  have u4 : 4 * ((s[0].toNat : Int) % 16) ≤ (s.size : Int) := by omega
  have hzz := ext_size s 0 (4 * (s[0].toNat % 16)) (by omega)
  rw [Nat.zero_add] at hzz
  have H1 := Lib.hid fun U => rsum_c (s.extract 0 (4 * (s[0].toNat % 16))) U (by omega)
  rw [hn] at H1
  have H2 := Lib.hid fun U => vat_c s 2 2 U (by omega) (by omega) (by omega)
  obtain ⟨q0, q1⟩ := numv_le2 s 2
  obtain ⟨q, eq⟩ : ∃ q, q = numv s 2 2 := ⟨_, rfl⟩
  rw [← eq] at H2 q0 q1 ha
  clear hn eq hzz
  have u5 : q < 4 * ((s[0].toNat : Int) % 16) := by omega
  clear hq hk hk2 ha
  go_enter Try.func27, Try.ntmps27
  go_wp2_with fail
  refine (H1.out _).mono ?_
  rintro e w1 ⟨rfl, rfl⟩
  go_wp2_with fail
  refine (H2.out _).mono ?_
  rintro e w1 ⟨rfl, rfl⟩
  go_wp2_with fail
  refine bodyPost_ret (v := .tuple #[.agg #[.int .i64 0, .int .i64 0, .int .i64 0, .string ⟨#[]⟩, .string ⟨#[]⟩, .string ⟨#[]⟩, .string ⟨#[]⟩], .int .i64 3]) (by simp [results, Try.results27, go_sem]) rfl ⟨rfl, ?_⟩
  exact (Below.refl _ w).alloc (Nat.le_refl _) _

set_option maxHeartbeats 4000000 in
set_option maxRecDepth 100000 in
theorem rvdec_short2 (s : ByteArray) (w : World) (hs : s.size ≤ 140737488351232) (hz : 20 ≤ s.size) (hq : s[0].toNat / 16 = 4) (hk : 20 ≤ 4 * (s[0].toNat % 16)) (hk2 : 4 * (s[0].toNat % 16) ≤ s.size) (hn : sumN (s.extract 0 (4 * (s[0].toNat % 16))).data.toList = 0) (ha : ((4 * (s[0].toNat % 16) : Nat) : Int) ≤ numv s 2 2) (hb : (s.size : Int) < numv s 2 2) :
    Calls Try.prog 27 #[.string s] w fun e w' => e = .returned (.tuple #[.agg #[.int .i64 0, .int .i64 0, .int .i64 0, .string ⟨#[]⟩, .string ⟨#[]⟩, .string ⟨#[]⟩, .string ⟨#[]⟩], .int .i64 2]) ∧ Below w.heap.size w w' := by
  have u0 : (0 : Int) < (s.size : Int) := by omega
  have u1 : (20 : Int) ≤ (s.size : Int) := by omega
  have u2 : (s[0].toNat : Int) < 256 := by have := s[0].toNat_lt; omega
  obtain ⟨t1, t2⟩ := eq_t (show (s[0].toNat : Int) / 16 = 4 by omega)
  have u3 : (20 : Int) ≤ 4 * ((s[0].toNat : Int) % 16) := by omega
  have u4 : 4 * ((s[0].toNat : Int) % 16) ≤ (s.size : Int) := by omega
  have hzz := ext_size s 0 (4 * (s[0].toNat % 16)) (by omega)
  rw [Nat.zero_add] at hzz
  have H1 := Lib.hid fun U => rsum_c (s.extract 0 (4 * (s[0].toNat % 16))) U (by omega)
  rw [hn] at H1
  have H2 := Lib.hid fun U => vat_c s 2 2 U (by omega) (by omega) (by omega)
  obtain ⟨q0, q1⟩ := numv_le2 s 2
  obtain ⟨q, eq⟩ : ∃ q, q = numv s 2 2 := ⟨_, rfl⟩
  rw [← eq] at H2 q0 q1 ha hb
  clear hn eq hzz
  have u5 : 4 * ((s[0].toNat : Int) % 16) ≤ q := by omega
  clear hq hk hk2 ha
  go_enter Try.func27, Try.ntmps27
  go_wp2_with fail
  refine (H1.out _).mono ?_
  rintro e w1 ⟨rfl, rfl⟩
  go_wp2_with fail
  refine (H2.out _).mono ?_
  rintro e w1 ⟨rfl, rfl⟩
  go_wp2_with fail
  refine bodyPost_ret (v := .tuple #[.agg #[.int .i64 0, .int .i64 0, .int .i64 0, .string ⟨#[]⟩, .string ⟨#[]⟩, .string ⟨#[]⟩, .string ⟨#[]⟩], .int .i64 2]) (by simp [results, Try.results27, go_sem]) rfl ⟨rfl, ?_⟩
  exact (Below.refl _ w).alloc (Nat.le_refl _) _

set_option maxHeartbeats 4000000 in
set_option maxRecDepth 100000 in
theorem rvdec_part (s : ByteArray) (w : World) (hs : s.size ≤ 140737488351232) (hz : 20 ≤ s.size) (hq : s[0].toNat / 16 = 4) (hk : 20 ≤ 4 * (s[0].toNat % 16)) (hk2 : 4 * (s[0].toNat % 16) ≤ s.size) (hn : sumN (s.extract 0 (4 * (s[0].toNat % 16))).data.toList = 0) (ha : ((4 * (s[0].toNat % 16) : Nat) : Int) ≤ numv s 2 2) (hb : numv s 2 2 ≤ (s.size : Int)) (hp : numv s 6 2 ≠ 0 ∧ numv s 6 2 ≠ 16384) :
    Calls Try.prog 27 #[.string s] w fun e w' => e = .returned (.tuple #[.agg #[.int .i64 0, .int .i64 0, .int .i64 0, .string ⟨#[]⟩, .string ⟨#[]⟩, .string ⟨#[]⟩, .string ⟨#[]⟩], .int .i64 3]) ∧ Below w.heap.size w w' := by
  have u0 : (0 : Int) < (s.size : Int) := by omega
  have u1 : (20 : Int) ≤ (s.size : Int) := by omega
  have u2 : (s[0].toNat : Int) < 256 := by have := s[0].toNat_lt; omega
  obtain ⟨t1, t2⟩ := eq_t (show (s[0].toNat : Int) / 16 = 4 by omega)
  have u3 : (20 : Int) ≤ 4 * ((s[0].toNat : Int) % 16) := by omega
  have u4 : 4 * ((s[0].toNat : Int) % 16) ≤ (s.size : Int) := by omega
  have hzz := ext_size s 0 (4 * (s[0].toNat % 16)) (by omega)
  rw [Nat.zero_add] at hzz
  have H1 := Lib.hid fun U => rsum_c (s.extract 0 (4 * (s[0].toNat % 16))) U (by omega)
  rw [hn] at H1
  have H2 := Lib.hid fun U => vat_c s 2 2 U (by omega) (by omega) (by omega)
  obtain ⟨q0, q1⟩ := numv_le2 s 2
  obtain ⟨q, eq⟩ : ∃ q, q = numv s 2 2 := ⟨_, rfl⟩
  rw [← eq] at H2 q0 q1 ha hb
  clear hn eq hzz
  have u5 : 4 * ((s[0].toNat : Int) % 16) ≤ q := by omega
  have H3 := Lib.hid fun U => vat_c s 6 2 U (by omega) (by omega) (by omega)
  obtain ⟨m, em⟩ : ∃ m, m = numv s 6 2 := ⟨_, rfl⟩
  rw [← em] at H3 hp
  clear em hq hk hk2 ha
  obtain ⟨t3, t4⟩ := ne_t hp.1
  obtain ⟨t5, t6⟩ := ne_t hp.2
  clear hp
  go_enter Try.func27, Try.ntmps27
  go_wp2_with fail
  refine (H1.out _).mono ?_
  rintro e w1 ⟨rfl, rfl⟩
  go_wp2_with fail
  refine (H2.out _).mono ?_
  rintro e w1 ⟨rfl, rfl⟩
  go_wp2_with fail
  refine (H3.out _).mono ?_
  rintro e w1 ⟨rfl, rfl⟩
  go_wp2_with fail
  refine bodyPost_ret (v := .tuple #[.agg #[.int .i64 0, .int .i64 0, .int .i64 0, .string ⟨#[]⟩, .string ⟨#[]⟩, .string ⟨#[]⟩, .string ⟨#[]⟩], .int .i64 3]) (by simp [results, Try.results27, go_sem]) rfl ⟨rfl, ?_⟩
  exact (Below.refl _ w).alloc (Nat.le_refl _) _

set_option maxHeartbeats 4000000 in
set_option maxRecDepth 100000 in
theorem rvdec_ok0 (s : ByteArray) (w : World) (hs : s.size ≤ 140737488351232) (hz : 20 ≤ s.size) (hq : s[0].toNat / 16 = 4) (hk : 20 ≤ 4 * (s[0].toNat % 16)) (hk2 : 4 * (s[0].toNat % 16) ≤ s.size) (hn : sumN (s.extract 0 (4 * (s[0].toNat % 16))).data.toList = 0) (ha : ((4 * (s[0].toNat % 16) : Nat) : Int) ≤ numv s 2 2) (hb : numv s 2 2 ≤ (s.size : Int)) (hp : numv s 6 2 = 0) :
    Calls Try.prog 27 #[.string s] w fun e w' => e = .returned (.tuple #[.agg #[.int .i64 (numv s 4 2), .int .i64 (numv s 8 1), .int .i64 (numv s 9 1), .string (s.extract 12 16), .string (s.extract 16 20), .string (s.extract 20 (4 * (s[0].toNat % 16))), .string (s.extract (4 * (s[0].toNat % 16)) (numv s 2 2).toNat)], .int .i64 0]) ∧ Below w.heap.size w w' := by
  have u0 : (0 : Int) < (s.size : Int) := by omega
  have u1 : (20 : Int) ≤ (s.size : Int) := by omega
  have u2 : (s[0].toNat : Int) < 256 := by have := s[0].toNat_lt; omega
  obtain ⟨t1, t2⟩ := eq_t (show (s[0].toNat : Int) / 16 = 4 by omega)
  have u3 : (20 : Int) ≤ 4 * ((s[0].toNat : Int) % 16) := by omega
  have u4 : 4 * ((s[0].toNat : Int) % 16) ≤ (s.size : Int) := by omega
  have hzz := ext_size s 0 (4 * (s[0].toNat % 16)) (by omega)
  rw [Nat.zero_add] at hzz
  have H1 := Lib.hid fun U => rsum_c (s.extract 0 (4 * (s[0].toNat % 16))) U (by omega)
  rw [hn] at H1
  have H2 := Lib.hid fun U => vat_c s 2 2 U (by omega) (by omega) (by omega)
  obtain ⟨q0, q1⟩ := numv_le2 s 2
  obtain ⟨q, eq⟩ : ∃ q, q = numv s 2 2 := ⟨_, rfl⟩
  rw [← eq] at H2 q0 q1 ha hb ⊢
  clear hn eq hzz
  have u5 : 4 * ((s[0].toNat : Int) % 16) ≤ q := by omega
  have H3 := Lib.hid fun U => vat_c s 6 2 U (by omega) (by omega) (by omega)
  obtain ⟨m, em⟩ : ∃ m, m = numv s 6 2 := ⟨_, rfl⟩
  rw [← em] at H3 hp
  clear em hq hk hk2 ha
  obtain ⟨t3, t4⟩ := eq_t hp
  clear hp
  have H4 := Lib.hid fun U => vat_c s 4 2 U (by omega) (by omega) (by omega)
  obtain ⟨v1, ev1⟩ : ∃ v, v = numv s 4 2 := ⟨_, rfl⟩
  have b8 : numv s 8 1 = (s[8].toNat : Int) := numv_byte s 8 (by omega)
  have b9 : numv s 9 1 = (s[9].toNat : Int) := numv_byte s 9 (by omega)
  rw [← ev1] at H4 ⊢
  rw [b8, b9]
  clear ev1 b8 b9
  have u6 : (0 : Int) ≤ 4 * ((s[0].toNat : Int) % 16) := by omega
  have x12 : (12 : Int) ≤ (s.size : Int) := by omega
  have x8 : (8 : Int) < (s.size : Int) := by omega
  have x9 : (9 : Int) < (s.size : Int) := by omega
  have x16 : (16 : Int) ≤ (s.size : Int) := by omega
  go_enter Try.func27, Try.ntmps27
  go_wp2_with fail
  refine (H1.out _).mono ?_
  rintro e w1 ⟨rfl, rfl⟩
  go_wp2_with fail
  refine (H2.out _).mono ?_
  rintro e w1 ⟨rfl, rfl⟩
  go_wp2_with fail
  refine (H3.out _).mono ?_
  rintro e w1 ⟨rfl, rfl⟩
  go_wp2_with fail
  generalize hKz : 4 * ((s[0].toNat : Int) % 16) = Kz at *
  have HK := Lib.hid (show Kz.toNat = 4 * (s[0].toNat % 16) by omega)
  clear hKz
  go_still_tail 20, (by kernel_rfl)
  still_call ((H4.out _).mono fun _ _ h => ⟨h.1, h.2.symm⟩)
  repeat still_step
  refine wpStill_nil ?_
  change wpList _ _ _ _ _ (w.alloc _).drew
  go_wp2_with fail
  all_goals
    refine bodyPost_ret (v := .tuple #[.agg #[.int .i64 v1, .int .i64 (s[8].toNat : Int), .int .i64 (s[9].toNat : Int), .string (s.extract 12 16), .string (s.extract 16 20), .string (s.extract 20 Kz.toNat), .string (s.extract Kz.toNat q.toNat)], .int .i64 0]) (by simp [results, Try.results27, go_sem, wrap_b]) rfl ⟨by rw [HK.out], ?_⟩
    exact ((Below.refl _ w).alloc (Nat.le_refl _) _).drew

set_option maxHeartbeats 4000000 in
set_option maxRecDepth 100000 in
theorem rvdec_ok1 (s : ByteArray) (w : World) (hs : s.size ≤ 140737488351232) (hz : 20 ≤ s.size) (hq : s[0].toNat / 16 = 4) (hk : 20 ≤ 4 * (s[0].toNat % 16)) (hk2 : 4 * (s[0].toNat % 16) ≤ s.size) (hn : sumN (s.extract 0 (4 * (s[0].toNat % 16))).data.toList = 0) (ha : ((4 * (s[0].toNat % 16) : Nat) : Int) ≤ numv s 2 2) (hb : numv s 2 2 ≤ (s.size : Int)) (hp : numv s 6 2 = 16384) :
    Calls Try.prog 27 #[.string s] w fun e w' => e = .returned (.tuple #[.agg #[.int .i64 (numv s 4 2), .int .i64 (numv s 8 1), .int .i64 (numv s 9 1), .string (s.extract 12 16), .string (s.extract 16 20), .string (s.extract 20 (4 * (s[0].toNat % 16))), .string (s.extract (4 * (s[0].toNat % 16)) (numv s 2 2).toNat)], .int .i64 0]) ∧ Below w.heap.size w w' := by
  have u0 : (0 : Int) < (s.size : Int) := by omega
  have u1 : (20 : Int) ≤ (s.size : Int) := by omega
  have u2 : (s[0].toNat : Int) < 256 := by have := s[0].toNat_lt; omega
  obtain ⟨t1, t2⟩ := eq_t (show (s[0].toNat : Int) / 16 = 4 by omega)
  have u3 : (20 : Int) ≤ 4 * ((s[0].toNat : Int) % 16) := by omega
  have u4 : 4 * ((s[0].toNat : Int) % 16) ≤ (s.size : Int) := by omega
  have hzz := ext_size s 0 (4 * (s[0].toNat % 16)) (by omega)
  rw [Nat.zero_add] at hzz
  have H1 := Lib.hid fun U => rsum_c (s.extract 0 (4 * (s[0].toNat % 16))) U (by omega)
  rw [hn] at H1
  have H2 := Lib.hid fun U => vat_c s 2 2 U (by omega) (by omega) (by omega)
  obtain ⟨q0, q1⟩ := numv_le2 s 2
  obtain ⟨q, eq⟩ : ∃ q, q = numv s 2 2 := ⟨_, rfl⟩
  rw [← eq] at H2 q0 q1 ha hb ⊢
  clear hn eq hzz
  have u5 : 4 * ((s[0].toNat : Int) % 16) ≤ q := by omega
  have H3 := Lib.hid fun U => vat_c s 6 2 U (by omega) (by omega) (by omega)
  obtain ⟨m, em⟩ : ∃ m, m = numv s 6 2 := ⟨_, rfl⟩
  rw [← em] at H3 hp
  clear em hq hk hk2 ha
  obtain ⟨t3, t4⟩ := eq_t hp
  obtain ⟨t5, t6⟩ := ne_t (show m ≠ 0 by omega)
  clear hp
  have H4 := Lib.hid fun U => vat_c s 4 2 U (by omega) (by omega) (by omega)
  obtain ⟨v1, ev1⟩ : ∃ v, v = numv s 4 2 := ⟨_, rfl⟩
  have b8 : numv s 8 1 = (s[8].toNat : Int) := numv_byte s 8 (by omega)
  have b9 : numv s 9 1 = (s[9].toNat : Int) := numv_byte s 9 (by omega)
  rw [← ev1] at H4 ⊢
  rw [b8, b9]
  clear ev1 b8 b9
  have u6 : (0 : Int) ≤ 4 * ((s[0].toNat : Int) % 16) := by omega
  have x12 : (12 : Int) ≤ (s.size : Int) := by omega
  have x8 : (8 : Int) < (s.size : Int) := by omega
  have x9 : (9 : Int) < (s.size : Int) := by omega
  have x16 : (16 : Int) ≤ (s.size : Int) := by omega
  go_enter Try.func27, Try.ntmps27
  go_wp2_with fail
  refine (H1.out _).mono ?_
  rintro e w1 ⟨rfl, rfl⟩
  go_wp2_with fail
  refine (H2.out _).mono ?_
  rintro e w1 ⟨rfl, rfl⟩
  go_wp2_with fail
  refine (H3.out _).mono ?_
  rintro e w1 ⟨rfl, rfl⟩
  go_wp2_with fail
  generalize hKz : 4 * ((s[0].toNat : Int) % 16) = Kz at *
  have HK := Lib.hid (show Kz.toNat = 4 * (s[0].toNat % 16) by omega)
  clear hKz
  go_still_tail 20, (by kernel_rfl)
  still_call ((H4.out _).mono fun _ _ h => ⟨h.1, h.2.symm⟩)
  repeat still_step
  refine wpStill_nil ?_
  change wpList _ _ _ _ _ (w.alloc _).drew
  go_wp2_with fail
  all_goals
    refine bodyPost_ret (v := .tuple #[.agg #[.int .i64 v1, .int .i64 (s[8].toNat : Int), .int .i64 (s[9].toNat : Int), .string (s.extract 12 16), .string (s.extract 16 20), .string (s.extract 20 Kz.toNat), .string (s.extract Kz.toNat q.toNat)], .int .i64 0]) (by simp [results, Try.results27, go_sem, wrap_b]) rfl ⟨by rw [HK.out], ?_⟩
    exact ((Below.refl _ w).alloc (Nat.le_refl _) _).drew

theorem hsz_byte (s : ByteArray) (h : 0 < s.size) : hsz s = 4 * (s[0].toNat % 16) := by
  unfold hsz
  have := numv_byte s 0 h
  rw [show ((0 : Nat) : Int) = 0 from rfl] at this
  rw [this]
  omega

theorem rvdec_c (s : ByteArray) (w : World) (hs : s.size ≤ 140737488351232) :
    Calls Try.prog 27 #[.string s] w fun e w' => e = .returned (.tuple #[(decV s).1.val, .int .i64 (decV s).2]) ∧ Below w.heap.size w w' := by
  by_cases c1 : s.size < 20
  · have hh : headV s = (⟨#[]⟩, 2) := by unfold headV; rw [if_pos c1]
    have hd : decV s = (.zero, 2) := by unfold decV; rw [hh]; rfl
    rw [hd]
    exact rvdec_short s w hs c1
  · have z0 : 0 < s.size := by omega
    have hk := hsz_byte s z0
    have hb : numv s 0 1 = (s[0].toNat : Int) := numv_byte s 0 z0
    by_cases c2 : numv s 0 1 / 16 ≠ 4 ∨ hsz s < 20
    · have hh : headV s = (⟨#[]⟩, 3) := by unfold headV; rw [if_neg c1, if_pos c2]
      have hd : decV s = (.zero, 3) := by unfold decV; rw [hh]; rfl
      rw [hd]
      by_cases c3 : s[0].toNat / 16 = 4
      · exact rvdec_words s w hs (by omega) c3 (by rw [← hk]; omega)
      · exact rvdec_ver s w hs (by omega) c3
    · have g1 : s[0].toNat / 16 = 4 := by omega
      have g2 : 20 ≤ 4 * (s[0].toNat % 16) := by omega
      by_cases c3 : s.size < hsz s
      · have hh : headV s = (⟨#[]⟩, 2) := by unfold headV; rw [if_neg c1, if_neg c2, if_pos c3]
        have hd : decV s = (.zero, 2) := by unfold decV; rw [hh]; rfl
        rw [hd]
        exact rvdec_cut s w hs (by omega) g1 g2 (by omega)
      · have g3 : 4 * (s[0].toNat % 16) ≤ s.size := by omega
        by_cases c4 : sumN (s.extract 0 (hsz s)).data.toList ≠ 0
        · have hh : headV s = (⟨#[]⟩, 4) := by unfold headV; rw [if_neg c1, if_neg c2, if_neg c3, if_pos c4]
          have hd : decV s = (.zero, 4) := by unfold decV; rw [hh]; rfl
          rw [hd]
          exact rvdec_sum s w hs (by omega) g1 g2 g3 (by rw [← hk]; exact c4)
        · have hh : headV s = (s.extract 0 (hsz s), 0) := by unfold headV; rw [if_neg c1, if_neg c2, if_neg c3, if_neg c4]
          have g4 : sumN (s.extract 0 (4 * (s[0].toNat % 16))).data.toList = 0 := by rw [← hk]; omega
          unfold decV
          rw [hh, if_neg (fun h => h rfl)]
          by_cases c5 : numv s 2 2 < (hsz s : Int)
          · rw [if_pos c5]
            exact rvdec_form s w hs (by omega) g1 g2 g3 g4 (by rw [← hk]; exact c5)
          · rw [if_neg c5]
            have g5 : ((4 * (s[0].toNat % 16) : Nat) : Int) ≤ numv s 2 2 := by rw [← hk]; omega
            by_cases c6 : (s.size : Int) < numv s 2 2
            · rw [if_pos c6]
              exact rvdec_short2 s w hs (by omega) g1 g2 g3 g4 g5 c6
            · rw [if_neg c6]
              by_cases c7 : numv s 6 2 ≠ 0 ∧ numv s 6 2 ≠ 16384
              · rw [if_pos c7]
                exact rvdec_part s w hs (by omega) g1 g2 g3 g4 g5 (by omega) c7
              · rw [if_neg c7]
                unfold readV Pkt.val
                rw [hk]
                by_cases c8 : numv s 6 2 = 0
                · exact rvdec_ok0 s w hs (by omega) g1 g2 g3 g4 g5 (by omega) c8
                · exact rvdec_ok1 s w hs (by omega) g1 g2 g3 g4 g5 (by omega) (by omega)

end Go.Proofs.Ytocckinnmdgdfaa
