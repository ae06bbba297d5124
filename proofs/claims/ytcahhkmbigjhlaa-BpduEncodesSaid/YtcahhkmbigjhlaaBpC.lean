/-
  The message of any bytes: bpdu.Decode.
-/
import Derived.Test.YtcahhkmbigjhlaaBpS
import Derived.Test.YtcahhkmbigjhlaaBits
import Derived.Test.YtcahhkmbigjhlaaOctW
import Derived.Deep.RegionHeld3
namespace Go.Proofs.Ytcahhkmbigjhlaa
open Go.RowKit
set_option linter.unusedVariables false
set_option linter.unusedSimpArgs false

set_option maxHeartbeats 1000000 in
set_option maxRecDepth 100000 in
theorem bnum_c (s : ByteArray) (a n : Int) (A : Nat) (w : World) (hA : w.cell? ⟨A, 0, none⟩ = some (.string s)) (hs : s.size ≤ 140737488500000) (ha : -9223372036854775808 ≤ a) (h2 : a ≤ 9223372036854775807) :
    Calls Try.prog 14 #[.int .i64 a, .int .i64 n, .pointer (some ⟨A, 0, none⟩)] w fun e w' => e = .returned (.int .i64 (numv s a n)) ∧ Below w.heap.size w w' := by
  have H1 := Lib.hid fun U => get_c s a n U (by omega) ha h2
  go_enter Try.func14, Try.ntmps14
  go_wp2_with fail
  refine (H1.out _).mono ?_
  rintro e w1 ⟨rfl, h1⟩
  go_wp2_with fail
  go_ret
  exact ⟨rfl, h1⟩

set_option maxHeartbeats 1000000 in
set_option maxRecDepth 100000 in
theorem bwide_c (s : ByteArray) (a : Int) (A : Nat) (w : World) (hA : w.cell? ⟨A, 0, none⟩ = some (.string s)) (hs : s.size ≤ 140737488500000) (ha : -9223372036854775808 ≤ a) (h2 : a ≤ 9223372036854775807) :
    Calls Try.prog 16 #[.int .i64 a, .pointer (some ⟨A, 0, none⟩)] w fun e w' => e = .returned (.int .u64 (widv s a)) ∧ Below w.heap.size w w' := by
  have H1 := Lib.hid fun U => wide_c s a U (by omega) ha h2
  go_enter Try.func16, Try.ntmps16
  go_wp2_with fail
  refine (H1.out _).mono ?_
  rintro e w1 ⟨rfl, h1⟩
  go_wp2_with fail
  go_ret
  exact ⟨rfl, h1⟩

set_option maxHeartbeats 1000000 in
set_option maxRecDepth 100000 in
theorem bhas_c (f : Int) (k : Nat) (A : Nat) (w : World) (hA : w.cell? ⟨A, 0, none⟩ = some (.int .i64 f)) (f0 : 0 ≤ f) (f1 : f ≤ 255) (hk : k < 8) :
    Calls Try.prog 19 #[.int .i64 ((2 ^ k : Nat) : Int), .pointer (some ⟨A, 0, none⟩)] w fun e w' => e = .returned (.bool (f / ((2 ^ k : Nat) : Int) % 2 == 1)) ∧ w' = w := by
  have hb := i64_bit f k f0 (by omega) (by omega)
  obtain ⟨q, hq⟩ : ∃ q, q = f / ((2 ^ k : Nat) : Int) % 2 := ⟨_, rfl⟩
  rw [← hq] at hb ⊢
  have hp : (0 : Int) < ((2 ^ k : Nat) : Int) := by have := Nat.two_pow_pos k; omega
  have hq2 : q = 0 ∨ q = 1 := by omega
  obtain ⟨p, hpp⟩ : ∃ p, p = ((2 ^ k : Nat) : Int) := ⟨_, rfl⟩
  rw [← hpp] at hb hp ⊢
  clear hq hpp
  rcases hq2 with rfl | rfl
  · rw [Int.zero_mul] at hb
    go_enter Try.func19, Try.ntmps19
    go_wp2_with fail
    go_ret
    exact ⟨rfl, rfl⟩
  · rw [Int.one_mul] at hb
    obtain ⟨t1, t2⟩ := ne_t (show p ≠ 0 by omega)
    go_enter Try.func19, Try.ntmps19
    go_wp2_with fail
    go_ret
    exact ⟨rfl, rfl⟩

set_option maxHeartbeats 1000000 in
set_option maxRecDepth 100000 in
theorem spre_c (s : ByteArray) (w : World) (hs : s.size ≤ 140737488500000) (h : 7 ≤ s.size) :
    Calls Try.prog 35 #[.string s, .string ⟨#[66, 66, 3, 0, 0, 2, 2]⟩] w fun e w' => e = .returned (.bool ((s.extract 0 7).toList == [66, 66, 3, 0, 0, 2, 2])) ∧ w' = w := by
  go_enter Try.func35, Try.ntmps35
  go_wp2_with fail
  go_ret
  exact ⟨rfl, rfl⟩

set_option maxHeartbeats 1000000 in
set_option maxRecDepth 100000 in
theorem pre_c (s : ByteArray) (w : World) (hs : s.size ≤ 140737488500000) (h : 7 ≤ s.size) :
    Calls Try.prog 18 #[.string s, .string ⟨#[66, 66, 3, 0, 0, 2, 2]⟩] w fun e w' => e = .returned (.bool ((s.extract 0 7).toList == [66, 66, 3, 0, 0, 2, 2])) ∧ w' = w := by
  have H1 := Lib.hid fun U => spre_c s U hs h
  go_enter Try.func18, Try.ntmps18
  go_wp2_with fail
  refine (H1.out _).mono ?_
  rintro e w1 ⟨rfl, rfl⟩
  go_wp2_with fail
  go_ret
  exact ⟨rfl, rfl⟩

/-- The text in its box, the empty answer behind it. -/
def DecS (w0 : World) (P : Nat) (s : ByteArray) (w : World) : Prop :=
  w.heap[P]? = some (.cells #[.string s] 9 (0, 0)) ∧ w.heap[P + 1]? = some (.cells #[.int .u64 0, .int .i64 0, .int .u64 0, .int .i64 0, .int .i64 0, .bool false, .bool false, .bool false] 26 (0, 0)) ∧ Below P w0 w
theorem DecS.below {w0 w w' : World} {P : Nat} {s : ByteArray} (h : DecS w0 P s w) (k : Below w.heap.size w w') : DecS w0 P s w' :=
  ⟨below_block k (lt_of_block h.1) h.1, below_block k (lt_of_block h.2.1) h.2.1, h.2.2.trans (k.mono (Nat.le_of_lt (lt_of_block h.1)))⟩
theorem DecS.drew {w0 w : World} {P : Nat} {s : ByteArray} (h : DecS w0 P s w) : DecS w0 P s w.drew := ⟨h.1, h.2.1, h.2.2.drew⟩
theorem DecS.fresh (s : ByteArray) (w : World) : DecS w w.heap.size s ((w.alloc (.cells #[.string s] 9)).alloc (.cells #[.int .u64 0, .int .i64 0, .int .u64 0, .int .i64 0, .int .i64 0, .bool false, .bool false, .bool false] 26)) := by
  refine ⟨heap_old (heap_new _ _), ?_, ((Below.refl _ w).alloc (Nat.le_refl _) _).alloc (by simp) _⟩
  simpa using heap_new (w.alloc (.cells #[.string s] 9)) (.cells #[.int .u64 0, .int .i64 0, .int .u64 0, .int .i64 0, .int .i64 0, .bool false, .bool false, .bool false] 26)
theorem DecS.cells {w0 w : World} {P : Nat} {s : ByteArray} (h : DecS w0 P s w) :
    w.cell? ⟨P, 0, none⟩ = some (.string s) ∧ w.cell? ⟨P + 1, 0, none⟩ = some (.int .u64 0) ∧ w.cell? ⟨P + 1, 1, none⟩ = some (.int .i64 0) ∧ w.cell? ⟨P + 1, 2, none⟩ = some (.int .u64 0) ∧ w.cell? ⟨P + 1, 3, none⟩ = some (.int .i64 0) ∧ w.cell? ⟨P + 1, 4, none⟩ = some (.int .i64 0) ∧ w.cell? ⟨P + 1, 5, none⟩ = some (.bool false) ∧ w.cell? ⟨P + 1, 6, none⟩ = some (.bool false) ∧ w.cell? ⟨P + 1, 7, none⟩ = some (.bool false) ∧ ∀ o, w.frozen? ⟨P + 1, o, none⟩ = false :=
  ⟨cell_of_block h.1 rfl, cell_of_block h.2.1 rfl, cell_of_block h.2.1 rfl, cell_of_block h.2.1 rfl, cell_of_block h.2.1 rfl, cell_of_block h.2.1 rfl, cell_of_block h.2.1 rfl, cell_of_block h.2.1 rfl, cell_of_block h.2.1 rfl, fun o => free_of_block h.2.1⟩
theorem below_put8 {B b : Nat} {w w1 : World} (h : Below B w w1) (hb : B ≤ b) (v0 v1 v2 v3 v4 v5 v6 v7 : Value) :
    Below B w ((((((((w1.setCell ⟨b, 0, none⟩ v0).setCell ⟨b, 1, none⟩ v1).setCell ⟨b, 2, none⟩ v2).setCell ⟨b, 3, none⟩ v3).setCell ⟨b, 4, none⟩ v4).setCell ⟨b, 5, none⟩ v5).setCell ⟨b, 6, none⟩ v6).setCell ⟨b, 7, none⟩ v7) :=
  (((((((h.setCell (p := ⟨b, 0, none⟩) hb v0).setCell (p := ⟨b, 1, none⟩) hb v1).setCell (p := ⟨b, 2, none⟩) hb v2).setCell (p := ⟨b, 3, none⟩) hb v3).setCell (p := ⟨b, 4, none⟩) hb v4).setCell (p := ⟨b, 5, none⟩) hb v5).setCell (p := ⟨b, 6, none⟩) hb v6).setCell (p := ⟨b, 7, none⟩) hb v7

set_option maxHeartbeats 1000000 in
set_option maxRecDepth 100000 in
theorem decB_short (s : ByteArray) (w : World) (hs : s.size ≤ 140737488500000) (hz : s.size < 39) :
    Calls Try.prog 9 #[.string s] w fun e w' => e = .returned (.tuple #[BpV.zero.val, .int .i64 2]) ∧ Below w.heap.size w w' := by
  go_enter Try.func9, Try.ntmps9
  go_wp2_with fail
  refine bodyPost_ret (v := .tuple #[BpV.zero.val, .int .i64 2]) (by simp [results, Try.results9, go_sem, BpV.zero, BpV.val]) rfl ⟨rfl, ?_⟩
  exact ((Below.refl _ w).alloc (Nat.le_refl _) _).alloc (by simp) _

set_option maxHeartbeats 2000000 in
set_option maxRecDepth 100000 in
theorem decB_bad0 (s : ByteArray) (w : World) (hs : s.size ≤ 140737488500000) (hz : 39 ≤ s.size) (hp : ((s.extract 0 7).toList == [66, 66, 3, 0, 0, 2, 2]) = false) :
    Calls Try.prog 9 #[.string s] w fun e w' => e = .returned (.tuple #[BpV.zero.val, .int .i64 3]) ∧ Below w.heap.size w w' := by
  have HP := Lib.hid fun U => pre_c s U hs (by omega)
  rw [hp] at HP
  clear hp
  go_enter Try.func9, Try.ntmps9
  go_wp2_with fail
  refine (HP.out _).mono ?_
  rintro e w1 ⟨rfl, rfl⟩
  have D := DecS.fresh s w
  have HD := Lib.hid D
  obtain ⟨c0, d0, d1, d2, d3, d4, d5, d6, d7, df⟩ := D.cells
  clear D
  go_wp2_with fail
  refine bodyPost_ret (v := .tuple #[BpV.zero.val, .int .i64 3]) (by simp [results, Try.results9, go_sem, BpV.zero, BpV.val, d0, d1, d2, d3, d4, d5, d6, d7]) rfl ⟨rfl, ?_⟩
  exact HD.out.2.2

set_option maxHeartbeats 2000000 in
set_option maxRecDepth 100000 in
theorem decB_bad1 (s : ByteArray) (w : World) (hs : s.size ≤ 140737488500000) (hz : 39 ≤ s.size) (hp : ((s.extract 0 7).toList == [66, 66, 3, 0, 0, 2, 2]) = true) (h1 : numv s 31 1 ≠ 0) :
    Calls Try.prog 9 #[.string s] w fun e w' => e = .returned (.tuple #[BpV.zero.val, .int .i64 3]) ∧ Below w.heap.size w w' := by
  have HP := Lib.hid fun U => pre_c s U hs (by omega)
  rw [hp] at HP
  have N1 := Lib.hid fun (A : Nat) (U : World) (g : U.cell? ⟨A, 0, none⟩ = some (.string s)) => bnum_c s 31 1 A U g hs (by omega) (by omega)
  obtain ⟨x1, hx1⟩ : ∃ v, v = numv s 31 1 := ⟨_, rfl⟩
  rw [← hx1] at N1
  rw [← hx1] at h1
  obtain ⟨t1, t2⟩ := ne_t h1
  clear hp h1 hx1
  go_enter Try.func9, Try.ntmps9
  go_wp2_with fail
  refine (HP.out _).mono ?_
  rintro e w1 ⟨rfl, rfl⟩
  have D := DecS.fresh s w
  have HD := Lib.hid D
  obtain ⟨c0, d0, d1, d2, d3, d4, d5, d6, d7, df⟩ := D.cells
  clear D
  go_wp2_with fail
  refine (N1.out _ _ c0).mono ?_
  rintro e w2 ⟨rfl, h2⟩
  have D := HD.out.below h2
  clear HD c0 d0 d1 d2 d3 d4 d5 d6 d7 df h2
  have HD := Lib.hid D
  obtain ⟨c0, d0, d1, d2, d3, d4, d5, d6, d7, df⟩ := D.cells
  clear D
  go_wp2_with fail
  refine bodyPost_ret (v := .tuple #[BpV.zero.val, .int .i64 3]) (by simp [results, Try.results9, go_sem, BpV.zero, BpV.val, d0, d1, d2, d3, d4, d5, d6, d7]) rfl ⟨rfl, ?_⟩
  exact below_put8 HD.out.2.2 (by omega) _ _ _ _ _ _ _ _

set_option maxHeartbeats 2000000 in
set_option maxRecDepth 100000 in
theorem decB_bad2 (s : ByteArray) (w : World) (hs : s.size ≤ 140737488500000) (hz : 39 ≤ s.size) (hp : ((s.extract 0 7).toList == [66, 66, 3, 0, 0, 2, 2]) = true) (h1 : numv s 31 1 = 0) (h2 : numv s 38 1 ≠ 0) :
    Calls Try.prog 9 #[.string s] w fun e w' => e = .returned (.tuple #[BpV.zero.val, .int .i64 3]) ∧ Below w.heap.size w w' := by
  have HP := Lib.hid fun U => pre_c s U hs (by omega)
  rw [hp] at HP
  have N1 := Lib.hid fun (A : Nat) (U : World) (g : U.cell? ⟨A, 0, none⟩ = some (.string s)) => bnum_c s 31 1 A U g hs (by omega) (by omega)
  obtain ⟨x1, hx1⟩ : ∃ v, v = numv s 31 1 := ⟨_, rfl⟩
  rw [← hx1] at N1
  rw [← hx1] at h1
  obtain ⟨t1, t2⟩ := eq_t h1
  clear hp h1 hx1
  have N2 := Lib.hid fun (A : Nat) (U : World) (g : U.cell? ⟨A, 0, none⟩ = some (.string s)) => bnum_c s 38 1 A U g hs (by omega) (by omega)
  obtain ⟨x2, hx2⟩ : ∃ v, v = numv s 38 1 := ⟨_, rfl⟩
  rw [← hx2] at N2
  rw [← hx2] at h2
  obtain ⟨t3, t4⟩ := ne_t h2
  clear h2 hx2
  go_enter Try.func9, Try.ntmps9
  go_wp2_with fail
  refine (HP.out _).mono ?_
  rintro e w1 ⟨rfl, rfl⟩
  have D := DecS.fresh s w
  have HD := Lib.hid D
  obtain ⟨c0, d0, d1, d2, d3, d4, d5, d6, d7, df⟩ := D.cells
  clear D
  go_wp2_with fail
  refine (N1.out _ _ c0).mono ?_
  rintro e w2 ⟨rfl, h2⟩
  have D := HD.out.below h2
  clear HD c0 d0 d1 d2 d3 d4 d5 d6 d7 df h2
  have HD := Lib.hid D
  obtain ⟨c0, d0, d1, d2, d3, d4, d5, d6, d7, df⟩ := D.cells
  clear D
  go_wp2_with fail
  refine (N2.out _ _ c0).mono ?_
  rintro e w2 ⟨rfl, h2⟩
  have D := HD.out.below h2
  clear HD c0 d0 d1 d2 d3 d4 d5 d6 d7 df h2
  have HD := Lib.hid D
  obtain ⟨c0, d0, d1, d2, d3, d4, d5, d6, d7, df⟩ := D.cells
  clear D
  go_wp2_with fail
  refine bodyPost_ret (v := .tuple #[BpV.zero.val, .int .i64 3]) (by simp [results, Try.results9, go_sem, BpV.zero, BpV.val, d0, d1, d2, d3, d4, d5, d6, d7]) rfl ⟨rfl, ?_⟩
  exact below_put8 HD.out.2.2 (by omega) _ _ _ _ _ _ _ _

end Go.Proofs.Ytcahhkmbigjhlaa
