/-
  The frame of any bytes: ether.Decode, as contracts over the translated program.
-/
import Derived.Test.YtolgakgimcbkpaaEthD
import Derived.Test.YtolgakgimcbkpaaOctCut
namespace Go.Proofs.Ytolgakgimcbkpaa
open Go.RowKit
set_option linter.unusedVariables false

/-- The number of two bytes that stand at a; 0 where they don't. -/
def num2 (s : ByteArray) (a : Int) : Int := (getSpec s a 2).1
/-- n bytes from a on; none where they don't stand there. -/
def sub (s : ByteArray) (a n : Int) : ByteArray := (cutSpec s a n).1

theorem num2_le (s : ByteArray) (a : Int) : 0 ≤ num2 s a ∧ num2 s a ≤ 65535 := by
  unfold num2 getSpec
  split
  · decide
  · split
    · decide
    · have := be_lt (subs s a.toNat (2 : Int).toNat)
      have h2 : (subs s a.toNat (2 : Int).toNat).length ≤ 2 := by simp [subs]; omega
      have h5 : 256 ^ (subs s a.toNat (2 : Int).toNat).length ≤ 256 ^ 2 := Nat.pow_le_pow_right (by omega) h2
      show (0 : Int) ≤ ((be (subs s a.toNat (2 : Int).toNat) : Nat) : Int) ∧ ((be (subs s a.toNat (2 : Int).toNat) : Nat) : Int) ≤ 65535
      omega

theorem sub_size (s : ByteArray) (a n : Int) (h0 : 0 ≤ a) (h1 : 0 ≤ n) (h : n ≤ (s.size : Int) - a) : ((sub s a n).size : Int) = n := by
  unfold sub cutSpec
  rw [if_neg (by omega), if_neg (by omega)]
  show ((⟨(subs s a.toNat n.toNat).toArray⟩ : ByteArray).size : Int) = n
  rw [ByteArray.size_mk', List.size_toArray]
  unfold subs
  rw [List.length_take, List.length_drop]
  have : s.data.toList.length = s.size := by simp
  omega

set_option maxHeartbeats 1000000 in
set_option maxRecDepth 100000 in
theorem enum_c (s : ByteArray) (a : Int) (A : Nat) (w : World) (hA : w.cell? ⟨A, 0, none⟩ = some (.string s)) (hs : s.size ≤ 140737488351232) (ha : -9223372036854775808 ≤ a) (h2 : a ≤ 9223372036854775807) :
    Calls Try.prog 29 #[.int .i64 a, .pointer (some ⟨A, 0, none⟩)] w fun e w' => e = .returned (.int .i64 (num2 s a)) ∧ Below w.heap.size w w' := by
  have H1 := Lib.hid fun U => get_c s a 2 U (by omega) ha h2
  go_enter Try.func29, Try.ntmps29
  go_wp2_with fail
  refine (H1.out _).mono ?_
  rintro e w1 ⟨rfl, h1⟩
  go_wp2_with fail
  go_ret
  exact ⟨rfl, h1⟩

set_option maxHeartbeats 1000000 in
set_option maxRecDepth 100000 in
theorem epart_c (s : ByteArray) (a n : Int) (A : Nat) (w : World) (hA : w.cell? ⟨A, 0, none⟩ = some (.string s)) (hs : s.size ≤ 140737488351232) (ha : -9223372036854775808 ≤ a) (h2 : a ≤ 9223372036854775807) :
    Calls Try.prog 30 #[.int .i64 a, .int .i64 n, .pointer (some ⟨A, 0, none⟩)] w fun e w' => e = .returned (.string (sub s a n)) ∧ Below w.heap.size w w' := by
  have H1 := Lib.hid fun U => cut_c s a n U (by omega) ha h2
  go_enter Try.func30, Try.ntmps30
  go_wp2_with fail
  refine (H1.out _).mono ?_
  rintro e w1 ⟨rfl, h1⟩
  go_wp2_with fail
  go_ret
  exact ⟨rfl, h1⟩

set_option maxHeartbeats 1000000 in
set_option maxRecDepth 100000 in
theorem ehead_c (s : ByteArray) (w : World) (hs : s.size ≤ 140737488351232) :
    Calls Try.prog 28 #[.string s] w fun e w' => e = .returned (.int .i64 (if num2 s 12 = 33024 then 18 else 14)) ∧ Below w.heap.size w w' := by
  have H1 := Lib.hid fun U => get_c s 12 2 U (by omega) (by omega) (by omega)
  have e1 : (getSpec s 12 2).1 = num2 s 12 := rfl
  rw [e1] at H1
  clear e1
  obtain ⟨q, hq⟩ : ∃ q, q = num2 s 12 := ⟨_, rfl⟩
  rw [← hq] at H1 ⊢
  clear hq
  by_cases h : q = 33024
  · rw [if_pos h]
    obtain ⟨t1, t2⟩ := eq_t h
    clear h
    go_enter Try.func28, Try.ntmps28
    go_wp2_with fail
    refine (H1.out _).mono ?_
    rintro e w1 ⟨rfl, h1⟩
    go_wp2_with fail
    go_ret
    exact ⟨rfl, h1⟩
  · rw [if_neg h]
    obtain ⟨t1, t2⟩ := ne_t h
    clear h
    go_enter Try.func28, Try.ntmps28
    go_wp2_with fail
    refine (H1.out _).mono ?_
    rintro e w1 ⟨rfl, h1⟩
    go_wp2_with fail
    go_ret
    exact ⟨rfl, h1⟩

theorem boxed2 {w w1 : World} {o p : Obj} (h1 : Below ((w.alloc o).alloc p).heap.size ((w.alloc o).alloc p) w1) : Below w.heap.size w w1 :=
  (((Below.refl _ w).alloc (Nat.le_refl _) o).alloc (by simp) p).trans (h1.mono (by simp; omega))
theorem below_set7 {B b : Nat} {w w1 : World} (h : Below B w w1) (hb : B ≤ b) (v0 v1 v2 v3 v4 v5 v6 : Value) :
    Below B w (((((((w1.setCell ⟨b, 0, none⟩ v0).setCell ⟨b, 1, none⟩ v1).setCell ⟨b, 2, none⟩ v2).setCell ⟨b, 3, none⟩ v3).setCell ⟨b, 4, none⟩ v4).setCell ⟨b, 5, none⟩ v5).setCell ⟨b, 6, none⟩ v6) :=
  ((((((h.setCell (p := ⟨b, 0, none⟩) hb v0).setCell (p := ⟨b, 1, none⟩) hb v1).setCell (p := ⟨b, 2, none⟩) hb v2).setCell (p := ⟨b, 3, none⟩) hb v3).setCell (p := ⟨b, 4, none⟩) hb v4).setCell (p := ⟨b, 5, none⟩) hb v5).setCell (p := ⟨b, 6, none⟩) hb v6

set_option maxHeartbeats 2000000 in
set_option maxRecDepth 100000 in
theorem edec_cut (s : ByteArray) (w : World) (hs : s.size ≤ 140737488351232) (h : (s.size : Int) < (if num2 s 12 = 33024 then 18 else 14)) :
    Calls Try.prog 12 #[.string s] w fun e w' => e = .returned (.tuple #[.agg #[.string ⟨#[]⟩, .string ⟨#[]⟩, .bool false, .int .i64 0, .int .i64 0, .int .i64 0, .string ⟨#[]⟩], .int .i64 2]) ∧ Below w.heap.size w w' := by
  have H1 := Lib.hid fun U => ehead_c s U hs
  obtain ⟨q, hq⟩ : ∃ q : Int, q = if num2 s 12 = 33024 then 18 else 14 := ⟨_, rfl⟩
  rw [← hq] at H1 h
  clear hq
  go_enter Try.func12, Try.ntmps12
  go_wp2_with fail
  refine (H1.out _).mono ?_
  rintro e w1 ⟨rfl, h1⟩
  obtain ⟨hc1, hf1⟩ := below_cells h1
  have g1 : w.heap.size + 1 < w1.heap.size := by have := h1.size; simp at this; omega
  go_wp2_with fail
  refine bodyPost_ret (v := .tuple #[.agg #[.string ⟨#[]⟩, .string ⟨#[]⟩, .bool false, .int .i64 0, .int .i64 0, .int .i64 0, .string ⟨#[]⟩], .int .i64 2]) (by simp [results, Try.results12, go_sem, hc1]) rfl ⟨rfl, ?_⟩
  exact below_set7 (boxed2 h1) (by omega) _ _ _ _ _ _ _

/-- What Decode answers: a frame, or that it has not the form. -/
def decR (ok : Bool) (f : Value) : Value :=
  match ok with
  | true => .tuple #[f, .int .i64 0]
  | false => .tuple #[.agg #[.string ⟨#[]⟩, .string ⟨#[]⟩, .bool false, .int .i64 0, .int .i64 0, .int .i64 0, .string ⟨#[]⟩], .int .i64 3]

set_option maxHeartbeats 2000000 in
set_option maxRecDepth 100000 in
theorem edec_plain (s : ByteArray) (w : World) (hs : s.size ≤ 140737488351232) (hm : num2 s 12 ≠ 33024) (hz : 14 ≤ s.size) :
    Calls Try.prog 12 #[.string s] w fun e w' => e = .returned (decR (okF (sub s 0 6) (sub s 6 6) false 0 0 (num2 s 12) (sub s 14 ((s.size : Int) - 14))) (.agg #[.string (sub s 0 6), .string (sub s 6 6), .bool false, .int .i64 0, .int .i64 0, .int .i64 (num2 s 12), .string (sub s 14 ((s.size : Int) - 14))])) ∧ Below w.heap.size w w' := by
  have H1 := Lib.hid fun U => ehead_c s U hs
  rw [if_neg hm] at H1
  have z3 := sub_size s 14 ((s.size : Int) - 14) (by omega) (by omega) (by omega)
  have HM := Lib.hid fun U => may_c (sub s 0 6) (sub s 6 6) false 0 0 (num2 s 12) (sub s 14 ((s.size : Int) - 14)) U (by omega)
  have P1 := Lib.hid fun (A : Nat) (U : World) (hA : U.cell? ⟨A, 0, none⟩ = some (.string s)) => epart_c s 0 6 A U hA hs (by omega) (by omega)
  have P2 := Lib.hid fun (A : Nat) (U : World) (hA : U.cell? ⟨A, 0, none⟩ = some (.string s)) => epart_c s 6 6 A U hA hs (by omega) (by omega)
  have P3 := Lib.hid fun (A : Nat) (U : World) (hA : U.cell? ⟨A, 0, none⟩ = some (.string s)) => epart_c s 14 ((s.size : Int) - 14) A U hA hs (by omega) (by omega)
  have N1 := Lib.hid fun (A : Nat) (U : World) (hA : U.cell? ⟨A, 0, none⟩ = some (.string s)) => enum_c s 12 A U hA hs (by omega) (by omega)
  obtain ⟨y, hy⟩ : ∃ y, y = num2 s 12 := ⟨_, rfl⟩
  obtain ⟨a, ha⟩ : ∃ a, a = sub s 0 6 := ⟨_, rfl⟩
  obtain ⟨b, hb⟩ : ∃ b, b = sub s 6 6 := ⟨_, rfl⟩
  obtain ⟨x, hx⟩ : ∃ x, x = sub s 14 ((s.size : Int) - 14) := ⟨_, rfl⟩
  rw [← hy, ← ha, ← hb, ← hx] at HM
  rw [← hy, ← ha, ← hb, ← hx]
  rw [← hy] at N1
  rw [← ha] at P1
  rw [← hb] at P2
  rw [← hx] at P3
  obtain ⟨ok, hok⟩ : ∃ ok, ok = okF a b false 0 0 y x := ⟨_, rfl⟩
  rw [← hok] at HM ⊢
  clear hy ha hb hx hm hok z3
  go_enter Try.func12, Try.ntmps12
  go_wp2_with fail
  refine (H1.out _).mono ?_
  rintro e w1 ⟨rfl, h1⟩
  obtain ⟨hc1, hf1⟩ := below_cells h1
  go_wp2_with fail
  have d1 : w1.cell? ⟨w.heap.size, 0, none⟩ = some (.string s) := by rw [hc1 _ _ (by simp; omega)]; simp
  clear hc1 hf1
  refine (P1.out _ _ d1).mono ?_
  rintro e w2 ⟨rfl, h2⟩
  have k2 := below_then h1 h2
  clear h1 h2 d1 w1
  obtain ⟨hc2, hf2⟩ := below_cells k2
  go_wp2_with fail
  have d2 : w2.cell? ⟨w.heap.size, 0, none⟩ = some (.string s) := by rw [hc2 _ _ (by simp; omega)]; simp
  clear hc2 hf2
  refine (P2.out _ _ d2).mono ?_
  rintro e w3 ⟨rfl, h3⟩
  have k3 := below_then k2 h3
  clear k2 h3 d2 w2
  obtain ⟨hc3, hf3⟩ := below_cells k3
  go_wp2_with fail
  have d3 : w3.cell? ⟨w.heap.size, 0, none⟩ = some (.string s) := by rw [hc3 _ _ (by simp; omega)]; simp
  clear hc3 hf3
  refine (N1.out _ _ d3).mono ?_
  rintro e w4 ⟨rfl, h4⟩
  have k4 := below_then k3 h4
  clear k3 h4 d3 w3
  obtain ⟨hc4, hf4⟩ := below_cells k4
  have g4 : w.heap.size + 1 < w4.heap.size := by have := k4.size; simp at this; omega
  have g4a : w.heap.size < w4.heap.size := by omega
  go_wp2_with fail
  have d4 : w4.cell? ⟨w.heap.size, 0, none⟩ = some (.string s) := by rw [hc4 _ _ (by simp; omega)]; simp
  refine (P3.out _ _ ((World.cell?_alloc_lt _ _ ⟨w.heap.size, 0, none⟩ g4a).trans d4)).mono ?_
  clear d4
  rintro e w5 ⟨rfl, h5⟩
  obtain ⟨hc5, hf5⟩ := below_cells h5
  have g5 : w4.heap.size < w5.heap.size := by have := h5.size; simp at this; omega
  go_wp2_with fail
  refine (HM.out _).mono ?_
  rintro e w6 ⟨rfl, h6⟩
  obtain ⟨hc6, hf6⟩ := below_cells h6
  have g6 : w.heap.size + 1 < w5.heap.size := by omega
  have k6 : Below w4.heap.size w4 w6 := (((Below.refl _ w4).alloc (Nat.le_refl _) _).trans (h5.mono (by simp))).setCell (p := ⟨w4.heap.size, 6, none⟩) (Nat.le_refl _) (.string x) |>.trans (h6.mono (by simp; omega))
  cases ok
  · go_wp2_with fail
    refine bodyPost_ret (v := .tuple #[.agg #[.string ⟨#[]⟩, .string ⟨#[]⟩, .bool false, .int .i64 0, .int .i64 0, .int .i64 0, .string ⟨#[]⟩], .int .i64 3]) (by simp [results, Try.results12, go_sem, hc6, hc5, hc4, g4, g6, g4a]) rfl ⟨rfl, ?_⟩
    exact below_set7 ((boxed2 k4).trans (k6.mono (by omega))) (by omega) _ _ _ _ _ _ _
  · go_wp2_with fail
    refine bodyPost_ret (v := .tuple #[.agg #[.string a, .string b, .bool false, .int .i64 0, .int .i64 0, .int .i64 y, .string x], .int .i64 0]) (by simp [results, Try.results12, go_sem, hc6, hc5, hc4, g4, g6, g4a]) rfl ⟨rfl, ?_⟩
    exact below_set7 ((boxed2 k4).trans (k6.mono (by omega))) (by omega) _ _ _ _ _ _ _

set_option maxHeartbeats 2000000 in
set_option maxRecDepth 100000 in
theorem edec_tagged (s : ByteArray) (w : World) (hs : s.size ≤ 140737488351232) (hm : num2 s 12 = 33024) (hz : 18 ≤ s.size) (hbit : num2 s 14 / 4096 % 2 = 0) :
    Calls Try.prog 12 #[.string s] w fun e w' => e = .returned (decR (okF (sub s 0 6) (sub s 6 6) true (num2 s 14 % 4096) (num2 s 14 / 8192) (num2 s 16) (sub s 18 ((s.size : Int) - 18))) (.agg #[.string (sub s 0 6), .string (sub s 6 6), .bool true, .int .i64 (num2 s 14 % 4096), .int .i64 (num2 s 14 / 8192), .int .i64 (num2 s 16), .string (sub s 18 ((s.size : Int) - 18))])) ∧ Below w.heap.size w w' := by
  have H1 := Lib.hid fun U => ehead_c s U hs
  rw [if_pos hm] at H1
  have z3 := sub_size s 18 ((s.size : Int) - 18) (by omega) (by omega) (by omega)
  have HM := Lib.hid fun U => may_c (sub s 0 6) (sub s 6 6) true (num2 s 14 % 4096) (num2 s 14 / 8192) (num2 s 16) (sub s 18 ((s.size : Int) - 18)) U (by omega)
  have P1 := Lib.hid fun (A : Nat) (U : World) (hA : U.cell? ⟨A, 0, none⟩ = some (.string s)) => epart_c s 0 6 A U hA hs (by omega) (by omega)
  have P2 := Lib.hid fun (A : Nat) (U : World) (hA : U.cell? ⟨A, 0, none⟩ = some (.string s)) => epart_c s 6 6 A U hA hs (by omega) (by omega)
  have P3 := Lib.hid fun (A : Nat) (U : World) (hA : U.cell? ⟨A, 0, none⟩ = some (.string s)) => epart_c s 18 ((s.size : Int) - 18) A U hA hs (by omega) (by omega)
  have N1 := Lib.hid fun (A : Nat) (U : World) (hA : U.cell? ⟨A, 0, none⟩ = some (.string s)) => enum_c s 16 A U hA hs (by omega) (by omega)
  have N2 := Lib.hid fun (A : Nat) (U : World) (hA : U.cell? ⟨A, 0, none⟩ = some (.string s)) => enum_c s 14 A U hA hs (by omega) (by omega)
  obtain ⟨q0, q1⟩ := num2_le s 14
  obtain ⟨q, hq⟩ : ∃ q, q = num2 s 14 := ⟨_, rfl⟩
  obtain ⟨y, hy⟩ : ∃ y, y = num2 s 16 := ⟨_, rfl⟩
  obtain ⟨a, ha⟩ : ∃ a, a = sub s 0 6 := ⟨_, rfl⟩
  obtain ⟨b, hb⟩ : ∃ b, b = sub s 6 6 := ⟨_, rfl⟩
  obtain ⟨x, hx⟩ : ∃ x, x = sub s 18 ((s.size : Int) - 18) := ⟨_, rfl⟩
  rw [← hy, ← ha, ← hb, ← hx, ← hq] at HM
  rw [← hy, ← ha, ← hb, ← hx, ← hq]
  rw [← hy] at N1
  rw [← hq] at N2 q0 q1 hbit
  rw [← ha] at P1
  rw [← hb] at P2
  rw [← hx] at P3
  obtain ⟨ok, hok⟩ : ∃ ok, ok = okF a b true (q % 4096) (q / 8192) y x := ⟨_, rfl⟩
  rw [← hok] at HM ⊢
  have b1 : bits .and .i64 q 4096 = 0 := by
    have := i64_bit q 12 q0 (by omega) (by omega)
    rw [show ((2 ^ 12 : Nat) : Int) = 4096 from rfl, hbit, Int.zero_mul] at this
    exact this
  have b2 : bits .and .i64 q 4095 = q % 4096 := i64_mask q 12 q0 (by omega) (by omega)
  clear hy ha hb hx hm hok z3 hq hbit
  go_enter Try.func12, Try.ntmps12
  go_wp2_with fail
  refine (H1.out _).mono ?_
  rintro e w1 ⟨rfl, h1⟩
  obtain ⟨hc1, hf1⟩ := below_cells h1
  go_wp2_with fail
  have d1 : w1.cell? ⟨w.heap.size, 0, none⟩ = some (.string s) := by rw [hc1 _ _ (by simp; omega)]; simp
  clear hc1 hf1
  refine (P1.out _ _ d1).mono ?_
  rintro e w2 ⟨rfl, h2⟩
  have k2 := below_then h1 h2
  clear h1 h2 d1 w1
  obtain ⟨hc2, hf2⟩ := below_cells k2
  go_wp2_with fail
  have d2 : w2.cell? ⟨w.heap.size, 0, none⟩ = some (.string s) := by rw [hc2 _ _ (by simp; omega)]; simp
  clear hc2 hf2
  refine (P2.out _ _ d2).mono ?_
  rintro e w3 ⟨rfl, h3⟩
  have k3 := below_then k2 h3
  clear k2 h3 d2 w2
  obtain ⟨hc3, hf3⟩ := below_cells k3
  go_wp2_with fail
  have d3 : w3.cell? ⟨w.heap.size, 0, none⟩ = some (.string s) := by rw [hc3 _ _ (by simp; omega)]; simp
  clear hc3 hf3
  refine (N1.out _ _ d3).mono ?_
  rintro e w4 ⟨rfl, h4⟩
  have k4 := below_then k3 h4
  clear k3 h4 d3 w3
  obtain ⟨hc4, hf4⟩ := below_cells k4
  have g4 : w.heap.size + 1 < w4.heap.size := by have := k4.size; simp at this; omega
  have g4a : w.heap.size < w4.heap.size := by omega
  go_wp2_with fail
  have d4 : w4.cell? ⟨w.heap.size, 0, none⟩ = some (.string s) := by rw [hc4 _ _ (by simp; omega)]; simp
  refine (N2.out _ _ ((World.cell?_alloc_lt _ _ ⟨w.heap.size, 0, none⟩ g4a).trans d4)).mono ?_
  rintro e w5 ⟨rfl, h5⟩
  obtain ⟨hc5, hf5⟩ := below_cells h5
  have g5 : w4.heap.size < w5.heap.size := by have := h5.size; simp at this; omega
  have d5 : w5.cell? ⟨w.heap.size, 0, none⟩ = some (.string s) := by rw [hc5 _ _ (by simp; omega), World.cell?_alloc_lt _ _ ⟨w.heap.size, 0, none⟩ g4a]; exact d4
  clear d4
  have D5 := Lib.hid d5
  clear d5
  go_wp2_with fail
  refine (P3.out _ _ (cell_far (cell_far (cell_far D5.out (by omega)) (by omega)) (by omega))).mono ?_
  clear D5
  rintro e w6 ⟨rfl, h6⟩
  obtain ⟨hc6, hf6⟩ := below_cells h6
  have g6 : w.heap.size + 1 < w5.heap.size := by omega
  have g6a : w5.heap.size ≤ w6.heap.size := by have := h6.size; simp at this; omega
  have g6b : w4.heap.size < w6.heap.size := by omega
  go_wp2_with fail
  refine (HM.out _).mono ?_
  rintro e w7 ⟨rfl, h7⟩
  obtain ⟨hc7, hf7⟩ := below_cells h7
  have g7 : w.heap.size + 1 < w6.heap.size := by omega
  have k7 : Below w4.heap.size w4 w7 := by
    have a1 := ((Below.refl _ w4).alloc (Nat.le_refl _) _).trans (h5.mono (by simp))
    have a2 := ((a1.setCell (p := ⟨w4.heap.size, 2, none⟩) (Nat.le_refl _) (.bool true)).setCell (p := ⟨w4.heap.size, 4, none⟩) (Nat.le_refl _) (.int .i64 (q / 8192))).setCell (p := ⟨w4.heap.size, 3, none⟩) (Nat.le_refl _) (.int .i64 (q % 4096))
    have a3 := (a2.trans (h6.mono (by simp; omega))).setCell (p := ⟨w4.heap.size, 6, none⟩) (Nat.le_refl _) (.string x)
    exact a3.trans (h7.mono (by simp; omega))
  cases ok
  · go_wp2_with fail
    refine bodyPost_ret (v := .tuple #[.agg #[.string ⟨#[]⟩, .string ⟨#[]⟩, .bool false, .int .i64 0, .int .i64 0, .int .i64 0, .string ⟨#[]⟩], .int .i64 3]) (by simp [results, Try.results12, go_sem, hc7, hc6, hc5, hc4, g4, g6, g7, g4a]) rfl ⟨rfl, ?_⟩
    exact below_set7 ((boxed2 k4).trans (k7.mono (by omega))) (by omega) _ _ _ _ _ _ _
  · go_wp2_with fail
    refine bodyPost_ret (v := .tuple #[.agg #[.string a, .string b, .bool true, .int .i64 (q % 4096), .int .i64 (q / 8192), .int .i64 y, .string x], .int .i64 0]) (by simp [results, Try.results12, go_sem, hc7, hc6, hc5, hc4, g4, g6, g7, g4a]) rfl ⟨rfl, ?_⟩
    exact below_set7 ((boxed2 k4).trans (k7.mono (by omega))) (by omega) _ _ _ _ _ _ _

set_option maxHeartbeats 2000000 in
set_option maxRecDepth 100000 in
theorem edec_bit (s : ByteArray) (w : World) (hs : s.size ≤ 140737488351232) (hm : num2 s 12 = 33024) (hz : 18 ≤ s.size) (hbit : num2 s 14 / 4096 % 2 = 1) :
    Calls Try.prog 12 #[.string s] w fun e w' => e = .returned (.tuple #[.agg #[.string ⟨#[]⟩, .string ⟨#[]⟩, .bool false, .int .i64 0, .int .i64 0, .int .i64 0, .string ⟨#[]⟩], .int .i64 3]) ∧ Below w.heap.size w w' := by
  have H1 := Lib.hid fun U => ehead_c s U hs
  rw [if_pos hm] at H1
  have P1 := Lib.hid fun (A : Nat) (U : World) (hA : U.cell? ⟨A, 0, none⟩ = some (.string s)) => epart_c s 0 6 A U hA hs (by omega) (by omega)
  have P2 := Lib.hid fun (A : Nat) (U : World) (hA : U.cell? ⟨A, 0, none⟩ = some (.string s)) => epart_c s 6 6 A U hA hs (by omega) (by omega)
  have N1 := Lib.hid fun (A : Nat) (U : World) (hA : U.cell? ⟨A, 0, none⟩ = some (.string s)) => enum_c s 16 A U hA hs (by omega) (by omega)
  have N2 := Lib.hid fun (A : Nat) (U : World) (hA : U.cell? ⟨A, 0, none⟩ = some (.string s)) => enum_c s 14 A U hA hs (by omega) (by omega)
  obtain ⟨q0, q1⟩ := num2_le s 14
  obtain ⟨q, hq⟩ : ∃ q, q = num2 s 14 := ⟨_, rfl⟩
  obtain ⟨y, hy⟩ : ∃ y, y = num2 s 16 := ⟨_, rfl⟩
  obtain ⟨a, ha⟩ : ∃ a, a = sub s 0 6 := ⟨_, rfl⟩
  obtain ⟨b, hb⟩ : ∃ b, b = sub s 6 6 := ⟨_, rfl⟩
  rw [← hy] at N1
  rw [← hq] at N2 q0 q1 hbit
  rw [← ha] at P1
  rw [← hb] at P2
  have b1 : bits .and .i64 q 4096 = 4096 := by
    have := i64_bit q 12 q0 (by omega) (by omega)
    rw [show ((2 ^ 12 : Nat) : Int) = 4096 from rfl, hbit, Int.one_mul] at this
    exact this
  clear hy ha hb hm hq hbit
  go_enter Try.func12, Try.ntmps12
  go_wp2_with fail
  refine (H1.out _).mono ?_
  rintro e w1 ⟨rfl, h1⟩
  obtain ⟨hc1, hf1⟩ := below_cells h1
  go_wp2_with fail
  have d1 : w1.cell? ⟨w.heap.size, 0, none⟩ = some (.string s) := by rw [hc1 _ _ (by simp; omega)]; simp
  clear hc1 hf1
  refine (P1.out _ _ d1).mono ?_
  rintro e w2 ⟨rfl, h2⟩
  have k2 := below_then h1 h2
  clear h1 h2 d1 w1
  obtain ⟨hc2, hf2⟩ := below_cells k2
  go_wp2_with fail
  have d2 : w2.cell? ⟨w.heap.size, 0, none⟩ = some (.string s) := by rw [hc2 _ _ (by simp; omega)]; simp
  clear hc2 hf2
  refine (P2.out _ _ d2).mono ?_
  rintro e w3 ⟨rfl, h3⟩
  have k3 := below_then k2 h3
  clear k2 h3 d2 w2
  obtain ⟨hc3, hf3⟩ := below_cells k3
  go_wp2_with fail
  have d3 : w3.cell? ⟨w.heap.size, 0, none⟩ = some (.string s) := by rw [hc3 _ _ (by simp; omega)]; simp
  clear hc3 hf3
  refine (N1.out _ _ d3).mono ?_
  rintro e w4 ⟨rfl, h4⟩
  have k4 := below_then k3 h4
  clear k3 h4 d3 w3
  obtain ⟨hc4, hf4⟩ := below_cells k4
  have g4 : w.heap.size + 1 < w4.heap.size := by have := k4.size; simp at this; omega
  have g4a : w.heap.size < w4.heap.size := by omega
  go_wp2_with fail
  have d4 : w4.cell? ⟨w.heap.size, 0, none⟩ = some (.string s) := by rw [hc4 _ _ (by simp; omega)]; simp
  refine (N2.out _ _ ((World.cell?_alloc_lt _ _ ⟨w.heap.size, 0, none⟩ g4a).trans d4)).mono ?_
  clear d4
  rintro e w5 ⟨rfl, h5⟩
  obtain ⟨hc5, hf5⟩ := below_cells h5
  have g5 : w.heap.size + 1 < w5.heap.size := by have := h5.size; simp at this; omega
  have k5 : Below w4.heap.size w4 w5 := ((Below.refl _ w4).alloc (Nat.le_refl _) _).trans (h5.mono (by simp))
  go_wp2_with fail
  refine bodyPost_ret (v := .tuple #[.agg #[.string ⟨#[]⟩, .string ⟨#[]⟩, .bool false, .int .i64 0, .int .i64 0, .int .i64 0, .string ⟨#[]⟩], .int .i64 3]) (by simp [results, Try.results12, go_sem, hc5, hc4, g4, g4a]) rfl ⟨rfl, ?_⟩
  exact below_set7 ((boxed2 k4).trans (k5.mono (by omega))) (by omega) _ _ _ _ _ _ _

/-- The frame of any bytes, or why there is none. -/
structure Frm where
  (d s : ByteArray) (t : Bool) (v p y : Int) (x : ByteArray)
def Frm.zero : Frm := ⟨⟨#[]⟩, ⟨#[]⟩, false, 0, 0, 0, ⟨#[]⟩⟩
def Frm.val (f : Frm) : Value := .agg #[.string f.d, .string f.s, .bool f.t, .int .i64 f.v, .int .i64 f.p, .int .i64 f.y, .string f.x]

/-- What stands in bytes that are long enough. -/
def readF (s : ByteArray) : Frm :=
  if num2 s 12 = 33024 then ⟨sub s 0 6, sub s 6 6, true, num2 s 14 % 4096, num2 s 14 / 8192, num2 s 16, sub s 18 ((s.size : Int) - 18)⟩
  else ⟨sub s 0 6, sub s 6 6, false, 0, 0, num2 s 12, sub s 14 ((s.size : Int) - 14)⟩

def decF (s : ByteArray) : Frm × Int :=
  if (s.size : Int) < (if num2 s 12 = 33024 then 18 else 14) then (.zero, 2)
  else if num2 s 12 = 33024 ∧ num2 s 14 / 4096 % 2 = 1 then (.zero, 3)
  else if okF (readF s).d (readF s).s (readF s).t (readF s).v (readF s).p (readF s).y (readF s).x = true then (readF s, 0) else (.zero, 3)

theorem decR_eq (ok : Bool) (f : Frm) : decR ok f.val = .tuple #[(if ok = true then (f, (0 : Int)) else (.zero, 3)).1.val, .int .i64 (if ok = true then (f, (0 : Int)) else (.zero, 3)).2] := by
  cases ok <;> rfl

theorem edec_c (s : ByteArray) (w : World) (hs : s.size ≤ 140737488351232) :
    Calls Try.prog 12 #[.string s] w fun e w' => e = .returned (.tuple #[(decF s).1.val, .int .i64 (decF s).2]) ∧ Below w.heap.size w w' := by
  unfold decF
  by_cases h : (s.size : Int) < (if num2 s 12 = 33024 then 18 else 14)
  · rw [if_pos h]
    exact edec_cut s w hs h
  · rw [if_neg h]
    by_cases hm : num2 s 12 = 33024
    · rw [if_pos hm] at h
      by_cases hb : num2 s 14 / 4096 % 2 = 1
      · rw [if_pos ⟨hm, hb⟩]
        exact edec_bit s w hs hm (by omega) hb
      · rw [if_neg (fun g => hb g.2)]
        have hr : readF s = ⟨sub s 0 6, sub s 6 6, true, num2 s 14 % 4096, num2 s 14 / 8192, num2 s 16, sub s 18 ((s.size : Int) - 18)⟩ := if_pos hm
        rw [← decR_eq, hr]
        exact edec_tagged s w hs hm (by omega) (by omega)
    · rw [if_neg hm] at h
      rw [if_neg (fun g => hm g.1)]
      have hr : readF s = ⟨sub s 0 6, sub s 6 6, false, 0, 0, num2 s 12, sub s 14 ((s.size : Int) - 14)⟩ := if_neg hm
      rw [← decR_eq, hr]
      exact edec_plain s w hs hm (by omega)

end Go.Proofs.Ytolgakgimcbkpaa
