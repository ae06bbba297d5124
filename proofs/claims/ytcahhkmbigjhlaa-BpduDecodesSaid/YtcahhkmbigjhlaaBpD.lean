/-
  The message of any bytes, the document's answer: siphonref06.Decode.
-/
import Derived.Test.YtcahhkmbigjhlaaBpS
import Derived.Test.YtcahhkmbigjhlaaRAt
import Derived.Test.YtcahhkmbigjhlaaRefW
import Derived.StillTailTactics
namespace Go.Proofs.Ytcahhkmbigjhlaa
open Go.RowKit
set_option linter.unusedVariables false
set_option linter.unusedSimpArgs false

/-- The empty answer in its box, the vector behind it. -/
def BoxD (w0 : World) (P : Nat) (r c b p : Int) (w : World) : Prop :=
  w.heap[P]? = some (.cells #[.int .u64 0, .int .i64 0, .int .u64 0, .int .i64 0, .int .i64 0, .bool false, .bool false, .bool false] 26 (0, 0)) ∧ w.heap[P + 1]? = some (.cells #[.int .u64 r, .int .i64 c, .int .u64 b, .int .i64 p] 24 (0, 0)) ∧ Below P w0 w
theorem BoxD.cells {w0 w : World} {P : Nat} {r c b p : Int} (h : BoxD w0 P r c b p w) :
    w.cell? ⟨P + 1, 0, none⟩ = some (.int .u64 r) ∧ w.cell? ⟨P + 1, 1, none⟩ = some (.int .i64 c) ∧ w.cell? ⟨P + 1, 2, none⟩ = some (.int .u64 b) ∧ w.cell? ⟨P + 1, 3, none⟩ = some (.int .i64 p) ∧ w.cell? ⟨P, 0, none⟩ = some (.int .u64 0) ∧ w.cell? ⟨P, 1, none⟩ = some (.int .i64 0) ∧ w.cell? ⟨P, 2, none⟩ = some (.int .u64 0) ∧ w.cell? ⟨P, 3, none⟩ = some (.int .i64 0) ∧ w.cell? ⟨P, 4, none⟩ = some (.int .i64 0) ∧ w.cell? ⟨P, 5, none⟩ = some (.bool false) ∧ w.cell? ⟨P, 6, none⟩ = some (.bool false) ∧ w.cell? ⟨P, 7, none⟩ = some (.bool false) ∧ ∀ o, w.frozen? ⟨P, o, none⟩ = false :=
  ⟨cell_of_block h.2.1 rfl, cell_of_block h.2.1 rfl, cell_of_block h.2.1 rfl, cell_of_block h.2.1 rfl, cell_of_block h.1 rfl, cell_of_block h.1 rfl, cell_of_block h.1 rfl, cell_of_block h.1 rfl, cell_of_block h.1 rfl, cell_of_block h.1 rfl, cell_of_block h.1 rfl, cell_of_block h.1 rfl, fun o => free_of_block h.1⟩
theorem below_put8d {B b : Nat} {w w1 : World} (h : Below B w w1) (hb : B ≤ b) (v0 v1 v2 v3 v4 v5 v6 v7 : Value) :
    Below B w ((((((((w1.setCell ⟨b, 0, none⟩ v0).setCell ⟨b, 1, none⟩ v1).setCell ⟨b, 2, none⟩ v2).setCell ⟨b, 3, none⟩ v3).setCell ⟨b, 4, none⟩ v4).setCell ⟨b, 5, none⟩ v5).setCell ⟨b, 6, none⟩ v6).setCell ⟨b, 7, none⟩ v7) :=
  (((((((h.setCell (p := ⟨b, 0, none⟩) hb v0).setCell (p := ⟨b, 1, none⟩) hb v1).setCell (p := ⟨b, 2, none⟩) hb v2).setCell (p := ⟨b, 3, none⟩) hb v3).setCell (p := ⟨b, 4, none⟩) hb v4).setCell (p := ⟨b, 5, none⟩) hb v5).setCell (p := ⟨b, 6, none⟩) hb v6).setCell (p := ⟨b, 7, none⟩) hb v7

theorem rwide_v (s : ByteArray) (a : Int) (w : World) (hs : s.size ≤ 9223372036854775807) (ha : -9223372036854775808 ≤ a) (h2 : a ≤ 9223372036854775807) (h : (wideSpec s a).2 = 0) :
    Calls Try.prog 20 #[.string s, .int .i64 a] w fun e w' => e = .returned (.tuple #[.int .u64 (widv s a), .int .i64 0]) ∧ w = w' := by
  have H := rwide_c s a w hs ha h2
  rw [h] at H
  exact H

set_option maxHeartbeats 1000000 in
set_option maxRecDepth 100000 in
theorem rdecB_short (s : ByteArray) (w : World) (hs : s.size ≤ 140737488500000) (hz : s.size < 39) :
    Calls Try.prog 10 #[.string s] w fun e w' => e = .returned (.tuple #[BpV.zero.val, .int .i64 2]) ∧ Below w.heap.size w w' := by
  go_enter Try.func10, Try.ntmps10
  go_wp2_with fail
  refine bodyPost_ret (v := .tuple #[BpV.zero.val, .int .i64 2]) (by simp [results, Try.results10, go_sem, BpV.zero, BpV.val]) rfl ⟨rfl, ?_⟩
  exact (Below.refl _ w).alloc (Nat.le_refl _) _

set_option maxHeartbeats 1000000 in
set_option maxRecDepth 100000 in
theorem rdecB_bad (s : ByteArray) (w : World) (hs : s.size ≤ 140737488500000) (hz : 39 ≤ s.size) (hp : (s.extract 0 7).toList ≠ frontB ∨ s[31].toNat ≠ 0 ∨ s[38].toNat ≠ 0) :
    Calls Try.prog 10 #[.string s] w fun e w' => e = .returned (.tuple #[BpV.zero.val, .int .i64 3]) ∧ Below w.heap.size w w' := by
  have u0 : (39 : Int) ≤ (s.size : Int) := by omega
  have u1 : (31 : Int) < (s.size : Int) := by omega
  have u2 : (38 : Int) < (s.size : Int) := by omega
  by_cases c1 : (s.extract 0 7).toList = frontB
  · have t0 : ((s.extract 0 7).toList == [66, 66, 3, 0, 0, 2, 2]) = true := beq_iff_eq.2 c1
    by_cases c2 : s[31].toNat = 0
    · obtain ⟨t1, t2⟩ := eq_t (show (s[31].toNat : Int) = 0 by omega)
      obtain ⟨t3, t4⟩ := ne_t (show (s[38].toNat : Int) ≠ 0 by rcases hp with h | h | h; exact absurd c1 h; exact absurd c2 h; omega)
      clear hp c1 c2
      go_enter Try.func10, Try.ntmps10
      go_wp2_with fail
      refine bodyPost_ret (v := .tuple #[BpV.zero.val, .int .i64 3]) (by simp [results, Try.results10, go_sem, BpV.zero, BpV.val]) rfl ⟨rfl, ?_⟩
      exact (Below.refl _ w).alloc (Nat.le_refl _) _
    · obtain ⟨t1, t2⟩ := ne_t (show (s[31].toNat : Int) ≠ 0 by omega)
      clear hp c1 c2
      go_enter Try.func10, Try.ntmps10
      go_wp2_with fail
      refine bodyPost_ret (v := .tuple #[BpV.zero.val, .int .i64 3]) (by simp [results, Try.results10, go_sem, BpV.zero, BpV.val]) rfl ⟨rfl, ?_⟩
      exact (Below.refl _ w).alloc (Nat.le_refl _) _
  · have t0 : ((s.extract 0 7).toList == [66, 66, 3, 0, 0, 2, 2]) = false := by
      rw [beq_eq_false_iff_ne]; exact c1
    clear hp c1
    go_enter Try.func10, Try.ntmps10
    go_wp2_with fail
    refine bodyPost_ret (v := .tuple #[BpV.zero.val, .int .i64 3]) (by simp [results, Try.results10, go_sem, BpV.zero, BpV.val]) rfl ⟨rfl, ?_⟩
    exact (Below.refl _ w).alloc (Nat.le_refl _) _

set_option maxHeartbeats 6000000 in
set_option maxRecDepth 100000 in
theorem rdecB_ok (s : ByteArray) (w : World) (hs : s.size ≤ 140737488500000) (hz : 39 ≤ s.size) (hp : (s.extract 0 7).toList = frontB) (h1 : s[31].toNat = 0) (h2 : s[38].toNat = 0) :
    Calls Try.prog 10 #[.string s] w fun e w' => e = .returned (.tuple #[.agg #[.int .u64 (widv s 8), .int .i64 (numv s 16 4), .int .u64 (widv s 20), .int .i64 (numv s 28 2), .int .i64 (s[30].toNat : Int), .bool ((s[7].toNat : Int) % 2 == 1), .bool ((s[7].toNat : Int) / 16 % 2 == 1), .bool ((s[7].toNat : Int) / 32 % 2 == 1)], .int .i64 0]) ∧ Below w.heap.size w w' := by
  have u0 : (39 : Int) ≤ (s.size : Int) := by omega
  have u1 : (31 : Int) < (s.size : Int) := by omega
  have u2 : (38 : Int) < (s.size : Int) := by omega
  have u3 : (7 : Int) < (s.size : Int) := by omega
  have u4 : (30 : Int) < (s.size : Int) := by omega
  have t0 : ((s.extract 0 7).toList == [66, 66, 3, 0, 0, 2, 2]) = true := beq_iff_eq.2 hp
  obtain ⟨t1, t2⟩ := eq_t (show (s[31].toNat : Int) = 0 by omega)
  obtain ⟨t3, t4⟩ := eq_t (show (s[38].toNat : Int) = 0 by omega)
  have W8 := Lib.hid fun U => rwide_v s 8 U (by omega) (by omega) (by omega) (by unfold wideSpec; rw [if_neg (by omega), if_neg (by omega)])
  have W20 := Lib.hid fun U => rwide_v s 20 U (by omega) (by omega) (by omega) (by unfold wideSpec; rw [if_neg (by omega), if_neg (by omega)])
  have A16 := Lib.hid fun U => vat_c s 16 4 U (by omega) (by omega) (by omega)
  have A28 := Lib.hid fun U => vat_c s 28 2 U (by omega) (by omega) (by omega)
  obtain ⟨r, hr⟩ : ∃ v, v = widv s 8 := ⟨_, rfl⟩
  rw [← hr] at W8 ⊢
  obtain ⟨c, hc⟩ : ∃ v, v = numv s 16 4 := ⟨_, rfl⟩
  rw [← hc] at A16 ⊢
  obtain ⟨b, hb⟩ : ∃ v, v = widv s 20 := ⟨_, rfl⟩
  rw [← hb] at W20 ⊢
  obtain ⟨p, hpp⟩ : ∃ v, v = numv s 28 2 := ⟨_, rfl⟩
  rw [← hpp] at A28 ⊢
  clear hr hc hb hpp hp h1 h2
  go_enter Try.func10, Try.ntmps10
  go_wp2_with fail
  refine (W8.out _).mono ?_
  rintro e w1 ⟨rfl, rfl⟩
  go_wp2_with fail
  refine (W20.out _).mono ?_
  rintro e w1 ⟨rfl, rfl⟩
  go_wp2_with fail
  refine (A16.out _).mono ?_
  rintro e w1 ⟨rfl, rfl⟩
  go_wp2_with fail
  refine (A28.out _).mono ?_
  rintro e w1 ⟨rfl, rfl⟩
  go_wp2_with fail
  have D : BoxD w w.heap.size r c b p ((w.alloc (.cells #[.int .u64 0, .int .i64 0, .int .u64 0, .int .i64 0, .int .i64 0, .bool false, .bool false, .bool false] 26)).alloc (.cells #[.int .u64 r, .int .i64 c, .int .u64 b, .int .i64 p] 24)) := by
    refine ⟨heap_old (heap_new _ _), ?_, ((Below.refl _ w).alloc (Nat.le_refl _) _).alloc (by simp) _⟩
    simpa using heap_new (w.alloc (.cells #[.int .u64 0, .int .i64 0, .int .u64 0, .int .i64 0, .int .i64 0, .bool false, .bool false, .bool false] 26)) (.cells #[.int .u64 r, .int .i64 c, .int .u64 b, .int .i64 p] 24)
  generalize ((w.alloc (.cells #[.int .u64 0, .int .i64 0, .int .u64 0, .int .i64 0, .int .i64 0, .bool false, .bool false, .bool false] 26)).alloc (.cells #[.int .u64 r, .int .i64 c, .int .u64 b, .int .i64 p] 24)) = W at D ⊢
  have HD := Lib.hid D
  obtain ⟨v0, v1, v2, v3, d0, d1, d2, d3, d4, d5, d6, d7, df⟩ := D.cells
  clear D
  go_still_tail 16, (by kernel_rfl)
  change wpList _ _ _ _ _ W.drew
  have D2 : BoxD w w.heap.size r c b p W.drew := ⟨HD.out.1, HD.out.2.1, HD.out.2.2.drew⟩
  clear v0 v1 v2 v3 d0 d1 d2 d3 d4 d5 d6 d7 df HD
  generalize W.drew = W2 at D2 ⊢
  have HD := Lib.hid D2
  obtain ⟨v0, v1, v2, v3, d0, d1, d2, d3, d4, d5, d6, d7, df⟩ := D2.cells
  clear D2
  have f8 : s[7].toNat < 256 := s[7].toNat_lt
  have f0 : wrap64 (s[7].toNat : Int) = (s[7].toNat : Int) := wrap_b _
  have e1 : ((s[7].toNat : Int).tmod 2 == 1) = ((s[7].toNat : Int) % 2 == 1) := by rw [Int.tmod_eq_emod_of_nonneg (by omega)]
  have e2 : ((IntKind.i64.wrap ((s[7].toNat : Int).tdiv 16)).tmod 2 == 1) = ((s[7].toNat : Int) / 16 % 2 == 1) := by
    rw [Int.tdiv_eq_ediv_of_nonneg (by omega), IntWalk.i64_in _ (by omega), Int.tmod_eq_emod_of_nonneg (by omega)]
  have e3 : ((IntKind.i64.wrap ((s[7].toNat : Int).tdiv 32)).tmod 2 == 1) = ((s[7].toNat : Int) / 32 % 2 == 1) := by
    rw [Int.tdiv_eq_ediv_of_nonneg (by omega), IntWalk.i64_in _ (by omega), Int.tmod_eq_emod_of_nonneg (by omega)]
  have e4 : IntKind.i64.wrap (s[30].toNat : Int) = (s[30].toNat : Int) := IntWalk.i64_in _ (by have := s[30].toNat_lt; omega)
  rw [f0, e1, e2, e3, e4]
  generalize hz1 : ((s[7].toNat : Int) % 2 == 1) = z1
  generalize hz2 : ((s[7].toNat : Int) / 16 % 2 == 1) = z2
  generalize hz3 : ((s[7].toNat : Int) / 32 % 2 == 1) = z3
  generalize hx : (s[30].toNat : Int) = x30
  generalize (IntKind.i64.wrap ((s[7].toNat : Int).tdiv 32)).tmod 2 = y3
  generalize (IntKind.i64.wrap ((s[7].toNat : Int).tdiv 16)).tmod 2 = y2
  generalize IntKind.i64.wrap ((s[7].toNat : Int).tdiv 32) = y5
  generalize IntKind.i64.wrap ((s[7].toNat : Int).tdiv 16) = y4
  generalize (s[7].toNat : Int).tmod 2 = y1
  have HZ1 := Lib.hid hz1
  have HZ2 := Lib.hid hz2
  have HZ3 := Lib.hid hz3
  have HX := Lib.hid hx
  clear f0 e1 e2 e3 e4 f8 hz1 hz2 hz3 hx
  go_wp2_with fail
  all_goals
    refine bodyPost_ret (v := .tuple #[.agg #[.int .u64 r, .int .i64 c, .int .u64 b, .int .i64 p, .int .i64 x30, .bool z1, .bool z2, .bool z3], .int .i64 0]) (by simp [results, Try.results10, go_sem, d0, d1, d2, d3, d4, d5, d6, d7]) rfl ⟨by rw [← HZ1.out, ← HZ2.out, ← HZ3.out, ← HX.out], ?_⟩
    exact below_put8d HD.out.2.2 (Nat.le_refl _) _ _ _ _ _ _ _ _

theorem rdecB_c (s : ByteArray) (w : World) (hs : s.size ≤ 140737488500000) :
    Calls Try.prog 10 #[.string s] w fun e w' => e = .returned (.tuple #[(decB s).1.val, .int .i64 (decB s).2]) ∧ Below w.heap.size w w' := by
  unfold decB
  by_cases c1 : s.size < 39
  · rw [if_pos c1]
    exact rdecB_short s w hs c1
  · rw [if_neg c1]
    have n31 : numv s 31 1 = (s[31].toNat : Int) := numv_byte s 31 (by omega)
    have n38 : numv s 38 1 = (s[38].toNat : Int) := numv_byte s 38 (by omega)
    have n30 : numv s 30 1 = (s[30].toNat : Int) := numv_byte s 30 (by omega)
    have n7 : numv s 7 1 = (s[7].toNat : Int) := numv_byte s 7 (by omega)
    rw [n31, n38, n30, n7]
    by_cases c2 : (s.extract 0 7).toList ≠ frontB ∨ (s[31].toNat : Int) ≠ 0 ∨ (s[38].toNat : Int) ≠ 0
    · rw [if_pos c2]
      exact rdecB_bad s w hs (by omega) (by rcases c2 with h | h | h; exact .inl h; exact .inr (.inl (by omega)); exact .inr (.inr (by omega)))
    · rw [if_neg c2]
      have e1 : (s.extract 0 7).toList = frontB := Decidable.byContradiction fun h => c2 (.inl h)
      exact rdecB_ok s w hs (by omega) e1 (by omega) (by omega)

end Go.Proofs.Ytcahhkmbigjhlaa
