/-
  What the document's answers for layer 1 (siphonref01) are, third part: Eight, Wide, Cut.
-/
import Derived.Test.YtcahhkmbigjhlaaRefB
import Derived.Test.YtcahhkmbigjhlaaRefA
import Derived.Test.YtcahhkmbigjhlaaOctW
namespace Go.Proofs.Ytcahhkmbigjhlaa
open Go.RowKit

set_option maxHeartbeats 1000000 in
set_option maxRecDepth 100000 in
theorem reight_c (n : Int) (w : World) (hn1 : 0 ≤ n) (hn2 : n ≤ 18446744073709551615) :
    Calls Try.prog 31 #[.int .u64 n] w fun e w' => e = .returned (.string ⟨(bytesOf n.toNat 8).toArray⟩) ∧ Below w.heap.size w w' := by
  obtain ⟨N, rfl⟩ := Int.eq_ofNat_of_zero_le hn1
  obtain ⟨i0, hi, hz0, hz1, hz2⟩ := info_parts info_u8
  have hmk : ∀ U : World, (Instr.makeSlice 36 (.int .i64 8) (.int .i64 8)).run Try.prog U = .ok (.slice (some ⟨U.heap.size, 0, none⟩) 8 8) (U.alloc (.cells (byteRow (partR N 8 8)) 5)) := fun U => by
    have h := run_make (P := Try.prog) U 36 5 i0 (.int .u8 0) Try.underlying36 hi hz0 .i64 .i64 8 8 (by omega) (Int.le_refl _) (by rw [hz2]; omega) (by omega)
    rw [hz1, madeCells_bytes] at h
    exact h
  rw [Int.toNat_natCast]
  go_enter Try.func31, Try.ntmps31
  go_wp2
  go_loopw [0, 4] (fun n i wr => ∃ j : Nat, j ≤ 8 ∧ i = .int .i64 ((j : Int) - 1) ∧ n = .int .u64 ((N / 256 ^ (8 - j) : Nat) : Int) ∧ wr.heap[w.heap.size]? = some (.cells (byteRow (partR N 8 j)) 5 (0, 0)) ∧ Below w.heap.size w wr)
    (fun _ i _ => (intOf i + 1).toNat)
  case atStart => exact ⟨8, Nat.le_refl _, rfl, by simp, heap_new _ _, (Below.refl _ _).alloc (Nat.le_refl _) _⟩
  case round =>
    obtain ⟨j, hj, rfl, rfl, hR, hbl⟩ := hrel
    rcases j with _ | j
    · rw [show (((0 : Nat) : Int) - 1) = (-1 : Int) from rfl]
      rw [partR_all] at hR
      have hcw := run_string_of_row (P := Try.prog) (cap := 8) 36 9 5 hR Try.underlying36 Try.underlying5 Try.underlying9 8 (by rw [bytesOf_length])
      go_wp2
      go_ret
      exact ⟨rfl, hbl⟩
    · rw [show (((j + 1 : Nat) : Int) - 1) = (j : Int) from by omega] at *
      have hcR := cell_of_block hR (byteRow_at (partR N 8 (j + 1)) j (by rw [partR_length _ _ _ hj]; omega))
      have hfR := free_of_block (j := j) hR
      obtain ⟨q, hq⟩ : ∃ q, q = N / 256 ^ (8 - (j + 1)) := ⟨_, rfl⟩
      have hqN : q ≤ N := by rw [hq]; exact Nat.div_le_self _ _
      rw [← hq]
      have HQ := Lib.hid hq
      clear hq
      go_wp2
      go_roundw
      case rel =>
        refine ⟨j, by omega, rfl, ?_, ?_, hbl.setCell (p := ⟨w.heap.size, j, none⟩) (Nat.le_refl _) _⟩
        · have e : q / 256 = N / 256 ^ (8 - j) := by rw [HQ.out, Nat.div_div_eq_div_mul, ← Nat.pow_succ, show (8 - (j + 1)).succ = 8 - j from by omega]
          rw [← e]; rfl
        · have e : UInt8.ofNat q = bAt N 8 j := by unfold bAt; rw [HQ.out, show 8 - (j + 1) = 8 - 1 - j from by omega]
          have hs := heap_store (j := j) (v := .int .u8 ((bAt N 8 j).toNat : Int)) hR
          rw [byteRow_set, partR_succ N 8 j (by omega)] at hs
          rw [low_byte, e]
          exact hs
      case measure => simp [intOf]

set_option maxHeartbeats 1000000 in
set_option maxRecDepth 100000 in
theorem rwide_c (s : ByteArray) (a : Int) (w : World) (hs : s.size ≤ 9223372036854775807) (ha : -9223372036854775808 ≤ a) (h2 : a ≤ 9223372036854775807) :
    Calls Try.prog 20 #[.string s, .int .i64 a] w fun e w' => e = .returned (.tuple #[.int .u64 (wideSpec s a).1, .int .i64 (wideSpec s a).2]) ∧ w = w' := by
  by_cases c1 : a < 0
  · have hv : wideSpec s a = (0, 1) := by simp [wideSpec, c1]
    rw [hv]
    go_enter Try.func20, Try.ntmps20
    go_wp2
    go_ret2
    exact ⟨rfl, rfl⟩
  · have c3 : 0 ≤ a := by omega
    by_cases c6 : (s.size : Int) - a < 8
    · have hv : wideSpec s a = (0, 2) := by simp only [wideSpec, if_neg c1, if_pos c6]
      rw [hv]
      clear c1 hv
      go_enter Try.func20, Try.ntmps20
      go_wp2_with (go_at_call 36; refine (fits_no _ _ _ _ hs c3 h2 c6).mono ?_; rintro e w' ⟨rfl, rfl⟩)
      go_ret2
      exact ⟨rfl, rfl⟩
    · have c7 : 8 ≤ (s.size : Int) - a := by omega
      have hv : wideSpec s a = ((be (subs s a.toNat 8) : Int), 0) := by simp only [wideSpec, if_neg c1, if_neg c6]
      rw [hv]
      clear c1 c6 hv
      obtain ⟨A, rfl⟩ := Int.eq_ofNat_of_zero_le c3
      rw [Int.toNat_natCast]
      go_enter Try.func20, Try.ntmps20
      go_wp2_with (go_at_call 36; refine (fits_yes _ _ _ _ hs c3 (by omega) c7).mono ?_; rintro e w' ⟨rfl, rfl⟩)
      go_loop [6, 7] (fun n i => ∃ k : Nat, k ≤ 8 ∧ i = .int .i64 k ∧ n = .int .u64 (be (subs s A k) : Int)) (fun _ i => 8 - (intOf i).toNat)
      case atStart => exact ⟨0, Nat.zero_le _, rfl, by simp [subs, be_nil]⟩
      case round =>
        obtain ⟨k, hk, rfl, rfl⟩ := hrel
        by_cases hlt : k < 8
        · have hi : A + k < s.size := by omega
          have hb : (be (subs s A k) : Int) ≤ 72057594037927935 := by
            have := be_lt (subs s A k)
            have h4 : (subs s A k).length ≤ 7 := by simp [subs]; omega
            have h5 : 256 ^ (subs s A k).length ≤ 256 ^ 7 := Nat.pow_le_pow_right (by omega) h4
            omega
          have hs1 : be (subs s A (k + 1)) = 256 * be (subs s A k) + s[A + k].toNat := by rw [subs_succ _ _ _ hi, be_snoc]
          have hc : (s[A + k].toNat : Int) < 256 := by have := s[A + k].toNat_lt; omega
          have H1 := Lib.hid hs1
          clear hs1
          go_wp2
          go_round
          case rel => exact ⟨k + 1, hlt, by go_num, by rw [H1.out]; go_num⟩
          case measure => simp [intOf]; omega
        · obtain rfl : k = 8 := by omega
          go_wp2
          go_ret2
          exact ⟨rfl, rfl⟩

end Go.Proofs.Ytcahhkmbigjhlaa
