/-
  What the document's answers for layer 1 (siphonref01) are: the same functions of the arguments as those of package octet.
  What the document's answers for layer 1 (siphonref01) are, second part: Put, Of, Eight, Wide, Cut.
  The number that stands in a text, the document's answer: siphonref01.At.
-/
import Derived.Test.YtniahpbjfpmmhaaGreatSub
import Derived.Test.YtniahpbjfpmmhaaGreatTxt
namespace Go.Proofs.YtniahpbjfpmmhaaGreat
open Go.RowKit
set_option linter.unusedVariables false

/-- What the row holds when the bytes from j on have been told. -/
def partR (n w j : Nat) : List UInt8 := List.replicate j 0 ++ (bytesOf n w).drop j

theorem partR_none (n w : Nat) : partR n w w = List.replicate w 0 := by simp [partR, List.drop_of_length_le, bytesOf_length]
theorem partR_all (n w : Nat) : partR n w 0 = bytesOf n w := by simp [partR]
theorem partR_length (n w j : Nat) (h : j ≤ w) : (partR n w j).length = w := by simp [partR, bytesOf_length]; omega
theorem partR_succ (n w j : Nat) (h : j < w) : (partR n w (j + 1)).set j (bAt n w j) = partR n w j := by
  unfold partR
  rw [List.replicate_succ', List.append_assoc, List.set_append_right _ _ (by simp), List.length_replicate, Nat.sub_self, List.singleton_append, List.set_cons_zero,
    List.drop_eq_getElem_cons (show j < (bytesOf n w).length by rw [bytesOf_length]; exact h), bAt_eq n w j h]

theorem low_byte (q : Nat) : ((q : Int) % 256) = ((UInt8.ofNat q).toNat : Int) := by
  rw [UInt8.toNat_ofNat']
  omega

set_option maxHeartbeats 1000000 in
set_option maxRecDepth 100000 in
theorem rput_c (n width : Int) (w : World) (hn1 : -9223372036854775808 ≤ n) (hn2 : n ≤ 9223372036854775807) :
    Calls Tryz.prog 65 #[.int .i64 n, .int .i64 width] w fun e w' => e = .returned (.tuple #[.string (putSpec n width).1, .int .i64 (putSpec n width).2]) ∧ Below w.heap.size w w' := by
  by_cases c0 : width < 1 ∨ 4 < width ∨ n < 0
  · have hv : putSpec n width = (⟨#[]⟩, 1) := by unfold putSpec; rw [if_pos (by omega)]
    rw [hv]
    by_cases c1 : width < 1
    · go_enter Tryz.func65, Tryz.ntmps65
      go_wp2
      go_ret2
      exact ⟨rfl, Below.refl _ _⟩
    · by_cases c2 : 4 < width
      · go_enter Tryz.func65, Tryz.ntmps65
        go_wp2
        go_ret2
        exact ⟨rfl, Below.refl _ _⟩
      · have c3 : n < 0 := by omega
        go_enter Tryz.func65, Tryz.ntmps65
        go_wp2
        go_ret2
        exact ⟨rfl, Below.refl _ _⟩
  · have c1 : ¬ width < 1 := by omega
    have c2 : ¬ 4 < width := by omega
    have c3 : ¬ n < 0 := by omega
    clear c0
    obtain ⟨N, rfl⟩ := Int.eq_ofNat_of_zero_le (show 0 ≤ n by omega)
    obtain ⟨W, rfl⟩ := Int.eq_ofNat_of_zero_le (show 0 ≤ width by omega)
    obtain ⟨i0, hi, hz0, hz1, hz2⟩ := info_parts info_u8
    have hmk : ∀ U : World, (Instr.makeSlice 42 (.int .i64 (W : Int)) (.int .i64 (W : Int))).run Tryz.prog U = .ok (.slice (some ⟨U.heap.size, 0, none⟩) W W) (U.alloc (.cells (byteRow (partR N W W)) 5)) := fun U => by
      have h := run_make (P := Tryz.prog) U 42 5 i0 (.int .u8 0) Tryz.underlying42 hi hz0 .i64 .i64 (W : Int) (W : Int) (by omega) (Int.le_refl _) (by rw [hz2]; omega) (by omega)
      rw [Int.toNat_natCast, hz1, madeCells_bytes, ← partR_none N W] at h
      exact h
    have hw1 : 1 ≤ (W : Int) := by omega
    have hw4 : (W : Int) ≤ 4 := by omega
    go_enter Tryz.func65, Tryz.ntmps65
    go_wp2
    go_loopw [0, 7] (fun n i wr => ∃ j : Nat, j ≤ W ∧ i = .int .i64 ((j : Int) - 1) ∧ n = .int .i64 ((N / 256 ^ (W - j) : Nat) : Int) ∧ wr.heap[w.heap.size]? = some (.cells (byteRow (partR N W j)) 5 (0, 0)) ∧ Below w.heap.size w wr)
      (fun _ i _ => (intOf i + 1).toNat)
    case atStart => exact ⟨W, Nat.le_refl _, rfl, by simp, heap_new _ _, (Below.refl _ _).alloc (Nat.le_refl _) _⟩
    case round =>
      obtain ⟨j, hj, rfl, rfl, hR, hbl⟩ := hrel
      rcases j with _ | j
      · rw [show (((0 : Nat) : Int) - 1) = (-1 : Int) from rfl]
        rw [partR_all] at hR
        rw [Nat.sub_zero]
        have hcw := run_string_of_row (P := Tryz.prog) (cap := W) 42 9 5 hR Tryz.underlying42 Tryz.underlying5 Tryz.underlying9 W (by rw [bytesOf_length])
        by_cases c8 : 256 ^ W ≤ N
        · have hv : putSpec N W = (⟨#[]⟩, 1) := by unfold putSpec; rw [if_pos (by rw [Int.toNat_natCast]; right; right; right; exact_mod_cast c8)]
          have HV := Lib.hid hv
          clear hv
          obtain ⟨q, hq⟩ : ∃ q, q = N / 256 ^ W := ⟨_, rfl⟩
          have hq0 : (0 : Int) < (q : Int) := by
            have := Nat.div_pos c8 (Nat.pow_pos (show 0 < 256 by omega))
            omega
          rw [← hq]
          clear hq
          go_wp2
          go_ret2
          exact ⟨by rw [HV.out]; rfl, hbl⟩
        · have hv : putSpec N W = (⟨(bytesOf N W).toArray⟩, 0) := by
            unfold putSpec
            rw [if_neg (by rw [Int.toNat_natCast]; intro h; rcases h with h | h | h | h <;> first | omega | exact c8 (by exact_mod_cast h))]
            rfl
          rw [Nat.div_eq_of_lt (by omega)]
          have HV := Lib.hid hv
          clear hv
          go_wp2
          go_ret2
          exact ⟨by rw [HV.out]; rfl, hbl⟩
      · rw [show (((j + 1 : Nat) : Int) - 1) = (j : Int) from by omega] at *
        have hcR := cell_of_block hR (byteRow_at (partR N W (j + 1)) j (by rw [partR_length _ _ _ hj]; omega))
        have hfR := free_of_block (j := j) hR
        obtain ⟨q, hq⟩ : ∃ q, q = N / 256 ^ (W - (j + 1)) := ⟨_, rfl⟩
        have hqN : q ≤ N := by rw [hq]; exact Nat.div_le_self _ _
        rw [← hq]
        have HQ := Lib.hid hq
        clear hq
        go_wp2
        go_roundw
        case rel =>
          refine ⟨j, by omega, rfl, ?_, ?_, hbl.setCell (p := ⟨w.heap.size, j, none⟩) (Nat.le_refl _) _⟩
          · have e : q / 256 = N / 256 ^ (W - j) := by rw [HQ.out, Nat.div_div_eq_div_mul, ← Nat.pow_succ, show (W - (j + 1)).succ = W - j from by omega]
            rw [← e]; rfl
          · have e : UInt8.ofNat q = bAt N W j := by unfold bAt; rw [HQ.out, show W - (j + 1) = W - 1 - j from by omega]
            have hs := heap_store (j := j) (v := .int .u8 ((bAt N W j).toNat : Int)) hR
            rw [byteRow_set, partR_succ N W j (by omega)] at hs
            rw [low_byte, e]
            exact hs
        case measure => simp [intOf]

set_option maxHeartbeats 400000 in
theorem of_c (n width : Int) (w : World) (hn1 : -9223372036854775808 ≤ n) (hn2 : n ≤ 9223372036854775807) :
    Calls Tryz.prog 34 #[.int .i64 n, .int .i64 width] w fun e w' => e = .returned (.string (putSpec n width).1) ∧ Below w.heap.size w w' := by
  have HC := Lib.hid fun U => rput_c n width U hn1 hn2
  go_enter Tryz.func34, Tryz.ntmps34
  go_wp2_with (go_at_call 65; refine (HC.out _).mono ?_; rintro e w' ⟨rfl, hb⟩)
  go_ret
  exact ⟨rfl, hb⟩

end Go.Proofs.YtniahpbjfpmmhaaGreat
