/-
  What the functions of package octet answer: spread, number, Get, Put, Wide, Eight (contracts over the translated program). No condition but what each theorem names.
-/
import Derived.Test.YtniahpbjfpmmhaaGreatProg
import Derived.Test.YtniahpbjfpmmhaaGreatOctMath
import Derived.Test.YtniahpbjfpmmhaaGreatKit
import Derived.WalkKit
import Derived.BigQuiet
import Derived.Deep.QuietTactic
import Derived.Outline
import Derived.LoopTactic
import Derived.WalkSpells
import Derived.WalkLawsBesides
import Derived.Laws.BitsAllLaws
namespace Go.Proofs.YtniahpbjfpmmhaaGreat
open Go.RowKit

set_option maxHeartbeats 400000 in
theorem shift_c (i n : Int) (w : World) (h0 : 0 ≤ i) (h1 : i < n) (h2 : n ≤ 8) :
    Calls Tryz.prog 81 #[.int .i64 i, .int .i64 n] w fun e w' => e = .returned (.int .i64 (8 * (n - 1 - i))) ∧ w' = w := by
  go_enter Tryz.func81, Tryz.ntmps81
  go_wp2
  go_ret
  exact ⟨rfl, rfl⟩

/-- Byte j of the w bytes of n. -/
def bAt (n w j : Nat) : UInt8 := UInt8.ofNat (n / 256 ^ (w - 1 - j))

theorem bAt_eq (n w j : Nat) (h : j < w) : (bytesOf n w)[j]'(by rw [bytesOf_length]; exact h) = bAt n w j := by
  simp [bytesOf, bAt]

/-- The shifted number's lowest byte. -/
theorem shr_byte (n w j : Nat) : ((n : Int) / 2 ^ (8 * (w - 1 - j)) % 256) = ((bAt n w j).toNat : Int) := by
  unfold bAt
  rw [UInt8.toNat_ofNat']
  have p : (2 : Int) ^ (8 * (w - 1 - j)) = ((256 ^ (w - 1 - j) : Nat) : Int) := by
    rw [show (256 : Nat) = 2 ^ 8 from rfl, ← Nat.pow_mul]
    simp
  rw [p]
  simp

set_option maxHeartbeats 400000 in
theorem told_c (N W k : Nat) (A B : Nat) (w : World) (hA : w.cell? ⟨A, 0, none⟩ = some (.int .u64 (N : Int))) (hB : w.cell? ⟨B, 0, none⟩ = some (.int .i64 (W : Int))) (h1 : k < W) (h2 : W ≤ 8) :
    Calls Tryz.prog 80 #[.int .i64 (k : Int), .pointer (some ⟨A, 0, none⟩), .pointer (some ⟨B, 0, none⟩)] w fun e w' => e = .returned (.int .u8 ((bAt N W k).toNat : Int)) ∧ ∃ m, w' = w.drewN m := by
  go_enter Tryz.func80, Tryz.ntmps80
  go_wp2
  go_quiet ((go_at_call 81; refine Calls.quiet_of_same (shift_c _ _ _ (by omega) (by omega) (by omega))))
  go_wp2
  go_ret
  exact ⟨by rw [← shr_byte N W k]; rfl, _, rfl⟩

theorem info_u8 : (Tryz.prog.info? 5).map (fun i => (i.zero, i.size, i.bytes)) = some (some (.int .u8 0), 1, 1) := by kernel_rfl

/-- What the row holds when k bytes have been told. -/
def part (n w k : Nat) : List UInt8 := (bytesOf n w).take k ++ List.replicate (w - k) 0

theorem part_zero (n w : Nat) : part n w 0 = List.replicate w 0 := by simp [part]
theorem part_all (n w : Nat) : part n w w = bytesOf n w := by simp [part, List.take_of_length_le, bytesOf_length]
theorem part_length (n w k : Nat) (h : k ≤ w) : (part n w k).length = w := by simp [part, bytesOf_length]; omega
theorem part_succ (n w k : Nat) (h : k < w) : (part n w k).set k (bAt n w k) = part n w (k + 1) := by
  have hl : ((bytesOf n w).take k).length = k := by simp [bytesOf_length]; omega
  unfold part
  rw [List.set_append_right _ _ (by omega), hl, Nat.sub_self, show w - k = (w - (k + 1)) + 1 from by omega, List.replicate_succ, List.set_cons_zero,
    List.take_succ_eq_append_getElem (by rw [bytesOf_length]; exact h), List.append_assoc]
  rw [bAt_eq n w k h]
  rfl

set_option maxHeartbeats 1000000 in
theorem spread_c (N W : Nat) (w : World) (h2 : W ≤ 8) :
    Calls Tryz.prog 57 #[.int .u64 (N : Int), .int .i64 (W : Int)] w fun e w' => e = .returned (.string ⟨(bytesOf N W).toArray⟩) ∧ Below w.heap.size w w' := by
  obtain ⟨i0, hi, hz0, hz1, hz2⟩ := info_parts info_u8
  have hmk : ∀ U : World, (Instr.makeSlice 42 (.int .i64 (W : Int)) (.int .i64 (W : Int))).run Tryz.prog U = .ok (.slice (some ⟨U.heap.size, 0, none⟩) W W) (U.alloc (.cells (byteRow (part N W 0)) 5)) := fun U => by
    have h := run_make (P := Tryz.prog) U 42 5 i0 (.int .u8 0) Tryz.underlying42 hi hz0 .i64 .i64 (W : Int) (W : Int) (by omega) (Int.le_refl _) (by rw [hz2]; omega) (by omega)
    rw [Int.toNat_natCast, hz1, madeCells_bytes, ← part_zero N W] at h
    exact h
  go_enter Tryz.func57, Tryz.ntmps57
  go_wp2
  go_loopw [13] (fun v wr => ∃ k : Nat, k ≤ W ∧ v = .int .i64 k ∧ wr.heap[w.heap.size]? = some (.cells #[.int .u64 (N : Int)] 84 (0, 0)) ∧ wr.heap[w.heap.size + 1]? = some (.cells #[.int .i64 (W : Int)] 3 (0, 0)) ∧ wr.heap[w.heap.size + 1 + 1]? = some (.cells (byteRow (part N W k)) 5 (0, 0)) ∧ Below w.heap.size w wr)
    (fun v _ => W - (intOf v).toNat)
  case atStart =>
    refine ⟨0, Nat.zero_le _, rfl, ?_, ?_, ?_, (((Below.refl _ _).alloc (Nat.le_refl _) _).alloc (by simp) _).alloc (by simp; omega) _⟩
    · exact heap_old (heap_old (heap_new _ _))
    · exact heap_old (by simpa using heap_new (w.alloc (Obj.cells #[Value.int IntKind.u64 (N : Int)] 84)) (Obj.cells #[Value.int IntKind.i64 (W : Int)] 3))
    · simpa using heap_new ((w.alloc (Obj.cells #[Value.int IntKind.u64 (N : Int)] 84)).alloc (Obj.cells #[Value.int IntKind.i64 (W : Int)] 3)) (Obj.cells (byteRow (part N W 0)) 5)
  case round =>
    obtain ⟨k, hk, rfl, hA, hB, hR, hbl⟩ := hrel
    by_cases hlt : k < W
    · have hcA := cell_of_block (j := 0) hA rfl
      have hcB := cell_of_block (j := 0) hB rfl
      have hcR := cell_of_block hR (byteRow_at (part N W k) k (by rw [part_length _ _ _ hk]; exact hlt))
      have hfR := free_of_block (j := k) hR
      go_wp2_with (go_at_call 80; refine (told_c N W k _ _ _ hcA hcB hlt h2).mono ?_; rintro e w' ⟨rfl, m, rfl⟩)
      go_roundw
      case rel =>
        refine ⟨k + 1, hlt, by go_num, ?_, ?_, ?_, ?_⟩
        · exact heap_store_other (by simpa using hA) (by omega)
        · exact heap_store_other (by simpa using hB) (by omega)
        · have hs := heap_store (w := wr.drewN m) (j := k) (v := .int .u8 ((bAt N W k).toNat : Int)) (by simpa using hR)
          rw [byteRow_set, part_succ N W k hlt] at hs
          exact hs
        · exact (below_drewN hbl m).setCell (p := ⟨w.heap.size + 1 + 1, k, none⟩) (by simp; omega) _
      case measure => simp [intOf]; omega
    · obtain rfl : k = W := by omega
      rw [part_all] at hR
      have hcw := run_string_of_row (P := Tryz.prog) (cap := k) 42 9 5 hR Tryz.underlying42 Tryz.underlying5 Tryz.underlying9 k (by rw [bytesOf_length])
      go_wp2
      go_ret
      exact ⟨rfl, hbl⟩
theorem ret_u64 {a b : Int} (h : a = b) : Ending.returned (.int .u64 a) = .returned (.int .u64 b) := by rw [h]

set_option maxHeartbeats 400000 in
theorem worth_c (s : ByteArray) (k : Nat) (A : Nat) (w : World) (hA : w.cell? ⟨A, 0, none⟩ = some (.string s)) (h1 : k < s.size) (h2 : s.size ≤ 8) :
    Calls Tryz.prog 96 #[.int .i64 (k : Int), .pointer (some ⟨A, 0, none⟩)] w fun e w' => e = .returned (.int .u64 (worthAt s.data.toList k : Int)) ∧ ∃ m, w' = w.drewN m := by
  have hi : (k : Int) < s.size := by omega
  have hl : s.data.toList.length = s.size := by simp
  have hlt := worthAt_lt s.data.toList k (by omega)
  have hle := pow_le_64 (s.size - k) (by omega)
  rw [hl] at hlt
  have hv : IntKind.u64.wrap (IntKind.u64.wrap (s[k].toNat : Int) * 2 ^ (8 * (s.size - 1 - k))) = (worthAt s.data.toList k : Int) := by
    have hb := s[k].toNat_lt
    rw [IntWalk.u64_in (s[k].toNat : Int) (by omega)]
    have e : (s[k].toNat : Int) * 2 ^ (8 * (s.size - 1 - k)) = (worthAt s.data.toList k : Int) := by
      unfold worthAt
      rw [hl, show (256 : Nat) = 2 ^ 8 from rfl, ← Nat.pow_mul, getD_at _ _ _ (by omega)]
      have g : s.data.toList[k]'(by omega) = s[k] := by simp; rfl
      rw [g]
      simp
    rw [e, IntWalk.u64_in _ (by omega)]
  have HV := Lib.hid hv
  clear hv hlt hle hl
  go_enter Tryz.func96, Tryz.ntmps96
  go_wp2
  go_quiet ((go_at_call 81; refine Calls.quiet_of_same (shift_c _ _ _ (by omega) (by omega) (by omega))))
  go_wp2
  go_ret
  exact ⟨ret_u64 HV.out, _, rfl⟩

set_option maxHeartbeats 1000000 in
theorem number_c (s : ByteArray) (w : World) (h2 : s.size ≤ 8) :
    Calls Tryz.prog 85 #[.string s] w fun e w' => e = .returned (.int .u64 (be s.data.toList : Int)) ∧ Below w.heap.size w w' := by
  have hl : s.data.toList.length = s.size := by simp
  have HL := Lib.hid hl
  clear hl
  go_enter Tryz.func85, Tryz.ntmps85
  go_wp2
  go_loopw [4, 9] (fun u v wr => ∃ k : Nat, k ≤ s.size ∧ v = .int .i64 k ∧ u = .int .u64 (upTo s.data.toList k : Int) ∧ wr.heap[w.heap.size]? = some (.cells #[.string s] 9 (0, 0)) ∧ Below w.heap.size w wr)
    (fun _ v _ => s.size - (intOf v).toNat)
  case atStart => exact ⟨0, Nat.zero_le _, rfl, by rw [upTo_zero]; rfl, heap_new _ _, (Below.refl _ _).alloc (Nat.le_refl _) _⟩
  case round =>
    obtain ⟨k, hk, rfl, rfl, hA, hbl⟩ := hrel
    by_cases hlt : k < s.size
    · have hcA := cell_of_block (j := 0) hA rfl
      have hor : bits .or .u64 (upTo s.data.toList k : Int) (worthAt s.data.toList k : Int) = (upTo s.data.toList (k + 1) : Int) := by
        have a1 := upTo_lt s.data.toList k (by rw [HL.out]; exact hk)
        have a2 := worthAt_lt s.data.toList k (by rw [HL.out]; exact hlt)
        have a3 := pow_le_64 s.data.toList.length (by rw [HL.out]; exact h2)
        have a4 := pow_le_64 (s.data.toList.length - k) (by rw [HL.out]; omega)
        rw [u64_or_nat _ _ (by omega) (by omega), upTo_or _ _ (by rw [HL.out]; exact hlt)]
      go_wp2_with (go_at_call 96; refine (worth_c s k _ _ hcA hlt h2).mono ?_; rintro e w' ⟨rfl, m, rfl⟩)
      go_roundw
      case rel => exact ⟨k + 1, hlt, by go_num, rfl, by simpa using hA, below_drewN hbl m⟩
      case measure => simp [intOf]; omega
    · obtain rfl : k = s.size := by omega
      go_wp2
      go_ret
      exact ⟨ret_u64 (by rw [← HL.out, upTo_all]), hbl⟩

end Go.Proofs.YtniahpbjfpmmhaaGreat
