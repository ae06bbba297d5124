/-
  strings.Clone: contracts over the translated program, at every argument.
-/
import Derived.Test.YthpafojeadbjlaaOctB
namespace Go.Proofs.Ythpafojeadbjlaa
open Go.RowKit

set_option maxHeartbeats 1000000 in
set_option maxRecDepth 100000 in
/-- internal/stringslite.Clone: the same bytes in new memory. -/
theorem sstrc_c (s : ByteArray) (w : World) (hlim : s.size ≤ 281474976710656) :
    Calls Try.prog 82 #[.string s] w fun e w' => e = .returned (.string s) ∧ Below w.heap.size w w' := by
  by_cases h0 : s.size = 0
  · obtain rfl : s = ⟨#[]⟩ := ByteArray.ext (Array.eq_empty_of_size_eq_zero h0)
    go_enter Try.func82, Try.ntmps82
    go_wp2
    go_ret
    exact ⟨rfl, Below.refl _ _⟩
  · obtain ⟨i0, hi, hz0, hz1, hz2⟩ := info_parts info_u8
    have hsz : s.data.toList.length = s.size := by simp
    obtain ⟨Z, hZ⟩ : ∃ Z, Z = byteRow (List.replicate s.size 0) := ⟨_, rfl⟩
    have hZs : Z.size = s.size := by rw [hZ, byteRow_size, List.length_replicate]
    obtain ⟨R, hR⟩ : ∃ R, R = byteRow s.data.toList := ⟨_, rfl⟩
    have hRs : R.size = s.size := by rw [hR, byteRow_size, hsz]
    -- the new slice
    have hmk : ∀ U : World, (Instr.makeSlice 110 (.int .i64 (s.size : Int)) (.int .i64 (s.size : Int))).run Try.prog U = .ok (.slice (some ⟨U.heap.size, 0, none⟩) s.size s.size) (U.alloc (.cells Z 5)) := fun U => by
      have h := run_make (P := Try.prog) U 110 5 i0 (.int .u8 0) Try.underlying110 hi hz0 .i64 .i64 (s.size : Int) (s.size : Int) (by omega) (Int.le_refl _) (by rw [hz2]; omega) (by omega)
      rw [Int.toNat_natCast, hz1, madeCells_bytes, ← hZ] at h
      exact h
    -- the copy
    have hb0 : (w.alloc (.cells Z 5)).heap[w.heap.size]? = some (.cells Z 5 (0, 0)) := heap_new _ _
    have hcp := Lib.run_copy_row_string (P := Try.prog) (w.alloc (.cells Z 5)) 110 9 3 5 w.heap.size 0 s.size s.size s Z 5 Try.underlying110 (by rw [hi]; simp [hz1]) hb0 (Nat.le_refl _) (by omega)
    rw [List.take_zero, List.nil_append, List.drop_of_length_le (by rw [Array.length_toList]; omega), List.append_nil, byteRow_cells, ← hR] at hcp
    have hb1 : ((w.alloc (.cells Z 5)).setRow w.heap.size R).heap[w.heap.size]? = some (.cells R 5 (0, 0)) := setRow_heap _ _ Z _ _ _ hb0
    -- the string of the row
    have hne : s.data.toList ≠ [] := by intro e; rw [e] at hsz; simp at hsz; omega
    have hus := Lib.run_unsafeString_row (P := Try.prog) ((w.alloc (.cells Z 5)).setRow w.heap.size R) 134 3 9 5 Try.underlying134 (by simp [Program.cellsOf, hi, hz1]) w.heap.size R.size (by unfold World.shape?; rw [hb1]) s.data.toList hne (by omega) (by omega)
      (fun j x hx => by
        have hj : j < s.data.toList.length := (List.getElem?_eq_some_iff.1 hx).1
        have e : (⟨w.heap.size, 0, none⟩ : Addr).add j = ⟨w.heap.size, j, none⟩ := by unfold Addr.add; split <;> simp_all
        rw [e]
        refine cell_of_block hb1 ?_
        rw [hR, byteRow_at _ j hj]
        have := (List.getElem?_eq_some_iff.1 hx).2
        rw [this])
    rw [hsz] at hus
    have HS := Lib.hid hsz
    have HR := Lib.hid hR
    have HZ := Lib.hid hZ
    clear hsz hR hZ
    go_enter Try.func82, Try.ntmps82
    go_wp2
    go_ret
    have b1 : Below w.heap.size w (w.alloc (.cells Z 5)) := (Below.refl _ w).alloc (Nat.le_refl _) _
    have b2 : Below w.heap.size (w.alloc (.cells Z 5)) ((w.alloc (.cells Z 5)).setRow w.heap.size R) := ⟨rfl, rfl, rfl, by simp, fun k hk => setRow_other _ _ _ _ (by omega)⟩
    exact ⟨rfl, Lib.below_freeze (b1.trans b2) (p := ⟨w.heap.size, 0, none⟩) (Nat.le_refl _) _⟩

set_option maxHeartbeats 400000 in
set_option maxRecDepth 100000 in
theorem strc_c (s : ByteArray) (w : World) (hlim : s.size ≤ 281474976710656) :
    Calls Try.prog 76 #[.string s] w fun e w' => e = .returned (.string s) ∧ Below w.heap.size w w' := by
  go_enter Try.func76, Try.ntmps76
  go_wp2_with (go_at_call 82; refine (sstrc_c _ _ hlim).mono ?_; rintro e w' ⟨rfl, hb⟩)
  go_ret
  exact ⟨rfl, hb⟩

end Go.Proofs.Ythpafojeadbjlaa
