/-
  Filters: a sorted list without its doubles is the list that rises. It speaks of no function.
-/
import Derived.Test.YthpafojeadbjlaaFlS
import Derived.Lib.SlicesCompact
import Derived.Lib.RowBridge
import Derived.Sort.EncStr
namespace Go.Proofs.Ythpafojeadbjlaa
open Go.RowKit
set_option linter.unusedVariables false

def toB (l : List (List UInt8)) : List ByteArray := l.map fun x => ⟨x.toArray⟩
def toL (l : List ByteArray) : List (List UInt8) := l.map fun x => x.data.toList
theorem toB_toL (l : List ByteArray) : toB (toL l) = l := by
  unfold toB toL
  rw [List.map_map]
  conv => rhs; rw [← List.map_id l]
  exact List.map_congr_left fun x _ => rfl
theorem toL_toB (l : List (List UInt8)) : toL (toB l) = l := by
  unfold toB toL
  rw [List.map_map]
  conv => rhs; rw [← List.map_id l]
  exact List.map_congr_left fun x _ => rfl
theorem toB_len (l : List (List UInt8)) : (toB l).length = l.length := by simp [toB]
theorem toL_len (l : List ByteArray) : (toL l).length = l.length := by simp [toL]
theorem enc_toL (l : List ByteArray) : (toL l).map encStr = l.map Value.string := by
  unfold toL
  rw [List.map_map]
  exact List.map_congr_left fun x _ => rfl
theorem enc_toB (l : List (List UInt8)) : l.map encStr = (toB l).map Value.string := by rw [← enc_toL, toL_toB]
theorem mem_toB (l : List (List UInt8)) (x : ByteArray) : x ∈ toB l ↔ x.data.toList ∈ l := by
  unfold toB
  rw [List.mem_map]
  constructor
  · rintro ⟨y, hy, rfl⟩; exact hy
  · intro h; exact ⟨_, h, rfl⟩

def srt (l : List ByteArray) : List (List UInt8) := (toL l).mergeSort fun x y => decide (x ≤ y)
theorem srt_len (l : List ByteArray) : (srt l).length = l.length := by unfold srt; rw [List.length_mergeSort, toL_len]
theorem srt_mem (l : List ByteArray) (x : List UInt8) : x ∈ srt l ↔ x ∈ toL l := by unfold srt; exact List.mem_mergeSort
theorem srt_sorted (l : List ByteArray) : (srt l).Pairwise (fun a b => a ≤ b) := by
  have h := List.pairwise_mergeSort (le := fun (x y : List UInt8) => decide (x ≤ y)) (fun a b c h1 h2 => by simp only [decide_eq_true_iff] at *; exact List.le_trans h1 h2) (fun a b => by simp only [Bool.or_eq_true, decide_eq_true_iff]; exact List.le_total a b) (toL l)
  exact h.imp fun h => by simpa using h

theorem get_lt {l : List (List UInt8)} {i : Nat} (h : i < l.length) : l.toArray[i]! = l[i] := by simp [h]
theorem compact_mem (l : List (List UInt8)) (x : List UInt8) : x ∈ Lib.compact l ↔ x ∈ l := by
  unfold Lib.compact Lib.compactUpTo
  rw [List.mem_map]
  constructor
  · rintro ⟨i, hi, rfl⟩
    have hi' := List.mem_range.1 (List.mem_filter.1 hi).1
    rw [get_lt hi']
    exact List.getElem_mem hi'
  · intro h
    obtain ⟨k, hk, rfl⟩ := List.getElem_of_mem h
    clear h
    induction k with
    | zero => exact ⟨0, List.mem_filter.2 ⟨List.mem_range.2 hk, by simp [Lib.keeps]⟩, get_lt hk⟩
    | succ k ih =>
      by_cases e : l.toArray[k + 1]! = l.toArray[k]!
      · rw [get_lt hk, get_lt (by omega)] at e
        rw [e]
        exact ih (by omega)
      · exact ⟨k + 1, List.mem_filter.2 ⟨List.mem_range.2 hk, by simp only [Lib.keeps, Nat.add_sub_cancel]; exact decide_eq_true (.inr e)⟩, get_lt hk⟩
theorem compact_up (l : List (List UInt8)) (h : l.Pairwise (fun a b => a ≤ b)) : Up (toB (Lib.compact l)) := by
  unfold Up toB Lib.compact Lib.compactUpTo
  rw [List.pairwise_map, List.pairwise_map]
  have hr : (List.range l.length).Pairwise (fun i j => i < j) := List.pairwise_lt_range
  refine (hr.filter _).imp_of_mem fun {i j} hi hj hij => ?_
  rw [List.mem_filter, List.mem_range] at hi hj
  rw [sl_iff]
  simp only
  rw [get_lt hi.1, get_lt hj.1]
  have hk := hj.2
  unfold Lib.keeps at hk
  simp only [decide_eq_true_iff] at hk
  rcases hk with hk | hk
  · omega
  · rw [get_lt hj.1, get_lt (show j - 1 < l.length by omega)] at hk
    have le := List.pairwise_iff_getElem.1 h
    have h2 : l[j - 1] ≤ l[j] := le (j - 1) j (by omega) hj.1 (by omega)
    have h3 : l[j - 1] < l[j] := by
      rcases Decidable.em (l[j - 1] < l[j]) with k | k
      · exact k
      · exact absurd (List.le_antisymm (List.not_lt.1 k) h2) hk
    by_cases e : i = j - 1
    · subst e; exact h3
    · exact List.lt_of_le_of_lt (le i (j - 1) (by omega) (by omega) (by omega)) h3
/-- Sorted, without doubles: what rises. -/
theorem ris_eq (l : List ByteArray) : toB (Lib.compact (srt l)) = ris l :=
  up_unique _ _ (compact_up _ (srt_sorted l)) (ris_up l) fun x => by
    rw [mem_toB, compact_mem, srt_mem, ris_mem, ← mem_toB, toB_toL]

theorem compact_le (l : List (List UInt8)) : (Lib.compact l).length ≤ l.length := Lib.compact_length_le l

end Go.Proofs.Ythpafojeadbjlaa
