/-
  slices.Sort and slices.Compact at []int, by the contracts of the shelf: the numbers of a row of its own, sorted, without doubles.
-/
import Derived.Test.YtpaehbmhdjnofaaProg
import Derived.Test.YtpaehbmhdjnofaaMemI
import Derived.Shelf.Sort.Plain
import Derived.Shelf.Slices.CompactI
import Derived.Shelf.Slices.In.SortNone
import Derived.Ground.Names2Prog
import Derived.Sort.OwnSortedInts
import Derived.Lib.SlicesCompact
import Derived.Lib.RowBridge
namespace Go.Proofs.Ytpaehbmhdjnofaa
open Go Go.Sort Go.Lib
open Go.Shelf Go.RowKit
set_option linter.unusedVariables false

def lay_lays189_ren : Go.Shelf.Ren := ⟨fun | 189 => 24 | 125 => 26 | 257 => 25 | 128 => 36 | 129 => 37 | 294 => 27 | 295 => 28 | 296 => 29 | 297 => 30 | 298 => 31 | 299 => 32 | 216 => 33 | 300 => 34 | 301 => 35 | 328 => 38 | 329 => 39 | 330 => 40 | 331 => 41 | 332 => 42 | 215 => 43 | 343 => 44 | n => n, fun | 28 => 22 | 3 => 3 | 46 => 44 | 0 => 0 | 51 => 55 | 53 => 57 | 4 => 4 | 183 => 47 | 182 => 46 | 131 => 52 | 5 => 5 | 9 => 9 | 218 => 58 | 222 => 62 | 228 => 64 | 229 => 65 | n => n, fun | n => n⟩

theorem lay_lays189 : Go.Proofs.Lays.n189 Try.prog lay_lays189_ren := {
  mixed := by kernel_rfl
  f125 := Try.func26.trans (congrArg some (by kernel_rfl))
  f128 := Try.func36.trans (congrArg some (by kernel_rfl))
  f129 := Try.func37.trans (congrArg some (by kernel_rfl))
  f189 := Try.func24.trans (congrArg some (by kernel_rfl))
  f215 := Try.func43.trans (congrArg some (by kernel_rfl))
  f216 := Try.func33.trans (congrArg some (by kernel_rfl))
  f257 := Try.func25.trans (congrArg some (by kernel_rfl))
  f294 := Try.func27.trans (congrArg some (by kernel_rfl))
  f295 := Try.func28.trans (congrArg some (by kernel_rfl))
  f296 := Try.func29.trans (congrArg some (by kernel_rfl))
  f297 := Try.func30.trans (congrArg some (by kernel_rfl))
  f298 := Try.func31.trans (congrArg some (by kernel_rfl))
  f299 := Try.func32.trans (congrArg some (by kernel_rfl))
  f300 := Try.func34.trans (congrArg some (by kernel_rfl))
  f301 := Try.func35.trans (congrArg some (by kernel_rfl))
  f328 := Try.func38.trans (congrArg some (by kernel_rfl))
  f329 := Try.func39.trans (congrArg some (by kernel_rfl))
  f330 := Try.func40.trans (congrArg some (by kernel_rfl))
  f331 := Try.func41.trans (congrArg some (by kernel_rfl))
  f332 := Try.func42.trans (congrArg some (by kernel_rfl))
  f343 := Try.func44.trans (congrArg some (by kernel_rfl))
  t0 := Try.underlying0
  a0 := Try.isAgg0
  z0 := Try.sizeOf0
  v0 := Try.zeroValue0
  t3 := Try.underlying3
  a3 := Try.isAgg3
  z3 := Try.sizeOf3
  v3 := Try.zeroValue3
  t4 := Try.underlying4
  a4 := Try.isAgg4
  z4 := Try.sizeOf4
  v4 := Try.zeroValue4
  t5 := Try.underlying5
  a5 := Try.isAgg5
  z5 := Try.sizeOf5
  v5 := Try.zeroValue5
  t9 := Try.underlying9
  a9 := Try.isAgg9
  z9 := Try.sizeOf9
  v9 := Try.zeroValue9
  t28 := Try.underlying22
  a28 := Try.isAgg22
  z28 := Try.sizeOf22
  v28 := Try.zeroValue22
  t46 := Try.underlying44
  a46 := Try.isAgg44
  z46 := Try.sizeOf44
  v46 := Try.zeroValue44
  t51 := Try.underlying55
  a51 := Try.isAgg55
  z51 := Try.sizeOf55
  v51 := Try.zeroValue55
  t53 := Try.underlying57
  a53 := Try.isAgg57
  z53 := Try.sizeOf57
  v53 := Try.zeroValue57
  t131 := Try.underlying52
  a131 := Try.isAgg52
  z131 := Try.sizeOf52
  v131 := Try.zeroValue52
  t182 := Try.underlying46
  a182 := Try.isAgg46
  z182 := Try.sizeOf46
  v182 := Try.zeroValue46
  t183 := Try.underlying47
  a183 := Try.isAgg47
  z183 := Try.sizeOf47
  v183 := Try.zeroValue47
  t218 := Try.underlying58
  a218 := Try.isAgg58
  z218 := Try.sizeOf58
  v218 := Try.zeroValue58
  t222 := Try.underlying62
  a222 := Try.isAgg62
  z222 := Try.sizeOf62
  v222 := Try.zeroValue62
  t228 := Try.underlying64
  a228 := Try.isAgg64
  z228 := Try.sizeOf64
  v228 := Try.zeroValue64
  t229 := Try.underlying65
  a229 := Try.isAgg65
  z229 := Try.sizeOf65
  v229 := Try.zeroValue65 }

/-- A sorted list of ints, and without its doubles. -/
def srtI (l : List Int) : List Int := l.mergeSort fun x y => decide (x ≤ y)
theorem srtI_len (l : List Int) : (srtI l).length = l.length := by unfold srtI; rw [List.length_mergeSort]
theorem srtI_mem (l : List Int) (x : Int) : x ∈ srtI l ↔ x ∈ l := by unfold srtI; exact List.mem_mergeSort
theorem srtI_sorted (l : List Int) : (srtI l).Pairwise (fun a b => a ≤ b) := by
  have h := List.pairwise_mergeSort (le := fun (x y : Int) => decide (x ≤ y)) (fun a b c h1 h2 => by simp only [decide_eq_true_iff] at *; omega) (fun a b => by simp only [Bool.or_eq_true, decide_eq_true_iff]; omega) l
  exact h.imp fun h => by simpa using h
theorem get_ltI {l : List Int} {i : Nat} (h : i < l.length) : l.toArray[i]! = l[i] := by simp [h]
theorem compactI_mem (l : List Int) (x : Int) : x ∈ Lib.compact l ↔ x ∈ l := by
  unfold Lib.compact Lib.compactUpTo
  rw [List.mem_map]
  constructor
  · rintro ⟨i, hi, rfl⟩
    have hi' := List.mem_range.1 (List.mem_filter.1 hi).1
    rw [get_ltI hi']
    exact List.getElem_mem hi'
  · intro h
    obtain ⟨k, hk, rfl⟩ := List.getElem_of_mem h
    clear h
    induction k with
    | zero => exact ⟨0, List.mem_filter.2 ⟨List.mem_range.2 hk, by simp [Lib.keeps]⟩, get_ltI hk⟩
    | succ k ih =>
      by_cases e : l.toArray[k + 1]! = l.toArray[k]!
      · rw [get_ltI hk, get_ltI (by omega)] at e
        rw [e]
        exact ih (by omega)
      · exact ⟨k + 1, List.mem_filter.2 ⟨List.mem_range.2 hk, by simp only [Lib.keeps, Nat.add_sub_cancel]; exact decide_eq_true (.inr e)⟩, get_ltI hk⟩
theorem compactI_up (l : List Int) (h : l.Pairwise (fun a b => a ≤ b)) : (Lib.compact l).Pairwise (fun a b => a < b) := by
  unfold Lib.compact Lib.compactUpTo
  rw [List.pairwise_map]
  have hr : (List.range l.length).Pairwise (fun i j => i < j) := List.pairwise_lt_range
  refine (hr.filter _).imp_of_mem fun {i j} hi hj hij => ?_
  rw [List.mem_filter, List.mem_range] at hi hj
  rw [get_ltI hi.1, get_ltI hj.1]
  have hk := hj.2
  unfold Lib.keeps at hk
  simp only [decide_eq_true_iff] at hk
  rcases hk with hk | hk
  · omega
  · rw [get_ltI hj.1, get_ltI (show j - 1 < l.length by omega)] at hk
    have le := List.pairwise_iff_getElem.1 h
    have h2 : l[j - 1] ≤ l[j] := le (j - 1) j (by omega) hj.1 (by omega)
    by_cases e : i = j - 1
    · subst e; omega
    · have := le i (j - 1) (by omega) (by omega) (by omega)
      omega

/-- What List answers out of what it gathered: rising, the same numbers. -/
def risI (l : List Int) : List Int := Lib.compact (srtI l)
theorem risI_mem (l : List Int) (x : Int) : x ∈ risI l ↔ x ∈ l := by unfold risI; rw [compactI_mem, srtI_mem]
theorem risI_up (l : List Int) : (risI l).Pairwise (fun a b => a < b) := compactI_up _ (srtI_sorted l)

theorem sortI_c (B : Nat) (v : Value) (n : Nat) (l : List Int) (w : World) (hB : B ≤ w.heap.size) (hl : l.length ≤ 1000000) (ho : w.ownsRow B 3 1 v n (l.map (Value.int .i64))) :
    Calls Try.prog 24 #[v] w fun e w' => e = .returned (.tuple #[]) ∧ w'.ownsRow B 3 1 v n ((srtI l).map (Value.int .i64)) ∧ Below B w w' := by
  have hn : l.length = n := by have := ho.1; simpa using this
  subst hn
  rcases ho.2 with ⟨rfl, h0⟩ | ⟨g, cap, cur, rfl, hb, hg, h1, h2, h3, h4⟩
  · obtain rfl : l = [] := List.eq_nil_of_length_eq_zero h0
    have e0 : srtI ([] : List Int) = [] := List.eq_nil_of_length_eq_zero (srtI_len [])
    rw [e0]
    exact (Any.slices_Sort_int_none lay_lays189 none 0 w).mono fun e w' h => ⟨h.1, by rw [h.2]; exact World.ownsRow_nil _ _ _ _, by rw [h.2]; exact Below.refl _ _⟩
  · have hH : Holds (Value.int .i64) w g 0 l.toArray := holds_of_blockI hg (by simpa using h4)
    have hlt : g < w.heap.size := (Array.getElem?_eq_some_iff.1 hg).1
    refine (Any.slices_Sort_int lay_lays189 g 0 cap l w hH hlt (by omega)).mono fun e w' h => ?_
    obtain ⟨he, m, os, rfl⟩ := h
    exact ⟨he, ownsRow_sortedI (srtI_len l) hb hg h1 h2 h3, (Below.refl _ _).grown (grownBy_sortedI _) hB (fun k hk => by cases hk; exact hb)⟩

end Go.Proofs.Ytpaehbmhdjnofaa
