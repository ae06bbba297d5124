/-
  siphonref17.Same of two states that hold the same. A contract over the translated program.
-/
import Derived.Test.YtceilgeefegbmaaGrU
import Derived.Laws.StructEq
import Derived.BigQuiet
import Derived.Deep.QuietTactic
import Derived.Deep.RegionHeld3
namespace Go.Proofs.Ytceilgeefegbmaa
open Go Go.Maps Go.WideMaps
open Go.RowKit
set_option linter.unusedVariables false
set_option linter.unusedSimpArgs false

set_option maxHeartbeats 4000000 in
set_option maxRecDepth 100000 in
theorem rsame17_c (ex : Bool) (tm : Int) (v1 v2 : Value) (l : List Tm) (w : World) (hl : l.length ≤ 9223372036854775807) (h1 : RowsAt 2 cellsTm w v1 l) (h2 : RowsAt 2 cellsTm w v2 l) :
    Calls Try.prog 16 #[.agg #[.bool ex, .int .i64 tm, v1], .agg #[.bool ex, .int .i64 tm, v2]] w fun e w' => e = .returned (.bool true) ∧ Below w.heap.size w w' := by
  obtain ⟨p1, c1, rfl⟩ := h1.slice
  obtain ⟨p2, c2, rfl⟩ := h2.slice
  obtain ⟨n, hn⟩ : ∃ n, n = l.length := ⟨_, rfl⟩
  have HNN := Lib.hid hn
  rw [← hn] at h1 h2 hl ⊢
  have B0 := (Below.refl w.heap.size w).alloc (Nat.le_refl _) (.cells #[.bool ex, .int .i64 tm, .slice p1 n c1] 24)
  have B1 := B0.alloc B0.size (.cells #[.bool ex, .int .i64 tm, .slice p2 n c2] 24)
  have K1 := Lib.hid (h1.below B1)
  have K2 := Lib.hid (h2.below B1)
  have HB := Lib.hid B1
  have E1 := Lib.hid (show ((w.alloc (.cells #[.bool ex, .int .i64 tm, .slice p1 n c1] 24)).alloc (.cells #[.bool ex, .int .i64 tm, .slice p2 n c2] 24)).heap[w.heap.size]? = _ from heap_old (heap_new w (.cells #[.bool ex, .int .i64 tm, .slice p1 n c1] 24)))
  have E2 := Lib.hid (show ((w.alloc (.cells #[.bool ex, .int .i64 tm, .slice p1 n c1] 24)).alloc (.cells #[.bool ex, .int .i64 tm, .slice p2 n c2] 24)).heap[w.heap.size + 1]? = some (.cells #[.bool ex, .int .i64 tm, .slice p2 n c2] 24 (0, 0)) from by simpa using heap_new (w.alloc (.cells #[.bool ex, .int .i64 tm, .slice p1 n c1] 24)) (.cells #[.bool ex, .int .i64 tm, .slice p2 n c2] 24))
  clear B0 B1 h1 h2 hn
  go_enter Try.func16, Try.ntmps16
  go_upto_region 1 with fail
  generalize (w.alloc (.cells #[.bool ex, .int .i64 tm, .slice p1 n c1] 24)).alloc (.cells #[.bool ex, .int .i64 tm, .slice p2 n c2] 24) = W at K1 K2 HB E1 E2 ⊢
  have x0 : W.cell? ⟨w.heap.size, 0, none⟩ = some (.bool ex) := cell_of_block E1.out rfl
  have x1 : W.cell? ⟨w.heap.size, 1, none⟩ = some (.int .i64 tm) := cell_of_block E1.out rfl
  have x2 : W.cell? ⟨w.heap.size, 2, none⟩ = some (.slice p1 n c1) := cell_of_block E1.out rfl
  have y0 : W.cell? ⟨w.heap.size + 1, 0, none⟩ = some (.bool ex) := cell_of_block E2.out rfl
  have y1 : W.cell? ⟨w.heap.size + 1, 1, none⟩ = some (.int .i64 tm) := cell_of_block E2.out rfl
  have y2 : W.cell? ⟨w.heap.size + 1, 2, none⟩ = some (.slice p2 n c2) := cell_of_block E2.out rfl
  generalize hvb : w.heap.size + 1 = vb at *
  go_wp2_with fail
  go_loopw [5] (fun i wr => ∃ k m : Nat, k ≤ n ∧ i = .int .i64 k ∧ wr = W.drewN m) (fun i _ => n - (intOf i).toNat)
  case atStart => exact ⟨0, 0, Nat.zero_le _, rfl, rfl⟩
  case round =>
    obtain ⟨k, m, hk, rfl, rfl⟩ := hrel
    by_cases hlt : k < n
    · obtain ⟨x, hx⟩ : ∃ x, l[k]? = some x := ⟨_, List.getElem?_eq_getElem (by rw [← HNN.out]; exact hlt)⟩
      have hne : l ≠ [] := by rintro rfl; simp at hx
      obtain ⟨q1, d1, b1, o1, hv1, hp1, hc1⟩ := K1.out
      obtain ⟨q2, d2, b2, o2, hv2, hp2, hc2⟩ := K2.out
      simp only [Value.slice.injEq] at hv1 hv2
      obtain ⟨rfl, -, rfl⟩ := hv1
      obtain ⟨rfl, -, rfl⟩ := hv2
      obtain rfl := hp1 hne
      obtain rfl := hp2 hne
      have r1 : W.cell? ⟨b1, o1 + k * 2, none⟩ = some (.string x.1) := hc1 k _ hx 0 _ rfl
      have r2 : W.cell? ⟨b1, o1 + k * 2 + 1, none⟩ = some (.int .i64 x.2) := hc1 k _ hx 1 _ rfl
      have s1 : W.cell? ⟨b2, o2 + k * 2, none⟩ = some (.string x.1) := hc2 k _ hx 0 _ rfl
      have s2 : W.cell? ⟨b2, o2 + k * 2 + 1, none⟩ = some (.int .i64 x.2) := hc2 k _ hx 1 _ rfl
      generalize x.1 = xs at r1 s1
      generalize x.2 = xt at r2 s2
      have d3 : decide (k < n) = true := decide_eq_true hlt
      have d4 : decide ((k : Int) < (n : Int)) = true := decide_eq_true (by omega)
      have d5 : decide (0 ≤ (k : Int)) = true := decide_eq_true (by omega)
      clear hx hne hc1 hc2 hp1 hp2
      go_wp2_with fail
      go_quiet (fail)
      go_wp2_with fail
      go_roundw
      case rel => exact ⟨k + 1, _, by omega, by go_num, rfl⟩
      case measure => simp [intOf]; omega
    · obtain rfl : k = n := by omega
      have d3 : decide (k < k) = false := decide_eq_false (by omega)
      have d4 : decide ((k : Int) < (k : Int)) = false := decide_eq_false (by omega)
      go_wp2_with fail
      go_ret
      exact ⟨rfl, below_drewN HB.out m⟩
end Go.Proofs.Ytceilgeefegbmaa
