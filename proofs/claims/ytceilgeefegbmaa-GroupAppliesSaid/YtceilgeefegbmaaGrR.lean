/-
  The samples of layer 17 (siphonlaw17.live). A contract over the translated program.
-/
import Derived.Test.YtceilgeefegbmaaGrQ
import Derived.Test.YtceilgeefegbmaaGrC
import Derived.Laws.StructEq
namespace Go.Proofs.Ytceilgeefegbmaa
open Go Go.Maps Go.WideMaps
open Go.RowKit
set_option linter.unusedVariables false
set_option linter.unusedSimpArgs false

def aA : ByteArray := ⟨#[97]⟩
def aB : ByteArray := ⟨#[98]⟩
def aC : ByteArray := ⟨#[99]⟩
theorem live_1 : appS noS 2 [⟨#[97]⟩] 10 260 2 = ⟨⟨true, 270, [(⟨#[97]⟩, 0)]⟩, true, false, [], 0⟩ := by kernel_rfl
theorem live_2 : appS ⟨true, 270, [(⟨#[97]⟩, 0)]⟩ 3 [⟨#[98]⟩] 20 260 2 = ⟨⟨true, 22, [(⟨#[97]⟩, 0), (⟨#[98]⟩, 280)]⟩, true, true, [], 0⟩ := by kernel_rfl
theorem live_3 : admS ⟨true, 22, [(⟨#[97]⟩, 0), (⟨#[98]⟩, 280)]⟩ ⟨#[97]⟩ 20 = false := by kernel_rfl
theorem live_4 : admS ⟨true, 22, [(⟨#[97]⟩, 0), (⟨#[98]⟩, 280)]⟩ ⟨#[99]⟩ 21 = true := by kernel_rfl
theorem live_5 : admS ⟨true, 22, [(⟨#[97]⟩, 0), (⟨#[98]⟩, 280)]⟩ ⟨#[99]⟩ 22 = false := by kernel_rfl
theorem live_6 : admS ⟨true, 22, [(⟨#[97]⟩, 0), (⟨#[98]⟩, 280)]⟩ ⟨#[98]⟩ 22 = true := by kernel_rfl
theorem ad_one (w : World) (s : ByteArray) (t : TypeId) : AddrsAt (w.alloc (.cells #[.string s] t)) (.slice (some ⟨w.heap.size, 0, none⟩) 1 1) [s] := by
  refine ⟨_, _, w.heap.size, 0, rfl, fun _ => ⟨rfl, Nat.zero_le _, fun h => by cases h⟩, fun j x hj => ?_⟩
  rw [Nat.zero_add]
  refine cell_of_block (heap_new w _) ?_
  rcases j with _ | j
  · simp at hj; subst hj; rfl
  · simp at hj

set_option maxHeartbeats 8000000 in
set_option maxRecDepth 100000 in
theorem live17_c (w : World) : Calls Try.prog 10 #[] w fun e w' => e = .returned (.bool true) ∧ Below w.heap.size w w' := by
  have A1 := Lib.hid (fun U rv (ha : AddrsAt U rv [⟨#[97]⟩]) => applyF_c false 0 (.slice none 0 0) [] 2 ⟨#[]⟩ rv [⟨#[97]⟩] 10 260 2 U (by decide) (RowsAt.nil _) (fun x hx => by cases hx) (by decide) ha (fun s hs => by simp at hs; subst hs; decide))
  rw [live_1] at A1
  have A2 := Lib.hid (fun U sv rv (hr : RowsAt 2 cellsTm U sv [(⟨#[97]⟩, 0)]) (ha : AddrsAt U rv [⟨#[98]⟩]) => applyT_c true 270 sv [(⟨#[97]⟩, 0)] 3 ⟨#[]⟩ rv [⟨#[98]⟩] 20 260 2 U (by decide) hr (fun x hx => by simp at hx; subst hx; decide) (by decide) ha (fun s hs => by simp at hs; subst hs; decide))
  rw [live_2] at A2
  have AD := Lib.hid (fun U sv a now (hr : RowsAt 2 cellsTm U sv [(⟨#[97]⟩, 0), (⟨#[98]⟩, 280)]) => gadm_c true 22 sv [(⟨#[97]⟩, 0), (⟨#[98]⟩, 280)] a now U (by decide) hr)
  unfold ApPost at A1 A2
  simp only at A1 A2
  have HT1 := Lib.hid (heap_new w (.cells #[.int .i64 260, .int .i64 2] 39))
  have HB1 := Lib.hid ((Below.refl w.heap.size w).alloc (Nat.le_refl _) (.cells #[.int .i64 260, .int .i64 2] 39))
  go_enter Try.func10, Try.ntmps10
  go_upto_region 2 with fail
  have hW1 : w.heap.size < (w.alloc (.cells #[.int .i64 260, .int .i64 2] 39)).heap.size := by simp
  generalize w.alloc (.cells #[.int .i64 260, .int .i64 2] 39) = W1 at HT1 HB1 hW1 ⊢
  have H2 := Lib.hid (heap_old (p := .cells #[.string ⟨#[97]⟩] 25) HT1.out)
  have B2 := Lib.hid (HB1.out.alloc HB1.out.size (.cells #[.string ⟨#[97]⟩] 25))
  have D2 := Lib.hid (ad_one W1 ⟨#[97]⟩ 25)
  have t0 := cell_of_block (j := 0) H2.out rfl
  have t1 := cell_of_block (j := 1) H2.out rfl
  go_wp2_with fail
  ((with_reducible refine (A1.out _ _ D2.out).mono ?_); rintro e w2 ⟨vs, va, rfl, r2, a2, k2⟩)
  obtain ⟨ps, cs, rfl⟩ := r2.slice
  obtain ⟨pa, ca, rfl⟩ := a2.slice
  have T2 := Lib.hid (below_block k2 (lt_of_block H2.out) H2.out)
  have B3 := Lib.hid (gk_call B2.out k2)
  have R2 := Lib.hid (show RowsAt 2 cellsTm w2 (.slice ps 1 cs) [(⟨#[97]⟩, 0)] from r2)
  clear t0 t1 r2 a2 k2 A1 D2 H2 B2 HT1 HB1
  go_upto_region 3 with fail
  have hsb : (w2.alloc (.cells #[.bool true, .int .i64 270, .slice ps 1 cs] 24)).heap.size = w2.heap.size + 1 := by simp
  have X1 := Lib.hid (show ((w2.alloc (.cells #[.bool true, .int .i64 270, .slice ps 1 cs] 24)).alloc (.cells #[.bool false, .slice pa 0 ca] 44)).heap[w2.heap.size]? = _ from heap_old (heap_new w2 (.cells #[.bool true, .int .i64 270, .slice ps 1 cs] 24)))
  have X2 := Lib.hid (show ((w2.alloc (.cells #[.bool true, .int .i64 270, .slice ps 1 cs] 24)).alloc (.cells #[.bool false, .slice pa 0 ca] 44)).heap[w2.heap.size + 1]? = some (.cells #[.bool false, .slice pa 0 ca] 44 (0, 0)) from by simpa using heap_new (w2.alloc (.cells #[.bool true, .int .i64 270, .slice ps 1 cs] 24)) (.cells #[.bool false, .slice pa 0 ca] 44))
  have T3 := Lib.hid (show ((w2.alloc (.cells #[.bool true, .int .i64 270, .slice ps 1 cs] 24)).alloc (.cells #[.bool false, .slice pa 0 ca] 44)).heap[w.heap.size]? = _ from heap_old (heap_old T2.out))
  have k3 := ((Below.refl w2.heap.size w2).alloc (Nat.le_refl _) (.cells #[.bool true, .int .i64 270, .slice ps 1 cs] 24)).alloc (by simp) (.cells #[.bool false, .slice pa 0 ca] 44)
  have R3 := Lib.hid (R2.out.below k3)
  have B4 := Lib.hid (gk_call B3.out k3)
  have hw2 : w.heap.size < w2.heap.size := lt_of_block T2.out
  clear k3 hsb R2 B3 T2
  generalize (w2.alloc (.cells #[.bool true, .int .i64 270, .slice ps 1 cs] 24)).alloc (.cells #[.bool false, .slice pa 0 ca] 44) = W3 at X1 X2 T3 R3 B4 ⊢
  have x0 := cell_of_block (j := 0) X1.out rfl
  have x1 := cell_of_block (j := 1) X1.out rfl
  have x2 := cell_of_block (j := 2) X1.out rfl
  have y0 := cell_of_block (j := 0) X2.out rfl
  have y1 := cell_of_block (j := 1) X2.out rfl
  go_upto_region 5 with fail
  clear x0 x1 x2 y0 y1
  have X4 := Lib.hid (heap_old (p := .cells #[.string ⟨#[98]⟩] 25) X1.out)
  have T4 := Lib.hid (heap_old (p := .cells #[.string ⟨#[98]⟩] 25) T3.out)
  have k4 := (Below.refl W3.heap.size W3).alloc (Nat.le_refl _) (.cells #[.string ⟨#[98]⟩] 25)
  have B5 := Lib.hid (gk_call B4.out k4)
  have R4 := Lib.hid (R3.out.below k4)
  have D4 := Lib.hid (ad_one W3 ⟨#[98]⟩ 25)
  have x0 : W3.cell? ⟨w2.heap.size, 0, none⟩ = some (.bool true) := cell_of_block X1.out rfl
  have x1 : W3.cell? ⟨w2.heap.size, 1, none⟩ = some (.int .i64 270) := cell_of_block X1.out rfl
  have x2 : W3.cell? ⟨w2.heap.size, 2, none⟩ = some (.slice ps 1 cs) := cell_of_block X1.out rfl
  have hx : w2.heap.size < W3.heap.size := lt_of_block X1.out
  have t0 : W3.cell? ⟨w.heap.size, 0, none⟩ = some (.int .i64 260) := cell_of_block T3.out rfl
  have t1 : W3.cell? ⟨w.heap.size, 1, none⟩ = some (.int .i64 2) := cell_of_block T3.out rfl
  have hx2 : w.heap.size < W3.heap.size := lt_of_block T3.out
  clear k4
  go_wp2_with fail
  ((with_reducible refine (A2.out _ _ _ R4.out D4.out).mono ?_); rintro e w5 ⟨us, ua, rfl, r5, a5, k5⟩)
  obtain ⟨qs, ds, rfl⟩ := r5.slice
  obtain ⟨qa, da, rfl⟩ := a5.slice
  have B6 := Lib.hid (gk_call B5.out k5)
  have R5 := Lib.hid (show RowsAt 2 cellsTm w5 (.slice qs 2 ds) [(⟨#[97]⟩, 0), (⟨#[98]⟩, 280)] from r5)
  clear x0 x1 x2 t0 t1 r5 a5 k5 A2 D4 R4 X4 T4 B5 B4 X1 X2 T3 R3
  go_upto_region 6 with fail
  have Y1 := Lib.hid (show ((w5.alloc (.cells #[.bool true, .int .i64 22, .slice qs 2 ds] 24)).alloc (.cells #[.bool true, .slice qa 0 da] 44)).heap[w5.heap.size]? = _ from heap_old (heap_new w5 (.cells #[.bool true, .int .i64 22, .slice qs 2 ds] 24)))
  have Y2 := Lib.hid (show ((w5.alloc (.cells #[.bool true, .int .i64 22, .slice qs 2 ds] 24)).alloc (.cells #[.bool true, .slice qa 0 da] 44)).heap[w5.heap.size + 1]? = some (.cells #[.bool true, .slice qa 0 da] 44 (0, 0)) from by simpa using heap_new (w5.alloc (.cells #[.bool true, .int .i64 22, .slice qs 2 ds] 24)) (.cells #[.bool true, .slice qa 0 da] 44))
  have k6 := ((Below.refl w5.heap.size w5).alloc (Nat.le_refl _) (.cells #[.bool true, .int .i64 22, .slice qs 2 ds] 24)).alloc (by simp) (.cells #[.bool true, .slice qa 0 da] 44)
  have R6 := Lib.hid (R5.out.below k6)
  have B7 := Lib.hid (gk_call B6.out k6)
  clear k6 R5 B6
  generalize (w5.alloc (.cells #[.bool true, .int .i64 22, .slice qs 2 ds] 24)).alloc (.cells #[.bool true, .slice qa 0 da] 44) = W6 at Y1 Y2 R6 B7 ⊢
  generalize w5.heap.size = sb at Y1 Y2 ⊢
  have y0 : W6.cell? ⟨sb, 0, none⟩ = some (.bool true) := cell_of_block Y1.out rfl
  have y1 : W6.cell? ⟨sb, 1, none⟩ = some (.int .i64 22) := cell_of_block Y1.out rfl
  have y2 : W6.cell? ⟨sb, 2, none⟩ = some (.slice qs 2 ds) := cell_of_block Y1.out rfl
  have z0 : W6.cell? ⟨sb + 1, 0, none⟩ = some (.bool true) := cell_of_block Y2.out rfl
  obtain ⟨rp, rc, rb, ro, re, rh, rcell⟩ := R6.out
  simp only [List.length_cons, List.length_nil, Value.slice.injEq] at re
  obtain ⟨rfl, -, rfl⟩ := re
  obtain rfl := rh (by simp)
  have v0 : W6.cell? ⟨rb, ro + 1 * 2, none⟩ = some (.string ⟨#[98]⟩) := rcell 1 _ rfl 0 _ rfl
  have v1 : W6.cell? ⟨rb, ro + 1 * 2 + 1, none⟩ = some (.int .i64 280) := rcell 1 _ rfl 1 _ rfl
  clear rh rcell
  go_wp2_with fail
  have L3 := AD.out W6 _ ⟨#[97]⟩ 20 R6.out
  rw [live_3] at L3
  replace L3 := Lib.hid L3
  ((with_reducible refine L3.out.mono ?_); rintro e w7 ⟨rfl, k7⟩)
  clear y0 y1 y2 z0 v0 v1 L3
  have R7 := Lib.hid (R6.out.below k7)
  have Y7 := Lib.hid (below_block k7 (lt_of_block Y1.out) Y1.out)
  have B8 := Lib.hid (gk_call B7.out k7)
  have y0 : w7.cell? ⟨sb, 0, none⟩ = some (.bool true) := cell_of_block Y7.out rfl
  have y1 : w7.cell? ⟨sb, 1, none⟩ = some (.int .i64 22) := cell_of_block Y7.out rfl
  have y2 : w7.cell? ⟨sb, 2, none⟩ = some (.slice (some ⟨rb, ro, none⟩) 2 ds) := cell_of_block Y7.out rfl
  have L4 := AD.out w7 _ ⟨#[99]⟩ 21 R7.out
  rw [live_4] at L4
  replace L4 := Lib.hid L4
  clear k7 R6 Y1 B7
  go_wp2_with fail
  ((with_reducible refine L4.out.mono ?_); rintro e w8 ⟨rfl, k8⟩)
  clear y0 y1 y2 L4
  have R8 := Lib.hid (R7.out.below k8)
  have Y8 := Lib.hid (below_block k8 (lt_of_block Y7.out) Y7.out)
  have B9 := Lib.hid (gk_call B8.out k8)
  have y0 : w8.cell? ⟨sb, 0, none⟩ = some (.bool true) := cell_of_block Y8.out rfl
  have y1 : w8.cell? ⟨sb, 1, none⟩ = some (.int .i64 22) := cell_of_block Y8.out rfl
  have y2 : w8.cell? ⟨sb, 2, none⟩ = some (.slice (some ⟨rb, ro, none⟩) 2 ds) := cell_of_block Y8.out rfl
  have L5 := AD.out w8 _ ⟨#[99]⟩ 22 R8.out
  rw [live_5] at L5
  replace L5 := Lib.hid L5
  clear k8 R7 Y7 B8
  go_wp2_with fail
  ((with_reducible refine L5.out.mono ?_); rintro e w9 ⟨rfl, k9⟩)
  clear y0 y1 y2 L5
  have R9 := Lib.hid (R8.out.below k9)
  have Y9 := Lib.hid (below_block k9 (lt_of_block Y8.out) Y8.out)
  have B10 := Lib.hid (gk_call B9.out k9)
  have y0 : w9.cell? ⟨sb, 0, none⟩ = some (.bool true) := cell_of_block Y9.out rfl
  have y1 : w9.cell? ⟨sb, 1, none⟩ = some (.int .i64 22) := cell_of_block Y9.out rfl
  have y2 : w9.cell? ⟨sb, 2, none⟩ = some (.slice (some ⟨rb, ro, none⟩) 2 ds) := cell_of_block Y9.out rfl
  have L6 := AD.out w9 _ ⟨#[98]⟩ 22 R9.out
  rw [live_6] at L6
  replace L6 := Lib.hid L6
  clear k9 R8 Y8 B9
  go_wp2_with fail
  ((with_reducible refine L6.out.mono ?_); rintro e w10 ⟨rfl, k10⟩)
  clear y0 y1 y2 L6
  have BF := Lib.hid (gk_call B10.out k10)
  go_wp2_with fail
  go_ret
  exact ⟨rfl, BF.out⟩
end Go.Proofs.Ytceilgeefegbmaa
