/-
  The document's Apply: what may not be. Contract over the translated program.
-/
import Derived.Test.YtceilgeefegbmaaGpH
import Derived.Deep.RegionHeld3
namespace Go.Proofs.Ytceilgeefegbmaa
open Go Go.Maps Go.WideMaps
open Go.RowKit
set_option linter.unusedVariables false
set_option linter.unusedSimpArgs false

set_option maxHeartbeats 16000000 in
set_option maxRecDepth 100000 in
theorem ap17_3 (ex : Bool) (tm : Int) (q : Option Addr) (n c : Nat) (sl : List Tm) (kd : Int) (gp : ByteArray) (rp : Option Addr) (rn rc : Nat) (rs : List ByteArray) (now m l : Int) (w : World) (hl0 : sl.length ≤ 100) (hr0 : rs.length ≤ 100) (hrn0 : rn = rs.length) (hR : RowsAt 2 cellsTm w (.slice q n c) sl) (hRR : AddrsAt w (.slice rp rn rc) rs) (hok : okS ⟨ex, tm, sl⟩ = false) :
    Calls Try.prog 21 #[.agg #[.bool ex, .int .i64 tm, .slice q n c], .bool true, .agg #[.int .i64 kd, .string gp, .slice rp rn rc], .int .i64 now, .int .i64 m, .int .i64 l] w (ApPost (noA 3) w) := by
  have k0 : Below w.heap.size w ((((w.alloc (.cells #[.bool ex, .int .i64 tm, .slice q n c] 24)).alloc (.cells #[.int .i64 kd, .string gp, .slice rp rn rc] 37)).alloc (.cells #[.bool false, .int .i64 0, .slice none 0 0] 24)).alloc (.cells #[.bool false, .slice none 0 0] 47)) := ((((Below.refl _ _).alloc (Nat.le_refl _) _).alloc (by simp) _).alloc (by simp; omega) _).alloc (by simp; omega) _
  have KW := Lib.hid k0
  have B_s := Lib.hid (show ((((w.alloc (.cells #[.bool ex, .int .i64 tm, .slice q n c] 24)).alloc (.cells #[.int .i64 kd, .string gp, .slice rp rn rc] 37)).alloc (.cells #[.bool false, .int .i64 0, .slice none 0 0] 24)).alloc (.cells #[.bool false, .slice none 0 0] 47)).heap[w.heap.size]? = some (.cells #[.bool ex, .int .i64 tm, .slice q n c] 24) from heap_old (heap_old (heap_old (heap_new w (.cells #[.bool ex, .int .i64 tm, .slice q n c] 24)))))
  have B_r := Lib.hid (show ((((w.alloc (.cells #[.bool ex, .int .i64 tm, .slice q n c] 24)).alloc (.cells #[.int .i64 kd, .string gp, .slice rp rn rc] 37)).alloc (.cells #[.bool false, .int .i64 0, .slice none 0 0] 24)).alloc (.cells #[.bool false, .slice none 0 0] 47)).heap[w.heap.size + 1]? = some (.cells #[.int .i64 kd, .string gp, .slice rp rn rc] 37) from heap_old (heap_old (by simpa using heap_new (w.alloc (.cells #[.bool ex, .int .i64 tm, .slice q n c] 24)) (.cells #[.int .i64 kd, .string gp, .slice rp rn rc] 37))))
  have B_o := Lib.hid (show ((((w.alloc (.cells #[.bool ex, .int .i64 tm, .slice q n c] 24)).alloc (.cells #[.int .i64 kd, .string gp, .slice rp rn rc] 37)).alloc (.cells #[.bool false, .int .i64 0, .slice none 0 0] 24)).alloc (.cells #[.bool false, .slice none 0 0] 47)).heap[w.heap.size + 1 + 1]? = some (.cells #[.bool false, .int .i64 0, .slice none 0 0] 24) from heap_old (by simpa using heap_new ((w.alloc (.cells #[.bool ex, .int .i64 tm, .slice q n c] 24)).alloc (.cells #[.int .i64 kd, .string gp, .slice rp rn rc] 37)) (.cells #[.bool false, .int .i64 0, .slice none 0 0] 24)))
  have B_a := Lib.hid (show ((((w.alloc (.cells #[.bool ex, .int .i64 tm, .slice q n c] 24)).alloc (.cells #[.int .i64 kd, .string gp, .slice rp rn rc] 37)).alloc (.cells #[.bool false, .int .i64 0, .slice none 0 0] 24)).alloc (.cells #[.bool false, .slice none 0 0] 47)).heap[w.heap.size + 1 + 1 + 1]? = some (.cells #[.bool false, .slice none 0 0] 47) from by simpa using heap_new (((w.alloc (.cells #[.bool ex, .int .i64 tm, .slice q n c] 24)).alloc (.cells #[.int .i64 kd, .string gp, .slice rp rn rc] 37)).alloc (.cells #[.bool false, .int .i64 0, .slice none 0 0] 24)) (.cells #[.bool false, .slice none 0 0] 47))
  have HR := Lib.hid (hR.below k0)
  have HRR := Lib.hid (hRR.below k0)
  have ge_s := Lib.hid (Nat.le_refl w.heap.size)
  have ge_r := Lib.hid (show w.heap.size ≤ w.heap.size + 1 from by omega)
  have ge_o := Lib.hid (show w.heap.size ≤ w.heap.size + 1 + 1 from by omega)
  have ge_a := Lib.hid (show w.heap.size ≤ w.heap.size + 1 + 1 + 1 from by omega)
  have ne_s_r := Lib.hid (show w.heap.size ≠ w.heap.size + 1 from by omega)
  have ne_s_o := Lib.hid (show w.heap.size ≠ w.heap.size + 1 + 1 from by omega)
  have ne_s_a := Lib.hid (show w.heap.size ≠ w.heap.size + 1 + 1 + 1 from by omega)
  have ne_r_o := Lib.hid (show w.heap.size + 1 ≠ w.heap.size + 1 + 1 from by omega)
  have ne_r_a := Lib.hid (show w.heap.size + 1 ≠ w.heap.size + 1 + 1 + 1 from by omega)
  have ne_o_a := Lib.hid (show w.heap.size + 1 + 1 ≠ w.heap.size + 1 + 1 + 1 from by omega)
  have HQ := Lib.hid (show ∀ U, Below w.heap.size w U → ApPost (noA 3) w (.returned (.tuple #[.agg #[.bool false, .int .i64 0, .slice none 0 0], .bool false, .agg #[.bool false, .slice none 0 0], .int .i64 3])) U from fun U k => ⟨_, _, rfl, RowsAt.nil _, AddrsG.nil _ _ _, k⟩)
  generalize ApPost (noA 3) w = Q at HQ ⊢
  have hl6 := Lib.hid (Nat.le_trans hl0 (show 100 ≤ 1000000 by decide))
  have hr6 := Lib.hid (Nat.le_trans hr0 (show 100 ≤ 1000000 by decide))
  have hchk := Lib.hid (show chkS ⟨ex, tm, sl⟩ = 3 from by unfold chkS; rw [hok]; rfl)
  clear hok hl0 hr0 hrn0
  clear k0 hR hRR
  go_enter Try.func21, Try.ntmps21
  go_upto_region 1 with fail
  generalize ((((w.alloc (.cells #[.bool ex, .int .i64 tm, .slice q n c] 24)).alloc (.cells #[.int .i64 kd, .string gp, .slice rp rn rc] 37)).alloc (.cells #[.bool false, .int .i64 0, .slice none 0 0] 24)).alloc (.cells #[.bool false, .slice none 0 0] 47)) = W at B_s B_r B_o B_a HR HRR KW ⊢
  generalize w.heap.size + 1 + 1 + 1 = e14 at B_a ge_a ne_s_a ne_r_a ne_o_a ⊢
  generalize w.heap.size + 1 + 1 = e12 at B_o ge_o ne_s_o ne_r_o ne_o_a ⊢
  generalize w.heap.size + 1 = rb at B_r ge_r ne_s_r ne_r_o ne_r_a ⊢
  have c_s0 : W.cell? ⟨w.heap.size, 0, none⟩ = some (.bool ex) := cell_of_block B_s.out rfl
  have c_s1 : W.cell? ⟨w.heap.size, 1, none⟩ = some (.int .i64 tm) := cell_of_block B_s.out rfl
  have c_s2 : W.cell? ⟨w.heap.size, 2, none⟩ = some (.slice q n c) := cell_of_block B_s.out rfl
  have CN := Lib.hid (by have h := rchk17_c ex tm (.slice q n c) sl W hl6.out HR.out; rw [hchk.out] at h; exact h)
  go_wp2_with fail
  ((with_reducible refine CN.out.mono ?_); rintro e v1 ⟨rfl, kb9⟩)
  clear c_s0 c_s1 c_s2
  replace B_s := Lib.hid (below_block kb9 (lt_of_block B_s.out) B_s.out)
  replace B_r := Lib.hid (below_block kb9 (lt_of_block B_r.out) B_r.out)
  replace B_o := Lib.hid (below_block kb9 (lt_of_block B_o.out) B_o.out)
  replace B_a := Lib.hid (below_block kb9 (lt_of_block B_a.out) B_a.out)
  replace HR := Lib.hid (HR.out.below kb9)
  replace HRR := Lib.hid (HRR.out.below kb9)
  replace KW := Lib.hid (KW.out.trans (kb9.mono KW.out.size))
  clear CN kb9
  have c_o0 : v1.cell? ⟨e12, 0, none⟩ = some (.bool false) := cell_of_block B_o.out rfl
  have c_o1 : v1.cell? ⟨e12, 1, none⟩ = some (.int .i64 0) := cell_of_block B_o.out rfl
  have c_o2 : v1.cell? ⟨e12, 2, none⟩ = some (.slice none 0 0) := cell_of_block B_o.out rfl
  have c_a0 : v1.cell? ⟨e14, 0, none⟩ = some (.bool false) := cell_of_block B_a.out rfl
  have c_a1 : v1.cell? ⟨e14, 1, none⟩ = some (.slice none 0 0) := cell_of_block B_a.out rfl
  have z_o := (fun j : Nat => free_of_block (j := j) B_o.out)
  have z_a := (fun j : Nat => free_of_block (j := j) B_a.out)
  have kt : Tw v1 (((v1.setCell ⟨e12, 0, none⟩ (.bool false)).setCell ⟨e12, 1, none⟩ (.int .i64 0)).setCell ⟨e12, 2, none⟩ (.slice none 0 0)) e12 e12 := ((tw_set v1 e12 0 (.bool false)).trans (tw_set (v1.setCell ⟨e12, 0, none⟩ (.bool false)) e12 1 (.int .i64 0))).trans (tw_set ((v1.setCell ⟨e12, 0, none⟩ (.bool false)).setCell ⟨e12, 1, none⟩ (.int .i64 0)) e12 2 (.slice none 0 0))
  replace HR := Lib.hid (rows_tw HR.out B_o.out no_str kt)
  replace HRR := Lib.hid (addrs_tw HRR.out B_o.out no_str kt)
  replace B_s := Lib.hid (blk_tw kt B_s.out ne_s_o.out)
  replace B_r := Lib.hid (blk_tw kt B_r.out ne_r_o.out)
  replace B_a := Lib.hid (blk_tw kt B_a.out (Ne.symm ne_o_a.out))
  replace B_o := Lib.hid (show ((((v1.setCell ⟨e12, 0, none⟩ (.bool false)).setCell ⟨e12, 1, none⟩ (.int .i64 0)).setCell ⟨e12, 2, none⟩ (.slice none 0 0))).heap[e12]? = some (.cells #[.bool false, .int .i64 0, .slice none 0 0] 24 (0, 0)) from (heap_store (j := 2) (v := .slice none 0 0) (heap_store (j := 1) (v := .int .i64 0) (heap_store (j := 0) (v := .bool false) B_o.out))))
  replace KW := Lib.hid (bel_tw KW.out ge_o.out kt)
  clear kt
  have kt : Tw (((v1.setCell ⟨e12, 0, none⟩ (.bool false)).setCell ⟨e12, 1, none⟩ (.int .i64 0)).setCell ⟨e12, 2, none⟩ (.slice none 0 0)) (((((v1.setCell ⟨e12, 0, none⟩ (.bool false)).setCell ⟨e12, 1, none⟩ (.int .i64 0)).setCell ⟨e12, 2, none⟩ (.slice none 0 0)).setCell ⟨e14, 0, none⟩ (.bool false)).setCell ⟨e14, 1, none⟩ (.slice none 0 0)) e14 e14 := (tw_set (((v1.setCell ⟨e12, 0, none⟩ (.bool false)).setCell ⟨e12, 1, none⟩ (.int .i64 0)).setCell ⟨e12, 2, none⟩ (.slice none 0 0)) e14 0 (.bool false)).trans (tw_set ((((v1.setCell ⟨e12, 0, none⟩ (.bool false)).setCell ⟨e12, 1, none⟩ (.int .i64 0)).setCell ⟨e12, 2, none⟩ (.slice none 0 0)).setCell ⟨e14, 0, none⟩ (.bool false)) e14 1 (.slice none 0 0))
  replace HR := Lib.hid (rows_tw HR.out B_a.out no_str2 kt)
  replace HRR := Lib.hid (addrs_tw HRR.out B_a.out no_str2 kt)
  replace B_s := Lib.hid (blk_tw kt B_s.out ne_s_a.out)
  replace B_r := Lib.hid (blk_tw kt B_r.out ne_r_a.out)
  replace B_o := Lib.hid (blk_tw kt B_o.out ne_o_a.out)
  replace B_a := Lib.hid (show ((((((v1.setCell ⟨e12, 0, none⟩ (.bool false)).setCell ⟨e12, 1, none⟩ (.int .i64 0)).setCell ⟨e12, 2, none⟩ (.slice none 0 0)).setCell ⟨e14, 0, none⟩ (.bool false)).setCell ⟨e14, 1, none⟩ (.slice none 0 0))).heap[e14]? = some (.cells #[.bool false, .slice none 0 0] 47 (0, 0)) from (heap_store (j := 1) (v := .slice none 0 0) (heap_store (j := 0) (v := .bool false) B_a.out)))
  replace KW := Lib.hid (bel_tw KW.out ge_a.out kt)
  clear kt
  have HF := Lib.hid (HQ.out _ KW.out)
  have nn1 := ne_o_a.out
  have nn2 := Ne.symm ne_o_a.out
  go_wp2_with fail
  have y0 := cell_of_block (j := 0) B_o.out rfl
  have y1 := cell_of_block (j := 1) B_o.out rfl
  have y2 := cell_of_block (j := 2) B_o.out rfl
  have y3 := cell_of_block (j := 0) B_a.out rfl
  have y4 := cell_of_block (j := 1) B_a.out rfl
  exact bodyPost_ret (v := .tuple #[.agg #[.bool false, .int .i64 0, .slice none 0 0], .bool false, .agg #[.bool false, .slice none 0 0], .int .i64 3]) (by simp [results, Try.results21, go_sem, y0, y1, y2, y3, y4]) rfl HF.out

set_option maxHeartbeats 16000000 in
set_option maxRecDepth 100000 in
theorem ap17_1t (ex : Bool) (tm : Int) (q : Option Addr) (n c : Nat) (sl : List Tm) (kd : Int) (gp : ByteArray) (rp : Option Addr) (rn rc : Nat) (rs : List ByteArray) (now m l : Int) (w : World) (hl0 : sl.length ≤ 100) (hr0 : rs.length ≤ 100) (hrn0 : rn = rs.length) (hR : RowsAt 2 cellsTm w (.slice q n c) sl) (hRR : AddrsAt w (.slice rp rn rc) rs) (hok : okS ⟨ex, tm, sl⟩ = true) (hrec : (mayT m l now && recT kd rs) = false) :
    Calls Try.prog 21 #[.agg #[.bool ex, .int .i64 tm, .slice q n c], .bool true, .agg #[.int .i64 kd, .string gp, .slice rp rn rc], .int .i64 now, .int .i64 m, .int .i64 l] w (ApPost (noA 1) w) := by
  have k0 : Below w.heap.size w ((((w.alloc (.cells #[.bool ex, .int .i64 tm, .slice q n c] 24)).alloc (.cells #[.int .i64 kd, .string gp, .slice rp rn rc] 37)).alloc (.cells #[.bool false, .int .i64 0, .slice none 0 0] 24)).alloc (.cells #[.bool false, .slice none 0 0] 47)) := ((((Below.refl _ _).alloc (Nat.le_refl _) _).alloc (by simp) _).alloc (by simp; omega) _).alloc (by simp; omega) _
  have KW := Lib.hid k0
  have B_s := Lib.hid (show ((((w.alloc (.cells #[.bool ex, .int .i64 tm, .slice q n c] 24)).alloc (.cells #[.int .i64 kd, .string gp, .slice rp rn rc] 37)).alloc (.cells #[.bool false, .int .i64 0, .slice none 0 0] 24)).alloc (.cells #[.bool false, .slice none 0 0] 47)).heap[w.heap.size]? = some (.cells #[.bool ex, .int .i64 tm, .slice q n c] 24) from heap_old (heap_old (heap_old (heap_new w (.cells #[.bool ex, .int .i64 tm, .slice q n c] 24)))))
  have B_r := Lib.hid (show ((((w.alloc (.cells #[.bool ex, .int .i64 tm, .slice q n c] 24)).alloc (.cells #[.int .i64 kd, .string gp, .slice rp rn rc] 37)).alloc (.cells #[.bool false, .int .i64 0, .slice none 0 0] 24)).alloc (.cells #[.bool false, .slice none 0 0] 47)).heap[w.heap.size + 1]? = some (.cells #[.int .i64 kd, .string gp, .slice rp rn rc] 37) from heap_old (heap_old (by simpa using heap_new (w.alloc (.cells #[.bool ex, .int .i64 tm, .slice q n c] 24)) (.cells #[.int .i64 kd, .string gp, .slice rp rn rc] 37))))
  have B_o := Lib.hid (show ((((w.alloc (.cells #[.bool ex, .int .i64 tm, .slice q n c] 24)).alloc (.cells #[.int .i64 kd, .string gp, .slice rp rn rc] 37)).alloc (.cells #[.bool false, .int .i64 0, .slice none 0 0] 24)).alloc (.cells #[.bool false, .slice none 0 0] 47)).heap[w.heap.size + 1 + 1]? = some (.cells #[.bool false, .int .i64 0, .slice none 0 0] 24) from heap_old (by simpa using heap_new ((w.alloc (.cells #[.bool ex, .int .i64 tm, .slice q n c] 24)).alloc (.cells #[.int .i64 kd, .string gp, .slice rp rn rc] 37)) (.cells #[.bool false, .int .i64 0, .slice none 0 0] 24)))
  have B_a := Lib.hid (show ((((w.alloc (.cells #[.bool ex, .int .i64 tm, .slice q n c] 24)).alloc (.cells #[.int .i64 kd, .string gp, .slice rp rn rc] 37)).alloc (.cells #[.bool false, .int .i64 0, .slice none 0 0] 24)).alloc (.cells #[.bool false, .slice none 0 0] 47)).heap[w.heap.size + 1 + 1 + 1]? = some (.cells #[.bool false, .slice none 0 0] 47) from by simpa using heap_new (((w.alloc (.cells #[.bool ex, .int .i64 tm, .slice q n c] 24)).alloc (.cells #[.int .i64 kd, .string gp, .slice rp rn rc] 37)).alloc (.cells #[.bool false, .int .i64 0, .slice none 0 0] 24)) (.cells #[.bool false, .slice none 0 0] 47))
  have HR := Lib.hid (hR.below k0)
  have HRR := Lib.hid (hRR.below k0)
  have ge_s := Lib.hid (Nat.le_refl w.heap.size)
  have ge_r := Lib.hid (show w.heap.size ≤ w.heap.size + 1 from by omega)
  have ge_o := Lib.hid (show w.heap.size ≤ w.heap.size + 1 + 1 from by omega)
  have ge_a := Lib.hid (show w.heap.size ≤ w.heap.size + 1 + 1 + 1 from by omega)
  have ne_s_r := Lib.hid (show w.heap.size ≠ w.heap.size + 1 from by omega)
  have ne_s_o := Lib.hid (show w.heap.size ≠ w.heap.size + 1 + 1 from by omega)
  have ne_s_a := Lib.hid (show w.heap.size ≠ w.heap.size + 1 + 1 + 1 from by omega)
  have ne_r_o := Lib.hid (show w.heap.size + 1 ≠ w.heap.size + 1 + 1 from by omega)
  have ne_r_a := Lib.hid (show w.heap.size + 1 ≠ w.heap.size + 1 + 1 + 1 from by omega)
  have ne_o_a := Lib.hid (show w.heap.size + 1 + 1 ≠ w.heap.size + 1 + 1 + 1 from by omega)
  have HQ := Lib.hid (show ∀ U, Below w.heap.size w U → ApPost (noA 1) w (.returned (.tuple #[.agg #[.bool false, .int .i64 0, .slice none 0 0], .bool false, .agg #[.bool false, .slice none 0 0], .int .i64 1])) U from fun U k => ⟨_, _, rfl, RowsAt.nil _, AddrsG.nil _ _ _, k⟩)
  generalize ApPost (noA 1) w = Q at HQ ⊢
  have hl6 := Lib.hid (Nat.le_trans hl0 (show 100 ≤ 1000000 by decide))
  have hr6 := Lib.hid (Nat.le_trans hr0 (show 100 ≤ 1000000 by decide))
  have hchk := Lib.hid (show chkS ⟨ex, tm, sl⟩ = 0 from by unfold chkS; rw [hok]; rfl)
  have MY := Lib.hid (fun U => may17_c now m l U)
  unfold recT at hrec
  rw [← hrn0] at hrec
  obtain ⟨mt, hmt⟩ : ∃ mt, mt = mayT m l now := ⟨_, rfl⟩
  rw [← hmt] at MY hrec
  obtain ⟨b1, hb1⟩ : ∃ b1, b1 = decide (kd < 1) := ⟨_, rfl⟩
  obtain ⟨b2, hb2⟩ : ∃ b2, b2 = decide (6 < kd) := ⟨_, rfl⟩
  obtain ⟨b3, hb3⟩ : ∃ b3, b3 = decide (60 < rn) := ⟨_, rfl⟩
  have hb4 : b3 = decide (60 < (rn : Int)) := by rw [hb3]; exact decide_eq_decide.mpr (by omega)
  have HX := Lib.hid (show (!mt || b1 || b2 || b3) = true from by
    rw [hb1, hb2, hb3]
    rcases Bool.eq_false_or_eq_true mt with h | h
    · rw [h] at hrec ⊢
      simp only [Bool.true_and, Bool.and_eq_false_iff, decide_eq_false_iff_not] at hrec
      simp only [Bool.not_true, Bool.false_or, Bool.or_eq_true, decide_eq_true_eq]
      omega
    · rw [h]; rfl)
  have e1 := hb1.symm
  have e2 := hb2.symm
  have e3 := hb3.symm
  have e4 := hb4.symm
  clear hrec hmt hb1 hb2 hb3 hb4 hl0 hr0 hrn0 hok
  clear k0 hR hRR
  go_enter Try.func21, Try.ntmps21
  go_upto_region 1 with fail
  generalize ((((w.alloc (.cells #[.bool ex, .int .i64 tm, .slice q n c] 24)).alloc (.cells #[.int .i64 kd, .string gp, .slice rp rn rc] 37)).alloc (.cells #[.bool false, .int .i64 0, .slice none 0 0] 24)).alloc (.cells #[.bool false, .slice none 0 0] 47)) = W at B_s B_r B_o B_a HR HRR KW ⊢
  generalize w.heap.size + 1 + 1 + 1 = e14 at B_a ge_a ne_s_a ne_r_a ne_o_a ⊢
  generalize w.heap.size + 1 + 1 = e12 at B_o ge_o ne_s_o ne_r_o ne_o_a ⊢
  generalize w.heap.size + 1 = rb at B_r ge_r ne_s_r ne_r_o ne_r_a ⊢
  have c_s0 : W.cell? ⟨w.heap.size, 0, none⟩ = some (.bool ex) := cell_of_block B_s.out rfl
  have c_s1 : W.cell? ⟨w.heap.size, 1, none⟩ = some (.int .i64 tm) := cell_of_block B_s.out rfl
  have c_s2 : W.cell? ⟨w.heap.size, 2, none⟩ = some (.slice q n c) := cell_of_block B_s.out rfl
  have CN := Lib.hid (by have h := rchk17_c ex tm (.slice q n c) sl W hl6.out HR.out; rw [hchk.out] at h; exact h)
  go_wp2_with fail
  ((with_reducible refine CN.out.mono ?_); rintro e v1 ⟨rfl, kb9⟩)
  clear c_s0 c_s1 c_s2
  replace B_s := Lib.hid (below_block kb9 (lt_of_block B_s.out) B_s.out)
  replace B_r := Lib.hid (below_block kb9 (lt_of_block B_r.out) B_r.out)
  replace B_o := Lib.hid (below_block kb9 (lt_of_block B_o.out) B_o.out)
  replace B_a := Lib.hid (below_block kb9 (lt_of_block B_a.out) B_a.out)
  replace HR := Lib.hid (HR.out.below kb9)
  replace HRR := Lib.hid (HRR.out.below kb9)
  replace KW := Lib.hid (KW.out.trans (kb9.mono KW.out.size))
  clear CN kb9
  have CN := Lib.hid (MY.out v1)
  go_wp2_with fail
  ((with_reducible refine CN.out.mono ?_); rintro e v2 ⟨rfl, kb9⟩)
  replace B_s := Lib.hid (below_block kb9 (lt_of_block B_s.out) B_s.out)
  replace B_r := Lib.hid (below_block kb9 (lt_of_block B_r.out) B_r.out)
  replace B_o := Lib.hid (below_block kb9 (lt_of_block B_o.out) B_o.out)
  replace B_a := Lib.hid (below_block kb9 (lt_of_block B_a.out) B_a.out)
  replace HR := Lib.hid (HR.out.below kb9)
  replace HRR := Lib.hid (HRR.out.below kb9)
  replace KW := Lib.hid (KW.out.trans (kb9.mono KW.out.size))
  clear CN kb9
  have c_r0 : v2.cell? ⟨rb, 0, none⟩ = some (.int .i64 kd) := cell_of_block B_r.out rfl
  have c_r1 : v2.cell? ⟨rb, 1, none⟩ = some (.string gp) := cell_of_block B_r.out rfl
  have c_r2 : v2.cell? ⟨rb, 2, none⟩ = some (.slice rp rn rc) := cell_of_block B_r.out rfl
  have c_o0 : v2.cell? ⟨e12, 0, none⟩ = some (.bool false) := cell_of_block B_o.out rfl
  have c_o1 : v2.cell? ⟨e12, 1, none⟩ = some (.int .i64 0) := cell_of_block B_o.out rfl
  have c_o2 : v2.cell? ⟨e12, 2, none⟩ = some (.slice none 0 0) := cell_of_block B_o.out rfl
  have c_a0 : v2.cell? ⟨e14, 0, none⟩ = some (.bool false) := cell_of_block B_a.out rfl
  have c_a1 : v2.cell? ⟨e14, 1, none⟩ = some (.slice none 0 0) := cell_of_block B_a.out rfl
  have z_o := (fun j : Nat => free_of_block (j := j) B_o.out)
  have z_a := (fun j : Nat => free_of_block (j := j) B_a.out)
  have kt : Tw v2 (((v2.setCell ⟨e12, 0, none⟩ (.bool false)).setCell ⟨e12, 1, none⟩ (.int .i64 0)).setCell ⟨e12, 2, none⟩ (.slice none 0 0)) e12 e12 := ((tw_set v2 e12 0 (.bool false)).trans (tw_set (v2.setCell ⟨e12, 0, none⟩ (.bool false)) e12 1 (.int .i64 0))).trans (tw_set ((v2.setCell ⟨e12, 0, none⟩ (.bool false)).setCell ⟨e12, 1, none⟩ (.int .i64 0)) e12 2 (.slice none 0 0))
  replace HR := Lib.hid (rows_tw HR.out B_o.out no_str kt)
  replace HRR := Lib.hid (addrs_tw HRR.out B_o.out no_str kt)
  replace B_s := Lib.hid (blk_tw kt B_s.out ne_s_o.out)
  replace B_r := Lib.hid (blk_tw kt B_r.out ne_r_o.out)
  replace B_a := Lib.hid (blk_tw kt B_a.out (Ne.symm ne_o_a.out))
  replace B_o := Lib.hid (show ((((v2.setCell ⟨e12, 0, none⟩ (.bool false)).setCell ⟨e12, 1, none⟩ (.int .i64 0)).setCell ⟨e12, 2, none⟩ (.slice none 0 0))).heap[e12]? = some (.cells #[.bool false, .int .i64 0, .slice none 0 0] 24 (0, 0)) from (heap_store (j := 2) (v := .slice none 0 0) (heap_store (j := 1) (v := .int .i64 0) (heap_store (j := 0) (v := .bool false) B_o.out))))
  replace KW := Lib.hid (bel_tw KW.out ge_o.out kt)
  clear kt
  have kt : Tw (((v2.setCell ⟨e12, 0, none⟩ (.bool false)).setCell ⟨e12, 1, none⟩ (.int .i64 0)).setCell ⟨e12, 2, none⟩ (.slice none 0 0)) (((((v2.setCell ⟨e12, 0, none⟩ (.bool false)).setCell ⟨e12, 1, none⟩ (.int .i64 0)).setCell ⟨e12, 2, none⟩ (.slice none 0 0)).setCell ⟨e14, 0, none⟩ (.bool false)).setCell ⟨e14, 1, none⟩ (.slice none 0 0)) e14 e14 := (tw_set (((v2.setCell ⟨e12, 0, none⟩ (.bool false)).setCell ⟨e12, 1, none⟩ (.int .i64 0)).setCell ⟨e12, 2, none⟩ (.slice none 0 0)) e14 0 (.bool false)).trans (tw_set ((((v2.setCell ⟨e12, 0, none⟩ (.bool false)).setCell ⟨e12, 1, none⟩ (.int .i64 0)).setCell ⟨e12, 2, none⟩ (.slice none 0 0)).setCell ⟨e14, 0, none⟩ (.bool false)) e14 1 (.slice none 0 0))
  replace HR := Lib.hid (rows_tw HR.out B_a.out no_str2 kt)
  replace HRR := Lib.hid (addrs_tw HRR.out B_a.out no_str2 kt)
  replace B_s := Lib.hid (blk_tw kt B_s.out ne_s_a.out)
  replace B_r := Lib.hid (blk_tw kt B_r.out ne_r_a.out)
  replace B_o := Lib.hid (blk_tw kt B_o.out ne_o_a.out)
  replace B_a := Lib.hid (show ((((((v2.setCell ⟨e12, 0, none⟩ (.bool false)).setCell ⟨e12, 1, none⟩ (.int .i64 0)).setCell ⟨e12, 2, none⟩ (.slice none 0 0)).setCell ⟨e14, 0, none⟩ (.bool false)).setCell ⟨e14, 1, none⟩ (.slice none 0 0))).heap[e14]? = some (.cells #[.bool false, .slice none 0 0] 47 (0, 0)) from (heap_store (j := 1) (v := .slice none 0 0) (heap_store (j := 0) (v := .bool false) B_a.out)))
  replace KW := Lib.hid (bel_tw KW.out ge_a.out kt)
  clear kt
  have HX1 := HX.out
  clear HX
  rcases Bool.eq_false_or_eq_true mt with hm | hm
  · subst hm
    rcases Bool.eq_false_or_eq_true b1 with h1 | h1
    · subst h1
      have HF := Lib.hid (HQ.out _ KW.out)
      have nn1 := ne_o_a.out
      have nn2 := Ne.symm ne_o_a.out
      go_wp2_with fail
      have y0 := cell_of_block (j := 0) B_o.out rfl
      have y1 := cell_of_block (j := 1) B_o.out rfl
      have y2 := cell_of_block (j := 2) B_o.out rfl
      have y3 := cell_of_block (j := 0) B_a.out rfl
      have y4 := cell_of_block (j := 1) B_a.out rfl
      exact bodyPost_ret (v := .tuple #[.agg #[.bool false, .int .i64 0, .slice none 0 0], .bool false, .agg #[.bool false, .slice none 0 0], .int .i64 1]) (by simp [results, Try.results21, go_sem, y0, y1, y2, y3, y4]) rfl HF.out
    · subst h1
      rcases Bool.eq_false_or_eq_true b2 with h2 | h2
      · subst h2
        have HF := Lib.hid (HQ.out _ KW.out)
        have nn1 := ne_o_a.out
        have nn2 := Ne.symm ne_o_a.out
        go_wp2_with fail
        have y0 := cell_of_block (j := 0) B_o.out rfl
        have y1 := cell_of_block (j := 1) B_o.out rfl
        have y2 := cell_of_block (j := 2) B_o.out rfl
        have y3 := cell_of_block (j := 0) B_a.out rfl
        have y4 := cell_of_block (j := 1) B_a.out rfl
        exact bodyPost_ret (v := .tuple #[.agg #[.bool false, .int .i64 0, .slice none 0 0], .bool false, .agg #[.bool false, .slice none 0 0], .int .i64 1]) (by simp [results, Try.results21, go_sem, y0, y1, y2, y3, y4]) rfl HF.out
      · subst h2
        obtain rfl : b3 = true := by simpa using HX1
        have HF := Lib.hid (HQ.out _ KW.out)
        have nn1 := ne_o_a.out
        have nn2 := Ne.symm ne_o_a.out
        go_wp2_with fail
        have y0 := cell_of_block (j := 0) B_o.out rfl
        have y1 := cell_of_block (j := 1) B_o.out rfl
        have y2 := cell_of_block (j := 2) B_o.out rfl
        have y3 := cell_of_block (j := 0) B_a.out rfl
        have y4 := cell_of_block (j := 1) B_a.out rfl
        exact bodyPost_ret (v := .tuple #[.agg #[.bool false, .int .i64 0, .slice none 0 0], .bool false, .agg #[.bool false, .slice none 0 0], .int .i64 1]) (by simp [results, Try.results21, go_sem, y0, y1, y2, y3, y4]) rfl HF.out
  · subst hm
    have HF := Lib.hid (HQ.out _ KW.out)
    have nn1 := ne_o_a.out
    have nn2 := Ne.symm ne_o_a.out
    go_wp2_with fail
    have y0 := cell_of_block (j := 0) B_o.out rfl
    have y1 := cell_of_block (j := 1) B_o.out rfl
    have y2 := cell_of_block (j := 2) B_o.out rfl
    have y3 := cell_of_block (j := 0) B_a.out rfl
    have y4 := cell_of_block (j := 1) B_a.out rfl
    exact bodyPost_ret (v := .tuple #[.agg #[.bool false, .int .i64 0, .slice none 0 0], .bool false, .agg #[.bool false, .slice none 0 0], .int .i64 1]) (by simp [results, Try.results21, go_sem, y0, y1, y2, y3, y4]) rfl HF.out

set_option maxHeartbeats 16000000 in
set_option maxRecDepth 100000 in
theorem ap17_1f (ex : Bool) (tm : Int) (q : Option Addr) (n c : Nat) (sl : List Tm) (kd : Int) (gp : ByteArray) (rp : Option Addr) (rn rc : Nat) (rs : List ByteArray) (now m l : Int) (w : World) (hl0 : sl.length ≤ 100) (hr0 : rs.length ≤ 100) (hrn0 : rn = rs.length) (hR : RowsAt 2 cellsTm w (.slice q n c) sl) (hRR : AddrsAt w (.slice rp rn rc) rs) (hrec : (mayT m l now && recT kd rs) = false) :
    Calls Try.prog 21 #[.agg #[.bool ex, .int .i64 tm, .slice q n c], .bool false, .agg #[.int .i64 kd, .string gp, .slice rp rn rc], .int .i64 now, .int .i64 m, .int .i64 l] w (ApPost (noA 1) w) := by
  have k0 : Below w.heap.size w ((((w.alloc (.cells #[.bool ex, .int .i64 tm, .slice q n c] 24)).alloc (.cells #[.int .i64 kd, .string gp, .slice rp rn rc] 37)).alloc (.cells #[.bool false, .int .i64 0, .slice none 0 0] 24)).alloc (.cells #[.bool false, .slice none 0 0] 47)) := ((((Below.refl _ _).alloc (Nat.le_refl _) _).alloc (by simp) _).alloc (by simp; omega) _).alloc (by simp; omega) _
  have KW := Lib.hid k0
  have B_s := Lib.hid (show ((((w.alloc (.cells #[.bool ex, .int .i64 tm, .slice q n c] 24)).alloc (.cells #[.int .i64 kd, .string gp, .slice rp rn rc] 37)).alloc (.cells #[.bool false, .int .i64 0, .slice none 0 0] 24)).alloc (.cells #[.bool false, .slice none 0 0] 47)).heap[w.heap.size]? = some (.cells #[.bool ex, .int .i64 tm, .slice q n c] 24) from heap_old (heap_old (heap_old (heap_new w (.cells #[.bool ex, .int .i64 tm, .slice q n c] 24)))))
  have B_r := Lib.hid (show ((((w.alloc (.cells #[.bool ex, .int .i64 tm, .slice q n c] 24)).alloc (.cells #[.int .i64 kd, .string gp, .slice rp rn rc] 37)).alloc (.cells #[.bool false, .int .i64 0, .slice none 0 0] 24)).alloc (.cells #[.bool false, .slice none 0 0] 47)).heap[w.heap.size + 1]? = some (.cells #[.int .i64 kd, .string gp, .slice rp rn rc] 37) from heap_old (heap_old (by simpa using heap_new (w.alloc (.cells #[.bool ex, .int .i64 tm, .slice q n c] 24)) (.cells #[.int .i64 kd, .string gp, .slice rp rn rc] 37))))
  have B_o := Lib.hid (show ((((w.alloc (.cells #[.bool ex, .int .i64 tm, .slice q n c] 24)).alloc (.cells #[.int .i64 kd, .string gp, .slice rp rn rc] 37)).alloc (.cells #[.bool false, .int .i64 0, .slice none 0 0] 24)).alloc (.cells #[.bool false, .slice none 0 0] 47)).heap[w.heap.size + 1 + 1]? = some (.cells #[.bool false, .int .i64 0, .slice none 0 0] 24) from heap_old (by simpa using heap_new ((w.alloc (.cells #[.bool ex, .int .i64 tm, .slice q n c] 24)).alloc (.cells #[.int .i64 kd, .string gp, .slice rp rn rc] 37)) (.cells #[.bool false, .int .i64 0, .slice none 0 0] 24)))
  have B_a := Lib.hid (show ((((w.alloc (.cells #[.bool ex, .int .i64 tm, .slice q n c] 24)).alloc (.cells #[.int .i64 kd, .string gp, .slice rp rn rc] 37)).alloc (.cells #[.bool false, .int .i64 0, .slice none 0 0] 24)).alloc (.cells #[.bool false, .slice none 0 0] 47)).heap[w.heap.size + 1 + 1 + 1]? = some (.cells #[.bool false, .slice none 0 0] 47) from by simpa using heap_new (((w.alloc (.cells #[.bool ex, .int .i64 tm, .slice q n c] 24)).alloc (.cells #[.int .i64 kd, .string gp, .slice rp rn rc] 37)).alloc (.cells #[.bool false, .int .i64 0, .slice none 0 0] 24)) (.cells #[.bool false, .slice none 0 0] 47))
  have HR := Lib.hid (hR.below k0)
  have HRR := Lib.hid (hRR.below k0)
  have ge_s := Lib.hid (Nat.le_refl w.heap.size)
  have ge_r := Lib.hid (show w.heap.size ≤ w.heap.size + 1 from by omega)
  have ge_o := Lib.hid (show w.heap.size ≤ w.heap.size + 1 + 1 from by omega)
  have ge_a := Lib.hid (show w.heap.size ≤ w.heap.size + 1 + 1 + 1 from by omega)
  have ne_s_r := Lib.hid (show w.heap.size ≠ w.heap.size + 1 from by omega)
  have ne_s_o := Lib.hid (show w.heap.size ≠ w.heap.size + 1 + 1 from by omega)
  have ne_s_a := Lib.hid (show w.heap.size ≠ w.heap.size + 1 + 1 + 1 from by omega)
  have ne_r_o := Lib.hid (show w.heap.size + 1 ≠ w.heap.size + 1 + 1 from by omega)
  have ne_r_a := Lib.hid (show w.heap.size + 1 ≠ w.heap.size + 1 + 1 + 1 from by omega)
  have ne_o_a := Lib.hid (show w.heap.size + 1 + 1 ≠ w.heap.size + 1 + 1 + 1 from by omega)
  have HQ := Lib.hid (show ∀ U, Below w.heap.size w U → ApPost (noA 1) w (.returned (.tuple #[.agg #[.bool false, .int .i64 0, .slice none 0 0], .bool false, .agg #[.bool false, .slice none 0 0], .int .i64 1])) U from fun U k => ⟨_, _, rfl, RowsAt.nil _, AddrsG.nil _ _ _, k⟩)
  generalize ApPost (noA 1) w = Q at HQ ⊢
  have hl6 := Lib.hid (Nat.le_trans hl0 (show 100 ≤ 1000000 by decide))
  have hr6 := Lib.hid (Nat.le_trans hr0 (show 100 ≤ 1000000 by decide))
  have MY := Lib.hid (fun U => may17_c now m l U)
  unfold recT at hrec
  rw [← hrn0] at hrec
  obtain ⟨mt, hmt⟩ : ∃ mt, mt = mayT m l now := ⟨_, rfl⟩
  rw [← hmt] at MY hrec
  obtain ⟨b1, hb1⟩ : ∃ b1, b1 = decide (kd < 1) := ⟨_, rfl⟩
  obtain ⟨b2, hb2⟩ : ∃ b2, b2 = decide (6 < kd) := ⟨_, rfl⟩
  obtain ⟨b3, hb3⟩ : ∃ b3, b3 = decide (60 < rn) := ⟨_, rfl⟩
  have hb4 : b3 = decide (60 < (rn : Int)) := by rw [hb3]; exact decide_eq_decide.mpr (by omega)
  have HX := Lib.hid (show (!mt || b1 || b2 || b3) = true from by
    rw [hb1, hb2, hb3]
    rcases Bool.eq_false_or_eq_true mt with h | h
    · rw [h] at hrec ⊢
      simp only [Bool.true_and, Bool.and_eq_false_iff, decide_eq_false_iff_not] at hrec
      simp only [Bool.not_true, Bool.false_or, Bool.or_eq_true, decide_eq_true_eq]
      omega
    · rw [h]; rfl)
  have e1 := hb1.symm
  have e2 := hb2.symm
  have e3 := hb3.symm
  have e4 := hb4.symm
  clear hrec hmt hb1 hb2 hb3 hb4 hl0 hr0 hrn0
  clear k0 hR hRR
  go_enter Try.func21, Try.ntmps21
  go_upto_region 1 with fail
  generalize ((((w.alloc (.cells #[.bool ex, .int .i64 tm, .slice q n c] 24)).alloc (.cells #[.int .i64 kd, .string gp, .slice rp rn rc] 37)).alloc (.cells #[.bool false, .int .i64 0, .slice none 0 0] 24)).alloc (.cells #[.bool false, .slice none 0 0] 47)) = W at B_s B_r B_o B_a HR HRR KW ⊢
  generalize w.heap.size + 1 + 1 + 1 = e14 at B_a ge_a ne_s_a ne_r_a ne_o_a ⊢
  generalize w.heap.size + 1 + 1 = e12 at B_o ge_o ne_s_o ne_r_o ne_o_a ⊢
  generalize w.heap.size + 1 = rb at B_r ge_r ne_s_r ne_r_o ne_r_a ⊢
  have CN := Lib.hid (MY.out W)
  go_wp2_with fail
  ((with_reducible refine CN.out.mono ?_); rintro e v1 ⟨rfl, kb9⟩)
  replace B_s := Lib.hid (below_block kb9 (lt_of_block B_s.out) B_s.out)
  replace B_r := Lib.hid (below_block kb9 (lt_of_block B_r.out) B_r.out)
  replace B_o := Lib.hid (below_block kb9 (lt_of_block B_o.out) B_o.out)
  replace B_a := Lib.hid (below_block kb9 (lt_of_block B_a.out) B_a.out)
  replace HR := Lib.hid (HR.out.below kb9)
  replace HRR := Lib.hid (HRR.out.below kb9)
  replace KW := Lib.hid (KW.out.trans (kb9.mono KW.out.size))
  clear CN kb9
  have c_r0 : v1.cell? ⟨rb, 0, none⟩ = some (.int .i64 kd) := cell_of_block B_r.out rfl
  have c_r1 : v1.cell? ⟨rb, 1, none⟩ = some (.string gp) := cell_of_block B_r.out rfl
  have c_r2 : v1.cell? ⟨rb, 2, none⟩ = some (.slice rp rn rc) := cell_of_block B_r.out rfl
  have c_o0 : v1.cell? ⟨e12, 0, none⟩ = some (.bool false) := cell_of_block B_o.out rfl
  have c_o1 : v1.cell? ⟨e12, 1, none⟩ = some (.int .i64 0) := cell_of_block B_o.out rfl
  have c_o2 : v1.cell? ⟨e12, 2, none⟩ = some (.slice none 0 0) := cell_of_block B_o.out rfl
  have c_a0 : v1.cell? ⟨e14, 0, none⟩ = some (.bool false) := cell_of_block B_a.out rfl
  have c_a1 : v1.cell? ⟨e14, 1, none⟩ = some (.slice none 0 0) := cell_of_block B_a.out rfl
  have z_o := (fun j : Nat => free_of_block (j := j) B_o.out)
  have z_a := (fun j : Nat => free_of_block (j := j) B_a.out)
  have kt : Tw v1 (((v1.setCell ⟨e12, 0, none⟩ (.bool false)).setCell ⟨e12, 1, none⟩ (.int .i64 0)).setCell ⟨e12, 2, none⟩ (.slice none 0 0)) e12 e12 := ((tw_set v1 e12 0 (.bool false)).trans (tw_set (v1.setCell ⟨e12, 0, none⟩ (.bool false)) e12 1 (.int .i64 0))).trans (tw_set ((v1.setCell ⟨e12, 0, none⟩ (.bool false)).setCell ⟨e12, 1, none⟩ (.int .i64 0)) e12 2 (.slice none 0 0))
  replace HR := Lib.hid (rows_tw HR.out B_o.out no_str kt)
  replace HRR := Lib.hid (addrs_tw HRR.out B_o.out no_str kt)
  replace B_s := Lib.hid (blk_tw kt B_s.out ne_s_o.out)
  replace B_r := Lib.hid (blk_tw kt B_r.out ne_r_o.out)
  replace B_a := Lib.hid (blk_tw kt B_a.out (Ne.symm ne_o_a.out))
  replace B_o := Lib.hid (show ((((v1.setCell ⟨e12, 0, none⟩ (.bool false)).setCell ⟨e12, 1, none⟩ (.int .i64 0)).setCell ⟨e12, 2, none⟩ (.slice none 0 0))).heap[e12]? = some (.cells #[.bool false, .int .i64 0, .slice none 0 0] 24 (0, 0)) from (heap_store (j := 2) (v := .slice none 0 0) (heap_store (j := 1) (v := .int .i64 0) (heap_store (j := 0) (v := .bool false) B_o.out))))
  replace KW := Lib.hid (bel_tw KW.out ge_o.out kt)
  clear kt
  have kt : Tw (((v1.setCell ⟨e12, 0, none⟩ (.bool false)).setCell ⟨e12, 1, none⟩ (.int .i64 0)).setCell ⟨e12, 2, none⟩ (.slice none 0 0)) (((((v1.setCell ⟨e12, 0, none⟩ (.bool false)).setCell ⟨e12, 1, none⟩ (.int .i64 0)).setCell ⟨e12, 2, none⟩ (.slice none 0 0)).setCell ⟨e14, 0, none⟩ (.bool false)).setCell ⟨e14, 1, none⟩ (.slice none 0 0)) e14 e14 := (tw_set (((v1.setCell ⟨e12, 0, none⟩ (.bool false)).setCell ⟨e12, 1, none⟩ (.int .i64 0)).setCell ⟨e12, 2, none⟩ (.slice none 0 0)) e14 0 (.bool false)).trans (tw_set ((((v1.setCell ⟨e12, 0, none⟩ (.bool false)).setCell ⟨e12, 1, none⟩ (.int .i64 0)).setCell ⟨e12, 2, none⟩ (.slice none 0 0)).setCell ⟨e14, 0, none⟩ (.bool false)) e14 1 (.slice none 0 0))
  replace HR := Lib.hid (rows_tw HR.out B_a.out no_str2 kt)
  replace HRR := Lib.hid (addrs_tw HRR.out B_a.out no_str2 kt)
  replace B_s := Lib.hid (blk_tw kt B_s.out ne_s_a.out)
  replace B_r := Lib.hid (blk_tw kt B_r.out ne_r_a.out)
  replace B_o := Lib.hid (blk_tw kt B_o.out ne_o_a.out)
  replace B_a := Lib.hid (show ((((((v1.setCell ⟨e12, 0, none⟩ (.bool false)).setCell ⟨e12, 1, none⟩ (.int .i64 0)).setCell ⟨e12, 2, none⟩ (.slice none 0 0)).setCell ⟨e14, 0, none⟩ (.bool false)).setCell ⟨e14, 1, none⟩ (.slice none 0 0))).heap[e14]? = some (.cells #[.bool false, .slice none 0 0] 47 (0, 0)) from (heap_store (j := 1) (v := .slice none 0 0) (heap_store (j := 0) (v := .bool false) B_a.out)))
  replace KW := Lib.hid (bel_tw KW.out ge_a.out kt)
  clear kt
  have HX1 := HX.out
  clear HX
  rcases Bool.eq_false_or_eq_true mt with hm | hm
  · subst hm
    rcases Bool.eq_false_or_eq_true b1 with h1 | h1
    · subst h1
      have HF := Lib.hid (HQ.out _ KW.out)
      have nn1 := ne_o_a.out
      have nn2 := Ne.symm ne_o_a.out
      go_wp2_with fail
      have y0 := cell_of_block (j := 0) B_o.out rfl
      have y1 := cell_of_block (j := 1) B_o.out rfl
      have y2 := cell_of_block (j := 2) B_o.out rfl
      have y3 := cell_of_block (j := 0) B_a.out rfl
      have y4 := cell_of_block (j := 1) B_a.out rfl
      exact bodyPost_ret (v := .tuple #[.agg #[.bool false, .int .i64 0, .slice none 0 0], .bool false, .agg #[.bool false, .slice none 0 0], .int .i64 1]) (by simp [results, Try.results21, go_sem, y0, y1, y2, y3, y4]) rfl HF.out
    · subst h1
      rcases Bool.eq_false_or_eq_true b2 with h2 | h2
      · subst h2
        have HF := Lib.hid (HQ.out _ KW.out)
        have nn1 := ne_o_a.out
        have nn2 := Ne.symm ne_o_a.out
        go_wp2_with fail
        have y0 := cell_of_block (j := 0) B_o.out rfl
        have y1 := cell_of_block (j := 1) B_o.out rfl
        have y2 := cell_of_block (j := 2) B_o.out rfl
        have y3 := cell_of_block (j := 0) B_a.out rfl
        have y4 := cell_of_block (j := 1) B_a.out rfl
        exact bodyPost_ret (v := .tuple #[.agg #[.bool false, .int .i64 0, .slice none 0 0], .bool false, .agg #[.bool false, .slice none 0 0], .int .i64 1]) (by simp [results, Try.results21, go_sem, y0, y1, y2, y3, y4]) rfl HF.out
      · subst h2
        obtain rfl : b3 = true := by simpa using HX1
        have HF := Lib.hid (HQ.out _ KW.out)
        have nn1 := ne_o_a.out
        have nn2 := Ne.symm ne_o_a.out
        go_wp2_with fail
        have y0 := cell_of_block (j := 0) B_o.out rfl
        have y1 := cell_of_block (j := 1) B_o.out rfl
        have y2 := cell_of_block (j := 2) B_o.out rfl
        have y3 := cell_of_block (j := 0) B_a.out rfl
        have y4 := cell_of_block (j := 1) B_a.out rfl
        exact bodyPost_ret (v := .tuple #[.agg #[.bool false, .int .i64 0, .slice none 0 0], .bool false, .agg #[.bool false, .slice none 0 0], .int .i64 1]) (by simp [results, Try.results21, go_sem, y0, y1, y2, y3, y4]) rfl HF.out
  · subst hm
    have HF := Lib.hid (HQ.out _ KW.out)
    have nn1 := ne_o_a.out
    have nn2 := Ne.symm ne_o_a.out
    go_wp2_with fail
    have y0 := cell_of_block (j := 0) B_o.out rfl
    have y1 := cell_of_block (j := 1) B_o.out rfl
    have y2 := cell_of_block (j := 2) B_o.out rfl
    have y3 := cell_of_block (j := 0) B_a.out rfl
    have y4 := cell_of_block (j := 1) B_a.out rfl
    exact bodyPost_ret (v := .tuple #[.agg #[.bool false, .int .i64 0, .slice none 0 0], .bool false, .agg #[.bool false, .slice none 0 0], .int .i64 1]) (by simp [results, Try.results21, go_sem, y0, y1, y2, y3, y4]) rfl HF.out

end Go.Proofs.Ytceilgeefegbmaa
