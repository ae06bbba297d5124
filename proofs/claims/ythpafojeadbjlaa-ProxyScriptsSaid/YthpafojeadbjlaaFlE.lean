/-
  Filters: filter.join with Or's and And's closures, Or, And. Contracts over the translated program.
-/
import Derived.Test.YthpafojeadbjlaaFlD
namespace Go.Proofs.Ythpafojeadbjlaa
open Go.RowKit
set_option linter.unusedVariables false

/-- Five blocks behind w0's end, the fourth of them left open. -/
def J5 (w0 w : World) (xf xg xa xe : Array Value) : Prop :=
  w.heap[w0.heap.size]? = some (.cells xf 28 (0, 0)) ∧ w.heap[w0.heap.size + 1]? = some (.cells xg 28 (0, 0)) ∧ w.heap[w0.heap.size + 1 + 1]? = some (.cells xa 93 (0, 0)) ∧ w.heap[w0.heap.size + 1 + 1 + 1 + 1]? = some (.cells xe 4 (0, 0)) ∧ Below w0.heap.size w0 w
def R5 (w0 w : World) (xr : Array Value) : Prop := w.heap[w0.heap.size + 1 + 1 + 1]? = some (.cells xr 28 (0, 0))
theorem hn (w : World) (n : Nat) (h : w.heap.size = n) (o : Obj) : (w.alloc o).heap[n]? = some o := by subst h; exact heap_new w o
theorem J5.start (w0 : World) (xf xg xa xr xe : Array Value) : J5 w0 (((((w0.alloc (.cells xf 28)).alloc (.cells xg 28)).alloc (.cells xa 93)).alloc (.cells xr 28)).alloc (.cells xe 4)) xf xg xa xe ∧ R5 w0 (((((w0.alloc (.cells xf 28)).alloc (.cells xg 28)).alloc (.cells xa 93)).alloc (.cells xr 28)).alloc (.cells xe 4)) xr := by
  refine ⟨⟨heap_old (heap_old (heap_old (heap_old (heap_new _ _)))), heap_old (heap_old (heap_old (hn _ _ (by simp) _))), heap_old (heap_old (hn _ _ (by simp) _)), hn _ _ (by simp) _, ?_⟩, heap_old (hn _ _ (by simp) _)⟩
  exact (((((Below.refl _ w0).alloc (Nat.le_refl _) _).alloc (by simp) _).alloc (by simp; omega) _).alloc (by simp; omega) _).alloc (by simp; omega) _
theorem J5.below {w0 w w' : World} {xf xg xa xe : Array Value} (h : J5 w0 w xf xg xa xe) (k : Below w.heap.size w w') : J5 w0 w' xf xg xa xe :=
  ⟨below_block k (lt_of_block h.1) h.1, below_block k (lt_of_block h.2.1) h.2.1, below_block k (lt_of_block h.2.2.1) h.2.2.1, below_block k (lt_of_block h.2.2.2.1) h.2.2.2.1, h.2.2.2.2.trans (k.mono h.2.2.2.2.size)⟩
theorem R5.below {w0 w w' : World} {xr : Array Value} (h : R5 w0 w xr) (k : Below w.heap.size w w') : R5 w0 w' xr := below_block k (lt_of_block h) h
theorem J5.drew {w0 w : World} {xf xg xa xe : Array Value} (h : J5 w0 w xf xg xa xe) : J5 w0 w.drew xf xg xa xe := ⟨h.1, h.2.1, h.2.2.1, h.2.2.2.1, h.2.2.2.2.drew⟩
theorem J5.set {w0 w : World} {xf xg xa xe : Array Value} (h : J5 w0 w xf xg xa xe) (j : Nat) (v : Value) : J5 w0 (w.setCell ⟨w0.heap.size + 1 + 1 + 1, j, none⟩ v) xf xg xa xe :=
  ⟨heap_store_other h.1 (by omega), heap_store_other h.2.1 (by omega), heap_store_other h.2.2.1 (by omega), heap_store_other h.2.2.2.1 (by omega), h.2.2.2.2.setCell (p := ⟨w0.heap.size + 1 + 1 + 1, j, none⟩) (by show _ ≤ w0.heap.size + 1 + 1 + 1; omega) _⟩
theorem J5.bel {w0 w : World} {xf xg xa xe : Array Value} (h : J5 w0 w xf xg xa xe) : Below w0.heap.size w0 w := h.2.2.2.2
theorem J5.lt {w0 w : World} {xf xg xa xe : Array Value} (h : J5 w0 w xf xg xa xe) : w0.heap.size + 1 + 1 + 1 + 1 < w.heap.size := lt_of_block h.2.2.2.1

set_option maxHeartbeats 8000000 in
set_option maxRecDepth 100000 in
theorem joinor_c (fe ge : Bool) (vf vg : Value) (lf lg : List ByteArray) (w : World) (hf : lf.length ≤ 1000000) (hg : lg.length ≤ 1000000) (haf : AddrsAt w vf lf) (hag : AddrsAt w vg lg) :
    Calls Try.prog 52 #[.agg #[.bool fe, vf], .agg #[.bool ge, vg], .func (.func 53) #[] #[]] w (FPost (orF ⟨fe, lf⟩ ⟨ge, lg⟩) w) := by
  have HAF := Lib.hid haf
  have HAG := Lib.hid hag
  obtain ⟨pf, cf, rfl⟩ := haf.slice
  obtain ⟨pg, cg, rfl⟩ := hag.slice
  have HRF := Lib.hid fun U (hU : Below w.heap.size w U) => rising_c _ lf U hf (HAF.out.below hU)
  have HRG := Lib.hid fun U (hU : Below w.heap.size w U) => rising_c _ lg U hg (HAG.out.below hU)
  have hrf : (ris lf).length ≤ 1000000 := Nat.le_trans (ris_len lf) hf
  have hrg : (ris lg).length ≤ 1000000 := Nat.le_trans (ris_len lg) hg
  have hmj := mgo_join (· || ·) ⟨fe, lf⟩ ⟨ge, lg⟩
  have hex : (orF ⟨fe, lf⟩ ⟨ge, lg⟩).ex = (fe || ge) := rfl
  have hsr : (orF ⟨fe, lf⟩ ⟨ge, lg⟩).src = mgo (stJ (· || ·) fe ge) (ris lf) (ris lg) := hmj.symm
  unfold FPost
  rw [hex, hsr]
  clear hmj hex hsr
  generalize ris lf = rf at HRF hrf ⊢
  generalize ris lg = rg at HRG hrg ⊢
  have HC := Lib.hid fun a b U => orcl_c a b U
  have B0 := J5.start w #[.bool fe, .slice pf lf.length cf] #[.bool ge, .slice pg lg.length cg] #[.func (.func 53) #[] #[]] #[.bool false, .slice none 0 0] #[.bool (fe || ge)]
  have B := Lib.hid B0.1
  have R := Lib.hid B0.2
  unfold LPost at HRF HRG
  generalize lf.length = nf at *
  generalize lg.length = ng at *
  clear haf hag hf hg B0 HAF HAG
  go_enter Try.func52, Try.ntmps52
  go_wp2_with fail
  refine (HC.out _ _ _).mono ?_
  rintro e w1 ⟨rfl, rfl⟩
  go_wp2_with fail
  generalize ((((w.alloc (.cells #[.bool fe, .slice pf nf cf] 28)).alloc (.cells #[.bool ge, .slice pg ng cg] 28)).alloc (.cells #[.func (.func 53) #[] #[]] 93)).alloc (.cells #[.bool false, .slice none 0 0] 28)).alloc (.cells #[.bool (fe || ge)] 4) = W at B R ⊢
  have HRFb := Lib.hid (HRF.out _ B.out.bel.drew)
  have KF := Lib.hid fun (U : World) (k : J5 w U #[.bool fe, .slice pf nf cf] #[.bool ge, .slice pg ng cg] #[.func (.func 53) #[] #[]] #[.bool (fe || ge)]) => (⟨cell_of_block k.1 rfl, cell_of_block k.2.1 rfl, cell_of_block k.2.2.2.1 rfl⟩ : U.cell? ⟨w.heap.size, 1, none⟩ = some (.slice pf nf cf) ∧ U.cell? ⟨w.heap.size + 1, 1, none⟩ = some (.slice pg ng cg) ∧ U.cell? ⟨w.heap.size + 1 + 1 + 1 + 1, 0, none⟩ = some (.bool (fe || ge)))
  have k0 := B.out
  obtain ⟨x0, x1, x2⟩ := KF.out W k0
  clear HRF
  go_region_held3 (fun U => U.cell? ⟨w.heap.size, 1, none⟩ = some (.slice pf nf cf) ∧ U.cell? ⟨w.heap.size + 1, 1, none⟩ = some (.slice pg ng cg) ∧ U.cell? ⟨w.heap.size + 1 + 1 + 1 + 1, 0, none⟩ = some (.bool (fe || ge)))
    (first
      | with_reducible exact KF.out _ ((k5.set _ _).set _ _)
      | with_reducible exact KF.out _ k5
      | with_reducible exact KF.out _ k4
      | with_reducible exact KF.out _ k3
      | with_reducible exact KF.out _ k0
      | with_reducible exact KF.out _ k0.drew)
    (first
      | (go_at_call 48; (with_reducible refine HRFb.out.mono ?_); rintro e w3 ⟨v3, rfl, a3, h3, c3⟩; have R3 := Lib.hid (R5.below (w' := w3) (w := World.drew W) R.out h3); have A3 := Lib.hid a3; have k3 := (J5.below k0.drew h3); obtain ⟨p3, d3, rfl, e3⟩ := c3; have E3 := Lib.hid e3; have HRGb := Lib.hid (HRG.out _ k3.bel); clear a3 h3 e3)
      | (go_at_call 48; (with_reducible refine HRGb.out.mono ?_); rintro e w4 ⟨v4, rfl, a4, h4, c4⟩; have R4 := Lib.hid (R5.below R3.out h4); have A4 := Lib.hid a4; have A34 := Lib.hid (A3.out.below h4); have k4 := (J5.below k3 h4); obtain ⟨p4, d4, rfl, e4⟩ := c4; have E4 := Lib.hid e4; have K4 := Lib.hid k4; have HMb := Lib.hid (mergej_c (w.heap.size + 1 + 1) w.heap.size (w.heap.size + 1) (w.heap.size + 1 + 1 + 1 + 1) p3 p4 d3 d4 rf rg (stJ (· || ·) fe ge) w4 hrf hrg ⟨E3.out, A34.out.at⟩ ⟨E4.out, A4.out.at⟩ fun i j U hU => jor_c _ _ _ _ fe ge (fe || ge) i j U (cell_of_block (K4.out.below hU).2.2.1 rfl) (cell_of_block (K4.out.below hU).1 rfl) (cell_of_block (K4.out.below hU).2.1 rfl) (cell_of_block (K4.out.below hU).2.2.2.1 rfl)); clear a4 h4 e4)
      | (go_at_call 74; (with_reducible refine HMb.out.mono ?_); rintro e w5 ⟨v5, rfl, a5, h5⟩; have R6 := Lib.hid (R5.below R4.out h5); have A5 := Lib.hid a5; have k5 := (J5.below k4 h5); have L4 := Lib.hid k4.lt; obtain ⟨p5, d5, rfl⟩ := a5.slice; have y0 := cell_of_block (j := 0) R6.out rfl; have y1 := cell_of_block (j := 1) R6.out rfl; have fr := (fun j => free_of_block (j := j) R6.out); have hz := k5.lt; clear a5 h5))
  all_goals
    go_wp2_with fail
    refine bodyPost_ret (v := .agg #[.bool (fe || ge), .slice p5 (mgo (stJ (· || ·) fe ge) rf rg).length d5]) (by simp [results, Try.results52, go_sem, y0, y1]) rfl ⟨_, rfl, ?_, ?_⟩
    · exact (((A5.out.mono (B' := w.heap.size + 1 + 1 + 1 + 1) (Nat.le_of_lt L4.out) id).store (c := w.heap.size + 1 + 1 + 1) (by omega)).store (c := w.heap.size + 1 + 1 + 1) (by omega)).mono (by omega) id
    · exact ((k5.set 0 _).set 1 _).bel

set_option maxHeartbeats 4000000 in
set_option maxRecDepth 100000 in
theorem or_c (fe ge : Bool) (vf vg : Value) (lf lg : List ByteArray) (w : World) (hf : lf.length ≤ 1000000) (hg : lg.length ≤ 1000000) (haf : AddrsAt w vf lf) (hag : AddrsAt w vg lg) :
    Calls Try.prog 32 #[.agg #[.bool fe, vf], .agg #[.bool ge, vg]] w (FPost (orF ⟨fe, lf⟩ ⟨ge, lg⟩) w) := by
  have HJ := Lib.hid fun (U : World) (hU : Below w.heap.size w U) => joinor_c fe ge vf vg lf lg U hf hg (haf.below hU) (hag.below hU)
  obtain ⟨pf, cf, rfl⟩ := haf.slice
  obtain ⟨pg, cg, rfl⟩ := hag.slice
  unfold FPost at HJ ⊢
  generalize orF ⟨fe, lf⟩ ⟨ge, lg⟩ = ans at HJ ⊢
  obtain ⟨ae, al⟩ := ans
  simp only at HJ ⊢
  generalize lf.length = nf at *
  generalize lg.length = ng at *
  clear haf hag hf hg
  have B0 := Lib.hid (show Below w.heap.size w (((w.alloc (.cells #[.bool fe, .slice pf nf cf] 28)).alloc (.cells #[.bool ge, .slice pg ng cg] 28)).alloc (.cells #[.bool false, .slice none 0 0] 28)) from (((Below.refl _ w).alloc (Nat.le_refl _) _).alloc (by simp) _).alloc (by simp; omega) _)
  have R0 := Lib.hid (show ((((w.alloc (.cells #[.bool fe, .slice pf nf cf] 28)).alloc (.cells #[.bool ge, .slice pg ng cg] 28)).alloc (.cells #[.bool false, .slice none 0 0] 28))).heap[w.heap.size + 1 + 1]? = some (.cells #[.bool false, .slice none 0 0] 28 (0, 0)) from hn _ _ (by simp) _)
  go_enter Try.func32, Try.ntmps32
  go_wp2_with fail
  ((with_reducible refine (HJ.out _ B0.out).mono ?_); rintro e w1 ⟨v1, rfl, a1, h1⟩)
  have A1 := Lib.hid a1
  have R1 := Lib.hid (below_block h1 (lt_of_block R0.out) R0.out)
  have L1 := Lib.hid (lt_of_block R0.out)
  have K1 := Lib.hid (B0.out.trans (h1.mono B0.out.size))
  obtain ⟨p1, c1, rfl⟩ := a1.slice
  clear a1 h1
  have y0 := cell_of_block (j := 0) R1.out rfl
  have y1 := cell_of_block (j := 1) R1.out rfl
  have fr := (fun j => free_of_block (j := j) R1.out)
  have hz := lt_of_block R1.out
  go_wp2_with fail
  refine bodyPost_ret (v := .agg #[.bool ae, .slice p1 al.length c1]) (by simp [results, Try.results32, go_sem, y0, y1]) rfl ⟨_, rfl, ?_, ?_⟩
  · exact (((A1.out.mono (B' := w.heap.size + 1 + 1 + 1) L1.out id).store (c := w.heap.size + 1 + 1) (by omega)).store (c := w.heap.size + 1 + 1) (by omega)).mono (by omega) id
  · exact (K1.out.setCell (p := ⟨w.heap.size + 1 + 1, 0, none⟩) (by show _ ≤ w.heap.size + 1 + 1; omega) _).setCell (p := ⟨w.heap.size + 1 + 1, 1, none⟩) (by show _ ≤ w.heap.size + 1 + 1; omega) _

set_option maxHeartbeats 8000000 in
set_option maxRecDepth 100000 in
theorem joinand_c (fe ge : Bool) (vf vg : Value) (lf lg : List ByteArray) (w : World) (hf : lf.length ≤ 1000000) (hg : lg.length ≤ 1000000) (haf : AddrsAt w vf lf) (hag : AddrsAt w vg lg) :
    Calls Try.prog 52 #[.agg #[.bool fe, vf], .agg #[.bool ge, vg], .func (.func 68) #[] #[]] w (FPost (andF ⟨fe, lf⟩ ⟨ge, lg⟩) w) := by
  have HAF := Lib.hid haf
  have HAG := Lib.hid hag
  obtain ⟨pf, cf, rfl⟩ := haf.slice
  obtain ⟨pg, cg, rfl⟩ := hag.slice
  have HRF := Lib.hid fun U (hU : Below w.heap.size w U) => rising_c _ lf U hf (HAF.out.below hU)
  have HRG := Lib.hid fun U (hU : Below w.heap.size w U) => rising_c _ lg U hg (HAG.out.below hU)
  have hrf : (ris lf).length ≤ 1000000 := Nat.le_trans (ris_len lf) hf
  have hrg : (ris lg).length ≤ 1000000 := Nat.le_trans (ris_len lg) hg
  have hmj := mgo_join (· && ·) ⟨fe, lf⟩ ⟨ge, lg⟩
  have hex : (andF ⟨fe, lf⟩ ⟨ge, lg⟩).ex = (fe && ge) := rfl
  have hsr : (andF ⟨fe, lf⟩ ⟨ge, lg⟩).src = mgo (stJ (· && ·) fe ge) (ris lf) (ris lg) := hmj.symm
  unfold FPost
  rw [hex, hsr]
  clear hmj hex hsr
  generalize ris lf = rf at HRF hrf ⊢
  generalize ris lg = rg at HRG hrg ⊢
  have HC := Lib.hid fun a b U => andcl_c a b U
  have B0 := J5.start w #[.bool fe, .slice pf lf.length cf] #[.bool ge, .slice pg lg.length cg] #[.func (.func 68) #[] #[]] #[.bool false, .slice none 0 0] #[.bool (fe && ge)]
  have B := Lib.hid B0.1
  have R := Lib.hid B0.2
  unfold LPost at HRF HRG
  generalize lf.length = nf at *
  generalize lg.length = ng at *
  clear haf hag hf hg B0 HAF HAG
  go_enter Try.func52, Try.ntmps52
  go_wp2_with fail
  refine (HC.out _ _ _).mono ?_
  rintro e w1 ⟨rfl, rfl⟩
  go_wp2_with fail
  generalize ((((w.alloc (.cells #[.bool fe, .slice pf nf cf] 28)).alloc (.cells #[.bool ge, .slice pg ng cg] 28)).alloc (.cells #[.func (.func 68) #[] #[]] 93)).alloc (.cells #[.bool false, .slice none 0 0] 28)).alloc (.cells #[.bool (fe && ge)] 4) = W at B R ⊢
  have HRFb := Lib.hid (HRF.out _ B.out.bel.drew)
  have KF := Lib.hid fun (U : World) (k : J5 w U #[.bool fe, .slice pf nf cf] #[.bool ge, .slice pg ng cg] #[.func (.func 68) #[] #[]] #[.bool (fe && ge)]) => (⟨cell_of_block k.1 rfl, cell_of_block k.2.1 rfl, cell_of_block k.2.2.2.1 rfl⟩ : U.cell? ⟨w.heap.size, 1, none⟩ = some (.slice pf nf cf) ∧ U.cell? ⟨w.heap.size + 1, 1, none⟩ = some (.slice pg ng cg) ∧ U.cell? ⟨w.heap.size + 1 + 1 + 1 + 1, 0, none⟩ = some (.bool (fe && ge)))
  have k0 := B.out
  obtain ⟨x0, x1, x2⟩ := KF.out W k0
  clear HRF
  go_region_held3 (fun U => U.cell? ⟨w.heap.size, 1, none⟩ = some (.slice pf nf cf) ∧ U.cell? ⟨w.heap.size + 1, 1, none⟩ = some (.slice pg ng cg) ∧ U.cell? ⟨w.heap.size + 1 + 1 + 1 + 1, 0, none⟩ = some (.bool (fe && ge)))
    (first
      | with_reducible exact KF.out _ ((k5.set _ _).set _ _)
      | with_reducible exact KF.out _ k5
      | with_reducible exact KF.out _ k4
      | with_reducible exact KF.out _ k3
      | with_reducible exact KF.out _ k0
      | with_reducible exact KF.out _ k0.drew)
    (first
      | (go_at_call 48; (with_reducible refine HRFb.out.mono ?_); rintro e w3 ⟨v3, rfl, a3, h3, c3⟩; have R3 := Lib.hid (R5.below (w' := w3) (w := World.drew W) R.out h3); have A3 := Lib.hid a3; have k3 := (J5.below k0.drew h3); obtain ⟨p3, d3, rfl, e3⟩ := c3; have E3 := Lib.hid e3; have HRGb := Lib.hid (HRG.out _ k3.bel); clear a3 h3 e3)
      | (go_at_call 48; (with_reducible refine HRGb.out.mono ?_); rintro e w4 ⟨v4, rfl, a4, h4, c4⟩; have R4 := Lib.hid (R5.below R3.out h4); have A4 := Lib.hid a4; have A34 := Lib.hid (A3.out.below h4); have k4 := (J5.below k3 h4); obtain ⟨p4, d4, rfl, e4⟩ := c4; have E4 := Lib.hid e4; have K4 := Lib.hid k4; have HMb := Lib.hid (mergej_c (w.heap.size + 1 + 1) w.heap.size (w.heap.size + 1) (w.heap.size + 1 + 1 + 1 + 1) p3 p4 d3 d4 rf rg (stJ (· && ·) fe ge) w4 hrf hrg ⟨E3.out, A34.out.at⟩ ⟨E4.out, A4.out.at⟩ fun i j U hU => jand_c _ _ _ _ fe ge (fe && ge) i j U (cell_of_block (K4.out.below hU).2.2.1 rfl) (cell_of_block (K4.out.below hU).1 rfl) (cell_of_block (K4.out.below hU).2.1 rfl) (cell_of_block (K4.out.below hU).2.2.2.1 rfl)); clear a4 h4 e4)
      | (go_at_call 74; (with_reducible refine HMb.out.mono ?_); rintro e w5 ⟨v5, rfl, a5, h5⟩; have R6 := Lib.hid (R5.below R4.out h5); have A5 := Lib.hid a5; have k5 := (J5.below k4 h5); have L4 := Lib.hid k4.lt; obtain ⟨p5, d5, rfl⟩ := a5.slice; have y0 := cell_of_block (j := 0) R6.out rfl; have y1 := cell_of_block (j := 1) R6.out rfl; have fr := (fun j => free_of_block (j := j) R6.out); have hz := k5.lt; clear a5 h5))
  all_goals
    go_wp2_with fail
    refine bodyPost_ret (v := .agg #[.bool (fe && ge), .slice p5 (mgo (stJ (· && ·) fe ge) rf rg).length d5]) (by simp [results, Try.results52, go_sem, y0, y1]) rfl ⟨_, rfl, ?_, ?_⟩
    · exact (((A5.out.mono (B' := w.heap.size + 1 + 1 + 1 + 1) (Nat.le_of_lt L4.out) id).store (c := w.heap.size + 1 + 1 + 1) (by omega)).store (c := w.heap.size + 1 + 1 + 1) (by omega)).mono (by omega) id
    · exact ((k5.set 0 _).set 1 _).bel

set_option maxHeartbeats 4000000 in
set_option maxRecDepth 100000 in
theorem and_c (fe ge : Bool) (vf vg : Value) (lf lg : List ByteArray) (w : World) (hf : lf.length ≤ 1000000) (hg : lg.length ≤ 1000000) (haf : AddrsAt w vf lf) (hag : AddrsAt w vg lg) :
    Calls Try.prog 47 #[.agg #[.bool fe, vf], .agg #[.bool ge, vg]] w (FPost (andF ⟨fe, lf⟩ ⟨ge, lg⟩) w) := by
  have HJ := Lib.hid fun (U : World) (hU : Below w.heap.size w U) => joinand_c fe ge vf vg lf lg U hf hg (haf.below hU) (hag.below hU)
  obtain ⟨pf, cf, rfl⟩ := haf.slice
  obtain ⟨pg, cg, rfl⟩ := hag.slice
  unfold FPost at HJ ⊢
  generalize andF ⟨fe, lf⟩ ⟨ge, lg⟩ = ans at HJ ⊢
  obtain ⟨ae, al⟩ := ans
  simp only at HJ ⊢
  generalize lf.length = nf at *
  generalize lg.length = ng at *
  clear haf hag hf hg
  have B0 := Lib.hid (show Below w.heap.size w (((w.alloc (.cells #[.bool fe, .slice pf nf cf] 28)).alloc (.cells #[.bool ge, .slice pg ng cg] 28)).alloc (.cells #[.bool false, .slice none 0 0] 28)) from (((Below.refl _ w).alloc (Nat.le_refl _) _).alloc (by simp) _).alloc (by simp; omega) _)
  have R0 := Lib.hid (show ((((w.alloc (.cells #[.bool fe, .slice pf nf cf] 28)).alloc (.cells #[.bool ge, .slice pg ng cg] 28)).alloc (.cells #[.bool false, .slice none 0 0] 28))).heap[w.heap.size + 1 + 1]? = some (.cells #[.bool false, .slice none 0 0] 28 (0, 0)) from hn _ _ (by simp) _)
  go_enter Try.func47, Try.ntmps47
  go_wp2_with fail
  ((with_reducible refine (HJ.out _ B0.out).mono ?_); rintro e w1 ⟨v1, rfl, a1, h1⟩)
  have A1 := Lib.hid a1
  have R1 := Lib.hid (below_block h1 (lt_of_block R0.out) R0.out)
  have L1 := Lib.hid (lt_of_block R0.out)
  have K1 := Lib.hid (B0.out.trans (h1.mono B0.out.size))
  obtain ⟨p1, c1, rfl⟩ := a1.slice
  clear a1 h1
  have y0 := cell_of_block (j := 0) R1.out rfl
  have y1 := cell_of_block (j := 1) R1.out rfl
  have fr := (fun j => free_of_block (j := j) R1.out)
  have hz := lt_of_block R1.out
  go_wp2_with fail
  refine bodyPost_ret (v := .agg #[.bool ae, .slice p1 al.length c1]) (by simp [results, Try.results47, go_sem, y0, y1]) rfl ⟨_, rfl, ?_, ?_⟩
  · exact (((A1.out.mono (B' := w.heap.size + 1 + 1 + 1) L1.out id).store (c := w.heap.size + 1 + 1) (by omega)).store (c := w.heap.size + 1 + 1) (by omega)).mono (by omega) id
  · exact (K1.out.setCell (p := ⟨w.heap.size + 1 + 1, 0, none⟩) (by show _ ≤ w.heap.size + 1 + 1; omega) _).setCell (p := ⟨w.heap.size + 1 + 1, 1, none⟩) (by show _ ≤ w.heap.size + 1 + 1; omega) _

end Go.Proofs.Ythpafojeadbjlaa
