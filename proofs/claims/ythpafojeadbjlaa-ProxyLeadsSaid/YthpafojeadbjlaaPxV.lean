/-
  Proxy: the law's after. A contract over the translated program.
-/
import Derived.Test.YthpafojeadbjlaaFlU
import Derived.Test.YthpafojeadbjlaaFlE
namespace Go.Proofs.Ythpafojeadbjlaa
open Go.RowKit
set_option linter.unusedVariables false
set_option linter.unusedSimpArgs false

/-- Four boxes behind w0's end: a filter, a record, two filters. -/
def P4 (w0 w : World) (xf xq xr xo : Array Value) : Prop :=
  w.heap[w0.heap.size]? = some (.cells xf 28 (0, 0)) ∧ w.heap[w0.heap.size + 1]? = some (.cells xq 57 (0, 0)) ∧ w.heap[w0.heap.size + 1 + 1]? = some (.cells xr 28 (0, 0)) ∧ w.heap[w0.heap.size + 1 + 1 + 1]? = some (.cells xo 28 (0, 0)) ∧ Below w0.heap.size w0 w
theorem P4.start (w0 : World) (xf xq xr xo : Array Value) : P4 w0 ((((w0.alloc (.cells xf 28)).alloc (.cells xq 57)).alloc (.cells xr 28)).alloc (.cells xo 28)) xf xq xr xo :=
  ⟨heap_old (heap_old (heap_old (heap_new _ _))), heap_old (heap_old (hn _ _ (by simp) _)), heap_old (hn _ _ (by simp) _), hn _ _ (by simp) _, ((((Below.refl _ w0).alloc (Nat.le_refl _) _).alloc (by simp) _).alloc (by simp; omega) _).alloc (by simp; omega) _⟩
theorem P4.below {w0 w w' : World} {xf xq xr xo : Array Value} (h : P4 w0 w xf xq xr xo) (k : Below w.heap.size w w') : P4 w0 w' xf xq xr xo :=
  ⟨below_block k (lt_of_block h.1) h.1, below_block k (lt_of_block h.2.1) h.2.1, below_block k (lt_of_block h.2.2.1) h.2.2.1, below_block k (lt_of_block h.2.2.2.1) h.2.2.2.1, h.2.2.2.2.trans (k.mono h.2.2.2.2.size)⟩
theorem P4.drew {w0 w : World} {xf xq xr xo : Array Value} (h : P4 w0 w xf xq xr xo) : P4 w0 w.drew xf xq xr xo := ⟨h.1, h.2.1, h.2.2.1, h.2.2.2.1, h.2.2.2.2.drew⟩
theorem P4.bel {w0 w : World} {xf xq xr xo : Array Value} (h : P4 w0 w xf xq xr xo) : Below w0.heap.size w0 w := h.2.2.2.2
theorem P4.lt {w0 w : World} {xf xq xr xo : Array Value} (h : P4 w0 w xf xq xr xo) : w0.heap.size + 1 + 1 + 1 < w.heap.size := lt_of_block h.2.2.2.1
/-- The first and the last as they were. -/
def P2 (w0 w : World) (xf xo : Array Value) : Prop := w.heap[w0.heap.size]? = some (.cells xf 28 (0, 0)) ∧ w.heap[w0.heap.size + 1 + 1 + 1]? = some (.cells xo 28 (0, 0)) ∧ Below w0.heap.size w0 w
theorem P4.p2 {w0 w : World} {xf xq xr xo : Array Value} (h : P4 w0 w xf xq xr xo) : P2 w0 w xf xo := ⟨h.1, h.2.2.2.1, h.2.2.2.2⟩
theorem P2.drew {w0 w : World} {xf xo : Array Value} (h : P2 w0 w xf xo) : P2 w0 w.drew xf xo := ⟨h.1, h.2.1, h.2.2.drew⟩
theorem P2.below {w0 w w' : World} {xf xo : Array Value} (h : P2 w0 w xf xo) (k : Below w.heap.size w w') : P2 w0 w' xf xo := ⟨below_block k (lt_of_block h.1) h.1, below_block k (lt_of_block h.2.1) h.2.1, h.2.2.trans (k.mono h.2.2.size)⟩
theorem P2.bel {w0 w : World} {xf xo : Array Value} (h : P2 w0 w xf xo) : Below w0.heap.size w0 w := h.2.2
theorem P2.set {w0 w : World} {xf xo : Array Value} (h : P2 w0 w xf xo) (j : Nat) (v : Value) : P2 w0 (w.setCell ⟨w0.heap.size + 1 + 1, j, none⟩ v) xf xo :=
  ⟨heap_store_other h.1 (by omega), heap_store_other h.2.1 (by omega), h.2.2.setCell (p := ⟨w0.heap.size + 1 + 1, j, none⟩) (by show _ ≤ w0.heap.size + 1 + 1; omega) _⟩

/-- What after answers. -/
def APost (f : Fl) (w : World) (e : Ending) (w' : World) : Prop := ∃ v, e = .returned (.agg #[.bool f.ex, v]) ∧ AddrsAt w' v f.src ∧ Below w.heap.size w w'

set_option maxHeartbeats 4000000 in
set_option maxRecDepth 100000 in
theorem after_c (fe : Bool) (kd : Int) (gr : ByteArray) (vf vs : Value) (lf ls : List ByteArray) (w : World) (hf : lf.length ≤ 400000) (hs : ls.length ≤ 400000) (haf : AddrsAt w vf lf) (has : AddrsAt w vs ls) :
    Calls Try.prog 26 #[.agg #[.bool fe, vf], .agg #[.int .i64 kd, .string gr, vs]] w (APost (afterF ⟨fe, lf⟩ ⟨kd, gr, ls⟩) w) := by
  have HAF := Lib.hid haf
  have HAS := Lib.hid has
  obtain ⟨pf, cf, rfl⟩ := haf.slice
  obtain ⟨ps, cs, rfl⟩ := has.slice
  unfold APost
  have HN := Lib.hid fun U (hU : Below w.heap.size w U) => norm_c false _ ls U (by omega) (HAS.out.below hU)
  have HT := Lib.hid fun U (hU : Below w.heap.size w U) => not_c false _ ls U (by omega) (HAS.out.below hU)
  have HO := Lib.hid fun U (hU : Below w.heap.size w U) => or_c fe false _ _ lf ls U (by omega) (by omega) (HAF.out.below hU) (HAS.out.below hU)
  have l1 : (notF ⟨false, ls⟩).src.length ≤ 1000000 := Nat.le_trans (ris_len ls) (by omega)
  have HA := Lib.hid fun v U (hU : Below w.heap.size w U) (h : AddrsAt U v (notF ⟨false, ls⟩).src) => and_c fe true _ v lf (notF ⟨false, ls⟩).src U (by omega) l1 (HAF.out.below hU) h
  have eA : (⟨true, (notF ⟨false, ls⟩).src⟩ : Fl) = notF ⟨false, ls⟩ := rfl
  rw [eA] at HA
  have eT : (notF ⟨false, ls⟩).ex = true := rfl
  unfold FPost at HN HT HO HA
  rw [eT] at HT
  have AD : ∀ k : Int, afterF ⟨fe, lf⟩ ⟨k, gr, ls⟩ = if k = 3 then normF ⟨false, ls⟩ else if k = 4 then notF ⟨false, ls⟩ else if k = 5 then orF ⟨fe, lf⟩ ⟨false, ls⟩ else if k = 6 then andF ⟨fe, lf⟩ (notF ⟨false, ls⟩) else ⟨fe, lf⟩ := fun k => rfl
  rw [AD]
  clear AD eA eT l1
  have B := Lib.hid (P4.start w #[.bool fe, .slice pf lf.length cf] #[.int .i64 kd, .string gr, .slice ps ls.length cs] #[.bool false, .slice none 0 0] #[.bool false, .slice ps ls.length cs])
  by_cases k3 : kd = 3
  · subst k3
    rw [if_pos rfl]
    clear HT HO HA
    generalize hX : normF ⟨false, ls⟩ = X at HN ⊢
    clear hX
    obtain ⟨xe, xl⟩ := X
    simp only at HN ⊢
    go_enter Try.func26, Try.ntmps26
    go_wp2_with fail
    have HZ := Lib.hid B.out.lt
    ((with_reducible refine (HN.out _ B.out.bel).mono ?_); rintro e w3 ⟨v3, rfl, a3, h3⟩)
    have A3 := Lib.hid a3
    replace B := Lib.hid (B.out.below h3)
    obtain ⟨p3, c3, rfl⟩ := a3.slice
    clear a3 h3
    have y0 := cell_of_block (j := 0) B.out.2.2.1 rfl
    have y1 := cell_of_block (j := 1) B.out.2.2.1 rfl
    have fr := (fun j : Nat => free_of_block (j := j) B.out.2.2.1)
    go_wp2_with fail
    refine bodyPost_ret (v := .agg #[.bool xe, .slice p3 xl.length c3]) (by simp [results, Try.results26, go_sem, y0, y1]) rfl ⟨_, rfl, ?_, ?_⟩
    · exact ((A3.out.store (c := w.heap.size + 1 + 1) (by have := HZ.out; omega)).store (c := w.heap.size + 1 + 1) (by have := HZ.out; omega)).at
    · exact (B.out.bel.setCell (p := ⟨w.heap.size + 1 + 1, 0, none⟩) (by show _ ≤ w.heap.size + 1 + 1; omega) _).setCell (p := ⟨w.heap.size + 1 + 1, 1, none⟩) (by show _ ≤ w.heap.size + 1 + 1; omega) _
  by_cases k4 : kd = 4
  · subst k4
    rw [if_neg (by decide), if_pos rfl]
    clear HN HO HA k3
    have eT : (notF ⟨false, ls⟩).ex = true := rfl
    rw [eT]
    generalize (notF ⟨false, ls⟩).src = xl at HT ⊢
    clear eT
    go_enter Try.func26, Try.ntmps26
    go_wp2_with fail
    have HZ := Lib.hid B.out.lt
    ((with_reducible refine (HT.out _ B.out.bel).mono ?_); rintro e w3 ⟨v3, rfl, a3, h3⟩)
    have A3 := Lib.hid a3
    replace B := Lib.hid (B.out.below h3)
    obtain ⟨p3, c3, rfl⟩ := a3.slice
    clear a3 h3
    have y0 := cell_of_block (j := 0) B.out.2.2.1 rfl
    have y1 := cell_of_block (j := 1) B.out.2.2.1 rfl
    have fr := (fun j : Nat => free_of_block (j := j) B.out.2.2.1)
    go_wp2_with fail
    refine bodyPost_ret (v := .agg #[.bool true, .slice p3 xl.length c3]) (by simp [results, Try.results26, go_sem, y0, y1]) rfl ⟨_, rfl, ?_, ?_⟩
    · exact ((A3.out.store (c := w.heap.size + 1 + 1) (by have := HZ.out; omega)).store (c := w.heap.size + 1 + 1) (by have := HZ.out; omega)).at
    · exact (B.out.bel.setCell (p := ⟨w.heap.size + 1 + 1, 0, none⟩) (by show _ ≤ w.heap.size + 1 + 1; omega) _).setCell (p := ⟨w.heap.size + 1 + 1, 1, none⟩) (by show _ ≤ w.heap.size + 1 + 1; omega) _
  by_cases k5 : kd = 5
  · subst k5
    rw [if_neg (by decide), if_neg (by decide), if_pos rfl]
    clear HN HT HA k3 k4
    generalize hX : orF ⟨fe, lf⟩ ⟨false, ls⟩ = X at HO ⊢
    clear hX
    obtain ⟨xe, xl⟩ := X
    simp only at HO ⊢
    go_enter Try.func26, Try.ntmps26
    go_wp2_with fail
    have HZ := Lib.hid B.out.lt
    ((with_reducible refine (HO.out _ B.out.bel).mono ?_); rintro e w3 ⟨v3, rfl, a3, h3⟩)
    have A3 := Lib.hid a3
    replace B := Lib.hid (B.out.below h3)
    obtain ⟨p3, c3, rfl⟩ := a3.slice
    clear a3 h3
    have y0 := cell_of_block (j := 0) B.out.2.2.1 rfl
    have y1 := cell_of_block (j := 1) B.out.2.2.1 rfl
    have fr := (fun j : Nat => free_of_block (j := j) B.out.2.2.1)
    go_wp2_with fail
    refine bodyPost_ret (v := .agg #[.bool xe, .slice p3 xl.length c3]) (by simp [results, Try.results26, go_sem, y0, y1]) rfl ⟨_, rfl, ?_, ?_⟩
    · exact ((A3.out.store (c := w.heap.size + 1 + 1) (by have := HZ.out; omega)).store (c := w.heap.size + 1 + 1) (by have := HZ.out; omega)).at
    · exact (B.out.bel.setCell (p := ⟨w.heap.size + 1 + 1, 0, none⟩) (by show _ ≤ w.heap.size + 1 + 1; omega) _).setCell (p := ⟨w.heap.size + 1 + 1, 1, none⟩) (by show _ ≤ w.heap.size + 1 + 1; omega) _
  by_cases k6 : kd = 6
  · subst k6
    rw [if_neg (by decide), if_neg (by decide), if_neg (by decide), if_pos rfl]
    clear HN HO k3 k4 k5
    generalize hX : andF ⟨fe, lf⟩ (notF ⟨false, ls⟩) = X at HA ⊢
    clear hX
    obtain ⟨xe, xl⟩ := X
    simp only at HA ⊢
    generalize (notF ⟨false, ls⟩).src = ts at HA HT
    go_enter Try.func26, Try.ntmps26
    go_wp2_with fail
    have HZ := Lib.hid B.out.lt
    generalize (((w.alloc (.cells #[.bool fe, .slice pf lf.length cf] 28)).alloc (.cells #[.int .i64 6, .string gr, .slice ps ls.length cs] 57)).alloc (.cells #[.bool false, .slice none 0 0] 28)).alloc (.cells #[.bool false, .slice ps ls.length cs] 28) = W at B HZ ⊢
    have HTb := Lib.hid (HT.out _ B.out.bel.drew)
    have KF := Lib.hid fun (U : World) (k : P2 w U #[.bool fe, .slice pf lf.length cf] #[.bool false, .slice ps ls.length cs]) => (⟨cell_of_block k.1 rfl, cell_of_block k.1 rfl, cell_of_block k.2.1 rfl, cell_of_block k.2.1 rfl⟩ : U.cell? ⟨w.heap.size, 0, none⟩ = some (.bool fe) ∧ U.cell? ⟨w.heap.size, 1, none⟩ = some (.slice pf lf.length cf) ∧ U.cell? ⟨w.heap.size + 1 + 1 + 1, 0, none⟩ = some (.bool false) ∧ U.cell? ⟨w.heap.size + 1 + 1 + 1, 1, none⟩ = some (.slice ps ls.length cs))
    have k0 := B.out.p2
    obtain ⟨x0, x1, x2, x3⟩ := KF.out W k0
    clear HT
    go_region_held3 (fun U => U.cell? ⟨w.heap.size, 0, none⟩ = some (.bool fe) ∧ U.cell? ⟨w.heap.size, 1, none⟩ = some (.slice pf lf.length cf) ∧ U.cell? ⟨w.heap.size + 1 + 1 + 1, 0, none⟩ = some (.bool false) ∧ U.cell? ⟨w.heap.size + 1 + 1 + 1, 1, none⟩ = some (.slice ps ls.length cs))
      (first
        | with_reducible exact KF.out _ ((k4.set _ _).set _ _)
        | with_reducible exact KF.out _ k4
        | with_reducible exact KF.out _ k3
        | with_reducible exact KF.out _ k0
        | with_reducible exact KF.out _ k0.drew)
      (first
        | (go_at_call 46; (with_reducible refine HTb.out.mono ?_); rintro e w3 ⟨v3, rfl, a3, h3⟩; have B3 := Lib.hid (P4.below B.out.drew h3); have k3 := B3.out.p2; have HAb := Lib.hid (HA.out _ _ k3.bel a3.at); obtain ⟨p3, c3, rfl⟩ := a3.slice; have HZ3 := Lib.hid B3.out.lt; clear a3 h3)
        | (go_at_call 47; (with_reducible refine HAb.out.mono ?_); rintro e w4 ⟨v4, rfl, a4, h4⟩; have B4 := Lib.hid (P4.below B3.out h4); have A4 := Lib.hid a4; have k4 := B4.out.p2; obtain ⟨p4, c4, rfl⟩ := a4.slice; have y0 := cell_of_block (j := 0) B4.out.2.2.1 rfl; have y1 := cell_of_block (j := 1) B4.out.2.2.1 rfl; have fr := (fun j : Nat => free_of_block (j := j) B4.out.2.2.1); have hz4 := B4.out.lt; clear a4 h4))
    all_goals
      clear x0 x1 x2 x3
      go_wp2_with fail
      refine bodyPost_ret (v := .agg #[.bool xe, .slice p4 xl.length c4]) (by simp [results, Try.results26, go_sem, y0, y1]) rfl ⟨_, rfl, ?_, ?_⟩
      · exact ((A4.out.store (c := w.heap.size + 1 + 1) (by have := HZ3.out; omega)).store (c := w.heap.size + 1 + 1) (by have := HZ3.out; omega)).at
      · exact (B4.out.bel.setCell (p := ⟨w.heap.size + 1 + 1, 0, none⟩) (by show _ ≤ w.heap.size + 1 + 1; omega) _).setCell (p := ⟨w.heap.size + 1 + 1, 1, none⟩) (by show _ ≤ w.heap.size + 1 + 1; omega) _
  · rw [if_neg k3, if_neg k4, if_neg k5, if_neg k6]
    obtain ⟨a3, b3⟩ := ne_t k3
    obtain ⟨a4, b4⟩ := ne_t k4
    obtain ⟨a5, b5⟩ := ne_t k5
    obtain ⟨a6, b6⟩ := ne_t k6
    clear HN HT HO HA k3 k4 k5 k6
    go_enter Try.func26, Try.ntmps26
    go_upto_region 11 with fail
    generalize (((w.alloc (.cells #[.bool fe, .slice pf lf.length cf] 28)).alloc (.cells #[.int .i64 kd, .string gr, .slice ps ls.length cs] 57)).alloc (.cells #[.bool false, .slice none 0 0] 28)).alloc (.cells #[.bool false, .slice ps ls.length cs] 28) = W at B ⊢
    have x0 := cell_of_block (j := 0) B.out.1 rfl
    have x1 := cell_of_block (j := 1) B.out.1 rfl
    have y0 := cell_of_block (j := 0) B.out.2.2.1 rfl
    have y1 := cell_of_block (j := 1) B.out.2.2.1 rfl
    have fr := (fun j : Nat => free_of_block (j := j) B.out.2.2.1)
    have AF := Lib.hid (show AddrsG 0 false W (.slice pf lf.length cf) lf from HAF.out.below B.out.bel)
    go_wp2_with fail
    refine bodyPost_ret (v := .agg #[.bool fe, .slice pf lf.length cf]) (by simp [results, Try.results26, go_sem, y0, y1]) rfl ⟨_, rfl, ?_, ?_⟩
    · have h1 := Below.refl (w.heap.size + 1 + 1) W
      have h2 := (h1.setCell (p := ⟨w.heap.size + 1 + 1, 0, none⟩) (Nat.le_refl _) (.bool fe)).setCell (p := ⟨w.heap.size + 1 + 1, 1, none⟩) (Nat.le_refl _) (.slice pf lf.length cf)
      have h3 : Below w.heap.size w ((W.setCell ⟨w.heap.size + 1 + 1, 0, none⟩ (.bool fe)).setCell ⟨w.heap.size + 1 + 1, 1, none⟩ (.slice pf lf.length cf)) := (B.out.bel.setCell (p := ⟨w.heap.size + 1 + 1, 0, none⟩) (by show _ ≤ w.heap.size + 1 + 1; omega) _).setCell (p := ⟨w.heap.size + 1 + 1, 1, none⟩) (by show _ ≤ w.heap.size + 1 + 1; omega) _
      exact HAF.out.below h3
    · exact (B.out.bel.setCell (p := ⟨w.heap.size + 1 + 1, 0, none⟩) (by show _ ≤ w.heap.size + 1 + 1; omega) _).setCell (p := ⟨w.heap.size + 1 + 1, 1, none⟩) (by show _ ≤ w.heap.size + 1 + 1; omega) _

end Go.Proofs.Ythpafojeadbjlaa
