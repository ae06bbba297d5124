/-
  Filters: Diff of two filters that are not of one kind; the law's same and live. Contracts over the translated program.
-/
import Derived.Test.YthpafojeadbjlaaFlG
namespace Go.Proofs.Ythpafojeadbjlaa
open Go.RowKit
set_option linter.unusedVariables false
set_option linter.unusedSimpArgs false

/-- Two boxes behind w0's end. -/
def K2 (w0 w : World) (xf xg : Array Value) : Prop := w.heap[w0.heap.size]? = some (.cells xf 28 (0, 0)) ∧ w.heap[w0.heap.size + 1]? = some (.cells xg 28 (0, 0)) ∧ Below w0.heap.size w0 w
theorem K2.start (w0 : World) (xf xg : Array Value) : K2 w0 ((w0.alloc (.cells xf 28)).alloc (.cells xg 28)) xf xg :=
  ⟨heap_old (heap_new _ _), hn _ _ (by simp) _, ((Below.refl _ w0).alloc (Nat.le_refl _) _).alloc (by simp) _⟩
theorem K2.below {w0 w w' : World} {xf xg : Array Value} (h : K2 w0 w xf xg) (k : Below w.heap.size w w') : K2 w0 w' xf xg := ⟨below_block k (lt_of_block h.1) h.1, below_block k (lt_of_block h.2.1) h.2.1, h.2.2.trans (k.mono h.2.2.size)⟩
theorem K2.drew {w0 w : World} {xf xg : Array Value} (h : K2 w0 w xf xg) : K2 w0 w.drew xf xg := ⟨h.1, h.2.1, h.2.2.drew⟩
theorem K2.bel {w0 w : World} {xf xg : Array Value} (h : K2 w0 w xf xg) : Below w0.heap.size w0 w := h.2.2

theorem rec1_at {w : World} {b : Nat} {kd : Int} {g : ByteArray} {vs : Value} {l : List ByteArray} (h : w.heap[b]? = some (.cells #[.int .i64 kd, .string g, vs] 57 (0, 0))) (ha : AddrsAt w vs l) : RecsAt w (.slice (some ⟨b, 0, none⟩) 1 1) [⟨kd, g, l⟩] := by
  refine ⟨_, 1, b, 0, rfl, fun _ => ⟨rfl, Nat.zero_le _⟩, fun j r hj => ?_⟩
  obtain ⟨rfl, rfl⟩ := one_at hj
  exact ⟨cell_of_block h rfl, cell_of_block h rfl, vs, cell_of_block h rfl, ha⟩
theorem lit1 {w : World} {b : Nat} {x : ByteArray} {t : TypeId} (h : w.heap[b]? = some (.cells #[.string x] t (0, 0))) : AddrsAt w (.slice (some ⟨b, 0, none⟩) 1 1) [x] := by
  refine ⟨_, 1, b, 0, rfl, fun _ => ⟨rfl, Nat.zero_le _, fun h => by cases h⟩, fun j s hj => ?_⟩
  obtain ⟨rfl, rfl⟩ := one_at hj
  exact cell_of_block h rfl
theorem lit2 {w : World} {b : Nat} {x y : ByteArray} {t : TypeId} (h : w.heap[b]? = some (.cells #[.string x, .string y] t (0, 0))) : AddrsAt w (.slice (some ⟨b, 0, none⟩) 2 2) [x, y] := by
  refine ⟨_, 2, b, 0, rfl, fun _ => ⟨rfl, Nat.zero_le _, fun h => by cases h⟩, fun j s hj => ?_⟩
  rcases j with _ | _ | j
  · obtain rfl : x = s := by simpa using hj
    exact cell_of_block h rfl
  · obtain rfl : y = s := by simpa using hj
    exact cell_of_block h rfl
  · simp at hj

set_option maxHeartbeats 4000000 in
set_option maxRecDepth 100000 in
theorem diff1_c (gr : ByteArray) (ge : Bool) (vf vg : Value) (lf lg : List ByteArray) (w : World) (hf : lf.length ≤ 1000000) (hg : lg.length ≤ 1000000) (haf : AddrsAt w vf lf) (hag : AddrsAt w vg lg) :
    Calls Try.prog 38 #[.string gr, .agg #[.bool (!ge), vf], .agg #[.bool ge, vg]] w (DiPost [⟨if ge then 4 else 3, gr, ris lg⟩] w) := by
  have HAF := Lib.hid haf
  have HAG := Lib.hid hag
  obtain ⟨pf, cf, rfl⟩ := haf.slice
  obtain ⟨pg, cg, rfl⟩ := hag.slice
  have HRF := Lib.hid fun U (hU : Below w.heap.size w U) => rising_c _ lf U hf (HAF.out.below hU)
  have HRG := Lib.hid fun U (hU : Below w.heap.size w U) => rising_c _ lg U hg (HAG.out.below hU)
  generalize ris lf = rf at HRF
  generalize ris lg = rg at HRG ⊢
  unfold LPost at HRF HRG
  unfold DiPost
  have HT := Lib.hid fun U => turned_c ge U
  generalize lf.length = nf at *
  generalize lg.length = ng at *
  clear haf hag hf hg HAF HAG
  cases ge
  · simp only [Bool.not_false, Bool.not_true, if_true, Bool.false_eq_true, if_false] at HT ⊢
    have B := Lib.hid (K2.start w #[.bool true, .slice pf nf cf] #[.bool false, .slice pg ng cg])
    go_enter Try.func38, Try.ntmps38
    go_wp2_with fail
    generalize (w.alloc (.cells #[.bool true, .slice pf nf cf] 28)).alloc (.cells #[.bool false, .slice pg ng cg] 28) = W at B ⊢
    have HRFb := Lib.hid (HRF.out _ B.out.bel.drew)
    have KF := Lib.hid fun (U : World) (k : K2 w U #[.bool true, .slice pf nf cf] #[.bool false, .slice pg ng cg]) => (⟨cell_of_block k.1 rfl, cell_of_block k.2.1 rfl⟩ : U.cell? ⟨w.heap.size, 1, none⟩ = some (.slice pf nf cf) ∧ U.cell? ⟨w.heap.size + 1, 1, none⟩ = some (.slice pg ng cg))
    have k0 := B.out
    obtain ⟨x0, x1⟩ := KF.out W k0
    clear HRF
    go_region_held3 (fun U => U.cell? ⟨w.heap.size, 1, none⟩ = some (.slice pf nf cf) ∧ U.cell? ⟨w.heap.size + 1, 1, none⟩ = some (.slice pg ng cg))
      (first
        | with_reducible exact KF.out _ k4
        | with_reducible exact KF.out _ k3
        | with_reducible exact KF.out _ k0
        | with_reducible exact KF.out _ k0.drew)
      (first
        | (go_at_call 48; (with_reducible refine HRFb.out.mono ?_); rintro e w3 ⟨v3, rfl, a3, h3, -⟩; have k3 := (K2.below k0.drew h3); obtain ⟨p3, d3, rfl⟩ := a3.slice; have HRGb := Lib.hid (HRG.out _ k3.bel); clear a3 h3)
        | (go_at_call 48; (with_reducible refine HRGb.out.mono ?_); rintro e w4 ⟨v4, rfl, a4, h4, -⟩; have k4 := (K2.below k3 h4); have A4 := Lib.hid a4; obtain ⟨p4, d4, rfl⟩ := a4.slice; clear a4 h4))
    all_goals
      have K4 := Lib.hid k4
      have y0 := cell_of_block (j := 0) K4.out.1 rfl
      have y1 := cell_of_block (j := 0) K4.out.2.1 rfl
      clear x0 x1
      go_wp2_with fail
      ((with_reducible refine (HT.out _).mono ?_); rintro e w5 ⟨rfl, rfl⟩)
      go_wp2_with fail
      go_ret
      exact ⟨_, rfl, rec1_at (heap_new _ _) (A4.out.at.below (boxed_below _ _)), K4.out.bel.alloc K4.out.bel.size _⟩
  · simp only [Bool.not_false, Bool.not_true, if_true, Bool.false_eq_true, if_false] at HT ⊢
    have B := Lib.hid (K2.start w #[.bool false, .slice pf nf cf] #[.bool true, .slice pg ng cg])
    go_enter Try.func38, Try.ntmps38
    go_wp2_with fail
    generalize (w.alloc (.cells #[.bool false, .slice pf nf cf] 28)).alloc (.cells #[.bool true, .slice pg ng cg] 28) = W at B ⊢
    have HRFb := Lib.hid (HRF.out _ B.out.bel.drew)
    have KF := Lib.hid fun (U : World) (k : K2 w U #[.bool false, .slice pf nf cf] #[.bool true, .slice pg ng cg]) => (⟨cell_of_block k.1 rfl, cell_of_block k.2.1 rfl⟩ : U.cell? ⟨w.heap.size, 1, none⟩ = some (.slice pf nf cf) ∧ U.cell? ⟨w.heap.size + 1, 1, none⟩ = some (.slice pg ng cg))
    have k0 := B.out
    obtain ⟨x0, x1⟩ := KF.out W k0
    clear HRF
    go_region_held3 (fun U => U.cell? ⟨w.heap.size, 1, none⟩ = some (.slice pf nf cf) ∧ U.cell? ⟨w.heap.size + 1, 1, none⟩ = some (.slice pg ng cg))
      (first
        | with_reducible exact KF.out _ k4
        | with_reducible exact KF.out _ k3
        | with_reducible exact KF.out _ k0
        | with_reducible exact KF.out _ k0.drew)
      (first
        | (go_at_call 48; (with_reducible refine HRFb.out.mono ?_); rintro e w3 ⟨v3, rfl, a3, h3, -⟩; have k3 := (K2.below k0.drew h3); obtain ⟨p3, d3, rfl⟩ := a3.slice; have HRGb := Lib.hid (HRG.out _ k3.bel); clear a3 h3)
        | (go_at_call 48; (with_reducible refine HRGb.out.mono ?_); rintro e w4 ⟨v4, rfl, a4, h4, -⟩; have k4 := (K2.below k3 h4); have A4 := Lib.hid a4; obtain ⟨p4, d4, rfl⟩ := a4.slice; clear a4 h4))
    all_goals
      have K4 := Lib.hid k4
      have y0 := cell_of_block (j := 0) K4.out.1 rfl
      have y1 := cell_of_block (j := 0) K4.out.2.1 rfl
      clear x0 x1
      go_wp2_with fail
      ((with_reducible refine (HT.out _).mono ?_); rintro e w5 ⟨rfl, rfl⟩)
      go_wp2_with fail
      go_ret
      exact ⟨_, rfl, rec1_at (heap_new _ _) (A4.out.at.below (boxed_below _ _)), K4.out.bel.alloc K4.out.bel.size _⟩

end Go.Proofs.Ythpafojeadbjlaa
