/-
  Filters, the document's answer: siphonref11.both. Contracts over the translated program.
-/
import Derived.Test.YthpafojeadbjlaaFlN
import Derived.Test.YthpafojeadbjlaaFlH
import Derived.StillTailTactics
import Derived.Lib.QuietBelow
import Derived.Deep.AppendLies
import Derived.Deep.RegionLaw
import Derived.Deep.Cut
import Derived.BigQuiet
namespace Go.Proofs.Ythpafojeadbjlaa
open Go.RowKit
set_option linter.unusedVariables false
set_option linter.unusedSimpArgs false

theorem K2.grown {w0 w w' : World} {xf xg : Array Value} {row : Option Nat} (h : K2 w0 w xf xg) (k : w.grownBy w' row) (hr : ∀ g, row = some g → w0.heap.size + 1 < g) : K2 w0 w' xf xg := by
  have l := lt_of_block h.2.1
  have ne : ∀ b, b ≤ w0.heap.size + 1 → some b ≠ row := fun b hb e => by have := hr b e.symm; omega
  exact ⟨(k.block _ (by omega) (ne _ (by omega))).trans h.1, (k.block _ (by omega) (ne _ (by omega))).trans h.2.1, h.2.2.grown k h.2.2.size (fun g hg => by have := hr g hg; omega)⟩

set_option maxHeartbeats 4000000 in
set_option maxRecDepth 100000 in
theorem rboth_c (fe ge : Bool) (vf vg : Value) (lf lg : List ByteArray) (w : World) (hf : lf.length ≤ 1000) (hg : lg.length ≤ 1000) (haf : AddrsAt w vf lf) (hag : AddrsAt w vg lg) :
    Calls Try.prog 54 #[.agg #[.bool fe, vf], .agg #[.bool ge, vg]] w (MPost (ris (lf ++ lg)) w) := by
  have HAF := Lib.hid haf
  have HAG := Lib.hid hag
  obtain ⟨pf, cf, rfl⟩ := haf.slice
  obtain ⟨pg, cg, rfl⟩ := hag.slice
  have HR := Lib.hid fun v U h => rris_c v (lf ++ lg) U (by rw [List.length_append]; omega) h
  generalize ris (lf ++ lg) = R at HR ⊢
  unfold MPost at HR ⊢
  have B := Lib.hid (K2.start w #[.bool fe, .slice pf lf.length cf] #[.bool ge, .slice pg lg.length cg])
  clear haf hag
  go_enter Try.func54, Try.ntmps54
  go_wp2_with (at_builtin; refine wpList_append_addrs rfl _ _ rfl (w.heap.size + 1 + 1) _ 0 [] rfl (World.ownsRow_nil _ _ _ _) _ lf rfl ?a1 ?a2 ?a3 ?a4 ?_)
  case a1 => exact HAF.out.below B.out.bel
  case a2 => unfold maxLen; omega
  case a3 => omega
  case a4 => simp
  intro v1 w1 hown1 hg1
  try simp only [Nat.zero_add, List.nil_append] at hown1
  obtain ⟨p1, c1, rfl⟩ := fl_owns_slice hown1
  replace B := Lib.hid (B.out.grown hg1 (fun g hg => by simp [Value.ownBlock] at hg))
  have O1 := Lib.hid hown1
  clear hown1 hg1
  have y1 := cell_of_block (j := 1) B.out.2.1 rfl
  go_wp2_with (at_builtin; refine wpList_append_addrs rfl _ _ rfl (w.heap.size + 1 + 1) _ lf.length (lf.map Value.string) rfl O1.out _ lg rfl ?b1 ?b2 ?b3 ?b4 ?_)
  case b1 => exact HAG.out.below B.out.bel
  case b2 => unfold maxLen; omega
  case b3 => omega
  case b4 => have := lt_of_block B.out.2.1; omega
  intro v2 w2 hown2 hg2
  replace B := Lib.hid (B.out.grown hg2 (fun g hg => by have := (O1.out.lt g hg).1; omega))
  obtain ⟨p2, c2, rfl⟩ := fl_owns_slice hown2
  have A2 := Lib.hid (AddrsG.of_owns (l := lf ++ lg) (n := lf.length + lg.length) (by rw [List.map_append]; exact hown2))
  clear hown2 hg2 y1 O1
  go_wp2_with fail
  ((with_reducible refine (HR.out _ _ A2.out.at).mono ?_); rintro e w3 ⟨v3, rfl, a3, h3⟩)
  have A3 := Lib.hid (a3.mono (B' := w.heap.size) B.out.bel.size id)
  obtain ⟨p3, c3, rfl⟩ := a3.slice
  replace B := Lib.hid (B.out.below h3)
  clear a3 h3
  go_wp2_with fail
  go_ret
  exact ⟨_, rfl, A3.out, B.out.bel⟩

/-- Four boxes behind w0's end. -/
def Q4 (w0 w : World) (xf xg xr xo : Array Value) : Prop :=
  w.heap[w0.heap.size]? = some (.cells xf 28 (0, 0)) ∧ w.heap[w0.heap.size + 1]? = some (.cells xg 28 (0, 0)) ∧ w.heap[w0.heap.size + 1 + 1]? = some (.cells xr 28 (0, 0)) ∧ w.heap[w0.heap.size + 1 + 1 + 1]? = some (.cells xo 28 (0, 0)) ∧ Below w0.heap.size w0 w
theorem Q4.start (w0 : World) (xf xg xr xo : Array Value) : Q4 w0 ((((w0.alloc (.cells xf 28)).alloc (.cells xg 28)).alloc (.cells xr 28)).alloc (.cells xo 28)) xf xg xr xo :=
  ⟨heap_old (heap_old (heap_old (heap_new _ _))), heap_old (heap_old (hn _ _ (by simp) _)), heap_old (hn _ _ (by simp) _), hn _ _ (by simp) _, ((((Below.refl _ w0).alloc (Nat.le_refl _) _).alloc (by simp) _).alloc (by simp; omega) _).alloc (by simp; omega) _⟩
theorem Q4.below {w0 w w' : World} {xf xg xr xo : Array Value} (h : Q4 w0 w xf xg xr xo) (k : Below w.heap.size w w') : Q4 w0 w' xf xg xr xo :=
  ⟨below_block k (lt_of_block h.1) h.1, below_block k (lt_of_block h.2.1) h.2.1, below_block k (lt_of_block h.2.2.1) h.2.2.1, below_block k (lt_of_block h.2.2.2.1) h.2.2.2.1, h.2.2.2.2.trans (k.mono h.2.2.2.2.size)⟩
theorem Q4.drew {w0 w : World} {xf xg xr xo : Array Value} (h : Q4 w0 w xf xg xr xo) : Q4 w0 w.drew xf xg xr xo := ⟨h.1, h.2.1, h.2.2.1, h.2.2.2.1, h.2.2.2.2.drew⟩
theorem Q4.bel {w0 w : World} {xf xg xr xo : Array Value} (h : Q4 w0 w xf xg xr xo) : Below w0.heap.size w0 w := h.2.2.2.2
theorem Q4.lt {w0 w : World} {xf xg xr xo : Array Value} (h : Q4 w0 w xf xg xr xo) : w0.heap.size + 1 + 1 + 1 < w.heap.size := lt_of_block h.2.2.2.1
theorem Q4.set3 {w0 w : World} {xf xg xr xo : Array Value} (h : Q4 w0 w xf xg xr xo) (j : Nat) (v : Value) : Q4 w0 (w.setCell ⟨w0.heap.size + 1 + 1 + 1, j, none⟩ v) xf xg xr (xo.setIfInBounds j v) :=
  ⟨heap_store_other h.1 (by omega), heap_store_other h.2.1 (by omega), heap_store_other h.2.2.1 (by omega), heap_store h.2.2.2.1, h.2.2.2.2.setCell (p := ⟨w0.heap.size + 1 + 1 + 1, j, none⟩) (by show _ ≤ w0.heap.size + 1 + 1 + 1; omega) _⟩
theorem Q4.grown {w0 w w' : World} {xf xg xr xo : Array Value} {row : Option Nat} (h : Q4 w0 w xf xg xr xo) (k : w.grownBy w' row) (hr : ∀ g, row = some g → w0.heap.size + 1 + 1 + 1 < g) : Q4 w0 w' xf xg xr xo := by
  have l := h.lt
  have ne : ∀ b, b ≤ w0.heap.size + 1 + 1 + 1 → some b ≠ row := fun b hb e => by have := hr b e.symm; omega
  exact ⟨(k.block _ (by omega) (ne _ (by omega))).trans h.1, (k.block _ (by omega) (ne _ (by omega))).trans h.2.1, (k.block _ (by omega) (ne _ (by omega))).trans h.2.2.1, (k.block _ (by omega) (ne _ (by omega))).trans h.2.2.2.1, h.2.2.2.2.grown k h.2.2.2.2.size (fun g hg => by have := hr g hg; omega)⟩
/-- A list's texts lie in block b. -/
def RowL (b o : Nat) (L : List ByteArray) (w : World) : Prop := ∀ j s, L[j]? = some s → w.cell? ⟨b, o + j, none⟩ = some (.string s)
theorem RowL.below {b o : Nat} {L : List ByteArray} {w w' : World} (h : RowL b o L w) (k : Below w.heap.size w w') : RowL b o L w' := fun j s hj => cell_below k (h j s hj)
theorem RowL.store {b o c j : Nat} {L : List ByteArray} {w : World} {u : Value} (h : RowL b o L w) (k : L ≠ [] → b ≠ c) : RowL b o L (w.setCell ⟨c, j, none⟩ u) := fun i s hi => cell_far (h i s hi) (k (by rintro rfl; simp at hi))
theorem RowL.grown {b o : Nat} {L : List ByteArray} {w w' : World} {row : Option Nat} (h : RowL b o L w) (k : w.grownBy w' row) (hr : L ≠ [] → some b ≠ row) : RowL b o L w' := fun i s hi => by
  have hlt := cell_lt' (h i s hi)
  rw [← h i s hi]
  exact World.cell?_of_block (w := w) (k.block b hlt (hr (by rintro rfl; simp at hi)))
theorem filter_take_succ (L : List ByteArray) (P : ByteArray → Bool) (k : Nat) (x : ByteArray) (h : L[k]? = some x) : (L.take (k + 1)).filter P = (L.take k).filter P ++ (if P x then [x] else []) := by
  obtain ⟨hk, rfl⟩ := List.getElem?_eq_some_iff.1 h
  rw [List.take_succ_eq_append_getElem hk, List.filter_append]
  congr 1
  by_cases h : P L[k] = true <;> simp [h]


end Go.Proofs.Ythpafojeadbjlaa
