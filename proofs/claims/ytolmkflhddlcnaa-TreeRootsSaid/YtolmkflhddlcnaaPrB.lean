/-
  Boxes; lead and Best of prio. Contracts over the translated program.
-/
import Derived.Test.YtolmkflhddlcnaaPrA
import Derived.LoopTactic
namespace Go.Proofs.Ytolmkflhddlcnaa
open Go.RowKit
set_option linter.unusedVariables false
set_option linter.unusedSimpArgs false

/-- A box: block b holds xs; what lay at w0 is as it was. -/
structure Bx (w0 w : World) (b : Nat) (xs : Array Value) (t : TypeId) : Prop where
  blk : w.heap[b]? = some (.cells xs t (0, 0))
  ge : w0.heap.size ≤ b
  bel : Below w0.heap.size w0 w
theorem Bx.start (w : World) (xs : Array Value) (t : TypeId) : Bx w (w.alloc (.cells xs t)) w.heap.size xs t := ⟨heap_new _ _, Nat.le_refl _, (Below.refl _ w).alloc (Nat.le_refl _) _⟩
theorem Bx.mk' {w0 w : World} (h : Below w0.heap.size w0 w) (xs : Array Value) (t : TypeId) : Bx w0 (w.alloc (.cells xs t)) w.heap.size xs t := ⟨heap_new _ _, h.size, h.alloc h.size _⟩
theorem Bx.lt {w0 w : World} {b : Nat} {xs : Array Value} {t : TypeId} (h : Bx w0 w b xs t) : b < w.heap.size := lt_of_block h.blk
theorem Bx.below {w0 w w' : World} {b : Nat} {xs : Array Value} {t : TypeId} (h : Bx w0 w b xs t) (k : Below w.heap.size w w') : Bx w0 w' b xs t :=
  ⟨below_block k h.lt h.blk, h.ge, h.bel.trans (k.mono h.bel.size)⟩
theorem Bx.alloc {w0 w : World} {b : Nat} {xs : Array Value} {t : TypeId} (h : Bx w0 w b xs t) (o : Obj) : Bx w0 (w.alloc o) b xs t := h.below ((Below.refl _ w).alloc (Nat.le_refl _) o)
theorem Bx.drew {w0 w : World} {b : Nat} {xs : Array Value} {t : TypeId} (h : Bx w0 w b xs t) : Bx w0 w.drew b xs t := ⟨h.blk, h.ge, h.bel.drew⟩
theorem Bx.cell {w0 w : World} {b : Nat} {xs : Array Value} {t : TypeId} (h : Bx w0 w b xs t) (j : Nat) {v : Value} (hj : xs[j]? = some v) : w.cell? ⟨b, j, none⟩ = some v := cell_of_block h.blk hj
theorem Bx.free {w0 w : World} {b : Nat} {xs : Array Value} {t : TypeId} (h : Bx w0 w b xs t) (j : Nat) : w.frozen? ⟨b, j, none⟩ = false := free_of_block h.blk
theorem Bx.set {w0 w : World} {b : Nat} {xs : Array Value} {t : TypeId} (h : Bx w0 w b xs t) (j : Nat) (v : Value) : Bx w0 (w.setCell ⟨b, j, none⟩ v) b (xs.setIfInBounds j v) t :=
  ⟨heap_store h.blk, h.ge, h.bel.setCell (p := ⟨b, j, none⟩) h.ge _⟩
theorem Bx.far {w0 w : World} {b c : Nat} {xs : Array Value} {t : TypeId} (h : Bx w0 w b xs t) (hc : w0.heap.size ≤ c) (hne : b ≠ c) (j : Nat) (v : Value) : Bx w0 (w.setCell ⟨c, j, none⟩ v) b xs t :=
  ⟨heap_store_other h.blk hne, h.ge, h.bel.setCell (p := ⟨c, j, none⟩) hc _⟩
/-- Four cells of one block written. -/
def wr4 (w : World) (b : Nat) (v0 v1 v2 v3 : Value) : World := (((w.setCell ⟨b, 0, none⟩ v0).setCell ⟨b, 1, none⟩ v1).setCell ⟨b, 2, none⟩ v2).setCell ⟨b, 3, none⟩ v3
theorem Bx.put4 {w0 w : World} {b : Nat} {u0 u1 u2 u3 : Value} {t : TypeId} (h : Bx w0 w b #[u0, u1, u2, u3] t) (v0 v1 v2 v3 : Value) : Bx w0 (wr4 w b v0 v1 v2 v3) b #[v0, v1, v2, v3] t := by
  have := (((h.set 0 v0).set 1 v1).set 2 v2).set 3 v3
  simpa [wr4] using this
theorem Bx.far4 {w0 w : World} {b c : Nat} {xs : Array Value} {t : TypeId} (h : Bx w0 w b xs t) (hc : w0.heap.size ≤ c) (hne : b ≠ c) (v0 v1 v2 v3 : Value) : Bx w0 (wr4 w c v0 v1 v2 v3) b xs t :=
  (((h.far hc hne 0 v0).far hc hne 1 v1).far hc hne 2 v2).far hc hne 3 v3
theorem below_put4 {B : Nat} {w0 w : World} (h : Below B w0 w) {b : Nat} (hb : B ≤ b) (v0 v1 v2 v3 : Value) : Below B w0 (wr4 w b v0 v1 v2 v3) :=
  (((h.setCell (p := ⟨b, 0, none⟩) hb v0).setCell (p := ⟨b, 1, none⟩) hb v1).setCell (p := ⟨b, 2, none⟩) hb v2).setCell (p := ⟨b, 3, none⟩) hb v3

set_option maxHeartbeats 4000000 in
set_option maxRecDepth 100000 in
theorem lead_no (b : Int) (x : Bool) (r c g p k : Int) (w : World) (h : leadB b (x, r, c, g, p, k) = false) : Calls Try.prog 51 #[.int .u64 b, .agg #[.bool x, .int .u64 r, .int .i64 c, .int .u64 g, .int .i64 p, .int .i64 k]] w fun e w' =>
    e = .returned (.tuple #[.agg #[.int .u64 0, .int .i64 0, .int .u64 0, .int .i64 0], .bool false]) ∧ Below w.heap.size w w' := by
  have hB := fun xs ys => Lib.hid (((Below.refl w.heap.size w).alloc (Nat.le_refl _) (.cells xs 84)).alloc (by simp) (.cells ys 79))
  unfold leadB at h
  simp only at h
  cases x with
  | false =>
    clear h
    go_enter Try.func51, Try.ntmps51
    go_wp2_with fail
    refine bodyPost_ret (v := .tuple #[.agg #[.int .u64 0, .int .i64 0, .int .u64 0, .int .i64 0], .bool false]) (by simp [results, Try.results51, go_sem]) rfl ⟨rfl, ?_⟩
    exact (hB _ _).out
  | true =>
    by_cases hg : g = b
    · subst hg
      have k1 := eq_t (rfl : g = g)
      obtain ⟨k2, k3⟩ := k1
      clear h
      go_enter Try.func51, Try.ntmps51
      go_wp2_with fail
      refine bodyPost_ret (v := .tuple #[.agg #[.int .u64 0, .int .i64 0, .int .u64 0, .int .i64 0], .bool false]) (by simp [results, Try.results51, go_sem]) rfl ⟨rfl, ?_⟩
      exact (hB _ _).out
    · have hb : badW c k = true := by simpa [hg] using h
      obtain ⟨k2, k3⟩ := ne_t hg
      clear h hg
      have B0 := Lib.hid (Bx.mk' (w0 := w) ((Below.refl w.heap.size w).alloc (Nat.le_refl _) (.cells #[.bool true, .int .u64 r, .int .i64 c, .int .u64 g, .int .i64 p, .int .i64 k] 84)) #[.int .u64 0, .int .i64 0, .int .u64 0, .int .i64 0] 79)
      have HT := Lib.hid (pthr_no r c g p k ((w.alloc (.cells #[.bool true, .int .u64 r, .int .i64 c, .int .u64 g, .int .i64 p, .int .i64 k] 84)).alloc (.cells #[.int .u64 0, .int .i64 0, .int .u64 0, .int .i64 0] 79)) hb)
      go_enter Try.func51, Try.ntmps51
      go_wp2_with fail
      ((with_reducible refine HT.out.mono ?_); rintro e w1 ⟨rfl, h1⟩)
      replace B0 := Lib.hid (show Bx w w1 (w.heap.size + 1) #[.int .u64 0, .int .i64 0, .int .u64 0, .int .i64 0] 79 from by have := B0.out.below h1; simpa using this)
      clear h1 HT
      replace B0 := Lib.hid (B0.out.alloc (.cells #[.int .u64 0, .int .i64 0, .int .u64 0, .int .i64 0] 79))
      have z0 : (w1.alloc (.cells #[.int .u64 0, .int .i64 0, .int .u64 0, .int .i64 0] 79)).cell? ⟨w1.heap.size, 0, none⟩ = some _ := cell_of_block (heap_new _ _) rfl
      go_upto_region 4 with fail
      generalize hW : w1.alloc (.cells #[.int .u64 0, .int .i64 0, .int .u64 0, .int .i64 0] 79) = w2 at B0 ⊢
      have y : ∀ j v, (#[.int .u64 0, .int .i64 0, .int .u64 0, .int .i64 0] : Array Value)[j]? = some v → w2.cell? ⟨w1.heap.size, j, none⟩ = some v := fun j v hj => by rw [← hW]; exact cell_of_block (heap_new _ _) hj
      have x0 := y 0 _ rfl
      have x1 := y 1 _ rfl
      have x2 := y 2 _ rfl
      have x3 := y 3 _ rfl
      clear y hW z0
      have y0 := B0.out.cell 0 rfl
      have y1 := B0.out.cell 1 rfl
      have y2 := B0.out.cell 2 rfl
      have y3 := B0.out.cell 3 rfl
      have fr := fun j => B0.out.free j
      have hz := B0.out.lt
      go_wp2_with fail
      refine bodyPost_ret (v := .tuple #[.agg #[.int .u64 0, .int .i64 0, .int .u64 0, .int .i64 0], .bool false]) (by simp [results, Try.results51, go_sem, y0, y1, y2, y3]) rfl ⟨rfl, ?_⟩
      exact below_put4 B0.out.bel (Nat.le_succ _) _ _ _ _

set_option maxHeartbeats 4000000 in
set_option maxRecDepth 100000 in
theorem lead_ok (b : Int) (x : Bool) (r c g p k : Int) (w : World) (h : leadB b (x, r, c, g, p, k) = true) : Calls Try.prog 51 #[.int .u64 b, .agg #[.bool x, .int .u64 r, .int .i64 c, .int .u64 g, .int .i64 p, .int .i64 k]] w fun e w' =>
    e = .returned (.tuple #[.agg #[.int .u64 r, .int .i64 (farC c k), .int .u64 g, .int .i64 p], .bool true]) ∧ Below w.heap.size w w' := by
  unfold leadB at h
  simp only [Bool.and_eq_true, decide_eq_true_eq, Bool.not_eq_true'] at h
  obtain ⟨⟨rfl, hg⟩, hb⟩ := h
  obtain ⟨k2, k3⟩ := ne_t hg
  clear hg
  have B0 := Lib.hid (Bx.mk' (w0 := w) ((Below.refl w.heap.size w).alloc (Nat.le_refl _) (.cells #[.bool true, .int .u64 r, .int .i64 c, .int .u64 g, .int .i64 p, .int .i64 k] 84)) #[.int .u64 0, .int .i64 0, .int .u64 0, .int .i64 0] 79)
  have HT := Lib.hid (pthr_ok r c g p k ((w.alloc (.cells #[.bool true, .int .u64 r, .int .i64 c, .int .u64 g, .int .i64 p, .int .i64 k] 84)).alloc (.cells #[.int .u64 0, .int .i64 0, .int .u64 0, .int .i64 0] 79)) hb)
  generalize farC c k = c' at *
  go_enter Try.func51, Try.ntmps51
  go_wp2_with fail
  ((with_reducible refine HT.out.mono ?_); rintro e w1 ⟨rfl, h1⟩)
  replace B0 := Lib.hid (show Bx w w1 (w.heap.size + 1) #[.int .u64 0, .int .i64 0, .int .u64 0, .int .i64 0] 79 from by have := B0.out.below h1; simpa using this)
  clear h1 HT
  replace B0 := Lib.hid (B0.out.alloc (.cells #[.int .u64 r, .int .i64 c', .int .u64 g, .int .i64 p] 79))
  have z0 : (w1.alloc (.cells #[.int .u64 r, .int .i64 c', .int .u64 g, .int .i64 p] 79)).cell? ⟨w1.heap.size, 0, none⟩ = some _ := cell_of_block (heap_new _ _) rfl
  go_upto_region 4 with fail
  generalize hW : w1.alloc (.cells #[.int .u64 r, .int .i64 c', .int .u64 g, .int .i64 p] 79) = w2 at B0 ⊢
  have y : ∀ j v, (#[.int .u64 r, .int .i64 c', .int .u64 g, .int .i64 p] : Array Value)[j]? = some v → w2.cell? ⟨w1.heap.size, j, none⟩ = some v := fun j v hj => by rw [← hW]; exact cell_of_block (heap_new _ _) hj
  have x0 := y 0 _ rfl
  have x1 := y 1 _ rfl
  have x2 := y 2 _ rfl
  have x3 := y 3 _ rfl
  clear y hW z0
  have y0 := B0.out.cell 0 rfl
  have y1 := B0.out.cell 1 rfl
  have y2 := B0.out.cell 2 rfl
  have y3 := B0.out.cell 3 rfl
  have fr := fun j => B0.out.free j
  have hz := B0.out.lt
  go_wp2_with fail
  refine bodyPost_ret (v := .tuple #[.agg #[.int .u64 r, .int .i64 c', .int .u64 g, .int .i64 p], .bool true]) (by simp [results, Try.results51, go_sem, y0, y1, y2, y3]) rfl ⟨rfl, ?_⟩
  exact below_put4 B0.out.bel (Nat.le_succ _) _ _ _ _

end Go.Proofs.Ytolmkflhddlcnaa
