/-
  VLANs: what In and Out refuse alike (vlan.whole, vlan.fault). Contracts over the translated program.
-/
import Derived.Test.YtgoibogpebbkaaaVlE
import Derived.Test.YtgoibogpebbkaaaEthB
import Derived.StillTailTactics
namespace Go.Proofs.Ytgoibogpebbkaaa
open Go.RowKit
set_option linter.unusedVariables false

set_option maxHeartbeats 1000000 in
set_option maxRecDepth 100000 in
theorem whole_c (f : Fr) (w : World) (hx : f.x.size ≤ 140737488351232) :
    Calls Try.prog 27 #[f.val] w fun e w' => e = .returned (.bool f.ok) ∧ Below w.heap.size w w' := by
  obtain ⟨d, s, t, v, p, y, x⟩ := f
  simp only at hx
  show Calls Try.prog 27 #[.agg #[.string d, .string s, .bool t, .int .i64 v, .int .i64 p, .int .i64 y, .string x]] w fun e w' => e = .returned (.bool (okF d s t v p y x)) ∧ Below w.heap.size w w'
  have HE := Lib.hid fun U => eenc_c d s t v p y x U hx
  have HB := Lib.hid fun o => (Below.refl w.heap.size w).alloc (Nat.le_refl _) o
  by_cases h : FOk d s t v p y x
  · have hv : encF d s t v p y x = (⟨(encL d s t v p y x).toArray⟩, 0) := if_pos h
    have V := Lib.hid (show okF d s t v p y x = true from decide_eq_true h)
    rw [hv] at HE
    generalize (⟨(encL d s t v p y x).toArray⟩ : ByteArray) = S at HE
    clear hv h
    go_enter Try.func27, Try.ntmps27
    go_wp2_with fail
    ((with_reducible refine (HE.out _).mono ?_); rintro e w1 ⟨rfl, h1⟩)
    go_wp2_with fail
    go_ret
    exact ⟨by rw [V.out]; rfl, (HB.out _).trans (h1.mono (HB.out _).size)⟩
  · have hv : encF d s t v p y x = (⟨#[]⟩, 1) := if_neg h
    have V := Lib.hid (show okF d s t v p y x = false from decide_eq_false h)
    rw [hv] at HE
    clear hv h
    go_enter Try.func27, Try.ntmps27
    go_wp2_with fail
    ((with_reducible refine (HE.out _).mono ?_); rintro e w1 ⟨rfl, h1⟩)
    go_wp2_with fail
    go_ret
    exact ⟨by rw [V.out]; rfl, (HB.out _).trans (h1.mono (HB.out _).size)⟩

theorem chkI_cases (L : List Pt) : (chkB L = true ∧ chkI L = 0) ∨ (chkB L = false ∧ chkI L = 3) := by
  unfold chkI
  cases chkB L
  · exact .inr ⟨rfl, rfl⟩
  · exact .inl ⟨rfl, rfl⟩

set_option maxHeartbeats 2000000 in
set_option maxRecDepth 100000 in
theorem fault_c (p : Option Addr) (cap : Nat) (L : List Pt) (i : Int) (f : Fr) (w : World) (hl : L.length ≤ 9223372036854775807) (hp : PtsL L) (hx : f.x.size ≤ 140737488351232) (ha : PtsAt w (.slice p L.length cap) L) :
    Calls Try.prog 24 #[.slice p L.length cap, .int .i64 i, f.val] w fun e w' => e = .returned (.int .i64 (faultI L i f)) ∧ Below w.heap.size w w' := by
  have HW := Lib.hid fun U => whole_c f U hx
  have HC := Lib.hid fun (U : World) (hU : Below w.heap.size w U) => chk_c _ L U hl hp (ha.below hU)
  have V0 := Lib.hid (show faultI L i f = if chkB L = false then 3 else if i < 0 ∨ (L.length : Int) ≤ i ∨ f.ok = false then 1 else 0 from rfl)
  obtain ⟨d, s, t, v, q, y, x⟩ := f
  simp only [Fr.val] at HW ⊢
  have B := Lib.hid (IBox.start w #[.string d, .string s, .bool t, .int .i64 v, .int .i64 q, .int .i64 y, .string x] 33)
  generalize Fr.ok ⟨d, s, t, v, q, y, x⟩ = ok at HW V0
  generalize faultI L i ⟨d, s, t, v, q, y, x⟩ = fi at V0 ⊢
  clear ha hp hx
  rcases chkI_cases L with ⟨hc, hi⟩ | ⟨hc, hi⟩
  · rw [hi] at HC
    rw [hc] at V0
    clear hc hi
    by_cases h0 : i < 0
    · have V := Lib.hid (show fi = 1 by rw [V0.out]; simp [h0])
      have d1 : decide (i < 0) = true := decide_eq_true h0
      clear h0
      go_enter Try.func24, Try.ntmps24
      go_wp2_with fail
      ((with_reducible refine (HC.out _ B.out.bel).mono ?_); rintro e w1 ⟨rfl, h1⟩)
      go_wp2_with fail
      go_ret
      exact ⟨by rw [V.out]; rfl, (B.out.below h1).2⟩
    · have d1 : decide (i < 0) = false := decide_eq_false h0
      by_cases h2 : (L.length : Int) ≤ i
      · have V := Lib.hid (show fi = 1 by rw [V0.out]; simp [h2])
        have d2 : decide ((L.length : Int) ≤ i) = true := decide_eq_true h2
        clear h0 h2
        go_enter Try.func24, Try.ntmps24
        go_wp2_with fail
        ((with_reducible refine (HC.out _ B.out.bel).mono ?_); rintro e w1 ⟨rfl, h1⟩)
        go_wp2_with fail
        go_ret
        exact ⟨by rw [V.out]; rfl, (B.out.below h1).2⟩
      · have d2 : decide ((L.length : Int) ≤ i) = false := decide_eq_false h2
        have V := Lib.hid (show fi = if ok = false then 1 else 0 by rw [V0.out]; simp [h0, h2])
        clear h0 h2
        go_enter Try.func24, Try.ntmps24
        go_wp2_with fail
        ((with_reducible refine (HC.out _ B.out.bel).mono ?_); rintro e w1 ⟨rfl, h1⟩)
        replace B := Lib.hid (B.out.below h1)
        clear h1
        have x0 := B.out.cell 0 rfl
        have x1 := B.out.cell 1 rfl
        have x2 := B.out.cell 2 rfl
        have x3 := B.out.cell 3 rfl
        have x4 := B.out.cell 4 rfl
        have x5 := B.out.cell 5 rfl
        have x6 := B.out.cell 6 rfl
        cases ok
        · go_wp2_with fail
          ((with_reducible refine (HW.out _).mono ?_); rintro e w2 ⟨rfl, h2⟩)
          go_wp2_with fail
          go_ret
          exact ⟨by rw [V.out]; rfl, (B.out.below h2).2⟩
        · go_wp2_with fail
          ((with_reducible refine (HW.out _).mono ?_); rintro e w2 ⟨rfl, h2⟩)
          go_wp2_with fail
          go_ret
          exact ⟨by rw [V.out]; rfl, (B.out.below h2).2⟩
  · rw [hi] at HC
    have V := Lib.hid (show fi = 3 by rw [V0.out, hc]; rfl)
    clear hc hi
    go_enter Try.func24, Try.ntmps24
    go_wp2_with fail
    ((with_reducible refine (HC.out _ B.out.bel).mono ?_); rintro e w1 ⟨rfl, h1⟩)
    go_wp2_with fail
    go_ret
    exact ⟨by rw [V.out]; rfl, (B.out.below h1).2⟩

/-- Two blocks behind w0's end hold xs and ys; what lay is as it was. -/
def IB2 (w0 w : World) (xs ys : Array Value) (t : TypeId) : Prop := w.heap[w0.heap.size]? = some (.cells xs t (0, 0)) ∧ w.heap[w0.heap.size + 1]? = some (.cells ys t (0, 0)) ∧ Below w0.heap.size w0 w
theorem IB2.start (w0 : World) (xs ys : Array Value) (t : TypeId) : IB2 w0 ((w0.alloc (.cells xs t)).alloc (.cells ys t)) xs ys t :=
  ⟨heap_old (heap_new _ _), by simpa using heap_new (w0.alloc (.cells xs t)) (.cells ys t), ((Below.refl _ w0).alloc (Nat.le_refl _) _).alloc (by simp) _⟩
theorem IB2.below {w0 w w' : World} {xs ys : Array Value} {t : TypeId} (h : IB2 w0 w xs ys t) (k : Below w.heap.size w w') : IB2 w0 w' xs ys t :=
  ⟨below_block k (lt_of_block h.1) h.1, below_block k (lt_of_block h.2.1) h.2.1, h.2.2.trans (k.mono h.2.2.size)⟩
theorem IB2.cell0 {w0 w : World} {xs ys : Array Value} {t : TypeId} (h : IB2 w0 w xs ys t) (j : Nat) {v : Value} (hj : xs[j]? = some v) : w.cell? ⟨w0.heap.size, j, none⟩ = some v := cell_of_block h.1 hj
theorem IB2.cell1 {w0 w : World} {xs ys : Array Value} {t : TypeId} (h : IB2 w0 w xs ys t) (j : Nat) {v : Value} (hj : ys[j]? = some v) : w.cell? ⟨w0.heap.size + 1, j, none⟩ = some v := cell_of_block h.2.1 hj
theorem IB2.free0 {w0 w : World} {xs ys : Array Value} {t : TypeId} (h : IB2 w0 w xs ys t) (j : Nat) : w.frozen? ⟨w0.heap.size, j, none⟩ = false := free_of_block h.1
theorem IB2.free1 {w0 w : World} {xs ys : Array Value} {t : TypeId} (h : IB2 w0 w xs ys t) (j : Nat) : w.frozen? ⟨w0.heap.size + 1, j, none⟩ = false := free_of_block h.2.1
theorem IB2.lt {w0 w : World} {xs ys : Array Value} {t : TypeId} (h : IB2 w0 w xs ys t) : w0.heap.size + 1 < w.heap.size := lt_of_block h.2.1
theorem IB2.bel {w0 w : World} {xs ys : Array Value} {t : TypeId} (h : IB2 w0 w xs ys t) : Below w0.heap.size w0 w := h.2.2
theorem IB2.set0 {w0 w : World} {xs ys : Array Value} {t : TypeId} (h : IB2 w0 w xs ys t) (j : Nat) (v : Value) : IB2 w0 (w.setCell ⟨w0.heap.size, j, none⟩ v) (xs.setIfInBounds j v) ys t :=
  ⟨heap_store h.1, heap_store_other h.2.1 (by omega), h.2.2.setCell (p := ⟨w0.heap.size, j, none⟩) (Nat.le_refl _) _⟩
theorem IB2.set1 {w0 w : World} {xs ys : Array Value} {t : TypeId} (h : IB2 w0 w xs ys t) (j : Nat) (v : Value) : IB2 w0 (w.setCell ⟨w0.heap.size + 1, j, none⟩ v) xs (ys.setIfInBounds j v) t :=
  ⟨heap_store_other h.1 (by omega), heap_store h.2.1, h.2.2.setCell (p := ⟨w0.heap.size + 1, j, none⟩) (Nat.le_succ _) _⟩
theorem IB2.drew {w0 w : World} {xs ys : Array Value} {t : TypeId} (h : IB2 w0 w xs ys t) : IB2 w0 w.drew xs ys t := ⟨h.1, h.2.1, h.2.2.drew⟩

end Go.Proofs.Ytgoibogpebbkaaa
