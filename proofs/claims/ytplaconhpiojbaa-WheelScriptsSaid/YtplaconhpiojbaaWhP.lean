/-
  The wheel's laws with two wheels: what one is told changes nothing of the other; one arming, whatever is armed.
-/
import Derived.Test.YtplaconhpiojbaaWhO
namespace Go.Proofs.Ytplaconhpiojbaa
open Go Go.Maps Go.WideMaps
open Go.RowKit
set_option linter.unusedVariables false
set_option linter.unusedSimpArgs false

/-- TWO WHEELS, APART. -/
structure Pair (w0 wr : World) (p m : Nat) (arm : Int) (L : List T3) (q mq : Nat) (arm' : Int) (L' : List T3) : Prop where
  hv : HasI wr p m 60 arm L
  hw : HasI wr q mq 60 arm' L'
  hb : Below w0.heap.size w0 wr
  np : w0.heap.size ≤ p
  nm : w0.heap.size ≤ m
  nq : w0.heap.size ≤ q
  nmq : w0.heap.size ≤ mq
  d1 : p ≠ q
  d2 : p ≠ mq
  d3 : m ≠ q
  d4 : m ≠ mq

variable {w0 wr wr' : World} {p m q mq : Nat} {arm arm' : Int} {L L' : List T3}

theorem Pair.right (h : Pair w0 wr p m arm L q mq arm' L') {mq2 : Nat} {arm2 : Int} {L2 : List T3} (hw : HasI wr' q mq2 60 arm2 L2) (ht : Tw wr wr' q mq) (hm : mq2 = mq ∨ wr.heap.size ≤ mq2) : Pair w0 wr' p m arm L q mq2 arm2 L2 where
  hv := h.hv.ofHeap (ht.block p h.hv.lt h.d1 h.d2) (ht.block m h.hv.2.lt h.d3 h.d4)
  hw := hw
  hb := h.hb.trans (ht.below h.nq h.nmq h.hb.size)
  np := h.np
  nm := h.nm
  nq := h.nq
  nmq := by have := h.nmq; have := h.hb.size; rcases hm with e | e <;> omega
  d1 := h.d1
  d2 := by have := h.d2; have := h.hv.lt; rcases hm with e | e <;> omega
  d3 := h.d3
  d4 := by have := h.d4; have := h.hv.2.lt; rcases hm with e | e <;> omega

theorem Pair.swap (h : Pair w0 wr p m arm L q mq arm' L') : Pair w0 wr q mq arm' L' p m arm L :=
  ⟨h.hw, h.hv, h.hb, h.nq, h.nmq, h.np, h.nm, h.d1.symm, h.d3.symm, h.d2.symm, h.d4.symm⟩

theorem Pair.left (h : Pair w0 wr p m arm L q mq arm' L') {m2 : Nat} {arm2 : Int} {L2 : List T3} (hv : HasI wr' p m2 60 arm2 L2) (ht : Tw wr wr' p m) (hm : m2 = m ∨ wr.heap.size ≤ m2) : Pair w0 wr' p m2 arm2 L2 q mq arm' L' :=
  (h.swap.right hv ht hm).swap

theorem Pair.below (h : Pair w0 wr p m arm L q mq arm' L') (k : Below wr.heap.size wr wr') : Pair w0 wr' p m arm L q mq arm' L' :=
  h.right (h.hw.below k) (Tw.ofBelow k) (Or.inl rfl)

theorem pair_start {w w1 w2 : World} (h1 : HasI w1 (w.heap.size + 1) w.heap.size 60 0 []) (b1 : Below w.heap.size w w1) (h2 : HasI w2 (w1.heap.size + 1) w1.heap.size 60 0 []) (b2 : Below w1.heap.size w1 w2) :
    Pair w w2 (w.heap.size + 1) w.heap.size 0 [] (w1.heap.size + 1) w1.heap.size 0 [] := by
  have s1 := h1.lt
  have s2 := b1.size
  exact ⟨h1.below b2, h2, b1.trans (b2.mono s2), by omega, by omega, by omega, by omega, by omega, by omega, by omega, by omega⟩

theorem del_lt {L : List T3} {k : Lit} (h : hasT L k = true) : (delT L k).length < L.length := by
  unfold delT
  obtain ⟨x, hx, hk⟩ := List.any_eq_true.1 h
  exact List.length_filter_lt_length_iff_exists.2 ⟨x, hx, by simp [hk]⟩

theorem del_le (L : List T3) (k : Lit) : (delT L k).length ≤ L.length := List.length_filter_le _ _
theorem lat_le (now : Int) (L : List T3) : (latL now L).length ≤ L.length := List.length_filter_le _ _

/-- One arming, whatever is armed. -/
theorem armI_gen {w : World} {q mq : Nat} {arm : Int} {L : List T3} (h : HasI w q mq 60 arm L) (k a : Int) (hk : (Lit.int .i64 k).wf = true) (h0 : 0 ≤ arm) (h1 : arm < 100000) (hl : L.length ≤ 60) :
    Calls Try.prog 19 #[.pointer (some ⟨q, 0, none⟩), .int .i64 k, .int .i64 a] w fun e w' => ∃ n arm2 L2, e = .returned (.int .i64 n) ∧ HasI w' q mq 60 arm2 L2 ∧ Tw w w' q mq ∧ 0 ≤ arm2 ∧ arm2 ≤ arm + 1 ∧ L2.length ≤ 60 := by
  by_cases ha : a < 0
  · refine (armI_neg q (.int .i64 k) a ha w).mono ?_
    rintro e w' ⟨rfl, rfl⟩
    exact ⟨1, arm, L, rfl, h, Tw.refl _ _ _, h0, by omega, hl⟩
  · by_cases hr : hasT L (.int .i64 k) = true ∨ (L.length : Int) < 60
    · refine (armI_put h k hk a (by omega) h0 (by omega) (by omega) hr).mono ?_
      rintro e w' ⟨rfl, a1, a2⟩
      refine ⟨0, _, _, rfl, a1, a2, by omega, by omega, ?_⟩
      unfold putT
      rw [List.length_append]
      have e1 := del_le L (.int .i64 k)
      rcases hr with hr | hr
      · have := del_lt hr
        simp
        omega
      · simp
        omega
    · have hh : hasT L (.int .i64 k) = false := by
        cases hq : hasT L (.int .i64 k)
        · rfl
        · exact absurd (Or.inl hq) hr
      refine (armI_full h k hk a (by omega) hh (by omega)).mono ?_
      rintro e w' ⟨rfl, b⟩
      exact ⟨5, arm, L, rfl, h.below b, Tw.ofBelow b, h0, by omega, hl⟩

end Go.Proofs.Ytplaconhpiojbaa
