/-
  The document's table: time, ahead, oldest. Contracts over the translated program.
-/
import Derived.Test.YtodddahjibccoaaFdL
import Derived.Deep.RegionHeld3
namespace Go.Proofs.Ytodddahjibccoaa
open Go Go.Maps Go.WideMaps
open Go.RowKit
set_option linter.unusedVariables false
set_option linter.unusedSimpArgs false

variable {w : World} {B q : Nat} {room age : Int} {R : List E4} {lv : Value}
theorem rtime_c (now : Int) (w : World) : Calls Try.prog 33 #[.int .i64 now] w fun e w' => e = .returned (.bool (timeB now)) ∧ w' = w := by
  unfold timeB
  by_cases h1 : 0 ≤ now
  · have k1 : decide (0 ≤ now) = true := decide_eq_true h1
    clear h1
    rw [k1]
    go_enter Try.func33, Try.ntmps33
    go_wp2
    go_ret
    exact ⟨by simp, rfl⟩
  · have k1 : decide (0 ≤ now) = false := decide_eq_false h1
    clear h1
    rw [k1]
    go_enter Try.func33, Try.ntmps33
    go_wp2
    go_ret
    exact ⟨by simp, rfl⟩

set_option maxRecDepth 100000 in
theorem rahead_c (x : E4) (v : Int) (m : ByteArray) (w : World) : Calls Try.prog 36 #[.agg #[.int .i64 x.1, .string x.2.1, .int .i64 x.2.2.1, .int .i64 x.2.2.2], .int .i64 v, .string m] w fun e w' => e = .returned (.bool (ltS x.1 x.2.1 v m)) ∧ Below w.heap.size w w' := by
  obtain ⟨xv, xm, xp, xa⟩ := x
  simp only
  have hB := Lib.hid ((Below.refl w.heap.size w).alloc (Nat.le_refl _) (.cells #[.int .i64 xv, .string xm, .int .i64 xp, .int .i64 xa] 58))
  unfold ltS
  by_cases h1 : xv < v
  · have k1 : decide (xv < v) = true := decide_eq_true h1
    clear h1
    go_enter Try.func36, Try.ntmps36
    go_wp2
    go_ret
    exact ⟨by rw [k1]; rfl, hB.out⟩
  · have k1 : decide (xv < v) = false := decide_eq_false h1
    by_cases h2 : xv = v
    · have k2 : decide (xv = v) = true := decide_eq_true h2
      have g1 := fun t => slss_of (x := xm) (y := m) rfl t
      clear h1
      subst h2
      go_enter Try.func36, Try.ntmps36
      go_wp2
      go_ret
      exact ⟨by first | rfl | simp, hB.out⟩
    · have k2 : decide (xv = v) = false := decide_eq_false h2
      clear h1
      go_enter Try.func36, Try.ntmps36
      go_wp2
      go_ret
      exact ⟨by rw [k1, k2]; rfl, hB.out⟩

/-- b is the first of the least times among the first k. -/
def BestO (R : List E4) (k b : Nat) : Prop := b < k ∧ ∃ y, R[b]? = some y ∧ (∀ (j : Nat) (x : E4), j < k → R[j]? = some x → y.2.2.2 ≤ x.2.2.2) ∧ (∀ (j : Nat) (x : E4), j < b → R[j]? = some x → y.2.2.2 < x.2.2.2)
theorem besto_first {R : List E4} {x : E4} (hx : R[0]? = some x) : BestO R 1 0 := by
  refine ⟨by omega, x, hx, fun j z hj hz => ?_, fun j z hj hz => by omega⟩
  obtain rfl : j = 0 := by omega
  rw [hx] at hz
  cases hz
  exact Int.le_refl _
theorem besto_step {R : List E4} {k b : Nat} {x y : E4} (h : BestO R k b) (hx : R[k]? = some x) (hy : R[b]? = some y) : (x.2.2.2 < y.2.2.2 → BestO R (k + 1) k) ∧ (¬ x.2.2.2 < y.2.2.2 → BestO R (k + 1) b) := by
  obtain ⟨h2, y', h3, h4, h5⟩ := h
  rw [hy] at h3
  cases h3
  constructor
  · intro hq
    refine ⟨by omega, x, hx, fun j z hj hz => ?_, fun j z hj hz => ?_⟩
    · by_cases e : j = k
      · subst e
        rw [hx] at hz
        cases hz
        exact Int.le_refl _
      · have := h4 j z (by omega) hz
        omega
    · have := h4 j z (by omega) hz
      omega
  · intro hq
    refine ⟨by omega, y, hy, fun j z hj hz => ?_, h5⟩
    by_cases e : j = k
    · subst e
      rw [hx] at hz
      cases hz
      omega
    · exact h4 j z (by omega) hz
theorem besto_old {R : List E4} {b : Nat} (h : BestO R R.length b) : oldI R = b := by
  obtain ⟨h1, y, h2, h3, h4⟩ := h
  have hb := (List.getElem?_eq_some_iff.1 h2).2
  unfold oldI
  rw [List.findIdx_eq h1]
  constructor
  · rw [List.all_eq_true]
    intro z hz
    obtain ⟨j, hj, e⟩ := List.getElem_of_mem hz
    have := h3 j z hj (by rw [List.getElem?_eq_getElem hj, e])
    rw [hb]
    simpa using this
  · intro j hj
    rw [List.all_eq_false]
    refine ⟨y, List.mem_of_getElem? h2, ?_⟩
    have := h4 j R[j] hj (List.getElem?_eq_getElem (by omega))
    simp
    omega

set_option maxHeartbeats 4000000 in
set_option maxRecDepth 100000 in
theorem roldest_c (h : HasR w B q room age R lv) (hl : R.length < 1000000000) (hne : 0 < R.length) :
    Calls Try.prog 35 #[.pointer (some ⟨q, 0, none⟩)] w fun e w' => e = .returned (.int .i64 (oldI R)) ∧ ∃ n, w' = w.drewN n := by
  obtain ⟨x, hx⟩ := some_at hne
  obtain ⟨g, cap, rfl, -, -, -, hc⟩ := h.some hx
  have HC := Lib.hid hc
  have c2 := h.c2
  have B1 := besto_first hx
  clear hc h hx
  go_enter Try.func35, Try.ntmps35
  go_wp2
  go_loopw [3, 4] (fun s3 s4 wr => ∃ (k n b : Nat), k ≤ R.length ∧ s4 = .int .i64 k ∧ s3 = .int .i64 b ∧ Hid (BestO R k b) ∧ wr = w.drewN n) (fun _ s4 _ => R.length - (intOf s4).toNat)
  case atStart => exact ⟨1, 0, 0, by omega, rfl, rfl, Lib.hid B1, rfl⟩
  case round =>
    obtain ⟨k, n, b, hk, rfl, rfl, hb, rfl⟩ := hrel
    by_cases hlt : k < R.length
    · obtain ⟨x, hx⟩ := some_at hlt
      obtain ⟨y, hy⟩ := some_at (show b < R.length by have := hb.out.1; omega)
      obtain ⟨-, -, -, x3⟩ := HC.out k x hx
      obtain ⟨-, -, -, y3⟩ := HC.out b y hy
      obtain ⟨N1, N2⟩ := besto_step hb.out hx hy
      have hlt' : (k : Int) < (R.length : Int) := by omega
      have hb' : (b : Int) < (R.length : Int) := by have := hb.out.1; omega
      by_cases hq : x.2.2.2 < y.2.2.2
      · have k1 : decide (x.2.2.2 < y.2.2.2) = true := decide_eq_true hq
        have N := Lib.hid (N1 hq)
        clear hx hy HC hb N1 N2 hq
        go_wp2
        go_quiet (fail)
        go_wp2
        go_roundw
        case rel => exact ⟨k + 1, _, k, by omega, by go_num, rfl, N, rfl⟩
        case measure => simp [intOf]; omega
      · have k1 : decide (x.2.2.2 < y.2.2.2) = false := decide_eq_false hq
        have N := Lib.hid (N2 hq)
        clear hx hy HC hb N1 N2 hq
        go_wp2
        go_quiet (fail)
        go_wp2
        go_roundw
        case rel => exact ⟨k + 1, _, b, by omega, by go_num, rfl, N, rfl⟩
        case measure => simp [intOf]; omega
    · obtain rfl : k = R.length := by omega
      have hlt' : decide ((R.length : Int) < (R.length : Int)) = false := by simp
      have E := besto_old hb.out
      go_wp2
      go_ret
      exact ⟨by rw [E]; rfl, n, rfl⟩

end Go.Proofs.Ytodddahjibccoaa
