/-
  The document's table: Learn of a station that it has. A contract over the translated program.
-/
import Derived.Test.YtodddahjibccoaaFdQ
namespace Go.Proofs.Ytodddahjibccoaa
open Go Go.Maps Go.WideMaps
open Go.RowKit
set_option linter.unusedVariables false
set_option linter.unusedSimpArgs false

variable {w : World} {B q : Nat} {room age : Int} {R : List E4} {lv : Value}
/-- The two stores into the row. -/
theorem two_set (h : HasR w B q room age R lv) {g cap : Nat} (e : lv = .slice (some ⟨g, 0, none⟩) R.length cap) {k : Nat} {x : E4} (hx : R[k]? = some x) {v : Int} {m : ByteArray} (e1 : x.1 = v) (e2 : x.2.1 = m) (a b : Int) :
    HasR ((w.setCell ⟨g, k * 4 + 2, none⟩ (.int .i64 a)).setCell ⟨g, k * 4 + 3, none⟩ (.int .i64 b)) B q room age (R.set k (v, m, a, b)) lv ∧ Tq w ((w.setCell ⟨g, k * 4 + 2, none⟩ (.int .i64 a)).setCell ⟨g, k * 4 + 3, none⟩ (.int .i64 b)) B q := by
  subst e
  have hgq : g ≠ q := by
    rintro rfl
    obtain ⟨cs, f, e3⟩ := row_block h.2 rfl
    have := h.1.symm.trans e3
    simp at this
  have o := row_set (j := k * 4 + 3) (u := .int .i64 b) (row_set (j := k * 4 + 2) (u := .int .i64 a) h.2)
  rw [rowE_set hx e1 e2] at o
  have hlg := h.2.lt g rfl
  obtain ⟨cs, f, e3⟩ := row_block h.2 rfl
  refine ⟨⟨?_, by rw [List.length_set]; exact o⟩, ⟨rfl, rfl, rfl, by simp [World.setCell], fun j hj h1 h2 => ?_⟩⟩
  · rw [Below.heap_setCell _ _ _ _ hgq.symm, Below.heap_setCell _ _ _ _ hgq.symm]
    exact h.1
  · have hjg : j ≠ g := by
      rintro rfl
      rcases h2 with h2 | h2
      · omega
      · exact h2 _ _ e3
    rw [Below.heap_setCell _ _ _ _ hjg, Below.heap_setCell _ _ _ _ hjg]

set_option maxHeartbeats 8000000 in
set_option maxRecDepth 100000 in
theorem rlearn_has (h : HasR w B q room age R lv) (hg : GoodF R) (hl : R.length < 1000000000) (v : Int) (m : ByteArray) (p now : Int) (hm : (mayL v m p && timeB now) = true) {i : Nat} {y : E4} (hno : NoF R (fun x => sameE x v m) i) (hy : R[i]? = some y) (he : sameE y v m = true) :
    Calls Try.prog 17 #[.pointer (some ⟨q, 0, none⟩), .int .i64 v, .string m, .int .i64 p, .int .i64 now] w fun e w' => e = .returned (.bool true) ∧ ∃ lv', HasR w' B q room age (setF R v m (p, now)) lv' ∧ Tq w w' B q := by
  obtain ⟨g, cap, rfl, hcap, hcm, hfz, hc⟩ := h.some hy
  obtain ⟨f1, f2, f3, f4, f5, f6, f7⟩ := may_all hm
  obtain ⟨k1, k1'⟩ := eq_t f1
  have k2 : decide (v < 1) = false := decide_eq_false f3
  have k3 : decide (4094 < v) = false := decide_eq_false f4
  have k4 : decide (p < 0) = false := decide_eq_false f5
  have k5 : decide (15 < p) = false := decide_eq_false f6
  have HM := Lib.hid fun U => rmny_c m U
  have HT := Lib.hid fun U => rtime_c now U
  rw [f2] at HM
  rw [f7] at HT
  clear f1 f2 f3 f4 f5 f6 f7 hm
  have e12 := (same_iff _ _ _).1 he
  have TS := Lib.hid (two_set h rfl hy e12.1 e12.2 p now)
  rw [← set_eq hg.up hy he] at TS
  have HC := Lib.hid hc
  have HN := Lib.hid hno
  have HY := Lib.hid hy
  have HE := Lib.hid e12
  have FZ := Lib.hid hfz
  have HQ := Lib.hid (show g ≠ q from by
    rintro rfl
    obtain ⟨cs, f, e3⟩ := row_block h.2 rfl
    have := h.1.symm.trans e3
    simp at this)
  have him : i < R.length := (List.getElem?_eq_some_iff.1 hy).1
  have c2 := h.c2
  clear hc h hno hy he hfz e12 hcm
  go_enter Try.func17, Try.ntmps17
  go_wp2_with fail
  ((with_reducible refine (HM.out _).mono ?_); rintro e w1 ⟨rfl, rfl⟩)
  go_wp2_with fail
  ((with_reducible refine (HT.out _).mono ?_); rintro e w2 ⟨rfl, rfl⟩)
  go_wp2_with fail
  go_loop [11] (fun s => ∃ k : Nat, k ≤ i ∧ s = .int .i64 k) (fun s => R.length - (intOf s).toNat)
  case atStart => exact ⟨0, Nat.zero_le _, rfl⟩
  case round =>
    obtain ⟨k, hk, rfl⟩ := hrel
    by_cases hlt : k < i
    · obtain ⟨x, hx⟩ := some_at (show k < R.length by omega)
      obtain ⟨x0, x1, x2, x3⟩ := HC.out k x hx
      have hlt' : (k : Int) < (R.length : Int) := by omega
      clear x2 x3
      have e5 : ¬ (x.1 = v ∧ x.2.1 = m) := fun h => by have h5 : sameE x v m = false := HN.out k x hlt hx; rw [(same_iff _ _ _).2 h] at h5; cases h5
      clear hx HC
      by_cases e1 : x.1 = v
      · obtain ⟨g2, g3⟩ := eq_t e1
        have g1 := fun t => seql_of (x := x.2.1) (y := m) (r := false) (decide_eq_false fun e => e5 ⟨e1, e⟩) t
        clear e5 e1
        go_wp2_with fail
        go_round
        case rel => exact ⟨k + 1, by omega, by go_num⟩
        case measure => simp [intOf] <;> omega
      · obtain ⟨g2, g3⟩ := ne_t e1
        clear e5 e1
        go_wp2_with fail
        go_round
        case rel => exact ⟨k + 1, by omega, by go_num⟩
        case measure => simp [intOf] <;> omega
    · obtain rfl : k = i := by omega
      obtain ⟨x0, x1, x2, x3⟩ := HC.out k y HY.out
      have hlt' : (k : Int) < (R.length : Int) := by omega
      have y2 := FZ.out (k * 4 + 2)
      have y3 := FZ.out (k * 4 + 3)
      obtain ⟨g2, g3⟩ := eq_t HE.out.1
      have g1 := fun t => seql_of (x := y.2.1) (y := m) (r := true) (decide_eq_true HE.out.2) t
      have n1 := HQ.out
      have n2 := HQ.out.symm
      clear HC HN FZ
      go_wp2_with fail
      go_ret
      first | exact ⟨rfl, ⟨_, TS.out.1⟩, TS.out.2⟩ | exact ⟨rfl, _, TS.out.1, TS.out.2⟩

end Go.Proofs.Ytodddahjibccoaa
