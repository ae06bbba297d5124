/-
  The document's wheel: At, first, Next, Cancel, Arm. Contracts over the translated program.
-/
import Derived.Test.YtplaconhpiojbaaWhT
import Derived.LoopTactic
namespace Go.Proofs.Ytplaconhpiojbaa
open Go Go.Maps Go.WideMaps
open Go.RowKit
set_option linter.unusedVariables false
set_option linter.unusedSimpArgs false

set_option maxHeartbeats 4000000 in
set_option maxRecDepth 100000 in
theorem rat_c {w : World} {B q : Nat} {room : Int} {T : List E3} {lv : Value} (h : HasR w B q room T lv) (s : ByteArray) (hl : T.length < 1000000000) :
    Calls Try.prog 28 #[.pointer (some ⟨q, 0, none⟩), .string s] w fun e w' => e = .returned (.tuple #[.int .i64 (atE T s), .bool (hasE T s)]) ∧ w' = w := by
  obtain ⟨p, off, cap, rfl, hc⟩ := h.rows
  have HC := Lib.hid hc
  have c1 := h.c1
  clear hc h
  go_enter Try.func28, Try.ntmps28
  go_wp2
  go_loop [6] (fun s6 => ∃ k : Nat, k ≤ T.length ∧ s6 = .int .i64 k ∧ Hid (NoE T s k)) (fun s6 => T.length - (intOf s6).toNat)
  case atStart => exact ⟨0, Nat.zero_le _, rfl, Lib.hid (NoE.zero _ _)⟩
  case round =>
    obtain ⟨k, hk, rfl, hno⟩ := hrel
    by_cases hlt : k < T.length
    · obtain ⟨x, hx⟩ := some_at hlt
      obtain ⟨g, rfl, x0, x1⟩ := HC.out k x hx
      have hlt' : (k : Int) < (T.length : Int) := by omega
      simp only [Option.map_some] at c1 ⊢
      by_cases he : x.1 = s
      · have g1 := fun t => eql_of (x := x.1) (y := s) (r := true) (decide_eq_true he) t
        have Y := Lib.hid (yes_has hno.out hx he)
        clear hx he HC
        go_wp2
        go_ret2
        exact ⟨by rw [Y.out.1, Y.out.2]; rfl, rfl⟩
      · have g1 := fun t => eql_of (x := x.1) (y := s) (r := false) (decide_eq_false he) t
        have N := Lib.hid (hno.out.succ hx he)
        clear hx he HC
        go_wp2
        go_round
        case rel => exact ⟨k + 1, by omega, by go_num, N⟩
        case measure => simp [intOf]; omega
    · obtain rfl : k = T.length := by omega
      have Y := Lib.hid (no_has hno.out)
      have hlt' : decide ((T.length : Int) < (T.length : Int)) = false := by simp
      go_wp2
      go_ret2
      exact ⟨by rw [Y.out.1, Y.out.2.1]; rfl, rfl⟩

/-- b is the first of the least times among the first k; -1: there is none. -/
def BestI (T : List E3) (k : Nat) (b : Int) : Prop :=
  (b = -1 ∧ k = 0) ∨ ∃ (i : Nat) (y : E3), b = (i : Int) ∧ i < k ∧ T[i]? = some y ∧ (∀ (j : Nat) (x : E3), j < k → T[j]? = some x → y.2.1 ≤ x.2.1) ∧ (∀ (j : Nat) (x : E3), j < i → T[j]? = some x → y.2.1 < x.2.1)

theorem besti_first {T : List E3} {x : E3} (hx : T[0]? = some x) : BestI T 1 0 := by
  refine Or.inr ⟨0, x, rfl, by omega, hx, fun j z hj hz => ?_, fun j z hj hz => by omega⟩
  obtain rfl : j = 0 := by omega
  rw [hx] at hz
  cases hz
  exact Int.le_refl _

theorem besti_less {T : List E3} {k i : Nat} {x y : E3} (hx : T[k]? = some x) (h2 : i < k) (h3 : T[i]? = some y) (h4 : ∀ (j : Nat) (x : E3), j < k → T[j]? = some x → y.2.1 ≤ x.2.1) (h5 : ∀ (j : Nat) (x : E3), j < i → T[j]? = some x → y.2.1 < x.2.1) :
    (x.2.1 < y.2.1 → BestI T (k + 1) k) ∧ (¬ x.2.1 < y.2.1 → BestI T (k + 1) i) := by
  constructor
  · intro hq
    refine Or.inr ⟨k, x, rfl, by omega, hx, fun j z hj hz => ?_, fun j z hj hz => ?_⟩
    · by_cases e : j = k
      · subst e
        rw [hx] at hz
        cases hz
        exact Int.le_refl _
      · have := h4 j z (by omega) hz
        omega
    · have := h4 j z (by omega) hz
      omega
  · intro hq
    refine Or.inr ⟨i, y, rfl, by omega, h3, fun j z hj hz => ?_, h5⟩
    by_cases e : j = k
    · subst e
      rw [hx] at hz
      cases hz
      omega
    · exact h4 j z (by omega) hz

set_option maxHeartbeats 4000000 in
set_option maxRecDepth 100000 in
theorem rfirst_c {w : World} {B q : Nat} {room : Int} {T : List E3} {lv : Value} (h : HasR w B q room T lv) (hl : T.length < 1000000000) :
    Calls Try.prog 41 #[.pointer (some ⟨q, 0, none⟩)] w fun e w' => ∃ b n, e = .returned (.int .i64 b) ∧ Hid (BestI T T.length b) ∧ w' = w.drewN n := by
  obtain ⟨p, off, cap, rfl, hc⟩ := h.rows
  have HC := Lib.hid hc
  have c1 := h.c1
  clear hc h
  go_enter Try.func41, Try.ntmps41
  go_wp2
  go_loopw [3, 4] (fun s3 s4 wr => ∃ (k n : Nat) (b : Int), k ≤ T.length ∧ s4 = .int .i64 k ∧ s3 = .int .i64 b ∧ Hid (BestI T k b) ∧ wr = w.drewN n) (fun _ s4 _ => T.length - (intOf s4).toNat)
  case atStart => exact ⟨0, 0, -1, Nat.zero_le _, rfl, rfl, Lib.hid (Or.inl ⟨rfl, rfl⟩), rfl⟩
  case round =>
    obtain ⟨k, n, b, hk, rfl, rfl, hb, rfl⟩ := hrel
    by_cases hlt : k < T.length
    · obtain ⟨x, hx⟩ := some_at hlt
      obtain ⟨g, rfl, x0, x1⟩ := HC.out k x hx
      have hlt' : (k : Int) < (T.length : Int) := by omega
      simp only [Option.map_some] at c1
      rcases hb.out with ⟨rfl, rfl⟩ | ⟨i, y, rfl, h2, h3, h4, h5⟩
      · have N := Lib.hid (besti_first hx)
        clear hx HC hb
        simp only [Nat.zero_mul, Nat.add_zero] at x0 x1
        go_wp2
        go_quiet (fail)
        go_wp2
        go_roundw
        case rel => exact ⟨1, _, 0, by omega, by go_num, rfl, N, rfl⟩
        case measure => simp [intOf]; omega
      · obtain ⟨g', e, y0, y1⟩ := HC.out i y h3
        cases e
        obtain ⟨N1, N2⟩ := besti_less hx h2 h3 h4 h5
        have k0 : decide ((i : Int) < 0) = false := decide_eq_false (by omega)
        have hi' : (i : Int) < (T.length : Int) := by omega
        by_cases hq : x.2.1 < y.2.1
        · have k1 : decide (x.2.1 < y.2.1) = true := decide_eq_true hq
          have N := Lib.hid (N1 hq)
          clear hx HC hb h3 h4 h5 N1 N2 hq
          go_wp2
          go_quiet (fail)
          go_wp2
          go_roundw
          case rel => exact ⟨k + 1, _, k, by omega, by go_num, rfl, N, rfl⟩
          case measure => simp [intOf]; omega
        · have k1 : decide (x.2.1 < y.2.1) = false := decide_eq_false hq
          have N := Lib.hid (N2 hq)
          clear hx HC hb h3 h4 h5 N1 N2 hq
          go_wp2
          go_quiet (fail)
          go_wp2
          go_roundw
          case rel => exact ⟨k + 1, _, i, by omega, by go_num, rfl, N, rfl⟩
          case measure => simp [intOf]; omega
    · obtain rfl : k = T.length := by omega
      have hlt' : decide ((T.length : Int) < (T.length : Int)) = false := by simp
      go_wp2
      go_ret
      exact ⟨b, n, rfl, hb, rfl⟩

theorem besti_best {T : List E3} {b : Int} (h : BestI T T.length b) : (b = -1 ∧ Best (mOf T) 0 false) ∨ ∃ (i : Nat) (y : E3), b = (i : Int) ∧ T[i]? = some y ∧ Best (mOf T) y.2.1 true := by
  rcases h with ⟨h1, h2⟩ | ⟨i, y, h1, h2, h3, h4, _⟩
  · obtain rfl := List.length_eq_zero_iff.1 h2
    exact Or.inl ⟨h1, best_nil⟩
  · refine Or.inr ⟨i, y, h1, h3, Or.inr ⟨rfl, ⟨(litS y.1, y.2), List.mem_map.2 ⟨y, List.mem_of_getElem? h3, rfl⟩, rfl⟩, fun z hz => ?_⟩⟩
    obtain ⟨x, hx, rfl⟩ := List.mem_map.1 hz
    obtain ⟨j, hj, e⟩ := List.getElem_of_mem hx
    exact h4 j x hj (by rw [List.getElem?_eq_getElem hj, e])

set_option maxHeartbeats 4000000 in
set_option maxRecDepth 100000 in
theorem rnext_c {w : World} {B q : Nat} {room : Int} {T : List E3} {lv : Value} (h : HasR w B q room T lv) (hl : T.length < 1000000000) :
    Calls Try.prog 29 #[.pointer (some ⟨q, 0, none⟩)] w fun e w' => ∃ f hb n, e = .returned (.tuple #[.int .i64 f, .bool hb]) ∧ Hid (Best (mOf T) f hb) ∧ w' = w.drewN n := by
  have F := Lib.hid (rfirst_c h hl)
  obtain ⟨p, off, cap, rfl, hc⟩ := h.rows
  have HC := Lib.hid hc
  have c1 := h.c1
  clear hc h
  go_enter Try.func29, Try.ntmps29
  go_upto_region 2 with (go_at_call 41; refine F.out.mono ?_; rintro e w1 ⟨b, n, rfl, hb, rfl⟩)
  rcases besti_best hb.out with ⟨rfl, h⟩ | ⟨i, y, rfl, hy, h⟩
  · have Y := Lib.hid h
    clear h hb
    go_wp2
    go_ret2
    exact ⟨_, _, n, rfl, Y, rfl⟩
  · have Y := Lib.hid h
    obtain ⟨g, rfl, y0, y1⟩ := HC.out i y hy
    have hil : i < T.length := (List.getElem?_eq_some_iff.1 hy).1
    have k0 : decide ((i : Int) < 0) = false := decide_eq_false (by omega)
    have hi' : (i : Int) < (T.length : Int) := by omega
    simp only [Option.map_some] at c1
    clear h hb HC hy
    go_wp2
    go_ret2
    exact ⟨_, _, n, rfl, Y, rfl⟩

end Go.Proofs.Ytplaconhpiojbaa
