/-
  The document's table: Look. A contract over the translated program.
-/
import Derived.Test.YtodddahjibccoaaFdN
namespace Go.Proofs.Ytodddahjibccoaa
open Go Go.Maps Go.WideMaps
open Go.RowKit
set_option linter.unusedVariables false
set_option linter.unusedSimpArgs false

variable {w : World} {B q : Nat} {room age : Int} {R : List E4} {lv : Value}
theorem at_mem {R : List E4} (hu : UpF R) {x : E4} (hx : x ∈ R) {v : Int} {m : ByteArray} (h : sameE x v m = true) : hasF R v m = true ∧ atF R v m = x.2.2 := by
  constructor
  · exact List.any_eq_true.2 ⟨x, hx, h⟩
  · unfold atF
    cases hf : R.find? (fun e => sameE e v m) with
    | none => exact absurd h (by have := List.find?_eq_none.1 hf x hx; simpa using this)
    | some y =>
      have hy := List.mem_of_find?_eq_some hf
      have h2 := List.find?_some hf
      obtain ⟨e1, e2⟩ := (same_iff _ _ _).1 h
      obtain ⟨e3, e4⟩ := (same_iff _ _ _).1 h2
      rcases up_tri hu hx hy with e | e | e
      · rw [e]; rfl
      · exact absurd ⟨e1.trans e3.symm, e2.trans e4.symm⟩ (ltS_ne e)
      · exact absurd ⟨e3.trans e1.symm, e4.trans e2.symm⟩ (ltS_ne e)
def hitF (age now : Int) (v : Int) (m : ByteArray) (x : E4) : Bool := sameE x v m && timeB now && decide (now < x.2.2.2 + age)
/-- Up to k none is found. -/
def NoF (R : List E4) (f : E4 → Bool) (k : Nat) : Prop := ∀ (j : Nat) (x : E4), j < k → R[j]? = some x → f x = false
theorem NoF.zero (R : List E4) (f : E4 → Bool) : NoF R f 0 := fun j x h => by omega
theorem NoF.succ {R : List E4} {f : E4 → Bool} {k : Nat} {x : E4} (h : NoF R f k) (hx : R[k]? = some x) (hne : f x = false) : NoF R f (k + 1) := by
  intro j y hj hy
  by_cases e : j = k
  · subst e
    rw [hx] at hy
    cases hy
    exact hne
  · exact h j y (by omega) hy
theorem NoF.all {R : List E4} {f : E4 → Bool} (h : NoF R f R.length) : ∀ x ∈ R, f x = false := by
  intro x hx
  obtain ⟨j, hj, e⟩ := List.getElem_of_mem hx
  exact h j x hj (by rw [List.getElem?_eq_getElem hj, e])
theorem look_hit {R : List E4} (hu : UpF R) {x : E4} (hx : x ∈ R) {age now v : Int} {m : ByteArray} (h : hitF age now v m x = true) : lookF R age v m now = (x.2.2.1, true) := by
  unfold hitF at h
  simp only [Bool.and_eq_true, decide_eq_true_eq] at h
  obtain ⟨⟨h1, h2⟩, h3⟩ := h
  obtain ⟨e1, e2⟩ := at_mem hu hx h1
  unfold lookF oldB
  rw [e1, e2, h2, decide_eq_false (by omega)]
  rfl
theorem look_none {R : List E4} {age now v : Int} {m : ByteArray} (h : ∀ x ∈ R, hitF age now v m x = false) : lookF R age v m now = (0, false) := by
  unfold lookF
  split
  · next hc =>
    simp only [Bool.and_eq_true, Bool.not_eq_true'] at hc
    obtain ⟨⟨h1, h2⟩, h3⟩ := hc
    obtain ⟨x, hx, h4⟩ := List.any_eq_true.1 h2
    unfold atF at h3
    cases hf : R.find? (fun e => sameE e v m) with
    | none => exact absurd h4 (by have := List.find?_eq_none.1 hf x hx; simpa using this)
    | some y =>
      have hy := List.mem_of_find?_eq_some hf
      have h5 := List.find?_some hf
      rw [hf] at h3
      unfold oldB at h3
      have h6 := h y hy
      unfold hitF at h6
      simp only [Option.map_some, Option.getD_some, decide_eq_false_iff_not] at h3
      rw [h5, h1, decide_eq_true (by omega)] at h6
      cases h6
  · rfl

set_option maxHeartbeats 8000000 in
set_option maxRecDepth 100000 in
theorem rlook_c (h : HasR w B q room age R lv) (hg : GoodF R) (hl : R.length < 1000000000) (ha1 : 0 ≤ age) (ha2 : age ≤ 1000000) (v : Int) (m : ByteArray) (now : Int) :
    Calls Try.prog 18 #[.pointer (some ⟨q, 0, none⟩), .int .i64 v, .string m, .int .i64 now] w fun e w' => e = .returned (.tuple #[.int .i64 (lookF R age v m now).1, .bool (lookF R age v m now).2]) ∧ ∃ n, w' = w.drewN n := by
  obtain ⟨p, off, cap, rfl, hc⟩ := h.rows
  have HC := Lib.hid hc
  have HG := Lib.hid hg
  have c2 := h.c2
  have c1 := h.c1
  have HT := Lib.hid fun U => rtime_c now U
  clear hc h hg
  go_enter Try.func18, Try.ntmps18
  go_wp2
  go_loopw [10] (fun s wr => ∃ (k n : Nat), k ≤ R.length ∧ s = .int .i64 k ∧ Hid (NoF R (hitF age now v m) k) ∧ wr = w.drewN n) (fun s _ => R.length - (intOf s).toNat)
  case atStart => exact ⟨0, 0, Nat.zero_le _, rfl, Lib.hid (NoF.zero _ _), rfl⟩
  case round =>
    obtain ⟨k, n, hk, rfl, hb, rfl⟩ := hrel
    by_cases hlt : k < R.length
    · obtain ⟨x, hx⟩ := some_at hlt
      obtain ⟨g, rfl, x0, x1, x2, x3⟩ := HC.out k x hx
      have hok := HG.out.ok x (List.mem_of_getElem? hx)
      have hlt' : (k : Int) < (R.length : Int) := by omega
      simp only [Option.map_some] at c2 ⊢
      have w1 : wrap64 (x.2.2.2 + age) = x.2.2.2 + age := by have := hok.2.2.2.2.2; unfold wrap64; omega
      have w2 : IntKind.i64.wrap (x.2.2.2 + age) = x.2.2.2 + age := IntWalk.i64_in _ (by have := hok.2.2.2.2.2; omega)
      have HX := Lib.hid hx
      clear hx hok
      cases hh : hitF age now v m x with
      | true =>
        have Y := Lib.hid (look_hit HG.out.up (List.mem_of_getElem? HX.out) hh)
        unfold hitF at hh
        simp only [Bool.and_eq_true, same_iff, decide_eq_true_eq] at hh
        obtain ⟨⟨⟨e1, e2⟩, e3⟩, e4⟩ := hh
        have g1 := fun t => seql_of (x := x.2.1) (y := m) (r := true) (decide_eq_true e2) t
        have g2 : decide (x.1 = v) = true := decide_eq_true e1
        have g3 : decide (now < x.2.2.2 + age) = true := decide_eq_true e4
        rw [e3] at HT
        clear HC HX hb e2 e3
        go_wp2
        go_quiet ((go_at_call 33; refine (HT.out _).mono ?_; rintro e w'' ⟨rfl, rfl⟩; exact ⟨rfl, _, rfl⟩))
        go_wp2
        go_ret2
        exact ⟨by rw [Y.out]; rfl, _, rfl⟩
      | false =>
        have N := Lib.hid (hb.out.succ HX.out hh)
        clear HX hb
        by_cases e1 : x.1 = v
        · have g2 : decide (x.1 = v) = true := decide_eq_true e1
          by_cases e2 : x.2.1 = m
          · have g1 := fun t => seql_of (x := x.2.1) (y := m) (r := true) (decide_eq_true e2) t
            have e5 : (timeB now && decide (now < x.2.2.2 + age)) = false := by
              unfold hitF at hh
              rw [(same_iff _ _ _).2 ⟨e1, e2⟩, Bool.true_and] at hh
              exact hh
            clear hh e2 HC
            cases e3 : timeB now with
            | true =>
              rw [e3, Bool.true_and] at e5
              rw [e3] at HT
              clear e3
              go_wp2
              go_quiet ((go_at_call 33; refine (HT.out _).mono ?_; rintro e w'' ⟨rfl, rfl⟩; exact ⟨rfl, _, rfl⟩))
              go_wp2
              go_roundw
              case rel => exact ⟨k + 1, _, by omega, by go_num, N, rfl⟩
              case measure => simp [intOf]; omega
            | false =>
              rw [e3] at HT
              clear e3 e5
              go_wp2
              go_quiet ((go_at_call 33; refine (HT.out _).mono ?_; rintro e w'' ⟨rfl, rfl⟩; exact ⟨rfl, _, rfl⟩))
              go_wp2
              go_roundw
              case rel => exact ⟨k + 1, _, by omega, by go_num, N, rfl⟩
              case measure => simp [intOf]; omega
          · have g1 := fun t => seql_of (x := x.2.1) (y := m) (r := false) (decide_eq_false e2) t
            clear hh e2 HC
            go_wp2
            go_quiet (fail)
            go_wp2
            go_roundw
            case rel => exact ⟨k + 1, _, by omega, by go_num, N, rfl⟩
            case measure => simp [intOf]; omega
        · have g2 : decide (x.1 = v) = false := decide_eq_false e1
          have g3 : (x.1 == v) = false := by simpa using e1
          clear hh HC
          go_wp2
          go_quiet (fail)
          go_wp2
          go_roundw
          case rel => exact ⟨k + 1, _, by omega, by go_num, N, rfl⟩
          case measure => simp [intOf]; omega
    · obtain rfl : k = R.length := by omega
      have Y := Lib.hid (look_none hb.out.all)
      have hlt' : decide ((R.length : Int) < (R.length : Int)) = false := by simp
      go_wp2
      go_ret2
      exact ⟨by rw [Y.out]; rfl, n, rfl⟩

end Go.Proofs.Ytodddahjibccoaa
