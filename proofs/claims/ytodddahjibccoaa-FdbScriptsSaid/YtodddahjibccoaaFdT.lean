/-
  The document's table: Expire, Flush. Contracts over the translated program.
-/
import Derived.Test.YtodddahjibccoaaFdO
import Derived.Test.YtodddahjibccoaaFdR
namespace Go.Proofs.Ytodddahjibccoaa
open Go Go.Maps Go.WideMaps
open Go.RowKit
set_option linter.unusedVariables false
set_option linter.unusedSimpArgs false

/-- The first k are as they were; of the others those are gone for which f. -/
def keepF (R : List E4) (f : E4 → Bool) (k : Nat) : List E4 := R.take k ++ (R.drop k).filter (fun e => !f e)
theorem keep_all (R : List E4) (f : E4 → Bool) : keepF R f R.length = R := by unfold keepF; simp
theorem keep_zero (R : List E4) (f : E4 → Bool) : keepF R f 0 = R.filter (fun e => !f e) := by unfold keepF; simp
theorem keep_len (R : List E4) (f : E4 → Bool) (k : Nat) : (keepF R f k).length ≤ R.length := by
  unfold keepF
  rw [List.length_append]
  have h1 := List.length_filter_le (fun e => !f e) (R.drop k)
  have h2 := congrArg List.length (List.take_append_drop k R)
  rw [List.length_append] at h2
  omega
theorem keep_lt (R : List E4) (f : E4 → Bool) {k : Nat} (hk : k < R.length) : k < (keepF R f (k + 1)).length := by
  unfold keepF
  rw [List.length_append, List.length_take]
  omega
theorem keep_get {R : List E4} {f : E4 → Bool} {k : Nat} {x : E4} (hx : R[k]? = some x) : (keepF R f (k + 1))[k]? = some x := by
  have hk := (List.getElem?_eq_some_iff.1 hx).1
  unfold keepF
  rw [List.getElem?_append_left (by rw [List.length_take]; omega), List.getElem?_take_of_lt (by omega)]
  exact hx
theorem drop_at {R : List E4} {k : Nat} {x : E4} (hx : R[k]? = some x) : R.drop k = x :: R.drop (k + 1) := by
  obtain ⟨hk, rfl⟩ := List.getElem?_eq_some_iff.1 hx
  exact (List.getElem_cons_drop (h := hk)).symm
theorem take_at {R : List E4} {k : Nat} {x : E4} (hx : R[k]? = some x) : R.take (k + 1) = R.take k ++ [x] := by
  rw [List.take_add_one, hx]
  rfl
theorem keep_stay {R : List E4} {f : E4 → Bool} {k : Nat} {x : E4} (hx : R[k]? = some x) (h : f x = false) : keepF R f (k + 1) = keepF R f k := by
  unfold keepF
  rw [drop_at hx, take_at hx, List.filter_cons, if_pos (by rw [h]; rfl), List.append_assoc]
  rfl
theorem keep_go {R : List E4} {f : E4 → Bool} {k : Nat} {x : E4} (hx : R[k]? = some x) (h : f x = true) : (keepF R f (k + 1)).eraseIdx k = keepF R f k := by
  have hk := (List.getElem?_eq_some_iff.1 hx).1
  unfold keepF
  rw [drop_at hx, take_at hx, List.filter_cons, if_neg (by rw [h]; simp), List.append_assoc, List.eraseIdx_append_of_length_le (by rw [List.length_take]; omega), List.length_take, Nat.min_eq_left (by omega), Nat.sub_self]
  rfl
theorem exp_keep (R : List E4) (age now : Int) : expF R age now = R.filter (fun e => !(timeB now && oldB age now e.2.2)) := by
  unfold expF
  cases timeB now with
  | true => rfl
  | false => exact (List.filter_eq_self.2 (fun _ _ => rfl)).symm
variable {w : World} {B q : Nat} {room age : Int} {R : List E4} {lv : Value}

set_option maxHeartbeats 8000000 in
set_option maxRecDepth 100000 in
theorem rflush_c (h : HasR w B q room age R lv) (hg : GoodF R) (hl : R.length < 1000000000) (port : Int) :
    Calls Try.prog 20 #[.pointer (some ⟨q, 0, none⟩), .int .i64 port] w fun e w' => e = .returned (.int .i64 ((R.length - (fluF R port).length : Nat))) ∧ ∃ lv', HasR w' B q room age (fluF R port) lv' ∧ Tq w w' B q := by
  unfold fluF
  have HG := Lib.hid hg
  clear hg
  obtain ⟨p0, off0, cap0, e0, -⟩ := h.rows
  have H0 := Lib.hid h
  have c2 := h.c2
  rw [e0] at c2
  have wl : wrap64 ((R.length : Int) - 1) = (R.length : Int) - 1 := by unfold wrap64; omega
  have wl2 : IntKind.i64.wrap ((R.length : Int) - 1) = (R.length : Int) - 1 := IntWalk.i64_in _ (by omega)
  clear h e0
  go_enter Try.func20, Try.ntmps20
  go_wp2
  have KA := keep_all R (fun e : E4 => decide (e.2.2.1 = port))
  go_loopw [5, 6] (fun s5 s6 wr => ∃ (k c : Nat) (lv' : Value), k ≤ R.length ∧ c + (keepF R (fun e : E4 => decide (e.2.2.1 = port)) k).length = R.length ∧ s6 = .int .i64 ((k : Int) - 1) ∧ s5 = .int .i64 (c : Nat) ∧ Hid (HasR wr B q room age (keepF R (fun e : E4 => decide (e.2.2.1 = port)) k) lv') ∧ Hid (Tq w wr B q)) (fun _ s6 _ => (intOf s6 + 1).toNat)
  case atStart => exact ⟨R.length, 0, lv, by omega, by rw [KA]; omega, by simp, by simp, by rw [KA]; exact H0, Lib.hid (Tq.refl _ _ _)⟩
  case round =>
    obtain ⟨k, c, lv', hk, hcl, rfl, rfl, h3, t3⟩ := hrel
    cases k with
    | succ k =>
      have hkR : k < R.length := by omega
      have hki : (((k + 1 : Nat) : Int) - 1) = k := by omega
      rw [hki]
      obtain ⟨x, hx⟩ := some_at hkR
      obtain ⟨g, cap, e1, -, -, -, hc⟩ := h3.out.some (keep_get (f := (fun e : E4 => decide (e.2.2.1 = port))) hx)
      obtain ⟨-, -, x2, x3⟩ := hc k x (keep_get hx)
      have c2 := h3.out.c2
      have c1 := h3.out.c1
      rw [e1] at c2
      have hkl := keep_lt R (fun e : E4 => decide (e.2.2.1 = port)) hkR
      have hkl' : (k : Int) < ((keepF R (fun e : E4 => decide (e.2.2.1 = port)) (k + 1)).length : Int) := by omega
      have k0 : decide (0 ≤ (k : Int)) = true := decide_eq_true (by omega)
      have HX := Lib.hid hx
      have hok := HG.out.ok x (List.mem_of_getElem? hx)
      clear hc hx e1 hki
      cases hh : (fun e : E4 => decide (e.2.2.1 = port)) x with
      | true =>
          have e3 : x.2.2.1 = port := by simpa using hh
          have g2 : decide (x.2.2.1 = port) = true := decide_eq_true e3
          have g3 : (x.2.2.1 == port) = true := by simpa using e3
          have hW := h3
          have hT := t3
          clear h3 t3 hok x3
          have W1 := Lib.hid (without_c hW.out (by have := keep_len R (fun e : E4 => decide (e.2.2.1 = port)) (k + 1); omega) (keep_lt R (fun e : E4 => decide (e.2.2.1 = port)) hkR))
          rw [keep_go HX.out hh] at W1
          have hc1 := keep_len R (fun e : E4 => decide (e.2.2.1 = port)) k
          have hc2 : (keepF R (fun e : E4 => decide (e.2.2.1 = port)) k).length + 1 = (keepF R (fun e : E4 => decide (e.2.2.1 = port)) (k + 1)).length := by rw [← keep_go HX.out hh, List.length_eraseIdx, if_pos (keep_lt R (fun e : E4 => decide (e.2.2.1 = port)) hkR)]; have := keep_lt R (fun e : E4 => decide (e.2.2.1 = port)) hkR; omega
          clear hh
          go_wp2_with fail
          ((with_reducible refine W1.out.mono ?_); rintro e w3 ⟨rfl, lv3, h3, t3⟩)
          have H3 := Lib.hid h3
          have T3' := Lib.hid (hT.out.trans t3)
          clear h3 t3 W1 hW hT
          have wc : wrap64 ((c : Int) + 1) = (c + 1 : Nat) := by unfold wrap64; omega
          have wc2 : IntKind.i64.wrap ((c : Int) + 1) = (c + 1 : Nat) := by rw [IntWalk.i64_in _ (by omega)]; omega
          have wk : wrap64 ((k : Int) - 1) = (k : Int) - 1 := by unfold wrap64; omega
          have wk2 : IntKind.i64.wrap ((k : Int) - 1) = (k : Int) - 1 := IntWalk.i64_in _ (by omega)
          go_wp2_with fail
          go_roundw
          case rel => exact ⟨k, c + 1, lv3, by omega, by omega, rfl, by go_num, H3, T3'⟩
          case measure => simp [intOf] <;> omega
      | false =>
          have e3 : ¬ x.2.2.1 = port := by simpa using hh
          have g2 : decide (x.2.2.1 = port) = false := decide_eq_false e3
          have g3 : (x.2.2.1 == port) = false := by simpa using e3
          have hW := h3
          have hT := t3
          clear h3 t3 hok x3 e3
          rw [keep_stay HX.out hh] at hW hcl
          have wk : wrap64 ((k : Int) - 1) = (k : Int) - 1 := by unfold wrap64; omega
          have wk2 : IntKind.i64.wrap ((k : Int) - 1) = (k : Int) - 1 := IntWalk.i64_in _ (by omega)
          go_wp2_with fail
          go_roundw
          case rel => exact ⟨k, c, lv', by omega, by omega, rfl, rfl, hW, hT⟩
          case measure => simp [intOf] <;> omega
    | zero =>
      have k0 : decide (0 ≤ ((0 : Nat) : Int) - 1) = false := by simp
      have hz : keepF R (fun e : E4 => decide (e.2.2.1 = port)) 0 = R.filter (fun e => !decide (e.2.2.1 = port)) := keep_zero R (fun e : E4 => decide (e.2.2.1 = port))
      rw [hz] at h3 hcl
      have hc3 : c = R.length - (R.filter (fun e => !decide (e.2.2.1 = port))).length := by omega
      rw [show ((0 : Nat) : Int) - 1 = -1 from rfl]
      go_wp2_with fail
      go_ret
      exact ⟨by first | rfl | (rw [hc3]; rfl), lv', h3.out, t3.out⟩

set_option maxHeartbeats 8000000 in
set_option maxRecDepth 100000 in
theorem rexpire_c (h : HasR w B q room age R lv) (hg : GoodF R) (hl : R.length < 1000000000) (ha1 : 0 ≤ age) (ha2 : age ≤ 1000000) (now : Int) :
    Calls Try.prog 19 #[.pointer (some ⟨q, 0, none⟩), .int .i64 now] w fun e w' => e = .returned (.int .i64 ((R.length - (expF R age now).length : Nat))) ∧ ∃ lv', HasR w' B q room age (expF R age now) lv' ∧ Tq w w' B q := by
  rw [exp_keep]
  have HG := Lib.hid hg
  have HT := Lib.hid fun U => rtime_c now U
  clear hg
  obtain ⟨p0, off0, cap0, e0, -⟩ := h.rows
  have H0 := Lib.hid h
  have c2 := h.c2
  rw [e0] at c2
  have wl : wrap64 ((R.length : Int) - 1) = (R.length : Int) - 1 := by unfold wrap64; omega
  have wl2 : IntKind.i64.wrap ((R.length : Int) - 1) = (R.length : Int) - 1 := IntWalk.i64_in _ (by omega)
  clear h e0
  go_enter Try.func19, Try.ntmps19
  go_wp2
  have KA := keep_all R (fun e : E4 => timeB now && oldB age now e.2.2)
  go_loopw [5, 6] (fun s5 s6 wr => ∃ (k c : Nat) (lv' : Value), k ≤ R.length ∧ c + (keepF R (fun e : E4 => timeB now && oldB age now e.2.2) k).length = R.length ∧ s6 = .int .i64 ((k : Int) - 1) ∧ s5 = .int .i64 (c : Nat) ∧ Hid (HasR wr B q room age (keepF R (fun e : E4 => timeB now && oldB age now e.2.2) k) lv') ∧ Hid (Tq w wr B q)) (fun _ s6 _ => (intOf s6 + 1).toNat)
  case atStart => exact ⟨R.length, 0, lv, by omega, by rw [KA]; omega, by simp, by simp, by rw [KA]; exact H0, Lib.hid (Tq.refl _ _ _)⟩
  case round =>
    obtain ⟨k, c, lv', hk, hcl, rfl, rfl, h3, t3⟩ := hrel
    cases k with
    | succ k =>
      have hkR : k < R.length := by omega
      have hki : (((k + 1 : Nat) : Int) - 1) = k := by omega
      rw [hki]
      obtain ⟨x, hx⟩ := some_at hkR
      obtain ⟨g, cap, e1, -, -, -, hc⟩ := h3.out.some (keep_get (f := (fun e : E4 => timeB now && oldB age now e.2.2)) hx)
      obtain ⟨-, -, x2, x3⟩ := hc k x (keep_get hx)
      have c2 := h3.out.c2
      have c1 := h3.out.c1
      rw [e1] at c2
      have hkl := keep_lt R (fun e : E4 => timeB now && oldB age now e.2.2) hkR
      have hkl' : (k : Int) < ((keepF R (fun e : E4 => timeB now && oldB age now e.2.2) (k + 1)).length : Int) := by omega
      have k0 : decide (0 ≤ (k : Int)) = true := decide_eq_true (by omega)
      have HX := Lib.hid hx
      have hok := HG.out.ok x (List.mem_of_getElem? hx)
      clear hc hx e1 hki
      cases hh : (fun e : E4 => timeB now && oldB age now e.2.2) x with
      | true =>
          have w1 : wrap64 (x.2.2.2 + age) = x.2.2.2 + age := by have := hok.2.2.2.2.2; unfold wrap64; omega
          have w2 : IntKind.i64.wrap (x.2.2.2 + age) = x.2.2.2 + age := IntWalk.i64_in _ (by have := hok.2.2.2.2.2; omega)
          have hh' := hh
          simp only [Bool.and_eq_true, oldB, decide_eq_true_eq] at hh'
          obtain ⟨e3, e4⟩ := hh'
          have g3 : decide (x.2.2.2 + age ≤ now) = true := decide_eq_true e4
          rw [e3] at HT
          have HH := Lib.hid hh
          clear e3 hh hok x2
          go_wp2
          go_quiet ((go_at_call 33; refine (HT.out _).mono ?_; rintro e w'' ⟨rfl, rfl⟩; exact ⟨rfl, _, rfl⟩))
          clear w1 w2 g3 e4
          have hW := Lib.hid (h3.out.drewN nq)
          have hT := Lib.hid (t3.out.drewN nq)
          clear h3 t3 c1 c2 x3
          have hh := HH.out
          have W1 := Lib.hid (without_c hW.out (by have := keep_len R (fun e : E4 => timeB now && oldB age now e.2.2) (k + 1); omega) (keep_lt R (fun e : E4 => timeB now && oldB age now e.2.2) hkR))
          rw [keep_go HX.out hh] at W1
          have hc1 := keep_len R (fun e : E4 => timeB now && oldB age now e.2.2) k
          have hc2 : (keepF R (fun e : E4 => timeB now && oldB age now e.2.2) k).length + 1 = (keepF R (fun e : E4 => timeB now && oldB age now e.2.2) (k + 1)).length := by rw [← keep_go HX.out hh, List.length_eraseIdx, if_pos (keep_lt R (fun e : E4 => timeB now && oldB age now e.2.2) hkR)]; have := keep_lt R (fun e : E4 => timeB now && oldB age now e.2.2) hkR; omega
          clear hh
          go_wp2_with fail
          ((with_reducible refine W1.out.mono ?_); rintro e w3 ⟨rfl, lv3, h3, t3⟩)
          have H3 := Lib.hid h3
          have T3' := Lib.hid (hT.out.trans t3)
          clear h3 t3 W1 hW hT
          have wc : wrap64 ((c : Int) + 1) = (c + 1 : Nat) := by unfold wrap64; omega
          have wc2 : IntKind.i64.wrap ((c : Int) + 1) = (c + 1 : Nat) := by rw [IntWalk.i64_in _ (by omega)]; omega
          have wk : wrap64 ((k : Int) - 1) = (k : Int) - 1 := by unfold wrap64; omega
          have wk2 : IntKind.i64.wrap ((k : Int) - 1) = (k : Int) - 1 := IntWalk.i64_in _ (by omega)
          go_wp2_with fail
          go_roundw
          case rel => exact ⟨k, c + 1, lv3, by omega, by omega, rfl, by go_num, H3, T3'⟩
          case measure => simp [intOf] <;> omega
      | false =>
        have w1 : wrap64 (x.2.2.2 + age) = x.2.2.2 + age := by have := hok.2.2.2.2.2; unfold wrap64; omega
        have w2 : IntKind.i64.wrap (x.2.2.2 + age) = x.2.2.2 + age := IntWalk.i64_in _ (by have := hok.2.2.2.2.2; omega)
        have N0 := Lib.hid (keep_stay (f := (fun e : E4 => timeB now && oldB age now e.2.2)) HX.out hh)
        have w5 : wrap64 ((k : Int) - 1) = (k : Int) - 1 := by unfold wrap64; omega
        have w6 : IntKind.i64.wrap ((k : Int) - 1) = (k : Int) - 1 := IntWalk.i64_in _ (by omega)
        rcases Bool.eq_false_or_eq_true (timeB now) with e3 | e3
        · skip
          have hh' := hh
          simp only [e3, Bool.true_and, oldB, decide_eq_false_iff_not] at hh'
          have g3 : decide (x.2.2.2 + age ≤ now) = false := decide_eq_false hh'
          rw [e3] at HT
          clear hh hok x2 hkl hh' e3
          go_wp2
          go_quiet ((go_at_call 33; refine (HT.out _).mono ?_; rintro e w'' ⟨rfl, rfl⟩; exact ⟨rfl, _, rfl⟩))
          have hW := Lib.hid (h3.out.drewN nq)
          have hT := Lib.hid (t3.out.drewN nq)
          clear h3 t3 c1 c2 x3
          rw [N0.out] at hW hcl
          go_wp2_with fail
          go_roundw
          case rel => exact ⟨k, c, lv', by omega, by omega, rfl, rfl, hW, hT⟩
          case measure => simp [intOf] <;> omega
        · skip
          rw [e3] at HT
          clear hh hok x2 hkl e3
          go_wp2
          go_quiet ((go_at_call 33; refine (HT.out _).mono ?_; rintro e w'' ⟨rfl, rfl⟩; exact ⟨rfl, _, rfl⟩))
          have hW := Lib.hid (h3.out.drewN nq)
          have hT := Lib.hid (t3.out.drewN nq)
          clear h3 t3 c1 c2 x3
          rw [N0.out] at hW hcl
          go_wp2_with fail
          go_roundw
          case rel => exact ⟨k, c, lv', by omega, by omega, rfl, rfl, hW, hT⟩
          case measure => simp [intOf] <;> omega
    | zero =>
      have k0 : decide (0 ≤ ((0 : Nat) : Int) - 1) = false := by simp
      have hz : keepF R (fun e : E4 => timeB now && oldB age now e.2.2) 0 = R.filter (fun e => !(timeB now && oldB age now e.2.2)) := keep_zero R (fun e : E4 => timeB now && oldB age now e.2.2)
      rw [hz] at h3 hcl
      have hc3 : c = R.length - (R.filter (fun e => !(timeB now && oldB age now e.2.2))).length := by omega
      rw [show ((0 : Nat) : Int) - 1 = -1 from rfl]
      go_wp2_with fail
      go_ret
      exact ⟨by first | rfl | (rw [hc3]; rfl), lv', h3.out, t3.out⟩

end Go.Proofs.Ytodddahjibccoaa
