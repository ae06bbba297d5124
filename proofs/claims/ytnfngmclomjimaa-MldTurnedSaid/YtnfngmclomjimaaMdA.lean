/-
  Writing group messages of IPv6: the writer's error (keep, need, may), text, number, first, addrs. Contracts over the translated program.
  Writing group messages of IPv6: the writer's code; which groups may be (isGroup, groupMayBe), isDetailed. Contracts over the translated program.
-/
import Derived.Test.YtnfngmclomjimaaBldM
import Derived.Test.YtnfngmclomjimaaMemL
import Derived.Test.YtnfngmclomjimaaTxt
import Derived.Test.YtnfngmclomjimaaIgW
import Derived.Test.YtnfngmclomjimaaIgE
import Derived.Test.YtnfngmclomjimaaCodeM
import Derived.OpenShut
namespace Go.Proofs.Ytnfngmclomjimaa
open Go.RowKit
set_option linter.unusedVariables false

def okI (ok : Bool) : Int := if ok then 0 else 1
/-- A writer that has gathered l, or has met an error. -/
def MQ (b : Nat) (ok : Bool) (l : List UInt8) (w : World) : Prop := ∃ l', Wm.Bld b (okI ok) l' w ∧ (ok = true → l' = l)
theorem MQ.lt {b : Nat} {ok : Bool} {l : List UInt8} {w : World} (h : MQ b ok l w) : b < w.heap.size := by obtain ⟨l', h, -⟩ := h; exact h.lt
theorem MQ.below {b : Nat} {ok : Bool} {l : List UInt8} {w w' : World} (h : MQ b ok l w) (k : Below w.heap.size w w') : MQ b ok l w' := by obtain ⟨l', h, e⟩ := h; exact ⟨l', h.below k, e⟩
/-- The same, and that nothing else of w0 has changed. -/
def MS (b : Nat) (w0 : World) (ok : Bool) (l : List UInt8) (w : World) : Prop := MQ b ok l w ∧ Below b w0 w ∧ Wm.KeptO b w0 w
theorem MS.start {b : Nat} {ok : Bool} {l : List UInt8} {w : World} (h : MQ b ok l w) : MS b w ok l w := ⟨h, Below.refl _ _, Wm.KeptO.refl _ _⟩
theorem MS.then {b : Nat} {ok ok' : Bool} {l l' : List UInt8} {w0 w w' : World} (h : MS b w0 ok l w) (k : MS b w ok' l' w') : MS b w0 ok' l' w' := ⟨k.1, h.2.1.trans k.2.1, h.2.2.trans k.2.2⟩
theorem MS.below {b : Nat} {ok : Bool} {l : List UInt8} {w0 w w' : World} (h : MS b w0 ok l w) (k : Below w.heap.size w w') : MS b w0 ok l w' :=
  ⟨h.1.below k, h.2.1.trans (k.mono (Nat.le_of_lt h.1.lt)), h.2.2.trans (Wm.KeptO.of_below k)⟩
def MPost (b : Nat) (ok : Bool) (l : List UInt8) (w : World) (e : Ending) (w' : World) : Prop := e = .returned (.tuple #[]) ∧ MS b w ok l w'

theorem MQ.cell {b : Nat} {ok : Bool} {l : List UInt8} {w : World} (h : MQ b ok l w) : w.cell? ⟨b, 0, none⟩ = some (.int .i64 (okI ok)) ∧ w.frozen? ⟨b, 0, none⟩ = false := by
  obtain ⟨l', h, -⟩ := h
  exact ⟨h.cell, h.free⟩

set_option maxHeartbeats 1000000 in
set_option maxRecDepth 100000 in
theorem keepw (b : Nat) (ok : Bool) (l : List UInt8) (e : Int) (w : World) (h : MQ b ok l w) (he : e = 0 ∨ e = 1) :
    Calls Try.prog 14 #[.pointer (some ⟨b, 0, none⟩), .int .i64 e] w (MPost b (ok && decide (e = 0)) l w) := by
  obtain ⟨c0, f0⟩ := h.cell
  have HQ := Lib.hid h
  clear h
  cases ok
  · rw [show okI false = 1 from rfl] at c0
    go_enter Try.func14, Try.ntmps14
    go_wp2_with fail
    go_end0
    exact ⟨rfl, MS.start HQ.out⟩
  · rw [show okI true = 0 from rfl] at c0
    obtain ⟨l', hb, hl⟩ := HQ.out
    have HB := Lib.hid hb
    have HL := Lib.hid (hl rfl)
    clear hb hl
    rcases he with rfl | rfl
    all_goals
      go_enter Try.func14, Try.ntmps14
      go_wp2_with fail
      go_end0
      refine ⟨rfl, ⟨l', HB.out.set _, ?_⟩, (Below.refl b w).setCell (p := ⟨b, 0, none⟩) (Nat.le_refl _) _, Wm.KeptO.setCell _ _ _⟩
      intro h
      first
        | exact HL.out
        | exact absurd h (by decide)

set_option maxHeartbeats 1000000 in
set_option maxRecDepth 100000 in
theorem needw (b : Nat) (ok : Bool) (l : List UInt8) (t : Bool) (w : World) (h : MQ b ok l w) :
    Calls Try.prog 33 #[.pointer (some ⟨b, 0, none⟩), .bool t, .int .i64 1] w (MPost b (ok && t) l w) := by
  have HK := Lib.hid fun U h => keepw b ok l 1 U h (.inr rfl)
  have HQ := Lib.hid h
  clear h
  cases t
  · rw [Bool.and_false]
    rw [show (ok && decide ((1 : Int) = 0)) = false by simp] at HK
    go_enter Try.func33, Try.ntmps33
    go_wp2_with fail
    refine (HK.out _ HQ.out).mono ?_
    rintro e w1 ⟨rfl, h1⟩
    go_wp2_with fail
    go_end0
    exact ⟨rfl, h1⟩
  · rw [Bool.and_true]
    go_enter Try.func33, Try.ntmps33
    go_wp2_with fail
    go_end0
    exact ⟨rfl, MS.start HQ.out⟩

set_option maxHeartbeats 1000000 in
set_option maxRecDepth 100000 in
theorem mayw (b : Nat) (ok : Bool) (l : List UInt8) (t : Bool) (w : World) (h : MQ b ok l w) :
    Calls Try.prog 20 #[.pointer (some ⟨b, 0, none⟩), .bool t] w (MPost b (ok && t) l w) := by
  have HK := Lib.hid fun U h => needw b ok l t U h
  have HQ := Lib.hid h
  clear h
  go_enter Try.func20, Try.ntmps20
  go_wp2_with fail
  refine (HK.out _ HQ.out).mono ?_
  rintro e w1 ⟨rfl, h1⟩
  go_wp2_with fail
  go_end0
  exact ⟨rfl, h1⟩

set_option maxHeartbeats 1000000 in
set_option maxRecDepth 100000 in
theorem textw (b : Nat) (ok : Bool) (l : List UInt8) (s : ByteArray) (e : Int) (w : World) (h : MQ b ok l w) (he : e = 0 ∨ e = 1) (hl : ok = true → e = 0 → l.length + s.size ≤ 140737488355328) :
    Calls Try.prog 59 #[.pointer (some ⟨b, 0, none⟩), .string s, .int .i64 e] w (MPost b (ok && decide (e = 0)) (l ++ s.data.toList) w) := by
  have HK := Lib.hid fun U h => keepw b ok l e U h he
  have HQ := Lib.hid h
  clear h
  obtain ⟨o2, ho⟩ : ∃ o2, o2 = (ok && decide (e = 0)) := ⟨_, rfl⟩
  have hl2 : o2 = true → l.length + s.size ≤ 140737488355328 := fun h => by
    rw [ho, Bool.and_eq_true, decide_eq_true_iff] at h
    exact hl h.1 h.2
  rw [← ho] at HK ⊢
  clear ho hl he
  go_enter Try.func59, Try.ntmps59
  go_wp2_with fail
  refine (HK.out _ HQ.out).mono ?_
  rintro e w1 ⟨rfl, h1⟩
  have H1 := Lib.hid h1
  have c0 := h1.1.cell.1
  clear h1
  cases o2
  · rw [show okI false = 1 from rfl] at c0
    go_wp2_with fail
    go_end0
    obtain ⟨⟨l', q1, q2⟩, q3, q4⟩ := H1.out
    exact ⟨rfl, ⟨l', q1, fun h => by cases h⟩, q3, q4⟩
  · rw [show okI true = 0 from rfl] at c0
    obtain ⟨⟨l', q1, q2⟩, q3, q4⟩ := H1.out
    obtain rfl := q2 rfl
    have HB := Lib.hid q1
    have HD := Lib.hid q3
    have HO := Lib.hid q4
    have hl3 := hl2 rfl
    clear q1 q2 q3 q4 hl2 H1
    go_wp2_with fail
    refine (Wm.wstr_k b _ l' s w1 HB.out hl3).mono ?_
    rintro e w2 ⟨rfl, b2, h2, o2⟩
    go_wp2_with fail
    go_end0
    exact ⟨rfl, ⟨_, b2, fun _ => rfl⟩, HD.out.trans h2, HO.out.trans o2⟩

theorem put_err (n k : Int) : (putSpec n k).2 = 0 ∨ (putSpec n k).2 = 1 := by
  unfold putSpec
  split
  · exact .inr rfl
  · exact .inl rfl
def putB (n k : Int) : Bool := decide ((putSpec n k).2 = 0)

set_option maxHeartbeats 1000000 in
set_option maxRecDepth 100000 in
theorem numberw (b : Nat) (ok : Bool) (l : List UInt8) (n k : Int) (w : World) (h : MQ b ok l w) (hl : ok = true → l.length + 4 ≤ 140737488355328) (n1 : -9223372036854775808 ≤ n) (n2 : n ≤ 9223372036854775807) :
    Calls Try.prog 36 #[.pointer (some ⟨b, 0, none⟩), .int .i64 n, .int .i64 k] w (MPost b (ok && putB n k) (l ++ (putSpec n k).1.data.toList) w) := by
  have H1 := Lib.hid fun U => put_c n k U n1 n2
  have hz := wput_len n k
  have hX := vlen (putSpec n k).1
  have HT := Lib.hid fun U h => textw b ok l (putSpec n k).1 (putSpec n k).2 U h (put_err n k) (fun h _ => by have := hl h; omega)
  have PB := Lib.hid (show putB n k = decide ((putSpec n k).2 = 0) from rfl)
  rw [← PB.out] at HT
  generalize (putSpec n k).1 = X at *
  generalize (putSpec n k).2 = E at *
  have HS := Lib.hid h
  clear h hz hX PB hl
  go_enter Try.func36, Try.ntmps36
  go_wp2_with fail
  ((with_reducible refine (H1.out _).mono ?_); rintro e w1 ⟨rfl, h1⟩)
  have S1 := Lib.hid ((MS.start HS.out).below h1)
  clear h1
  go_wp2_with fail
  refine (HT.out _ S1.out.1).mono ?_
  rintro e w2 ⟨rfl, h2⟩
  go_wp2_with fail
  go_end0
  exact ⟨rfl, S1.out.then h2⟩

/-- A number that is sure to stand in so many bytes. -/
theorem numberw_ok (b : Nat) (ok : Bool) (l : List UInt8) (n k : Nat) (w : World) (h : MQ b ok l w) (hl : ok = true → l.length + 4 ≤ 140737488355328) (k1 : 1 ≤ k) (k4 : k ≤ 4) (hn : n < 256 ^ k) (hn2 : n ≤ 9223372036854775807) :
    Calls Try.prog 36 #[.pointer (some ⟨b, 0, none⟩), .int .i64 (n : Int), .int .i64 (k : Int)] w (MPost b ok (l ++ bytesOf n k) w) := by
  have := numberw b ok l n k w h hl (by omega) (by omega)
  have e := put_ok n k k1 k4 hn
  unfold putB at this
  rw [e] at this
  simpa using this

set_option maxHeartbeats 1000000 in
set_option maxRecDepth 100000 in
theorem firstw (b : Nat) (ok : Bool) (l : List UInt8) (n : Nat) (w : World) (h : MQ b ok l w) (hl : ok = true → l.length + 10 ≤ 140737488355328) (hn : n < 256) :
    Calls Try.prog 34 #[.pointer (some ⟨b, 0, none⟩), .int .i64 (n : Int)] w (MPost b ok (l ++ bytesOf n 1 ++ bytesOf 0 3) w) := by
  have Z1 := bytesOf_length n 1
  have H1 := Lib.hid fun U h => numberw_ok b ok l n 1 U h (fun h => by have := hl h; omega) (by omega) (by omega) (by omega) (by omega)
  have H2 := Lib.hid fun U h => numberw_ok b ok (l ++ bytesOf n 1) 0 3 U h (fun h => by have := hl h; rw [List.length_append]; omega) (by omega) (by omega) (by omega) (by omega)
  have HS := Lib.hid (MS.start h)
  have hi : (n : Int) ≤ 255 := by omega
  clear h Z1 hl
  go_enter Try.func34, Try.ntmps34
  go_wp2_with fail
  refine (H1.out _ HS.out.1).mono ?_
  rintro e w1 ⟨rfl, h1⟩
  replace HS := Lib.hid (HS.out.then h1)
  clear h1
  go_wp2_with fail
  refine (H2.out _ HS.out.1).mono ?_
  rintro e w2 ⟨rfl, h2⟩
  replace HS := Lib.hid (HS.out.then h2)
  go_wp2_with fail
  go_end0
  exact ⟨rfl, HS.out⟩

/-- A list that stays while a writer writes. -/
theorem AddrsW.keepM {b : Nat} {w w' : World} {v : Value} {L : List ByteArray} (h : AddrsW b w v L) (k : Below b w w') (o : Wm.KeptO b w w') : AddrsW b w' v L := by
  obtain ⟨p, cap, blk, off, hv, hp, hc⟩ := h
  by_cases hL : L = []
  · subst hL
    exact ⟨p, cap, blk, off, hv, fun h => absurd rfl h, fun j s hj => by simp at hj⟩
  · obtain ⟨h1, h2⟩ := hp hL
    rcases h2 with h2 | ⟨h2, cs, f, h3⟩
    · exact ⟨p, cap, blk, off, hv, fun _ => ⟨h1, .inl h2⟩, fun j s hj => ((below_cells k).1 blk _ h2).trans (hc j s hj)⟩
    · have h4 := o blk cs _ f h2 (by decide) h3
      exact ⟨p, cap, blk, off, hv, fun _ => ⟨h1, .inr ⟨h2, cs, f, h4⟩⟩, fun j s hj => (World.cell?_of_block (w := w) (a := ⟨blk, off + j, none⟩) (h4.trans h3.symm)).trans (hc j s hj)⟩

def all16 (L : List ByteArray) : Bool := L.all fun a => decide ((a.size : Int) = 16)
theorem all16_len (L : List ByteArray) (h : all16 L = true) : (flatL L).length = 16 * L.length := by
  induction L with
  | nil => rfl
  | cons a L ih =>
    unfold all16 at h
    rw [List.all_cons, Bool.and_eq_true, decide_eq_true_iff] at h
    have h2 := ih h.2
    unfold flatL at h2 ⊢
    rw [List.flatMap_cons, List.length_append, List.length_cons, h2, vlen]
    omega
theorem all16_take (L : List ByteArray) (k : Nat) (h : k < L.length) : all16 (L.take (k + 1)) = (all16 (L.take k) && decide ((L[k].size : Int) = 16)) := by
  unfold all16
  rw [List.take_succ_eq_append_getElem h, List.all_append]
  simp

set_option maxHeartbeats 2000000 in
set_option maxRecDepth 100000 in
theorem addrsw (b : Nat) (ok : Bool) (l : List UInt8) (v : Value) (L : List ByteArray) (w : World) (h : MQ b ok l w) (ha : AddrsW b w v L) (hl : ok = true → l.length + 16 * L.length ≤ 140737488355000) (hL : L.length ≤ 140737488355328) :
    Calls Try.prog 38 #[.pointer (some ⟨b, 0, none⟩), v] w (MPost b (ok && all16 L) (l ++ flatL L) w) := by
  have HA := Lib.hid ha
  obtain ⟨p, cap, blk, off, rfl, -⟩ := ha
  have HS := Lib.hid (MS.start h)
  have hL' : (L.length : Int) ≤ 140737488355328 := by omega
  clear h
  go_enter Try.func38, Try.ntmps38
  go_wp2_with fail
  go_loopw [5, 8] (fun _ i wr => ∃ k : Nat, k ≤ L.length ∧ i = .int .i64 k ∧ Hid (MS b w (ok && all16 (L.take k)) (l ++ flatL (L.take k)) wr) ∧ Hid (AddrsW b wr (.slice p L.length cap) L)) (fun _ i _ => L.length - (intOf i).toNat)
  case atStart => exact ⟨0, Nat.zero_le _, rfl, Lib.hid (by rw [List.take_zero]; show MS b w (ok && true) (l ++ []) w; rw [List.append_nil, Bool.and_true]; exact HS.out), HA⟩
  case round =>
    obtain ⟨k, hk, rfl, hS, hA⟩ := hrel
    by_cases hlt : k < L.length
    · have hne : L ≠ [] := by rintro rfl; simp at hlt
      have hA0 := hA.out
      obtain ⟨p', cap', blk', off', hv, hp, hc⟩ := hA0
      obtain ⟨rfl, hcap⟩ : p = p' ∧ cap = cap' := by cases hv; exact ⟨rfl, rfl⟩
      obtain ⟨rfl, -⟩ := hp hne
      have x1 := hc k _ (List.getElem?_eq_getElem hlt)
      have hT := Lib.hid (flatL_take L k hlt)
      have hT2 := Lib.hid (all16_take L k hlt)
      have hU := Lib.hid fun h => all16_len (L.take k) h
      have hUk : (L.take k).length = k := by rw [List.length_take]; omega
      generalize L[k] = a at x1 hT hT2
      obtain ⟨t, ht⟩ : ∃ t, t = decide ((a.size : Int) = 16) := ⟨_, rfl⟩
      have hlt' : (k : Int) < (L.length : Int) := by omega
      have HM := Lib.hid fun U h => mayw b (ok && all16 (L.take k)) (l ++ flatL (L.take k)) t U h
      have HT := Lib.hid fun U h => textw b (ok && all16 (L.take k) && t) (l ++ flatL (L.take k)) a 0 U h (.inl rfl) (fun h _ => by
        rw [Bool.and_eq_true, Bool.and_eq_true, ht, decide_eq_true_iff] at h
        have := hl h.1.1
        rw [List.length_append, hU.out h.1.2, hUk]
        omega)
      have htt : ((a.size : Int) == 16) = t := by
        rw [ht]
        by_cases h : (a.size : Int) = 16
        · rw [decide_eq_true h]; simp [h]
        · rw [decide_eq_false h]; simp [h]
      have hR := Lib.hid (show (ok && all16 (L.take k) && t && decide ((0 : Int) = 0)) = (ok && all16 (L.take (k + 1))) by rw [hT2.out, ← ht]; simp [Bool.and_assoc])
      clear hc hp hv hne hcap HA HS ht hU hUk
      go_wp2_with fail
      refine (HM.out wr hS.out.1).mono ?_
      rintro e w1 ⟨rfl, h1⟩
      have hS1 := Lib.hid (hS.out.then h1)
      have hA1 := Lib.hid (hA.out.keepM h1.2.1 h1.2.2)
      clear h1 x1
      go_wp2_with fail
      refine (HT.out _ hS1.out.1).mono ?_
      rintro e w2 ⟨rfl, h2⟩
      have hS2 := Lib.hid (show MS b w (ok && all16 (L.take (k + 1))) (l ++ flatL (L.take (k + 1))) w2 by
        have := hS1.out.then h2
        rw [hR.out] at this
        rw [hT.out, ← List.append_assoc]
        exact this)
      have hA2 := Lib.hid (hA1.out.keepM h2.2.1 h2.2.2)
      clear h2
      go_wp2_with fail
      go_roundw
      case rel => exact ⟨k + 1, by omega, by go_num, hS2, hA2⟩
      case measure => simp [intOf]; omega
    · obtain rfl : k = L.length := by omega
      go_wp2_with fail
      go_end0
      rw [List.take_length] at hS
      exact ⟨rfl, hS.out⟩

theorem MS.cast {b : Nat} {w0 w : World} {ok ok' : Bool} {l l' : List UInt8} (h : MS b w0 ok l w) (e1 : ok = ok') (e2 : ok' = true → l = l') : MS b w0 ok' l' w := by
  subst e1
  obtain ⟨⟨l0, q1, q2⟩, q3⟩ := h
  exact ⟨⟨l0, q1, fun h => (q2 h).trans (e2 h)⟩, q3⟩

theorem enc_err (bt : Nat) (n : Int) : (encI bt n).2 = 0 ∨ (encI bt n).2 = 1 := by
  unfold encI
  split
  · exact .inr rfl
  · exact .inl rfl
theorem enc_nat (bt : Nat) (n : Int) : ∃ C : Nat, (encI bt n).1 = (C : Int) ∧ C < 16 * 2 ^ bt := by
  unfold encI
  split
  · exact ⟨0, rfl, by have := Nat.pow_pos (n := bt) (show 0 < 2 by omega); omega⟩
  · exact ⟨encN bt n.toNat, rfl, (enc_is bt n.toNat).1⟩
/-- Is a number just a code's? -/
def codedW (bt : Nat) (n : Int) : Bool := decide ((encI bt n).2 = 0) && decide ((decI bt (encI bt n).1).1 = n)
def codeL (bt k : Nat) (n : Int) : List UInt8 := bytesOf (encI bt n).1.toNat k

set_option maxHeartbeats 1000000 in
set_option maxRecDepth 100000 in
theorem codew1 (b : Nat) (ok : Bool) (l : List UInt8) (n : Int) (w : World) (h : MQ b ok l w) (hl : ok = true → l.length + 4 ≤ 140737488355328) (n2 : n ≤ 9223372036854775807) :
    Calls Try.prog 35 #[.pointer (some ⟨b, 0, none⟩), .int .i64 n, .int .i64 1] w (MPost b (ok && codedW 4 n) (l ++ codeL 4 1 n) w) := by
  have H1 := Lib.hid fun U => enc8_c n U n2
  have H2 := Lib.hid fun U => dec8_c (encI 4 n).1 U
  obtain ⟨C, hC, hC2⟩ := enc_nat 4 n
  have hE := enc_err 4 n
  have V := Lib.hid (show codedW 4 n = (decide ((encI 4 n).2 = 0) && decide ((decI 4 (encI 4 n).1).1 = n)) from rfl)
  have VL := Lib.hid (show codeL 4 1 n = bytesOf C 1 by unfold codeL; rw [hC, Int.toNat_natCast])
  rw [hC] at H1 H2 V
  generalize (decI 4 (C : Int)).1 = D at *
  generalize (decI 4 (C : Int)).2 = D2 at *
  generalize (encI 4 n).2 = E at *
  have HK := Lib.hid fun U h => keepw b ok l E U h hE
  have HM := Lib.hid fun t U h => mayw b (ok && decide (E = 0)) l t U h
  have HN := Lib.hid fun o U h => numberw_ok b (ok && decide (E = 0) && o) l C 1 U h (fun h => hl (by simp only [Bool.and_eq_true] at h; exact h.1.1)) (by omega) (by omega) (by omega) (by omega)
  have hd : (D == n) = decide (D = n) := by
    by_cases h : D = n
    · simp [h]
    · simp [h]
  have HS := Lib.hid (MS.start h)
  clear h hE hC hC2 hl
  go_enter Try.func35, Try.ntmps35
  go_wp2_with fail
  ((with_reducible refine (H1.out _).mono ?_); rintro e w1 ⟨rfl, m, rfl⟩)
  replace HS := Lib.hid (HS.out.below (below_drewN (Below.refl _ _) m))
  generalize w.drewN m = w1 at HS ⊢
  go_wp2_with fail
  refine (HK.out _ HS.out.1).mono ?_
  rintro e w2 ⟨rfl, h1⟩
  replace HS := Lib.hid (HS.out.then h1)
  clear h1
  go_wp2_with fail
  ((with_reducible refine (H2.out _).mono ?_); rintro e w3 ⟨rfl, m, rfl⟩)
  replace HS := Lib.hid (HS.out.below (below_drewN (Below.refl _ _) m))
  generalize w2.drewN m = w3 at HS ⊢
  go_wp2_with fail
  refine (HM.out _ _ HS.out.1).mono ?_
  rintro e w4 ⟨rfl, h1⟩
  replace HS := Lib.hid (HS.out.then h1)
  clear h1
  go_wp2_with fail
  refine (HN.out _ _ HS.out.1).mono ?_
  rintro e w5 ⟨rfl, h1⟩
  replace HS := Lib.hid (HS.out.then h1)
  clear h1
  go_wp2_with fail
  go_end0
  exact ⟨rfl, HS.out.cast (by rw [V.out, Bool.and_assoc]) (fun _ => by rw [VL.out])⟩

set_option maxHeartbeats 1000000 in
set_option maxRecDepth 100000 in
theorem codew2 (b : Nat) (ok : Bool) (l : List UInt8) (n : Int) (w : World) (h : MQ b ok l w) (hl : ok = true → l.length + 4 ≤ 140737488355328) (n2 : n ≤ 9223372036854775807) :
    Calls Try.prog 35 #[.pointer (some ⟨b, 0, none⟩), .int .i64 n, .int .i64 2] w (MPost b (ok && codedW 12 n) (l ++ codeL 12 2 n) w) := by
  have H1 := Lib.hid fun U => enc16_c n U n2
  have H2 := Lib.hid fun U => dec16_c (encI 12 n).1 U
  obtain ⟨C, hC, hC2⟩ := enc_nat 12 n
  have hE := enc_err 12 n
  have V := Lib.hid (show codedW 12 n = (decide ((encI 12 n).2 = 0) && decide ((decI 12 (encI 12 n).1).1 = n)) from rfl)
  have VL := Lib.hid (show codeL 12 2 n = bytesOf C 2 by unfold codeL; rw [hC, Int.toNat_natCast])
  rw [hC] at H1 H2 V
  generalize (decI 12 (C : Int)).1 = D at *
  generalize (decI 12 (C : Int)).2 = D2 at *
  generalize (encI 12 n).2 = E at *
  have HK := Lib.hid fun U h => keepw b ok l E U h hE
  have HM := Lib.hid fun t U h => mayw b (ok && decide (E = 0)) l t U h
  have HN := Lib.hid fun o U h => numberw_ok b (ok && decide (E = 0) && o) l C 2 U h (fun h => hl (by simp only [Bool.and_eq_true] at h; exact h.1.1)) (by omega) (by omega) (by omega) (by omega)
  have hd : (D == n) = decide (D = n) := by
    by_cases h : D = n
    · simp [h]
    · simp [h]
  have HS := Lib.hid (MS.start h)
  clear h hE hC hC2 hl
  go_enter Try.func35, Try.ntmps35
  go_wp2_with fail
  ((with_reducible refine (H1.out _).mono ?_); rintro e w1 ⟨rfl, m, rfl⟩)
  replace HS := Lib.hid (HS.out.below (below_drewN (Below.refl _ _) m))
  generalize w.drewN m = w1 at HS ⊢
  go_wp2_with fail
  refine (HK.out _ HS.out.1).mono ?_
  rintro e w2 ⟨rfl, h1⟩
  replace HS := Lib.hid (HS.out.then h1)
  clear h1
  go_wp2_with fail
  ((with_reducible refine (H2.out _).mono ?_); rintro e w3 ⟨rfl, m, rfl⟩)
  replace HS := Lib.hid (HS.out.below (below_drewN (Below.refl _ _) m))
  generalize w2.drewN m = w3 at HS ⊢
  go_wp2_with fail
  refine (HM.out _ _ HS.out.1).mono ?_
  rintro e w4 ⟨rfl, h1⟩
  replace HS := Lib.hid (HS.out.then h1)
  clear h1
  go_wp2_with fail
  refine (HN.out _ _ HS.out.1).mono ?_
  rintro e w5 ⟨rfl, h1⟩
  replace HS := Lib.hid (HS.out.then h1)
  clear h1
  go_wp2_with fail
  go_end0
  exact ⟨rfl, HS.out.cast (by rw [V.out, Bool.and_assoc]) (fun _ => by rw [VL.out])⟩

set_option maxHeartbeats 400000 in
theorem misgroup_c (a : ByteArray) (w : World) :
    Calls Try.prog 53 #[.string a] w fun e w' => e = .returned (.bool (grpB a 16)) ∧ Below w.heap.size w w' := by
  have H1 := Lib.hid fun U => grp_c a U
  have E := Lib.hid (grp_err a)
  by_cases h : (a.size : Int) = 16
  · obtain ⟨p1, p2⟩ := eq_t h
    have V := Lib.hid (show grpB a 16 = isGrp a by unfold grpB; rw [decide_eq_true h]; rfl)
    clear h
    go_enter Try.func53, Try.ntmps53
    go_wp2_with fail
    refine (H1.out _).mono ?_
    rintro e w1 ⟨rfl, h1⟩
    go_wp2_with fail
    all_goals
      go_ret
      exact ⟨by rw [V.out, ← E.out]; simp_all, h1⟩
  · obtain ⟨p1, p2⟩ := ne_t h
    have V := Lib.hid (show grpB a 16 = false by unfold grpB; rw [decide_eq_false h]; rfl)
    clear h
    go_enter Try.func53, Try.ntmps53
    go_wp2_with fail
    refine (H1.out _).mono ?_
    rintro e w1 ⟨rfl, h1⟩
    go_wp2_with fail
    go_ret
    exact ⟨by rw [V.out]; rfl, h1⟩

/-- Is the group of a query right beside so many sources? -/
def qGrp6 (g : ByteArray) (n : Nat) : Bool := if g.size = 0 then decide (n = 0) else grpB g 16

set_option maxHeartbeats 1000000 in
set_option maxRecDepth 100000 in
theorem mgmay_c (k ver : Int) (g : ByteArray) (mx : Int) (q : Bool) (rob ev : Int) (p : Option Addr) (n cap : Nat) (vr : Value) (w : World) :
    Calls Try.prog 37 #[.agg #[.int .i64 k, .int .i64 ver, .string g, .int .i64 mx, .bool q, .int .i64 rob, .int .i64 ev, .slice p n cap, vr]] w fun e w' => e = .returned (.bool (qGrp6 g n)) ∧ Below w.heap.size w w' := by
  by_cases h : g.size = 0
  · obtain rfl := bytes_empty h
    have V := Lib.hid (show qGrp6 ⟨#[]⟩ n = decide (n = 0) from rfl)
    clear h
    go_enter Try.func37, Try.ntmps37
    go_wp2_with fail
    go_ret
    refine ⟨?_, (Below.refl _ w).alloc (Nat.le_refl _) _⟩
    rw [V.out]
    by_cases hn : n = 0
    · subst hn; rfl
    · obtain ⟨a1, a2⟩ := ne_t (show (n : Int) ≠ 0 by omega)
      simp [hn]
  · have V := Lib.hid (show qGrp6 g n = grpB g 16 by unfold qGrp6; rw [if_neg h])
    have H1 := Lib.hid fun U => misgroup_c g U
    have e1 : g.toList.isEmpty = false := toList_ne g h
    clear h
    go_enter Try.func37, Try.ntmps37
    go_wp2_with fail
    refine (H1.out _).mono ?_
    rintro e w1 ⟨rfl, h1⟩
    go_wp2_with fail
    go_ret
    exact ⟨by rw [V.out]; rfl, vboxed h1⟩

def detB6 (q : Bool) (rob ev : Int) (ns : Nat) : Bool := q || decide (rob ≠ 0) || decide (ev ≠ 0) || decide (ns ≠ 0)

set_option maxHeartbeats 1000000 in
set_option maxRecDepth 100000 in
theorem misdet_c (k v : Int) (g : ByteArray) (mx : Int) (q : Bool) (rob ev : Int) (ps : Option Addr) (ns cs : Nat) (pr : Option Addr) (nr cr : Nat) (w : World) :
    Calls Try.prog 22 #[.agg #[.int .i64 k, .int .i64 v, .string g, .int .i64 mx, .bool q, .int .i64 rob, .int .i64 ev, .slice ps ns cs, .slice pr nr cr]] w fun e w' => e = .returned (.bool (detB6 q rob ev ns)) ∧ Below w.heap.size w w' := by
  have HB := Lib.hid fun o => (Below.refl w.heap.size w).alloc (Nat.le_refl _) o
  cases q
  · by_cases h1 : rob = 0
    · by_cases h2 : ev = 0
      · by_cases h3 : ns = 0
        · have V := Lib.hid (show detB6 false rob ev ns = false by simp [detB6, h1, h2, h3])
          obtain ⟨a1, a2⟩ := eq_t h1
          obtain ⟨b1, b2⟩ := eq_t h2
          obtain ⟨c1, c2⟩ := eq_t (show (ns : Int) = 0 by omega)
          clear h1 h2 h3
          go_enter Try.func22, Try.ntmps22
          go_wp2_with fail
          go_ret
          exact ⟨by rw [V.out]; rfl, HB.out _⟩
        · have V := Lib.hid (show detB6 false rob ev ns = true by simp [detB6, h1, h2, h3])
          obtain ⟨a1, a2⟩ := eq_t h1
          obtain ⟨b1, b2⟩ := eq_t h2
          obtain ⟨c1, c2⟩ := ne_t (show (ns : Int) ≠ 0 by omega)
          clear h1 h2 h3
          go_enter Try.func22, Try.ntmps22
          go_wp2_with fail
          go_ret
          exact ⟨by rw [V.out]; rfl, HB.out _⟩
      · have V := Lib.hid (show detB6 false rob ev ns = true by simp [detB6, h1, h2])
        obtain ⟨a1, a2⟩ := eq_t h1
        obtain ⟨b1, b2⟩ := ne_t h2
        clear h1 h2
        go_enter Try.func22, Try.ntmps22
        go_wp2_with fail
        go_ret
        exact ⟨by rw [V.out]; rfl, HB.out _⟩
    · have V := Lib.hid (show detB6 false rob ev ns = true by simp [detB6, h1])
      obtain ⟨a1, a2⟩ := ne_t h1
      clear h1
      go_enter Try.func22, Try.ntmps22
      go_wp2_with fail
      go_ret
      exact ⟨by rw [V.out]; rfl, HB.out _⟩
  · have V := Lib.hid (show detB6 true rob ev ns = true by simp [detB6])
    go_enter Try.func22, Try.ntmps22
    go_wp2_with fail
    go_ret
    exact ⟨by rw [V.out]; rfl, HB.out _⟩

end Go.Proofs.Ytnfngmclomjimaa
