/-
  Writing group messages of IPv6: the writer's error (keep, need, may), text, number, first, addrs. Contracts over the translated program.
  Writing group messages of IPv6: the writer's code; which groups may be (isGroup, groupMayBe), isDetailed. Contracts over the translated program.
  Writing group messages of IPv6: the writer's details, query, one, records, telling, message; ahead, Encode. Contracts over the translated program.
  Writing group messages of IPv6: the writer's query of version 1, one, records, telling, message; ahead, Encode. Contracts over the translated program.
  Writing group messages of IPv6: the writer's telling and message; ahead, Encode. Contracts over the translated program.
-/
import Derived.Test.YtniahpbjfpmmhaaGreatBldM
import Derived.Test.YtniahpbjfpmmhaaGreatMemL
import Derived.Test.YtniahpbjfpmmhaaGreatTxt
import Derived.Test.YtniahpbjfpmmhaaGreatIgW
import Derived.Test.YtniahpbjfpmmhaaGreatIgDE
import Derived.Test.YtniahpbjfpmmhaaGreatCodeM
import Derived.OpenShut
import Derived.Test.YtniahpbjfpmmhaaGreatIgBt
import Derived.Test.YtniahpbjfpmmhaaGreatPseudo
import Derived.Test.YtniahpbjfpmmhaaGreatFill
import Derived.DataShut
import Derived.Deep.Cut
namespace Go.Proofs.YtniahpbjfpmmhaaGreat
open Go.RowKit
set_option linter.unusedVariables false

def okI (ok : Bool) : Int := if ok then 0 else 1
/-- A writer that has gathered l, or has met an error. -/
def MQ (b : Nat) (ok : Bool) (l : List UInt8) (w : World) : Prop := ∃ l', Wm.Bld b (okI ok) l' w ∧ (ok = true → l' = l)
theorem MQ.lt {b : Nat} {ok : Bool} {l : List UInt8} {w : World} (h : MQ b ok l w) : b < w.heap.size := by obtain ⟨l', h, -⟩ := h; exact h.lt
theorem MQ.below {b : Nat} {ok : Bool} {l : List UInt8} {w w' : World} (h : MQ b ok l w) (k : Below w.heap.size w w') : MQ b ok l w' := by obtain ⟨l', h, e⟩ := h; exact ⟨l', h.below k, e⟩
/-- The same, and that nothing else of w0 has changed. -/
def MS (b : Nat) (w0 : World) (ok : Bool) (l : List UInt8) (w : World) : Prop := MQ b ok l w ∧ Below b w0 w ∧ Wm.KeptO b w0 w
theorem MS.start {b : Nat} {ok : Bool} {l : List UInt8} {w : World} (h : MQ b ok l w) : MS b w ok l w := ⟨h, Below.refl _ _, Wm.KeptO.refl _ _⟩
theorem MS.then {b : Nat} {ok ok' : Bool} {l l' : List UInt8} {w0 w w' : World} (h : MS b w0 ok l w) (k : MS b w ok' l' w') : MS b w0 ok' l' w' := ⟨k.1, h.2.1.trans k.2.1, h.2.2.trans k.2.2⟩
theorem MS.below {b : Nat} {ok : Bool} {l : List UInt8} {w0 w w' : World} (h : MS b w0 ok l w) (k : Below w.heap.size w w') : MS b w0 ok l w' :=
  ⟨h.1.below k, h.2.1.trans (k.mono (Nat.le_of_lt h.1.lt)), h.2.2.trans (Wm.KeptO.of_below k)⟩
def MPost (b : Nat) (ok : Bool) (l : List UInt8) (w : World) (e : Ending) (w' : World) : Prop := e = .returned (.tuple #[]) ∧ MS b w ok l w'

theorem MQ.cell {b : Nat} {ok : Bool} {l : List UInt8} {w : World} (h : MQ b ok l w) : w.cell? ⟨b, 0, none⟩ = some (.int .i64 (okI ok)) ∧ w.frozen? ⟨b, 0, none⟩ = false := by
  obtain ⟨l', h, -⟩ := h
  exact ⟨h.cell, h.free⟩

set_option maxHeartbeats 1000000 in
set_option maxRecDepth 100000 in
theorem keepw (b : Nat) (ok : Bool) (l : List UInt8) (e : Int) (w : World) (h : MQ b ok l w) (he : e = 0 ∨ e = 1) :
    Calls Tryz.prog 12 #[.pointer (some ⟨b, 0, none⟩), .int .i64 e] w (MPost b (ok && decide (e = 0)) l w) := by
  obtain ⟨c0, f0⟩ := h.cell
  have HQ := Lib.hid h
  clear h
  cases ok
  · rw [show okI false = 1 from rfl] at c0
    go_enter Tryz.func12, Tryz.ntmps12
    go_wp2_with fail
    go_end0
    exact ⟨rfl, MS.start HQ.out⟩
  · rw [show okI true = 0 from rfl] at c0
    obtain ⟨l', hb, hl⟩ := HQ.out
    have HB := Lib.hid hb
    have HL := Lib.hid (hl rfl)
    clear hb hl
    rcases he with rfl | rfl
    all_goals
      go_enter Tryz.func12, Tryz.ntmps12
      go_wp2_with fail
      go_end0
      refine ⟨rfl, ⟨l', HB.out.set _, ?_⟩, (Below.refl b w).setCell (p := ⟨b, 0, none⟩) (Nat.le_refl _) _, Wm.KeptO.setCell _ _ _⟩
      intro h
      first
        | exact HL.out
        | exact absurd h (by decide)

set_option maxHeartbeats 1000000 in
set_option maxRecDepth 100000 in
theorem needw (b : Nat) (ok : Bool) (l : List UInt8) (t : Bool) (w : World) (h : MQ b ok l w) :
    Calls Tryz.prog 44 #[.pointer (some ⟨b, 0, none⟩), .bool t, .int .i64 1] w (MPost b (ok && t) l w) := by
  have HK := Lib.hid fun U h => keepw b ok l 1 U h (.inr rfl)
  have HQ := Lib.hid h
  clear h
  cases t
  · rw [Bool.and_false]
    rw [show (ok && decide ((1 : Int) = 0)) = false by simp] at HK
    go_enter Tryz.func44, Tryz.ntmps44
    go_wp2_with fail
    refine (HK.out _ HQ.out).mono ?_
    rintro e w1 ⟨rfl, h1⟩
    go_wp2_with fail
    go_end0
    exact ⟨rfl, h1⟩
  · rw [Bool.and_true]
    go_enter Tryz.func44, Tryz.ntmps44
    go_wp2_with fail
    go_end0
    exact ⟨rfl, MS.start HQ.out⟩

set_option maxHeartbeats 1000000 in
set_option maxRecDepth 100000 in
theorem mayw (b : Nat) (ok : Bool) (l : List UInt8) (t : Bool) (w : World) (h : MQ b ok l w) :
    Calls Tryz.prog 20 #[.pointer (some ⟨b, 0, none⟩), .bool t] w (MPost b (ok && t) l w) := by
  have HK := Lib.hid fun U h => needw b ok l t U h
  have HQ := Lib.hid h
  clear h
  go_enter Tryz.func20, Tryz.ntmps20
  go_wp2_with fail
  refine (HK.out _ HQ.out).mono ?_
  rintro e w1 ⟨rfl, h1⟩
  go_wp2_with fail
  go_end0
  exact ⟨rfl, h1⟩

set_option maxHeartbeats 1000000 in
set_option maxRecDepth 100000 in
theorem textw (b : Nat) (ok : Bool) (l : List UInt8) (s : ByteArray) (e : Int) (w : World) (h : MQ b ok l w) (he : e = 0 ∨ e = 1) (hl : ok = true → e = 0 → l.length + s.size ≤ 140737488355328) :
    Calls Tryz.prog 77 #[.pointer (some ⟨b, 0, none⟩), .string s, .int .i64 e] w (MPost b (ok && decide (e = 0)) (l ++ s.data.toList) w) := by
  have HK := Lib.hid fun U h => keepw b ok l e U h he
  have HQ := Lib.hid h
  clear h
  obtain ⟨o2, ho⟩ : ∃ o2, o2 = (ok && decide (e = 0)) := ⟨_, rfl⟩
  have hl2 : o2 = true → l.length + s.size ≤ 140737488355328 := fun h => by
    rw [ho, Bool.and_eq_true, decide_eq_true_iff] at h
    exact hl h.1 h.2
  rw [← ho] at HK ⊢
  clear ho hl he
  go_enter Tryz.func77, Tryz.ntmps77
  go_wp2_with fail
  refine (HK.out _ HQ.out).mono ?_
  rintro e w1 ⟨rfl, h1⟩
  have H1 := Lib.hid h1
  have c0 := h1.1.cell.1
  clear h1
  cases o2
  · rw [show okI false = 1 from rfl] at c0
    go_wp2_with fail
    go_end0
    obtain ⟨⟨l', q1, q2⟩, q3, q4⟩ := H1.out
    exact ⟨rfl, ⟨l', q1, fun h => by cases h⟩, q3, q4⟩
  · rw [show okI true = 0 from rfl] at c0
    obtain ⟨⟨l', q1, q2⟩, q3, q4⟩ := H1.out
    obtain rfl := q2 rfl
    have HB := Lib.hid q1
    have HD := Lib.hid q3
    have HO := Lib.hid q4
    have hl3 := hl2 rfl
    clear q1 q2 q3 q4 hl2 H1
    go_wp2_with fail
    refine (Wm.wstr_k b _ l' s w1 HB.out hl3).mono ?_
    rintro e w2 ⟨rfl, b2, h2, o2⟩
    go_wp2_with fail
    go_end0
    exact ⟨rfl, ⟨_, b2, fun _ => rfl⟩, HD.out.trans h2, HO.out.trans o2⟩

theorem put_err (n k : Int) : (putSpec n k).2 = 0 ∨ (putSpec n k).2 = 1 := by
  unfold putSpec
  split
  · exact .inr rfl
  · exact .inl rfl
def putB (n k : Int) : Bool := decide ((putSpec n k).2 = 0)

set_option maxHeartbeats 1000000 in
set_option maxRecDepth 100000 in
theorem numberw (b : Nat) (ok : Bool) (l : List UInt8) (n k : Int) (w : World) (h : MQ b ok l w) (hl : ok = true → l.length + 4 ≤ 140737488355328) (n1 : -9223372036854775808 ≤ n) (n2 : n ≤ 9223372036854775807) :
    Calls Tryz.prog 47 #[.pointer (some ⟨b, 0, none⟩), .int .i64 n, .int .i64 k] w (MPost b (ok && putB n k) (l ++ (putSpec n k).1.data.toList) w) := by
  have H1 := Lib.hid fun U => put_c n k U n1 n2
  have hz := wput_len n k
  have hX := vlen (putSpec n k).1
  have HT := Lib.hid fun U h => textw b ok l (putSpec n k).1 (putSpec n k).2 U h (put_err n k) (fun h _ => by have := hl h; omega)
  have PB := Lib.hid (show putB n k = decide ((putSpec n k).2 = 0) from rfl)
  rw [← PB.out] at HT
  generalize (putSpec n k).1 = X at *
  generalize (putSpec n k).2 = E at *
  have HS := Lib.hid h
  clear h hz hX PB hl
  go_enter Tryz.func47, Tryz.ntmps47
  go_wp2_with fail
  ((with_reducible refine (H1.out _).mono ?_); rintro e w1 ⟨rfl, h1⟩)
  have S1 := Lib.hid ((MS.start HS.out).below h1)
  clear h1
  go_wp2_with fail
  refine (HT.out _ S1.out.1).mono ?_
  rintro e w2 ⟨rfl, h2⟩
  go_wp2_with fail
  go_end0
  exact ⟨rfl, S1.out.then h2⟩

/-- A number that is sure to stand in so many bytes. -/
theorem numberw_ok (b : Nat) (ok : Bool) (l : List UInt8) (n k : Nat) (w : World) (h : MQ b ok l w) (hl : ok = true → l.length + 4 ≤ 140737488355328) (k1 : 1 ≤ k) (k4 : k ≤ 4) (hn : n < 256 ^ k) (hn2 : n ≤ 9223372036854775807) :
    Calls Tryz.prog 47 #[.pointer (some ⟨b, 0, none⟩), .int .i64 (n : Int), .int .i64 (k : Int)] w (MPost b ok (l ++ bytesOf n k) w) := by
  have := numberw b ok l n k w h hl (by omega) (by omega)
  have e := put_ok n k k1 k4 hn
  unfold putB at this
  rw [e] at this
  simpa using this

set_option maxHeartbeats 1000000 in
set_option maxRecDepth 100000 in
theorem firstw (b : Nat) (ok : Bool) (l : List UInt8) (n : Nat) (w : World) (h : MQ b ok l w) (hl : ok = true → l.length + 10 ≤ 140737488355328) (hn : n < 256) :
    Calls Tryz.prog 45 #[.pointer (some ⟨b, 0, none⟩), .int .i64 (n : Int)] w (MPost b ok (l ++ bytesOf n 1 ++ bytesOf 0 3) w) := by
  have Z1 := bytesOf_length n 1
  have H1 := Lib.hid fun U h => numberw_ok b ok l n 1 U h (fun h => by have := hl h; omega) (by omega) (by omega) (by omega) (by omega)
  have H2 := Lib.hid fun U h => numberw_ok b ok (l ++ bytesOf n 1) 0 3 U h (fun h => by have := hl h; rw [List.length_append]; omega) (by omega) (by omega) (by omega) (by omega)
  have HS := Lib.hid (MS.start h)
  have hi : (n : Int) ≤ 255 := by omega
  clear h Z1 hl
  go_enter Tryz.func45, Tryz.ntmps45
  go_wp2_with fail
  refine (H1.out _ HS.out.1).mono ?_
  rintro e w1 ⟨rfl, h1⟩
  replace HS := Lib.hid (HS.out.then h1)
  clear h1
  go_wp2_with fail
  refine (H2.out _ HS.out.1).mono ?_
  rintro e w2 ⟨rfl, h2⟩
  replace HS := Lib.hid (HS.out.then h2)
  go_wp2_with fail
  go_end0
  exact ⟨rfl, HS.out⟩

/-- A list that stays while a writer writes. -/
theorem AddrsW.keepM {b : Nat} {w w' : World} {v : Value} {L : List ByteArray} (h : AddrsW b w v L) (k : Below b w w') (o : Wm.KeptO b w w') : AddrsW b w' v L := by
  obtain ⟨p, cap, blk, off, hv, hp, hc⟩ := h
  by_cases hL : L = []
  · subst hL
    exact ⟨p, cap, blk, off, hv, fun h => absurd rfl h, fun j s hj => by simp at hj⟩
  · obtain ⟨h1, h2⟩ := hp hL
    rcases h2 with h2 | ⟨h2, cs, f, h3⟩
    · exact ⟨p, cap, blk, off, hv, fun _ => ⟨h1, .inl h2⟩, fun j s hj => ((below_cells k).1 blk _ h2).trans (hc j s hj)⟩
    · have h4 := o blk cs _ f h2 (by decide) h3
      exact ⟨p, cap, blk, off, hv, fun _ => ⟨h1, .inr ⟨h2, cs, f, h4⟩⟩, fun j s hj => (World.cell?_of_block (w := w) (a := ⟨blk, off + j, none⟩) (h4.trans h3.symm)).trans (hc j s hj)⟩

def all16 (L : List ByteArray) : Bool := L.all fun a => decide ((a.size : Int) = 16)
theorem all16_len (L : List ByteArray) (h : all16 L = true) : (flatL L).length = 16 * L.length := by
  induction L with
  | nil => rfl
  | cons a L ih =>
    unfold all16 at h
    rw [List.all_cons, Bool.and_eq_true, decide_eq_true_iff] at h
    have h2 := ih h.2
    unfold flatL at h2 ⊢
    rw [List.flatMap_cons, List.length_append, List.length_cons, h2, vlen]
    omega
theorem all16_take (L : List ByteArray) (k : Nat) (h : k < L.length) : all16 (L.take (k + 1)) = (all16 (L.take k) && decide ((L[k].size : Int) = 16)) := by
  unfold all16
  rw [List.take_succ_eq_append_getElem h, List.all_append]
  simp

set_option maxHeartbeats 2000000 in
set_option maxRecDepth 100000 in
theorem addrsw (b : Nat) (ok : Bool) (l : List UInt8) (v : Value) (L : List ByteArray) (w : World) (h : MQ b ok l w) (ha : AddrsW b w v L) (hl : ok = true → l.length + 16 * L.length ≤ 140737488355000) (hL : L.length ≤ 140737488355328) :
    Calls Tryz.prog 49 #[.pointer (some ⟨b, 0, none⟩), v] w (MPost b (ok && all16 L) (l ++ flatL L) w) := by
  have HA := Lib.hid ha
  obtain ⟨p, cap, blk, off, rfl, -⟩ := ha
  have HS := Lib.hid (MS.start h)
  have hL' : (L.length : Int) ≤ 140737488355328 := by omega
  clear h
  go_enter Tryz.func49, Tryz.ntmps49
  go_wp2_with fail
  go_loopw [5, 8] (fun _ i wr => ∃ k : Nat, k ≤ L.length ∧ i = .int .i64 k ∧ Hid (MS b w (ok && all16 (L.take k)) (l ++ flatL (L.take k)) wr) ∧ Hid (AddrsW b wr (.slice p L.length cap) L)) (fun _ i _ => L.length - (intOf i).toNat)
  case atStart => exact ⟨0, Nat.zero_le _, rfl, Lib.hid (by rw [List.take_zero]; show MS b w (ok && true) (l ++ []) w; rw [List.append_nil, Bool.and_true]; exact HS.out), HA⟩
  case round =>
    obtain ⟨k, hk, rfl, hS, hA⟩ := hrel
    by_cases hlt : k < L.length
    · have hne : L ≠ [] := by rintro rfl; simp at hlt
      have hA0 := hA.out
      obtain ⟨p', cap', blk', off', hv, hp, hc⟩ := hA0
      obtain ⟨rfl, hcap⟩ : p = p' ∧ cap = cap' := by cases hv; exact ⟨rfl, rfl⟩
      obtain ⟨rfl, -⟩ := hp hne
      have x1 := hc k _ (List.getElem?_eq_getElem hlt)
      have hT := Lib.hid (flatL_take L k hlt)
      have hT2 := Lib.hid (all16_take L k hlt)
      have hU := Lib.hid fun h => all16_len (L.take k) h
      have hUk : (L.take k).length = k := by rw [List.length_take]; omega
      generalize L[k] = a at x1 hT hT2
      obtain ⟨t, ht⟩ : ∃ t, t = decide ((a.size : Int) = 16) := ⟨_, rfl⟩
      have hlt' : (k : Int) < (L.length : Int) := by omega
      have HM := Lib.hid fun U h => mayw b (ok && all16 (L.take k)) (l ++ flatL (L.take k)) t U h
      have HT := Lib.hid fun U h => textw b (ok && all16 (L.take k) && t) (l ++ flatL (L.take k)) a 0 U h (.inl rfl) (fun h _ => by
        rw [Bool.and_eq_true, Bool.and_eq_true, ht, decide_eq_true_iff] at h
        have := hl h.1.1
        rw [List.length_append, hU.out h.1.2, hUk]
        omega)
      have htt : ((a.size : Int) == 16) = t := by
        rw [ht]
        by_cases h : (a.size : Int) = 16
        · rw [decide_eq_true h]; simp [h]
        · rw [decide_eq_false h]; simp [h]
      have hR := Lib.hid (show (ok && all16 (L.take k) && t && decide ((0 : Int) = 0)) = (ok && all16 (L.take (k + 1))) by rw [hT2.out, ← ht]; simp [Bool.and_assoc])
      clear hc hp hv hne hcap HA HS ht hU hUk
      go_wp2_with fail
      refine (HM.out wr hS.out.1).mono ?_
      rintro e w1 ⟨rfl, h1⟩
      have hS1 := Lib.hid (hS.out.then h1)
      have hA1 := Lib.hid (hA.out.keepM h1.2.1 h1.2.2)
      clear h1 x1
      go_wp2_with fail
      refine (HT.out _ hS1.out.1).mono ?_
      rintro e w2 ⟨rfl, h2⟩
      have hS2 := Lib.hid (show MS b w (ok && all16 (L.take (k + 1))) (l ++ flatL (L.take (k + 1))) w2 by
        have := hS1.out.then h2
        rw [hR.out] at this
        rw [hT.out, ← List.append_assoc]
        exact this)
      have hA2 := Lib.hid (hA1.out.keepM h2.2.1 h2.2.2)
      clear h2
      go_wp2_with fail
      go_roundw
      case rel => exact ⟨k + 1, by omega, by go_num, hS2, hA2⟩
      case measure => simp [intOf]; omega
    · obtain rfl : k = L.length := by omega
      go_wp2_with fail
      go_end0
      rw [List.take_length] at hS
      exact ⟨rfl, hS.out⟩

theorem MS.cast {b : Nat} {w0 w : World} {ok ok' : Bool} {l l' : List UInt8} (h : MS b w0 ok l w) (e1 : ok = ok') (e2 : ok' = true → l = l') : MS b w0 ok' l' w := by
  subst e1
  obtain ⟨⟨l0, q1, q2⟩, q3⟩ := h
  exact ⟨⟨l0, q1, fun h => (q2 h).trans (e2 h)⟩, q3⟩

theorem enc_err (bt : Nat) (n : Int) : (encI bt n).2 = 0 ∨ (encI bt n).2 = 1 := by
  unfold encI
  split
  · exact .inr rfl
  · exact .inl rfl
theorem enc_nat (bt : Nat) (n : Int) : ∃ C : Nat, (encI bt n).1 = (C : Int) ∧ C < 16 * 2 ^ bt := by
  unfold encI
  split
  · exact ⟨0, rfl, by have := Nat.pow_pos (n := bt) (show 0 < 2 by omega); omega⟩
  · exact ⟨encN bt n.toNat, rfl, (enc_is bt n.toNat).1⟩
/-- Is a number just a code's? -/
def codedW (bt : Nat) (n : Int) : Bool := decide ((encI bt n).2 = 0) && decide ((decI bt (encI bt n).1).1 = n)
def codeL (bt k : Nat) (n : Int) : List UInt8 := bytesOf (encI bt n).1.toNat k

set_option maxHeartbeats 1000000 in
set_option maxRecDepth 100000 in
theorem codew1 (b : Nat) (ok : Bool) (l : List UInt8) (n : Int) (w : World) (h : MQ b ok l w) (hl : ok = true → l.length + 4 ≤ 140737488355328) (n2 : n ≤ 9223372036854775807) :
    Calls Tryz.prog 46 #[.pointer (some ⟨b, 0, none⟩), .int .i64 n, .int .i64 1] w (MPost b (ok && codedW 4 n) (l ++ codeL 4 1 n) w) := by
  have H1 := Lib.hid fun U => enc8_c n U n2
  have H2 := Lib.hid fun U => dec8_c (encI 4 n).1 U
  obtain ⟨C, hC, hC2⟩ := enc_nat 4 n
  have hE := enc_err 4 n
  have V := Lib.hid (show codedW 4 n = (decide ((encI 4 n).2 = 0) && decide ((decI 4 (encI 4 n).1).1 = n)) from rfl)
  have VL := Lib.hid (show codeL 4 1 n = bytesOf C 1 by unfold codeL; rw [hC, Int.toNat_natCast])
  rw [hC] at H1 H2 V
  generalize (decI 4 (C : Int)).1 = D at *
  generalize (decI 4 (C : Int)).2 = D2 at *
  generalize (encI 4 n).2 = E at *
  have HK := Lib.hid fun U h => keepw b ok l E U h hE
  have HM := Lib.hid fun t U h => mayw b (ok && decide (E = 0)) l t U h
  have HN := Lib.hid fun o U h => numberw_ok b (ok && decide (E = 0) && o) l C 1 U h (fun h => hl (by simp only [Bool.and_eq_true] at h; exact h.1.1)) (by omega) (by omega) (by omega) (by omega)
  have hd : (D == n) = decide (D = n) := by
    by_cases h : D = n
    · simp [h]
    · simp [h]
  have HS := Lib.hid (MS.start h)
  clear h hE hC hC2 hl
  go_enter Tryz.func46, Tryz.ntmps46
  go_wp2_with fail
  ((with_reducible refine (H1.out _).mono ?_); rintro e w1 ⟨rfl, m, rfl⟩)
  replace HS := Lib.hid (HS.out.below (below_drewN (Below.refl _ _) m))
  generalize w.drewN m = w1 at HS ⊢
  go_wp2_with fail
  refine (HK.out _ HS.out.1).mono ?_
  rintro e w2 ⟨rfl, h1⟩
  replace HS := Lib.hid (HS.out.then h1)
  clear h1
  go_wp2_with fail
  ((with_reducible refine (H2.out _).mono ?_); rintro e w3 ⟨rfl, m, rfl⟩)
  replace HS := Lib.hid (HS.out.below (below_drewN (Below.refl _ _) m))
  generalize w2.drewN m = w3 at HS ⊢
  go_wp2_with fail
  refine (HM.out _ _ HS.out.1).mono ?_
  rintro e w4 ⟨rfl, h1⟩
  replace HS := Lib.hid (HS.out.then h1)
  clear h1
  go_wp2_with fail
  refine (HN.out _ _ HS.out.1).mono ?_
  rintro e w5 ⟨rfl, h1⟩
  replace HS := Lib.hid (HS.out.then h1)
  clear h1
  go_wp2_with fail
  go_end0
  exact ⟨rfl, HS.out.cast (by rw [V.out, Bool.and_assoc]) (fun _ => by rw [VL.out])⟩

set_option maxHeartbeats 1000000 in
set_option maxRecDepth 100000 in
theorem codew2 (b : Nat) (ok : Bool) (l : List UInt8) (n : Int) (w : World) (h : MQ b ok l w) (hl : ok = true → l.length + 4 ≤ 140737488355328) (n2 : n ≤ 9223372036854775807) :
    Calls Tryz.prog 46 #[.pointer (some ⟨b, 0, none⟩), .int .i64 n, .int .i64 2] w (MPost b (ok && codedW 12 n) (l ++ codeL 12 2 n) w) := by
  have H1 := Lib.hid fun U => enc16_c n U n2
  have H2 := Lib.hid fun U => dec16_c (encI 12 n).1 U
  obtain ⟨C, hC, hC2⟩ := enc_nat 12 n
  have hE := enc_err 12 n
  have V := Lib.hid (show codedW 12 n = (decide ((encI 12 n).2 = 0) && decide ((decI 12 (encI 12 n).1).1 = n)) from rfl)
  have VL := Lib.hid (show codeL 12 2 n = bytesOf C 2 by unfold codeL; rw [hC, Int.toNat_natCast])
  rw [hC] at H1 H2 V
  generalize (decI 12 (C : Int)).1 = D at *
  generalize (decI 12 (C : Int)).2 = D2 at *
  generalize (encI 12 n).2 = E at *
  have HK := Lib.hid fun U h => keepw b ok l E U h hE
  have HM := Lib.hid fun t U h => mayw b (ok && decide (E = 0)) l t U h
  have HN := Lib.hid fun o U h => numberw_ok b (ok && decide (E = 0) && o) l C 2 U h (fun h => hl (by simp only [Bool.and_eq_true] at h; exact h.1.1)) (by omega) (by omega) (by omega) (by omega)
  have hd : (D == n) = decide (D = n) := by
    by_cases h : D = n
    · simp [h]
    · simp [h]
  have HS := Lib.hid (MS.start h)
  clear h hE hC hC2 hl
  go_enter Tryz.func46, Tryz.ntmps46
  go_wp2_with fail
  ((with_reducible refine (H1.out _).mono ?_); rintro e w1 ⟨rfl, m, rfl⟩)
  replace HS := Lib.hid (HS.out.below (below_drewN (Below.refl _ _) m))
  generalize w.drewN m = w1 at HS ⊢
  go_wp2_with fail
  refine (HK.out _ HS.out.1).mono ?_
  rintro e w2 ⟨rfl, h1⟩
  replace HS := Lib.hid (HS.out.then h1)
  clear h1
  go_wp2_with fail
  ((with_reducible refine (H2.out _).mono ?_); rintro e w3 ⟨rfl, m, rfl⟩)
  replace HS := Lib.hid (HS.out.below (below_drewN (Below.refl _ _) m))
  generalize w2.drewN m = w3 at HS ⊢
  go_wp2_with fail
  refine (HM.out _ _ HS.out.1).mono ?_
  rintro e w4 ⟨rfl, h1⟩
  replace HS := Lib.hid (HS.out.then h1)
  clear h1
  go_wp2_with fail
  refine (HN.out _ _ HS.out.1).mono ?_
  rintro e w5 ⟨rfl, h1⟩
  replace HS := Lib.hid (HS.out.then h1)
  clear h1
  go_wp2_with fail
  go_end0
  exact ⟨rfl, HS.out.cast (by rw [V.out, Bool.and_assoc]) (fun _ => by rw [VL.out])⟩

set_option maxHeartbeats 400000 in
theorem misgroup_c (a : ByteArray) (w : World) :
    Calls Tryz.prog 71 #[.string a] w fun e w' => e = .returned (.bool (grpB a 16)) ∧ Below w.heap.size w w' := by
  have H1 := Lib.hid fun U => grp_c a U
  have E := Lib.hid (grp_err a)
  by_cases h : (a.size : Int) = 16
  · obtain ⟨p1, p2⟩ := eq_t h
    have V := Lib.hid (show grpB a 16 = isGrp a by unfold grpB; rw [decide_eq_true h]; rfl)
    clear h
    go_enter Tryz.func71, Tryz.ntmps71
    go_wp2_with fail
    refine (H1.out _).mono ?_
    rintro e w1 ⟨rfl, h1⟩
    go_wp2_with fail
    all_goals
      go_ret
      exact ⟨by rw [V.out, ← E.out]; simp_all, h1⟩
  · obtain ⟨p1, p2⟩ := ne_t h
    have V := Lib.hid (show grpB a 16 = false by unfold grpB; rw [decide_eq_false h]; rfl)
    clear h
    go_enter Tryz.func71, Tryz.ntmps71
    go_wp2_with fail
    refine (H1.out _).mono ?_
    rintro e w1 ⟨rfl, h1⟩
    go_wp2_with fail
    go_ret
    exact ⟨by rw [V.out]; rfl, h1⟩

/-- Is the group of a query right beside so many sources? -/
def qGrp6 (g : ByteArray) (n : Nat) : Bool := if g.size = 0 then decide (n = 0) else grpB g 16

set_option maxHeartbeats 1000000 in
set_option maxRecDepth 100000 in
theorem mgmay_c (k ver : Int) (g : ByteArray) (mx : Int) (q : Bool) (rob ev : Int) (p : Option Addr) (n cap : Nat) (vr : Value) (w : World) :
    Calls Tryz.prog 48 #[.agg #[.int .i64 k, .int .i64 ver, .string g, .int .i64 mx, .bool q, .int .i64 rob, .int .i64 ev, .slice p n cap, vr]] w fun e w' => e = .returned (.bool (qGrp6 g n)) ∧ Below w.heap.size w w' := by
  by_cases h : g.size = 0
  · obtain rfl := bytes_empty h
    have V := Lib.hid (show qGrp6 ⟨#[]⟩ n = decide (n = 0) from rfl)
    clear h
    go_enter Tryz.func48, Tryz.ntmps48
    go_wp2_with fail
    go_ret
    refine ⟨?_, (Below.refl _ w).alloc (Nat.le_refl _) _⟩
    rw [V.out]
    by_cases hn : n = 0
    · subst hn; rfl
    · obtain ⟨a1, a2⟩ := ne_t (show (n : Int) ≠ 0 by omega)
      simp [hn]
  · have V := Lib.hid (show qGrp6 g n = grpB g 16 by unfold qGrp6; rw [if_neg h])
    have H1 := Lib.hid fun U => misgroup_c g U
    have e1 : g.toList.isEmpty = false := toList_ne g h
    clear h
    go_enter Tryz.func48, Tryz.ntmps48
    go_wp2_with fail
    refine (H1.out _).mono ?_
    rintro e w1 ⟨rfl, h1⟩
    go_wp2_with fail
    go_ret
    exact ⟨by rw [V.out]; rfl, vboxed h1⟩

def detB6 (q : Bool) (rob ev : Int) (ns : Nat) : Bool := q || decide (rob ≠ 0) || decide (ev ≠ 0) || decide (ns ≠ 0)

set_option maxHeartbeats 1000000 in
set_option maxRecDepth 100000 in
theorem misdet_c (k v : Int) (g : ByteArray) (mx : Int) (q : Bool) (rob ev : Int) (ps : Option Addr) (ns cs : Nat) (pr : Option Addr) (nr cr : Nat) (w : World) :
    Calls Tryz.prog 22 #[.agg #[.int .i64 k, .int .i64 v, .string g, .int .i64 mx, .bool q, .int .i64 rob, .int .i64 ev, .slice ps ns cs, .slice pr nr cr]] w fun e w' => e = .returned (.bool (detB6 q rob ev ns)) ∧ Below w.heap.size w w' := by
  have HB := Lib.hid fun o => (Below.refl w.heap.size w).alloc (Nat.le_refl _) o
  cases q
  · by_cases h1 : rob = 0
    · by_cases h2 : ev = 0
      · by_cases h3 : ns = 0
        · have V := Lib.hid (show detB6 false rob ev ns = false by simp [detB6, h1, h2, h3])
          obtain ⟨a1, a2⟩ := eq_t h1
          obtain ⟨b1, b2⟩ := eq_t h2
          obtain ⟨c1, c2⟩ := eq_t (show (ns : Int) = 0 by omega)
          clear h1 h2 h3
          go_enter Tryz.func22, Tryz.ntmps22
          go_wp2_with fail
          go_ret
          exact ⟨by rw [V.out]; rfl, HB.out _⟩
        · have V := Lib.hid (show detB6 false rob ev ns = true by simp [detB6, h1, h2, h3])
          obtain ⟨a1, a2⟩ := eq_t h1
          obtain ⟨b1, b2⟩ := eq_t h2
          obtain ⟨c1, c2⟩ := ne_t (show (ns : Int) ≠ 0 by omega)
          clear h1 h2 h3
          go_enter Tryz.func22, Tryz.ntmps22
          go_wp2_with fail
          go_ret
          exact ⟨by rw [V.out]; rfl, HB.out _⟩
      · have V := Lib.hid (show detB6 false rob ev ns = true by simp [detB6, h1, h2])
        obtain ⟨a1, a2⟩ := eq_t h1
        obtain ⟨b1, b2⟩ := ne_t h2
        clear h1 h2
        go_enter Tryz.func22, Tryz.ntmps22
        go_wp2_with fail
        go_ret
        exact ⟨by rw [V.out]; rfl, HB.out _⟩
    · have V := Lib.hid (show detB6 false rob ev ns = true by simp [detB6, h1])
      obtain ⟨a1, a2⟩ := ne_t h1
      clear h1
      go_enter Tryz.func22, Tryz.ntmps22
      go_wp2_with fail
      go_ret
      exact ⟨by rw [V.out]; rfl, HB.out _⟩
  · have V := Lib.hid (show detB6 true rob ev ns = true by simp [detB6])
    go_enter Tryz.func22, Tryz.ntmps22
    go_wp2_with fail
    go_ret
    exact ⟨by rw [V.out]; rfl, HB.out _⟩

/-- A writer at work, and a message's box behind w0's end. -/
def MG (b : Nat) (w0 : World) (xs : Array Value) (ok : Bool) (l : List UInt8) (w : World) : Prop := MS b w0 ok l w ∧ w.heap[w0.heap.size]? = some (.cells xs 28 (0, 0)) ∧ b < w0.heap.size
theorem MG.start {b : Nat} {w0 : World} (xs : Array Value) {ok : Bool} {l : List UInt8} (h : MQ b ok l w0) : MG b w0 xs ok l (w0.alloc (.cells xs 28)) :=
  ⟨(MS.start h).below ((Below.refl _ w0).alloc (Nat.le_refl _) _), heap_new _ _, h.lt⟩
theorem MG.below {b : Nat} {w0 w w' : World} {xs : Array Value} {ok : Bool} {l : List UInt8} (h : MG b w0 xs ok l w) (k : Below w.heap.size w w') : MG b w0 xs ok l w' :=
  ⟨h.1.below k, below_block k (lt_of_block h.2.1) h.2.1, h.2.2⟩
theorem MG.then {b : Nat} {w0 w w' : World} {xs : Array Value} {ok ok' : Bool} {l l' : List UInt8} (h : MG b w0 xs ok l w) (k : MS b w ok' l' w') : MG b w0 xs ok' l' w' :=
  ⟨h.1.then k, k.2.2 _ _ _ _ (by have := h.2.2; omega) (by decide) h.2.1, h.2.2⟩
theorem MG.cell {b : Nat} {w0 w : World} {xs : Array Value} {ok : Bool} {l : List UInt8} (h : MG b w0 xs ok l w) (j : Nat) {v : Value} (hj : xs[j]? = some v) : w.cell? ⟨w0.heap.size, j, none⟩ = some v := cell_of_block h.2.1 hj

theorem bits_in (op : BinOp) (x y : Int) : -9223372036854775808 ≤ bits op .i64 x y ∧ bits op .i64 x y ≤ 9223372036854775807 := (Lit.wf_int_iff .i64 _).1 (wf_bits op .i64 x y)
theorem put_yes (n k : Nat) (h1 : 1 ≤ k) (h4 : k ≤ 4) (hn : n < 256 ^ k) : putB n k = true ∧ (putSpec n k).1.data.toList = bytesOf n k := by
  unfold putB
  rw [put_ok n k h1 h4 hn]
  exact ⟨rfl, rfl⟩
def flagM (q : Bool) (R : Nat) : Nat := if q then R + 8 else R
theorem flag_orM : ∀ r : Fin 8, bits .or .i64 (r.val : Int) 8 = ((r.val + 8 : Nat) : Int) := by decide +kernel
def flagI (q : Bool) (rob : Int) : Int := if q then bits .or .i64 rob 8 else rob
theorem flag_in (q : Bool) (rob : Int) (r1 : -9223372036854775808 ≤ rob) (r2 : rob ≤ 9223372036854775807) : -9223372036854775808 ≤ flagI q rob ∧ flagI q rob ≤ 9223372036854775807 := by
  unfold flagI
  cases q
  · exact ⟨r1, r2⟩
  · exact bits_in .or rob 8
theorem flag_nat (q : Bool) (R : Nat) (h : R < 8) : flagI q (R : Int) = (flagM q R : Nat) := by
  unfold flagI flagM
  cases q
  · rfl
  · exact flag_orM ⟨R, h⟩

def detOK (rob ev : Int) (ss : List ByteArray) : Bool := decide (0 ≤ rob) && decide (rob ≤ 7) && codedW 4 ev && decide (ss.length ≤ 60) && all16 ss
def detL (q : Bool) (rob ev : Int) (ss : List ByteArray) : List UInt8 := bytesOf (flagM q rob.toNat) 1 ++ codeL 4 1 ev ++ bytesOf ss.length 2 ++ flatL ss
theorem codeL_len (bt k : Nat) (n : Int) : (codeL bt k n).length = k := bytesOf_length _ _

theorem det_cast (q : Bool) (rob ev : Int) (ss : List ByteArray) (ok t : Bool) (l : List UInt8) (hn : ss.length ≤ 65535) (ht : t = (decide (0 ≤ rob) && decide (rob ≤ 7))) :
    (ok && t && putB (flagI q rob) 1 && codedW 4 ev && decide ((ss.length : Int) ≤ 60) && all16 ss) = (ok && detOK rob ev ss) ∧
    ((ok && detOK rob ev ss) = true → l ++ (putSpec (flagI q rob) 1).1.data.toList ++ codeL 4 1 ev ++ bytesOf ss.length 2 ++ flatL ss = l ++ detL q rob ev ss) := by
  have hd : decide ((ss.length : Int) ≤ 60) = decide (ss.length ≤ 60) := by rw [decide_eq_decide]; omega
  rw [hd]
  by_cases h : 0 ≤ rob ∧ rob ≤ 7
  · obtain ⟨R, rfl⟩ := Int.eq_ofNat_of_zero_le h.1
    obtain ⟨p1, p2⟩ := put_yes (flagM q R) 1 (by omega) (by omega) (by unfold flagM; split <;> omega)
    rw [flag_nat q R (by omega), show (1 : Int) = ((1 : Nat) : Int) from rfl, p1, p2]
    have e1 : t = true := by rw [ht, decide_eq_true h.1, decide_eq_true h.2]; rfl
    subst e1
    refine ⟨?_, fun _ => ?_⟩
    · unfold detOK
      rw [decide_eq_true h.1, decide_eq_true h.2]
      simp [Bool.and_assoc]
    · unfold detL
      rw [Int.toNat_natCast]
      simp only [List.append_assoc]
  · have e1 : (decide (0 ≤ rob) && decide (rob ≤ 7)) = false := by
      rw [Bool.and_eq_false_iff, decide_eq_false_iff_not, decide_eq_false_iff_not]
      omega
    have e2 : detOK rob ev ss = false := by unfold detOK; rw [e1]; simp
    rw [e1] at ht
    subst ht
    rw [e2]
    exact ⟨by simp, fun h => by simp at h⟩

set_option maxHeartbeats 2000000 in
set_option maxRecDepth 100000 in
theorem detailsw (b : Nat) (ok : Bool) (l : List UInt8) (k v : Int) (g : ByteArray) (mx : Int) (q : Bool) (rob ev : Int) (vs : Value) (ss : List ByteArray) (pr : Option Addr) (nr cr : Nat) (w00 w : World) (h : MQ b ok l w) (ha : AddrsAt w00 vs ss) (hD : Below w00.heap.size w00 w) (hb : w00.heap.size ≤ b) (r1 : -9223372036854775808 ≤ rob) (r2 : rob ≤ 9223372036854775807) (hev : ev ≤ 9223372036854775807) (hn : ss.length ≤ 65535) (hl : ok = true → l.length ≤ 100000) :
    Calls Tryz.prog 50 #[.pointer (some ⟨b, 0, none⟩), .agg #[.int .i64 k, .int .i64 v, .string g, .int .i64 mx, .bool q, .int .i64 rob, .int .i64 ev, vs, .slice pr nr cr]] w (MPost b (ok && detOK rob ev ss) (l ++ detL q rob ev ss) w) := by
  have HW := Lib.hid fun U (k : Below b w U) => AddrsW.of_at (b := b) ha (hD.trans (k.mono hb)) hb
  obtain ⟨p, cp, rfl⟩ := ha.slice
  have HG := Lib.hid (MG.start #[.int .i64 k, .int .i64 v, .string g, .int .i64 mx, .bool q, .int .i64 rob, .int .i64 ev, .slice p ss.length cp, .slice pr nr cr] h)
  have HB := Lib.hid (bits_in .or rob 8)
  have hni : (ss.length : Int) ≤ 65535 := by omega
  have ht : ∃ x y : Bool, decide (0 ≤ rob) = x ∧ (x = true → decide (rob ≤ 7) = y) ∧ (x = false → y = false) := by
    by_cases h1 : 0 ≤ rob
    · exact ⟨true, decide (rob ≤ 7), decide_eq_true h1, fun _ => rfl, fun h => by cases h⟩
    · exact ⟨false, false, decide_eq_false h1, (fun h => by cases h), fun _ => rfl⟩
  obtain ⟨x, y, hx, hy, hz⟩ := ht
  have ht : y = (decide (0 ≤ rob) && decide (rob ≤ 7)) := by
    rw [hx]
    cases x
    · rw [hz rfl]; rfl
    · rw [hy rfl]; rfl
  have HC := Lib.hid (det_cast q rob ev ss ok y l hn ht)
  have HF := Lib.hid (show flagI q rob = if q then bits .or .i64 rob 8 else rob from rfl)
  have zf := wput_len (flagI q rob) 1
  have HM := Lib.hid fun t U h => mayw b ok l t U h
  have HN := Lib.hid fun U h => numberw b (ok && y) l (flagI q rob) 1 U h (fun h => by simp only [Bool.and_eq_true] at h; have := hl h.1; omega) (flag_in q rob r1 r2).1 (flag_in q rob r1 r2).2
  have HE := Lib.hid fun U h => codew1 b (ok && y && putB (flagI q rob) 1) (l ++ (putSpec (flagI q rob) 1).1.data.toList) ev U h (fun h => by simp only [Bool.and_eq_true] at h; have := hl h.1.1; rw [List.length_append]; omega) hev
  have HM2 := Lib.hid fun t U h => mayw b (ok && y && putB (flagI q rob) 1 && codedW 4 ev) (l ++ (putSpec (flagI q rob) 1).1.data.toList ++ codeL 4 1 ev) t U h
  have HN2 := Lib.hid fun t U h => numberw_ok b (ok && y && putB (flagI q rob) 1 && codedW 4 ev && t) (l ++ (putSpec (flagI q rob) 1).1.data.toList ++ codeL 4 1 ev) ss.length 2 U h (fun h => by simp only [Bool.and_eq_true] at h; have := hl h.1.1.1.1; simp only [List.length_append, codeL_len]; omega) (by omega) (by omega) (by omega) (by omega)
  have HA := Lib.hid fun t U h ha => addrsw b (ok && y && putB (flagI q rob) 1 && codedW 4 ev && t) (l ++ (putSpec (flagI q rob) 1).1.data.toList ++ codeL 4 1 ev ++ bytesOf ss.length 2) (.slice p ss.length cp) ss U h ha (fun h => by simp only [Bool.and_eq_true] at h; have := hl h.1.1.1.1; simp only [List.length_append, codeL_len, bytesOf_length]; omega) (by omega)
  generalize putSpec (flagI q rob) 1 = PS at *
  generalize putB (flagI q rob) 1 = PB at *
  clear h ha hD ht zf hl
  clear HF
  cases q
  · rw [show flagI false rob = rob from rfl] at HN
    clear HB
    cases x
    · obtain rfl := hz rfl
      clear hz hy
      go_enter Tryz.func50, Tryz.ntmps50
      go_wp2_with fail
      refine (HM.out _ _ HG.out.1.1).mono ?_
      rintro e w1 ⟨rfl, h1⟩
      replace HG := Lib.hid (HG.out.then h1)
      clear h1
      have c4 := HG.out.cell 4 rfl
      have c5 := HG.out.cell 5 rfl
      go_wp2_with fail
      refine (HN.out _ HG.out.1.1).mono ?_
      rintro e w2 ⟨rfl, h1⟩
      replace HG := Lib.hid (HG.out.then h1)
      clear h1 c4 c5
      have c6 := HG.out.cell 6 rfl
      go_wp2_with fail
      refine (HE.out _ HG.out.1.1).mono ?_
      rintro e w3 ⟨rfl, h1⟩
      replace HG := Lib.hid (HG.out.then h1)
      clear h1 c6
      have c7 := HG.out.cell 7 rfl
      go_wp2_with fail
      refine (HM2.out _ _ HG.out.1.1).mono ?_
      rintro e w4 ⟨rfl, h1⟩
      replace HG := Lib.hid (HG.out.then h1)
      clear h1 c7
      have c7 := HG.out.cell 7 rfl
      go_wp2_with fail
      refine (HN2.out _ _ HG.out.1.1).mono ?_
      rintro e w5 ⟨rfl, h1⟩
      replace HG := Lib.hid (HG.out.then h1)
      clear h1 c7
      have c7 := HG.out.cell 7 rfl
      have AW := HW.out _ HG.out.1.2.1
      go_wp2_with fail
      refine (HA.out _ _ HG.out.1.1 AW).mono ?_
      rintro e w6 ⟨rfl, h1⟩
      replace HG := Lib.hid (HG.out.then h1)
      clear h1 c7 AW
      go_wp2_with fail
      go_end0
      exact ⟨rfl, HG.out.1.cast HC.out.1 HC.out.2⟩
    · have hy' := hy rfl
      clear hz hy
      go_enter Tryz.func50, Tryz.ntmps50
      go_wp2_with fail
      refine (HM.out _ _ HG.out.1.1).mono ?_
      rintro e w1 ⟨rfl, h1⟩
      replace HG := Lib.hid (HG.out.then h1)
      clear h1
      have c4 := HG.out.cell 4 rfl
      have c5 := HG.out.cell 5 rfl
      go_wp2_with fail
      refine (HN.out _ HG.out.1.1).mono ?_
      rintro e w2 ⟨rfl, h1⟩
      replace HG := Lib.hid (HG.out.then h1)
      clear h1 c4 c5
      have c6 := HG.out.cell 6 rfl
      go_wp2_with fail
      refine (HE.out _ HG.out.1.1).mono ?_
      rintro e w3 ⟨rfl, h1⟩
      replace HG := Lib.hid (HG.out.then h1)
      clear h1 c6
      have c7 := HG.out.cell 7 rfl
      go_wp2_with fail
      refine (HM2.out _ _ HG.out.1.1).mono ?_
      rintro e w4 ⟨rfl, h1⟩
      replace HG := Lib.hid (HG.out.then h1)
      clear h1 c7
      have c7 := HG.out.cell 7 rfl
      go_wp2_with fail
      refine (HN2.out _ _ HG.out.1.1).mono ?_
      rintro e w5 ⟨rfl, h1⟩
      replace HG := Lib.hid (HG.out.then h1)
      clear h1 c7
      have c7 := HG.out.cell 7 rfl
      have AW := HW.out _ HG.out.1.2.1
      go_wp2_with fail
      refine (HA.out _ _ HG.out.1.1 AW).mono ?_
      rintro e w6 ⟨rfl, h1⟩
      replace HG := Lib.hid (HG.out.then h1)
      clear h1 c7 AW
      go_wp2_with fail
      go_end0
      exact ⟨rfl, HG.out.1.cast HC.out.1 HC.out.2⟩
  · rw [show flagI true rob = bits .or .i64 rob 8 from rfl] at HN
    clear HB
    cases x
    · obtain rfl := hz rfl
      clear hz hy
      go_enter Tryz.func50, Tryz.ntmps50
      go_wp2_with fail
      refine (HM.out _ _ HG.out.1.1).mono ?_
      rintro e w1 ⟨rfl, h1⟩
      replace HG := Lib.hid (HG.out.then h1)
      clear h1
      have c4 := HG.out.cell 4 rfl
      have c5 := HG.out.cell 5 rfl
      go_wp2_with fail
      refine (HN.out _ HG.out.1.1).mono ?_
      rintro e w2 ⟨rfl, h1⟩
      replace HG := Lib.hid (HG.out.then h1)
      clear h1 c4 c5
      have c6 := HG.out.cell 6 rfl
      go_wp2_with fail
      refine (HE.out _ HG.out.1.1).mono ?_
      rintro e w3 ⟨rfl, h1⟩
      replace HG := Lib.hid (HG.out.then h1)
      clear h1 c6
      have c7 := HG.out.cell 7 rfl
      go_wp2_with fail
      refine (HM2.out _ _ HG.out.1.1).mono ?_
      rintro e w4 ⟨rfl, h1⟩
      replace HG := Lib.hid (HG.out.then h1)
      clear h1 c7
      have c7 := HG.out.cell 7 rfl
      go_wp2_with fail
      refine (HN2.out _ _ HG.out.1.1).mono ?_
      rintro e w5 ⟨rfl, h1⟩
      replace HG := Lib.hid (HG.out.then h1)
      clear h1 c7
      have c7 := HG.out.cell 7 rfl
      have AW := HW.out _ HG.out.1.2.1
      go_wp2_with fail
      refine (HA.out _ _ HG.out.1.1 AW).mono ?_
      rintro e w6 ⟨rfl, h1⟩
      replace HG := Lib.hid (HG.out.then h1)
      clear h1 c7 AW
      go_wp2_with fail
      go_end0
      exact ⟨rfl, HG.out.1.cast HC.out.1 HC.out.2⟩
    · have hy' := hy rfl
      clear hz hy
      go_enter Tryz.func50, Tryz.ntmps50
      go_wp2_with fail
      refine (HM.out _ _ HG.out.1.1).mono ?_
      rintro e w1 ⟨rfl, h1⟩
      replace HG := Lib.hid (HG.out.then h1)
      clear h1
      have c4 := HG.out.cell 4 rfl
      have c5 := HG.out.cell 5 rfl
      go_wp2_with fail
      refine (HN.out _ HG.out.1.1).mono ?_
      rintro e w2 ⟨rfl, h1⟩
      replace HG := Lib.hid (HG.out.then h1)
      clear h1 c4 c5
      have c6 := HG.out.cell 6 rfl
      go_wp2_with fail
      refine (HE.out _ HG.out.1.1).mono ?_
      rintro e w3 ⟨rfl, h1⟩
      replace HG := Lib.hid (HG.out.then h1)
      clear h1 c6
      have c7 := HG.out.cell 7 rfl
      go_wp2_with fail
      refine (HM2.out _ _ HG.out.1.1).mono ?_
      rintro e w4 ⟨rfl, h1⟩
      replace HG := Lib.hid (HG.out.then h1)
      clear h1 c7
      have c7 := HG.out.cell 7 rfl
      go_wp2_with fail
      refine (HN2.out _ _ HG.out.1.1).mono ?_
      rintro e w5 ⟨rfl, h1⟩
      replace HG := Lib.hid (HG.out.then h1)
      clear h1 c7
      have c7 := HG.out.cell 7 rfl
      have AW := HW.out _ HG.out.1.2.1
      go_wp2_with fail
      refine (HA.out _ _ HG.out.1.1 AW).mono ?_
      rintro e w6 ⟨rfl, h1⟩
      replace HG := Lib.hid (HG.out.then h1)
      clear h1 c7 AW
      go_wp2_with fail
      go_end0
      exact ⟨rfl, HG.out.1.cast HC.out.1 HC.out.2⟩

/-- A list of one text in a block of its own. -/
theorem MG.one {b : Nat} {w0 w : World} {xs : Array Value} {ok : Bool} {l : List UInt8} (h : MG b w0 xs ok l w) (a : ByteArray) :
    AddrsW b (w.alloc (.cells #[.string a] 22)) (.slice (some ⟨w.heap.size, 0, none⟩) 1 1) [a] ∧ MG b w0 xs ok l (w.alloc (.cells #[.string a] 22)) :=
  ⟨AddrsW.one b w a h.1.1.lt, h.below ((Below.refl _ w).alloc (Nat.le_refl _) _)⟩

def none16 : ByteArray := ⟨#[0, 0, 0, 0, 0, 0, 0, 0, 0, 0, 0, 0, 0, 0, 0, 0]⟩
/-- The group's bytes, or what stands where none is. -/
def grp6 (g : ByteArray) : ByteArray := if g.size = 0 then none16 else g
theorem flat_1 (g : ByteArray) : flatL [g] = g.data.toList := by simp [flatL]

theorem grp6_all {g : ByteArray} {n : Nat} (h : qGrp6 g n = true) : all16 [grp6 g] = true ∧ (grp6 g).size = 16 := by
  unfold qGrp6 at h
  unfold grp6 all16
  split at h
  · next hz => rw [if_pos hz]; exact ⟨rfl, rfl⟩
  · next hz =>
    rw [if_neg hz]
    unfold grpB at h
    rw [Bool.and_eq_true, decide_eq_true_iff] at h
    simp [h.1]
    omega

def q2OK (g : ByteArray) (mx rob ev : Int) (ss : List ByteArray) : Bool := codedW 12 mx && qGrp6 g ss.length && detOK rob ev ss
def q2L (g : ByteArray) (mx : Int) (q : Bool) (rob ev : Int) (ss : List ByteArray) : List UInt8 := bytesOf 130 1 ++ bytesOf 0 3 ++ codeL 12 2 mx ++ bytesOf 0 2 ++ (grp6 g).data.toList ++ detL q rob ev ss

set_option maxHeartbeats 2000000 in
set_option maxRecDepth 100000 in
theorem queryw2 (b : Nat) (ok : Bool) (k : Int) (g : ByteArray) (mx : Int) (q : Bool) (rob ev : Int) (vs : Value) (ss : List ByteArray) (pr : Option Addr) (nr cr : Nat) (w00 w : World) (h : MQ b ok [] w) (ha : AddrsAt w00 vs ss) (hD : Below w00.heap.size w00 w) (hb : w00.heap.size ≤ b) (r1 : -9223372036854775808 ≤ rob) (r2 : rob ≤ 9223372036854775807) (hmx : mx ≤ 9223372036854775807) (hev : ev ≤ 9223372036854775807) (hn : ss.length ≤ 65535) :
    Calls Tryz.prog 21 #[.pointer (some ⟨b, 0, none⟩), .agg #[.int .i64 k, .int .i64 2, .string g, .int .i64 mx, .bool q, .int .i64 rob, .int .i64 ev, vs, .slice pr nr cr]] w (MPost b (ok && q2OK g mx rob ev ss) (q2L g mx q rob ev ss) w) := by
  obtain ⟨p, cp, hvs⟩ := ha.slice
  have Z1 := bytesOf_length 130 1
  have Z2 := bytesOf_length 0 3
  have Z3 := bytesOf_length 0 2
  have Z4 := codeL_len 12 2 mx
  have HF := Lib.hid fun U h => firstw b ok [] 130 U h (fun _ => by simp) (by omega)
  have HC := Lib.hid fun U h => codew2 b ok ([] ++ bytesOf 130 1 ++ bytesOf 0 3) mx U h (fun _ => by simp only [List.length_append, List.length_nil]; omega) hmx
  have HN := Lib.hid fun U h => numberw_ok b (ok && codedW 12 mx) ([] ++ bytesOf 130 1 ++ bytesOf 0 3 ++ codeL 12 2 mx) 0 2 U h (fun _ => by simp only [List.length_append, List.length_nil]; omega) (by omega) (by omega) (by omega) (by omega)
  have HG0 := Lib.hid fun U => mgmay_c k 2 g mx q rob ev p ss.length cp (.slice pr nr cr) U
  have HM := Lib.hid fun U h => mayw b (ok && codedW 12 mx) ([] ++ bytesOf 130 1 ++ bytesOf 0 3 ++ codeL 12 2 mx ++ bytesOf 0 2) (qGrp6 g ss.length) U h
  have HA := Lib.hid fun v U h ha => addrsw b (ok && codedW 12 mx && qGrp6 g ss.length) ([] ++ bytesOf 130 1 ++ bytesOf 0 3 ++ codeL 12 2 mx ++ bytesOf 0 2) v [grp6 g] U h ha (fun _ => by simp only [List.length_append, List.length_nil, List.length_cons]; omega) (by simp)
  have HDt := Lib.hid fun U h (k' : Below b w U) => detailsw b (ok && codedW 12 mx && qGrp6 g ss.length && all16 [grp6 g]) ([] ++ bytesOf 130 1 ++ bytesOf 0 3 ++ codeL 12 2 mx ++ bytesOf 0 2 ++ flatL [grp6 g]) k 2 g mx q rob ev vs ss pr nr cr w00 U h ha (hD.trans (k'.mono hb)) hb r1 r2 hev hn (fun h => by
    simp only [Bool.and_eq_true] at h
    have hz := (grp6_all h.1.2).2
    have hz2 := vlen (grp6 g)
    rw [flat_1]
    simp only [List.length_append, List.length_nil]
    omega)
  rw [hvs] at HDt
  have HX := Lib.hid (show (ok && codedW 12 mx && qGrp6 g ss.length && all16 [grp6 g] && detOK rob ev ss) = (ok && q2OK g mx rob ev ss) by
    unfold q2OK
    rcases hq : qGrp6 g ss.length with _ | _
    · simp
    · rw [(grp6_all hq).1]; simp [Bool.and_assoc])
  have HY := Lib.hid (show [] ++ bytesOf 130 1 ++ bytesOf 0 3 ++ codeL 12 2 mx ++ bytesOf 0 2 ++ flatL [grp6 g] ++ detL q rob ev ss = q2L g mx q rob ev ss by rw [flat_1]; rfl)
  have HG := Lib.hid (MG.start #[.int .i64 k, .int .i64 2, .string g, .int .i64 mx, .bool q, .int .i64 rob, .int .i64 ev, .slice p ss.length cp, .slice pr nr cr] h)
  rw [hvs]
  generalize q2L g mx q rob ev ss = QL at *
  generalize q2OK g mx rob ev ss = QO at *
  generalize detL q rob ev ss = DL at *
  generalize detOK rob ev ss = DO at *
  generalize codedW 12 mx = CW at *
  generalize codeL 12 2 mx = CL at *
  generalize qGrp6 g ss.length = QG at *
  generalize ss.length = n at *
  clear h ha hD hvs
  by_cases hz : g.size = 0
  · obtain rfl := bytes_empty hz
    rw [show grp6 ⟨#[]⟩ = (⟨#[0, 0, 0, 0, 0, 0, 0, 0, 0, 0, 0, 0, 0, 0, 0, 0]⟩ : ByteArray) from rfl] at HA HDt HX HY
    clear hz
    go_enter Tryz.func21, Tryz.ntmps21
    go_wp2_with fail
    refine (HF.out _ HG.out.1.1).mono ?_
    rintro e w1 ⟨rfl, h1⟩
    replace HG := Lib.hid (HG.out.then h1)
    clear h1
    have c1 := HG.out.cell 1 rfl
    have c3 := HG.out.cell 3 rfl
    go_wp2_with fail
    refine (HC.out _ HG.out.1.1).mono ?_
    rintro e w2 ⟨rfl, h1⟩
    replace HG := Lib.hid (HG.out.then h1)
    clear h1 c1 c3
    go_wp2_with fail
    refine (HN.out _ HG.out.1.1).mono ?_
    rintro e w3 ⟨rfl, h1⟩
    replace HG := Lib.hid (HG.out.then h1)
    clear h1
    have c0 := HG.out.cell 0 rfl
    have c1 := HG.out.cell 1 rfl
    have c2 := HG.out.cell 2 rfl
    have c3 := HG.out.cell 3 rfl
    have c4 := HG.out.cell 4 rfl
    have c5 := HG.out.cell 5 rfl
    have c6 := HG.out.cell 6 rfl
    have c7 := HG.out.cell 7 rfl
    have c8 := HG.out.cell 8 rfl
    go_wp2_with fail
    ((with_reducible refine (HG0.out _).mono ?_); rintro e w4 ⟨rfl, h1⟩)
    replace HG := Lib.hid (HG.out.below h1)
    clear h1 c0 c1 c2 c3 c4 c5 c6 c7 c8
    go_wp2_with fail
    refine (HM.out _ HG.out.1.1).mono ?_
    rintro e w5 ⟨rfl, h1⟩
    replace HG := Lib.hid (HG.out.then h1)
    clear h1
    have c2 := HG.out.cell 2 rfl
    go_wp2_with fail
    have Ha := (HG.out.one ⟨#[0, 0, 0, 0, 0, 0, 0, 0, 0, 0, 0, 0, 0, 0, 0, 0]⟩).1
    replace HG := Lib.hid (HG.out.one ⟨#[0, 0, 0, 0, 0, 0, 0, 0, 0, 0, 0, 0, 0, 0, 0, 0]⟩).2
    refine (HA.out _ _ HG.out.1.1 Ha).mono ?_
    rintro e w6 ⟨rfl, h1⟩
    replace HG := Lib.hid (HG.out.then h1)
    clear h1 c2 Ha
    have c0 := HG.out.cell 0 rfl
    have c1 := HG.out.cell 1 rfl
    have c2 := HG.out.cell 2 rfl
    have c3 := HG.out.cell 3 rfl
    have c4 := HG.out.cell 4 rfl
    have c5 := HG.out.cell 5 rfl
    have c6 := HG.out.cell 6 rfl
    have c7 := HG.out.cell 7 rfl
    have c8 := HG.out.cell 8 rfl
    go_wp2_with fail
    refine (HDt.out _ HG.out.1.1 HG.out.1.2.1).mono ?_
    rintro e w7 ⟨rfl, h1⟩
    replace HG := Lib.hid (HG.out.then h1)
    clear h1 c0 c1 c2 c3 c4 c5 c6 c7 c8
    go_wp2_with fail
    go_end0
    exact ⟨rfl, HG.out.1.cast HX.out (fun _ => HY.out)⟩
  · have e1 : g.toList.isEmpty = false := toList_ne g hz
    rw [show grp6 g = g from if_neg hz] at HA HDt HX HY
    clear hz
    go_enter Tryz.func21, Tryz.ntmps21
    go_wp2_with fail
    refine (HF.out _ HG.out.1.1).mono ?_
    rintro e w1 ⟨rfl, h1⟩
    replace HG := Lib.hid (HG.out.then h1)
    clear h1
    have c1 := HG.out.cell 1 rfl
    have c3 := HG.out.cell 3 rfl
    go_wp2_with fail
    refine (HC.out _ HG.out.1.1).mono ?_
    rintro e w2 ⟨rfl, h1⟩
    replace HG := Lib.hid (HG.out.then h1)
    clear h1 c1 c3
    go_wp2_with fail
    refine (HN.out _ HG.out.1.1).mono ?_
    rintro e w3 ⟨rfl, h1⟩
    replace HG := Lib.hid (HG.out.then h1)
    clear h1
    have c0 := HG.out.cell 0 rfl
    have c1 := HG.out.cell 1 rfl
    have c2 := HG.out.cell 2 rfl
    have c3 := HG.out.cell 3 rfl
    have c4 := HG.out.cell 4 rfl
    have c5 := HG.out.cell 5 rfl
    have c6 := HG.out.cell 6 rfl
    have c7 := HG.out.cell 7 rfl
    have c8 := HG.out.cell 8 rfl
    go_wp2_with fail
    ((with_reducible refine (HG0.out _).mono ?_); rintro e w4 ⟨rfl, h1⟩)
    replace HG := Lib.hid (HG.out.below h1)
    clear h1 c0 c1 c2 c3 c4 c5 c6 c7 c8
    go_wp2_with fail
    refine (HM.out _ HG.out.1.1).mono ?_
    rintro e w5 ⟨rfl, h1⟩
    replace HG := Lib.hid (HG.out.then h1)
    clear h1
    have c2 := HG.out.cell 2 rfl
    go_wp2_with fail
    have Ha := (HG.out.one g).1
    replace HG := Lib.hid (HG.out.one g).2
    refine (HA.out _ _ HG.out.1.1 Ha).mono ?_
    rintro e w6 ⟨rfl, h1⟩
    replace HG := Lib.hid (HG.out.then h1)
    clear h1 c2 Ha
    have c0 := HG.out.cell 0 rfl
    have c1 := HG.out.cell 1 rfl
    have c2 := HG.out.cell 2 rfl
    have c3 := HG.out.cell 3 rfl
    have c4 := HG.out.cell 4 rfl
    have c5 := HG.out.cell 5 rfl
    have c6 := HG.out.cell 6 rfl
    have c7 := HG.out.cell 7 rfl
    have c8 := HG.out.cell 8 rfl
    go_wp2_with fail
    refine (HDt.out _ HG.out.1.1 HG.out.1.2.1).mono ?_
    rintro e w7 ⟨rfl, h1⟩
    replace HG := Lib.hid (HG.out.then h1)
    clear h1 c0 c1 c2 c3 c4 c5 c6 c7 c8
    go_wp2_with fail
    go_end0
    exact ⟨rfl, HG.out.1.cast HX.out (fun _ => HY.out)⟩

def q1OK (v : Int) (g : ByteArray) (mx : Int) (q : Bool) (rob ev : Int) (n : Nat) : Bool := decide (v = 1) && !detB6 q rob ev n && putB mx 2 && qGrp6 g n
def q1L (g : ByteArray) (mx : Int) : List UInt8 := bytesOf 130 1 ++ bytesOf 0 3 ++ (putSpec mx 2).1.data.toList ++ bytesOf 0 2 ++ (grp6 g).data.toList

set_option maxHeartbeats 2000000 in
set_option maxRecDepth 100000 in
theorem queryw1 (b : Nat) (ok : Bool) (k v : Int) (g : ByteArray) (mx : Int) (q : Bool) (rob ev : Int) (p : Option Addr) (n cp : Nat) (pr : Option Addr) (nr cr : Nat) (w : World) (h : MQ b ok [] w) (hv : v ≠ 2) (m1 : -9223372036854775808 ≤ mx) (m2 : mx ≤ 9223372036854775807) :
    Calls Tryz.prog 21 #[.pointer (some ⟨b, 0, none⟩), .agg #[.int .i64 k, .int .i64 v, .string g, .int .i64 mx, .bool q, .int .i64 rob, .int .i64 ev, .slice p n cp, .slice pr nr cr]] w (MPost b (ok && q1OK v g mx q rob ev n) (q1L g mx) w) := by
  have Z1 := bytesOf_length 130 1
  have Z2 := bytesOf_length 0 3
  have Z3 := bytesOf_length 0 2
  have Z4 := wput_len mx 2
  have HF := Lib.hid fun U h => firstw b ok [] 130 U h (fun _ => by simp) (by omega)
  have HI := Lib.hid fun U => misdet_c k v g mx q rob ev p n cp pr nr cr U
  obtain ⟨T, hT⟩ : ∃ T, T = (decide (v = 1) && !detB6 q rob ev n) := ⟨_, rfl⟩
  have HM0 := Lib.hid fun U h => mayw b ok ([] ++ bytesOf 130 1 ++ bytesOf 0 3) T U h
  have HN := Lib.hid fun U h => numberw b (ok && T) ([] ++ bytesOf 130 1 ++ bytesOf 0 3) mx 2 U h (fun _ => by simp only [List.length_append, List.length_nil]; omega) m1 m2
  have HN2 := Lib.hid fun U h => numberw_ok b (ok && T && putB mx 2) ([] ++ bytesOf 130 1 ++ bytesOf 0 3 ++ (putSpec mx 2).1.data.toList) 0 2 U h (fun _ => by simp only [List.length_append, List.length_nil]; omega) (by omega) (by omega) (by omega) (by omega)
  have HG0 := Lib.hid fun U => mgmay_c k v g mx q rob ev p n cp (.slice pr nr cr) U
  have HM := Lib.hid fun U h => mayw b (ok && T && putB mx 2) ([] ++ bytesOf 130 1 ++ bytesOf 0 3 ++ (putSpec mx 2).1.data.toList ++ bytesOf 0 2) (qGrp6 g n) U h
  have HA := Lib.hid fun v' U h ha => addrsw b (ok && T && putB mx 2 && qGrp6 g n) ([] ++ bytesOf 130 1 ++ bytesOf 0 3 ++ (putSpec mx 2).1.data.toList ++ bytesOf 0 2) v' [grp6 g] U h ha (fun _ => by simp only [List.length_append, List.length_nil, List.length_cons]; omega) (by simp)
  have HX := Lib.hid (show (ok && T && putB mx 2 && qGrp6 g n && all16 [grp6 g]) = (ok && q1OK v g mx q rob ev n) by
    unfold q1OK
    rw [hT]
    rcases hq : qGrp6 g n with _ | _
    · simp
    · rw [(grp6_all hq).1]; simp [Bool.and_assoc])
  have HY := Lib.hid (show [] ++ bytesOf 130 1 ++ bytesOf 0 3 ++ (putSpec mx 2).1.data.toList ++ bytesOf 0 2 ++ flatL [grp6 g] = q1L g mx by rw [flat_1]; rfl)
  have HG := Lib.hid (MG.start #[.int .i64 k, .int .i64 v, .string g, .int .i64 mx, .bool q, .int .i64 rob, .int .i64 ev, .slice p n cp, .slice pr nr cr] h)
  generalize q1L g mx = QL at *
  generalize q1OK v g mx q rob ev n = QO at *
  generalize putB mx 2 = PB at *
  generalize putSpec mx 2 = PS at *
  generalize qGrp6 g n = QG at *
  generalize detB6 q rob ev n = DB at *
  obtain ⟨n1, n2⟩ := ne_t hv
  clear h hv Z1 Z2 Z3 Z4
  have hv1 : ((v == 1) = true ∧ decide (v = 1) = true) ∨ ((v == 1) = false ∧ decide (v = 1) = false) := by
    by_cases h : v = 1
    · exact .inl ⟨by simp [h], by simp [h]⟩
    · exact .inr ⟨by simp [h], by simp [h]⟩
  have hg : (g = ⟨#[]⟩ ∧ grp6 g = ⟨#[0, 0, 0, 0, 0, 0, 0, 0, 0, 0, 0, 0, 0, 0, 0, 0]⟩) ∨ (g.toList.isEmpty = false ∧ grp6 g = g) := by
    by_cases hz : g.size = 0
    · obtain rfl := bytes_empty hz
      exact .inl ⟨rfl, rfl⟩
    · exact .inr ⟨toList_ne g hz, if_neg hz⟩
  rcases hg with ⟨rfl, hg⟩ | ⟨e1, hg⟩
  · rw [hg] at HA HX HY
    clear hg
    rcases hv1 with ⟨v1, v2⟩ | ⟨v1, v2⟩
    · rw [v2] at hT
      obtain rfl : T = !DB := by rw [hT]; rfl
      clear hT v2
      go_enter Tryz.func21, Tryz.ntmps21
      go_wp2_with fail
      refine (HF.out _ HG.out.1.1).mono ?_
      rintro e w1 ⟨rfl, h1⟩
      replace HG := Lib.hid (HG.out.then h1)
      clear h1
      have c0 := HG.out.cell 0 rfl
      have c1 := HG.out.cell 1 rfl
      have c2 := HG.out.cell 2 rfl
      have c3 := HG.out.cell 3 rfl
      have c4 := HG.out.cell 4 rfl
      have c5 := HG.out.cell 5 rfl
      have c6 := HG.out.cell 6 rfl
      have c7 := HG.out.cell 7 rfl
      have c8 := HG.out.cell 8 rfl
      go_wp2_with fail
      ((with_reducible refine (HI.out _).mono ?_); rintro e w2 ⟨rfl, h1⟩)
      replace HG := Lib.hid (HG.out.below h1)
      clear h1 c0 c1 c2 c3 c4 c5 c6 c7 c8
      go_wp2_with fail
      refine (HM0.out _ HG.out.1.1).mono ?_
      rintro e w3 ⟨rfl, h1⟩
      replace HG := Lib.hid (HG.out.then h1)
      clear h1
      have c3 := HG.out.cell 3 rfl
      go_wp2_with fail
      refine (HN.out _ HG.out.1.1).mono ?_
      rintro e w4 ⟨rfl, h1⟩
      replace HG := Lib.hid (HG.out.then h1)
      clear h1 c3
      go_wp2_with fail
      refine (HN2.out _ HG.out.1.1).mono ?_
      rintro e w5 ⟨rfl, h1⟩
      replace HG := Lib.hid (HG.out.then h1)
      clear h1
      have c0 := HG.out.cell 0 rfl
      have c1 := HG.out.cell 1 rfl
      have c2 := HG.out.cell 2 rfl
      have c3 := HG.out.cell 3 rfl
      have c4 := HG.out.cell 4 rfl
      have c5 := HG.out.cell 5 rfl
      have c6 := HG.out.cell 6 rfl
      have c7 := HG.out.cell 7 rfl
      have c8 := HG.out.cell 8 rfl
      go_wp2_with fail
      ((with_reducible refine (HG0.out _).mono ?_); rintro e w6 ⟨rfl, h1⟩)
      replace HG := Lib.hid (HG.out.below h1)
      clear h1 c0 c1 c2 c3 c4 c5 c6 c7 c8
      go_wp2_with fail
      refine (HM.out _ HG.out.1.1).mono ?_
      rintro e w7 ⟨rfl, h1⟩
      replace HG := Lib.hid (HG.out.then h1)
      clear h1
      have c2 := HG.out.cell 2 rfl
      go_wp2_with fail
      have Ha := (HG.out.one ⟨#[0, 0, 0, 0, 0, 0, 0, 0, 0, 0, 0, 0, 0, 0, 0, 0]⟩).1
      replace HG := Lib.hid (HG.out.one ⟨#[0, 0, 0, 0, 0, 0, 0, 0, 0, 0, 0, 0, 0, 0, 0, 0]⟩).2
      refine (HA.out _ _ HG.out.1.1 Ha).mono ?_
      rintro e w8 ⟨rfl, h1⟩
      replace HG := Lib.hid (HG.out.then h1)
      clear h1 c2 Ha
      have c1 := HG.out.cell 1 rfl
      go_wp2_with fail
      go_end0
      exact ⟨rfl, HG.out.1.cast HX.out (fun _ => HY.out)⟩
    · rw [v2] at hT
      obtain rfl : T = false := by rw [hT]; rfl
      clear hT v2
      go_enter Tryz.func21, Tryz.ntmps21
      go_wp2_with fail
      refine (HF.out _ HG.out.1.1).mono ?_
      rintro e w1 ⟨rfl, h1⟩
      replace HG := Lib.hid (HG.out.then h1)
      clear h1
      have c0 := HG.out.cell 0 rfl
      have c1 := HG.out.cell 1 rfl
      have c2 := HG.out.cell 2 rfl
      have c3 := HG.out.cell 3 rfl
      have c4 := HG.out.cell 4 rfl
      have c5 := HG.out.cell 5 rfl
      have c6 := HG.out.cell 6 rfl
      have c7 := HG.out.cell 7 rfl
      have c8 := HG.out.cell 8 rfl
      go_wp2_with fail
      clear c0 c1 c2 c3 c4 c5 c6 c7 c8
      refine (HM0.out _ HG.out.1.1).mono ?_
      rintro e w3 ⟨rfl, h1⟩
      replace HG := Lib.hid (HG.out.then h1)
      clear h1
      have c3 := HG.out.cell 3 rfl
      go_wp2_with fail
      refine (HN.out _ HG.out.1.1).mono ?_
      rintro e w4 ⟨rfl, h1⟩
      replace HG := Lib.hid (HG.out.then h1)
      clear h1 c3
      go_wp2_with fail
      refine (HN2.out _ HG.out.1.1).mono ?_
      rintro e w5 ⟨rfl, h1⟩
      replace HG := Lib.hid (HG.out.then h1)
      clear h1
      have c0 := HG.out.cell 0 rfl
      have c1 := HG.out.cell 1 rfl
      have c2 := HG.out.cell 2 rfl
      have c3 := HG.out.cell 3 rfl
      have c4 := HG.out.cell 4 rfl
      have c5 := HG.out.cell 5 rfl
      have c6 := HG.out.cell 6 rfl
      have c7 := HG.out.cell 7 rfl
      have c8 := HG.out.cell 8 rfl
      go_wp2_with fail
      ((with_reducible refine (HG0.out _).mono ?_); rintro e w6 ⟨rfl, h1⟩)
      replace HG := Lib.hid (HG.out.below h1)
      clear h1 c0 c1 c2 c3 c4 c5 c6 c7 c8
      go_wp2_with fail
      refine (HM.out _ HG.out.1.1).mono ?_
      rintro e w7 ⟨rfl, h1⟩
      replace HG := Lib.hid (HG.out.then h1)
      clear h1
      have c2 := HG.out.cell 2 rfl
      go_wp2_with fail
      have Ha := (HG.out.one ⟨#[0, 0, 0, 0, 0, 0, 0, 0, 0, 0, 0, 0, 0, 0, 0, 0]⟩).1
      replace HG := Lib.hid (HG.out.one ⟨#[0, 0, 0, 0, 0, 0, 0, 0, 0, 0, 0, 0, 0, 0, 0, 0]⟩).2
      refine (HA.out _ _ HG.out.1.1 Ha).mono ?_
      rintro e w8 ⟨rfl, h1⟩
      replace HG := Lib.hid (HG.out.then h1)
      clear h1 c2 Ha
      have c1 := HG.out.cell 1 rfl
      go_wp2_with fail
      go_end0
      exact ⟨rfl, HG.out.1.cast HX.out (fun _ => HY.out)⟩
  · rw [hg] at HA HX HY
    clear hg
    rcases hv1 with ⟨v1, v2⟩ | ⟨v1, v2⟩
    · rw [v2] at hT
      obtain rfl : T = !DB := by rw [hT]; rfl
      clear hT v2
      go_enter Tryz.func21, Tryz.ntmps21
      go_wp2_with fail
      refine (HF.out _ HG.out.1.1).mono ?_
      rintro e w1 ⟨rfl, h1⟩
      replace HG := Lib.hid (HG.out.then h1)
      clear h1
      have c0 := HG.out.cell 0 rfl
      have c1 := HG.out.cell 1 rfl
      have c2 := HG.out.cell 2 rfl
      have c3 := HG.out.cell 3 rfl
      have c4 := HG.out.cell 4 rfl
      have c5 := HG.out.cell 5 rfl
      have c6 := HG.out.cell 6 rfl
      have c7 := HG.out.cell 7 rfl
      have c8 := HG.out.cell 8 rfl
      go_wp2_with fail
      ((with_reducible refine (HI.out _).mono ?_); rintro e w2 ⟨rfl, h1⟩)
      replace HG := Lib.hid (HG.out.below h1)
      clear h1 c0 c1 c2 c3 c4 c5 c6 c7 c8
      go_wp2_with fail
      refine (HM0.out _ HG.out.1.1).mono ?_
      rintro e w3 ⟨rfl, h1⟩
      replace HG := Lib.hid (HG.out.then h1)
      clear h1
      have c3 := HG.out.cell 3 rfl
      go_wp2_with fail
      refine (HN.out _ HG.out.1.1).mono ?_
      rintro e w4 ⟨rfl, h1⟩
      replace HG := Lib.hid (HG.out.then h1)
      clear h1 c3
      go_wp2_with fail
      refine (HN2.out _ HG.out.1.1).mono ?_
      rintro e w5 ⟨rfl, h1⟩
      replace HG := Lib.hid (HG.out.then h1)
      clear h1
      have c0 := HG.out.cell 0 rfl
      have c1 := HG.out.cell 1 rfl
      have c2 := HG.out.cell 2 rfl
      have c3 := HG.out.cell 3 rfl
      have c4 := HG.out.cell 4 rfl
      have c5 := HG.out.cell 5 rfl
      have c6 := HG.out.cell 6 rfl
      have c7 := HG.out.cell 7 rfl
      have c8 := HG.out.cell 8 rfl
      go_wp2_with fail
      ((with_reducible refine (HG0.out _).mono ?_); rintro e w6 ⟨rfl, h1⟩)
      replace HG := Lib.hid (HG.out.below h1)
      clear h1 c0 c1 c2 c3 c4 c5 c6 c7 c8
      go_wp2_with fail
      refine (HM.out _ HG.out.1.1).mono ?_
      rintro e w7 ⟨rfl, h1⟩
      replace HG := Lib.hid (HG.out.then h1)
      clear h1
      have c2 := HG.out.cell 2 rfl
      go_wp2_with fail
      have Ha := (HG.out.one g).1
      replace HG := Lib.hid (HG.out.one g).2
      refine (HA.out _ _ HG.out.1.1 Ha).mono ?_
      rintro e w8 ⟨rfl, h1⟩
      replace HG := Lib.hid (HG.out.then h1)
      clear h1 c2 Ha
      have c1 := HG.out.cell 1 rfl
      go_wp2_with fail
      go_end0
      exact ⟨rfl, HG.out.1.cast HX.out (fun _ => HY.out)⟩
    · rw [v2] at hT
      obtain rfl : T = false := by rw [hT]; rfl
      clear hT v2
      go_enter Tryz.func21, Tryz.ntmps21
      go_wp2_with fail
      refine (HF.out _ HG.out.1.1).mono ?_
      rintro e w1 ⟨rfl, h1⟩
      replace HG := Lib.hid (HG.out.then h1)
      clear h1
      have c0 := HG.out.cell 0 rfl
      have c1 := HG.out.cell 1 rfl
      have c2 := HG.out.cell 2 rfl
      have c3 := HG.out.cell 3 rfl
      have c4 := HG.out.cell 4 rfl
      have c5 := HG.out.cell 5 rfl
      have c6 := HG.out.cell 6 rfl
      have c7 := HG.out.cell 7 rfl
      have c8 := HG.out.cell 8 rfl
      go_wp2_with fail
      clear c0 c1 c2 c3 c4 c5 c6 c7 c8
      refine (HM0.out _ HG.out.1.1).mono ?_
      rintro e w3 ⟨rfl, h1⟩
      replace HG := Lib.hid (HG.out.then h1)
      clear h1
      have c3 := HG.out.cell 3 rfl
      go_wp2_with fail
      refine (HN.out _ HG.out.1.1).mono ?_
      rintro e w4 ⟨rfl, h1⟩
      replace HG := Lib.hid (HG.out.then h1)
      clear h1 c3
      go_wp2_with fail
      refine (HN2.out _ HG.out.1.1).mono ?_
      rintro e w5 ⟨rfl, h1⟩
      replace HG := Lib.hid (HG.out.then h1)
      clear h1
      have c0 := HG.out.cell 0 rfl
      have c1 := HG.out.cell 1 rfl
      have c2 := HG.out.cell 2 rfl
      have c3 := HG.out.cell 3 rfl
      have c4 := HG.out.cell 4 rfl
      have c5 := HG.out.cell 5 rfl
      have c6 := HG.out.cell 6 rfl
      have c7 := HG.out.cell 7 rfl
      have c8 := HG.out.cell 8 rfl
      go_wp2_with fail
      ((with_reducible refine (HG0.out _).mono ?_); rintro e w6 ⟨rfl, h1⟩)
      replace HG := Lib.hid (HG.out.below h1)
      clear h1 c0 c1 c2 c3 c4 c5 c6 c7 c8
      go_wp2_with fail
      refine (HM.out _ HG.out.1.1).mono ?_
      rintro e w7 ⟨rfl, h1⟩
      replace HG := Lib.hid (HG.out.then h1)
      clear h1
      have c2 := HG.out.cell 2 rfl
      go_wp2_with fail
      have Ha := (HG.out.one g).1
      replace HG := Lib.hid (HG.out.one g).2
      refine (HA.out _ _ HG.out.1.1 Ha).mono ?_
      rintro e w8 ⟨rfl, h1⟩
      replace HG := Lib.hid (HG.out.then h1)
      clear h1 c2 Ha
      have c1 := HG.out.cell 1 rfl
      go_wp2_with fail
      go_end0
      exact ⟨rfl, HG.out.1.cast HX.out (fun _ => HY.out)⟩

def oneOK (v : Int) (g : ByteArray) (nr : Nat) : Bool := decide (v = 1) && grpB g 16 && decide (nr = 0)
def one6L (c : Nat) (g : ByteArray) : List UInt8 := bytesOf c 1 ++ bytesOf 0 3 ++ bytesOf 0 4 ++ g.data.toList
theorem grp16 {g : ByteArray} (h : grpB g 16 = true) : all16 [g] = true ∧ g.size = 16 := by
  unfold grpB at h
  rw [Bool.and_eq_true, decide_eq_true_iff] at h
  unfold all16
  exact ⟨by simp [h.1], by omega⟩

set_option maxHeartbeats 2000000 in
set_option maxRecDepth 100000 in
theorem onew (b : Nat) (ok : Bool) (k v : Int) (g : ByteArray) (mx : Int) (q : Bool) (rob ev : Int) (p : Option Addr) (n cp : Nat) (pr : Option Addr) (nr cr : Nat) (c : Nat) (w : World) (h : MQ b ok [] w) (hc : c < 256) :
    Calls Tryz.prog 52 #[.pointer (some ⟨b, 0, none⟩), .agg #[.int .i64 k, .int .i64 v, .string g, .int .i64 mx, .bool q, .int .i64 rob, .int .i64 ev, .slice p n cp, .slice pr nr cr], .int .i64 (c : Int)] w (MPost b (ok && oneOK v g nr) (one6L c g) w) := by
  have Z1 := bytesOf_length c 1
  have Z2 := bytesOf_length 0 3
  have Z3 := bytesOf_length 0 4
  have HI := Lib.hid fun U => misgroup_c g U
  obtain ⟨T, hT⟩ : ∃ T, T = oneOK v g nr := ⟨_, rfl⟩
  have HM := Lib.hid fun U h => mayw b ok [] T U h
  have HF := Lib.hid fun U h => firstw b (ok && T) [] c U h (fun _ => by simp) hc
  have HN := Lib.hid fun U h => numberw_ok b (ok && T) ([] ++ bytesOf c 1 ++ bytesOf 0 3) 0 4 U h (fun _ => by simp only [List.length_append, List.length_nil]; omega) (by omega) (by omega) (by omega) (by omega)
  have HA := Lib.hid fun v' U h ha => addrsw b (ok && T) ([] ++ bytesOf c 1 ++ bytesOf 0 3 ++ bytesOf 0 4) v' [g] U h ha (fun _ => by simp only [List.length_append, List.length_nil, List.length_cons]; omega) (by simp)
  have HX := Lib.hid (show (ok && T && all16 [g]) = (ok && oneOK v g nr) by
    rw [hT]
    rcases hq : oneOK v g nr with _ | _
    · simp
    · unfold oneOK at hq
      simp only [Bool.and_eq_true] at hq
      rw [(grp16 hq.1.2).1]; simp)
  have HY := Lib.hid (show [] ++ bytesOf c 1 ++ bytesOf 0 3 ++ bytesOf 0 4 ++ flatL [g] = one6L c g by rw [flat_1]; rfl)
  have HG := Lib.hid (MG.start #[.int .i64 k, .int .i64 v, .string g, .int .i64 mx, .bool q, .int .i64 rob, .int .i64 ev, .slice p n cp, .slice pr nr cr] h)
  have V := Lib.hid (show oneOK v g nr = (decide (v = 1) && grpB g 16 && decide (nr = 0)) from rfl)
  rw [← hT] at V HX ⊢
  clear hT h Z1 Z2 Z3
  generalize one6L c g = OL at *
  generalize grpB g 16 = GB at *
  have hci : (0 : Int) ≤ (c : Int) ∧ (c : Int) ≤ 255 := by omega
  have hv1 : ((v == 1) = true ∧ decide (v = 1) = true) ∨ ((v == 1) = false ∧ decide (v = 1) = false) := by
    by_cases h : v = 1
    · exact .inl ⟨by simp [h], by simp [h]⟩
    · exact .inr ⟨by simp [h], by simp [h]⟩
  have hn1 : (((nr : Int) == 0) = true ∧ decide (nr = 0) = true) ∨ (((nr : Int) == 0) = false ∧ decide (nr = 0) = false) := by
    by_cases h : nr = 0
    · exact .inl ⟨by simp [h], by simp [h]⟩
    · exact .inr ⟨by simp [h], by simp [h]⟩
  rcases hv1 with ⟨v1, v2⟩ | ⟨v1, v2⟩
  · cases GB
    · obtain rfl : T = false := by rw [V.out, v2]; rfl
      clear V v2 hn1
      go_enter Tryz.func52, Tryz.ntmps52
      go_wp2_with fail
      ((with_reducible refine (HI.out _).mono ?_); rintro e w0 ⟨rfl, h1⟩)
      replace HG := Lib.hid (HG.out.below h1)
      clear h1
      have c8 := HG.out.cell 8 rfl
      go_wp2_with fail
      clear c8
      refine (HM.out _ HG.out.1.1).mono ?_
      rintro e w1 ⟨rfl, h1⟩
      replace HG := Lib.hid (HG.out.then h1)
      clear h1
      go_wp2_with fail
      refine (HF.out _ HG.out.1.1).mono ?_
      rintro e w2 ⟨rfl, h1⟩
      replace HG := Lib.hid (HG.out.then h1)
      clear h1
      go_wp2_with fail
      refine (HN.out _ HG.out.1.1).mono ?_
      rintro e w3 ⟨rfl, h1⟩
      replace HG := Lib.hid (HG.out.then h1)
      clear h1
      have c2 := HG.out.cell 2 rfl
      go_wp2_with fail
      have Ha := (HG.out.one g).1
      replace HG := Lib.hid (HG.out.one g).2
      refine (HA.out _ _ HG.out.1.1 Ha).mono ?_
      rintro e w4 ⟨rfl, h1⟩
      replace HG := Lib.hid (HG.out.then h1)
      clear h1 c2 Ha
      go_wp2_with fail
      go_end0
      exact ⟨rfl, HG.out.1.cast HX.out (fun _ => HY.out)⟩
    · rcases hn1 with ⟨a1, a2⟩ | ⟨a1, a2⟩
      · obtain rfl : T = true := by rw [V.out, v2, a2]; rfl
        clear V v2 a2
        go_enter Tryz.func52, Tryz.ntmps52
        go_wp2_with fail
        ((with_reducible refine (HI.out _).mono ?_); rintro e w0 ⟨rfl, h1⟩)
        replace HG := Lib.hid (HG.out.below h1)
        clear h1
        have c8 := HG.out.cell 8 rfl
        go_wp2_with fail
        clear c8
        refine (HM.out _ HG.out.1.1).mono ?_
        rintro e w1 ⟨rfl, h1⟩
        replace HG := Lib.hid (HG.out.then h1)
        clear h1
        go_wp2_with fail
        refine (HF.out _ HG.out.1.1).mono ?_
        rintro e w2 ⟨rfl, h1⟩
        replace HG := Lib.hid (HG.out.then h1)
        clear h1
        go_wp2_with fail
        refine (HN.out _ HG.out.1.1).mono ?_
        rintro e w3 ⟨rfl, h1⟩
        replace HG := Lib.hid (HG.out.then h1)
        clear h1
        have c2 := HG.out.cell 2 rfl
        go_wp2_with fail
        have Ha := (HG.out.one g).1
        replace HG := Lib.hid (HG.out.one g).2
        refine (HA.out _ _ HG.out.1.1 Ha).mono ?_
        rintro e w4 ⟨rfl, h1⟩
        replace HG := Lib.hid (HG.out.then h1)
        clear h1 c2 Ha
        go_wp2_with fail
        go_end0
        exact ⟨rfl, HG.out.1.cast HX.out (fun _ => HY.out)⟩
      · obtain rfl : T = false := by rw [V.out, v2, a2]; rfl
        clear V v2 a2
        go_enter Tryz.func52, Tryz.ntmps52
        go_wp2_with fail
        ((with_reducible refine (HI.out _).mono ?_); rintro e w0 ⟨rfl, h1⟩)
        replace HG := Lib.hid (HG.out.below h1)
        clear h1
        have c8 := HG.out.cell 8 rfl
        go_wp2_with fail
        clear c8
        refine (HM.out _ HG.out.1.1).mono ?_
        rintro e w1 ⟨rfl, h1⟩
        replace HG := Lib.hid (HG.out.then h1)
        clear h1
        go_wp2_with fail
        refine (HF.out _ HG.out.1.1).mono ?_
        rintro e w2 ⟨rfl, h1⟩
        replace HG := Lib.hid (HG.out.then h1)
        clear h1
        go_wp2_with fail
        refine (HN.out _ HG.out.1.1).mono ?_
        rintro e w3 ⟨rfl, h1⟩
        replace HG := Lib.hid (HG.out.then h1)
        clear h1
        have c2 := HG.out.cell 2 rfl
        go_wp2_with fail
        have Ha := (HG.out.one g).1
        replace HG := Lib.hid (HG.out.one g).2
        refine (HA.out _ _ HG.out.1.1 Ha).mono ?_
        rintro e w4 ⟨rfl, h1⟩
        replace HG := Lib.hid (HG.out.then h1)
        clear h1 c2 Ha
        go_wp2_with fail
        go_end0
        exact ⟨rfl, HG.out.1.cast HX.out (fun _ => HY.out)⟩
  · obtain rfl : T = false := by rw [V.out, v2]; rfl
    clear V v2 hn1
    go_enter Tryz.func52, Tryz.ntmps52
    go_wp2_with fail
    refine (HM.out _ HG.out.1.1).mono ?_
    rintro e w1 ⟨rfl, h1⟩
    replace HG := Lib.hid (HG.out.then h1)
    clear h1
    go_wp2_with fail
    refine (HF.out _ HG.out.1.1).mono ?_
    rintro e w2 ⟨rfl, h1⟩
    replace HG := Lib.hid (HG.out.then h1)
    clear h1
    go_wp2_with fail
    refine (HN.out _ HG.out.1.1).mono ?_
    rintro e w3 ⟨rfl, h1⟩
    replace HG := Lib.hid (HG.out.then h1)
    clear h1
    have c2 := HG.out.cell 2 rfl
    go_wp2_with fail
    have Ha := (HG.out.one g).1
    replace HG := Lib.hid (HG.out.one g).2
    refine (HA.out _ _ HG.out.1.1 Ha).mono ?_
    rintro e w4 ⟨rfl, h1⟩
    replace HG := Lib.hid (HG.out.then h1)
    clear h1 c2 Ha
    go_wp2_with fail
    go_end0
    exact ⟨rfl, HG.out.1.cast HX.out (fun _ => HY.out)⟩

def rec6OK (g : ByteArray) (L : List Rec) : Bool := decide (g.size = 0) && decide ((bodyI L 16).1 = 0)
def rec6L (L : List Rec) : List UInt8 := bytesOf 143 1 ++ bytesOf 0 3 ++ bytesOf 0 2 ++ bytesOf L.length 2 ++ (bodyI L 16).2.data.toList
theorem body_err (L : List Rec) (Z : Int) : (bodyI L Z).1 = 0 ∨ (bodyI L Z).1 = 1 := by
  unfold bodyI
  split
  · exact .inr rfl
  · split
    · exact .inl rfl
    · exact .inr rfl
theorem body_size (L : List Rec) (h : (bodyI L 16).1 = 0) : (bodyI L 16).2 = ⟨(L.flatMap recL).toArray⟩ ∧ L.length ≤ 30 ∧ (∀ r ∈ L, recB r 16 = true) ∧ (L.flatMap recL).length ≤ 1000 * L.length := by
  unfold bodyI at h ⊢
  split at h
  · simp at h
  · rename_i h1
    split at h
    · rename_i h2
      rw [if_neg h1, if_pos h2]
      have h3 := List.all_eq_true.1 h2
      exact ⟨rfl, by omega, h3, recs_len 16 (by omega) L h3⟩
    · simp at h

set_option maxHeartbeats 2000000 in
set_option maxRecDepth 100000 in
theorem recordsw (b : Nat) (ok : Bool) (k v : Int) (g : ByteArray) (mx : Int) (q : Bool) (rob ev : Int) (p : Option Addr) (n cp : Nat) (vr : Value) (L : List Rec) (w00 w : World) (h : MQ b ok [] w) (hL : L.length ≤ 65535) (hs : ∀ r ∈ L, r.srcs.length ≤ 9223372036854775807) (ha : RecsAt w00 vr L) (hD : Below w00.heap.size w00 w) (hb : w00.heap.size ≤ b) :
    Calls Tryz.prog 51 #[.pointer (some ⟨b, 0, none⟩), .agg #[.int .i64 k, .int .i64 v, .string g, .int .i64 mx, .bool q, .int .i64 rob, .int .i64 ev, .slice p n cp, vr]] w (MPost b (ok && rec6OK g L) (rec6L L) w) := by
  have Z1 := bytesOf_length 143 1
  have Z2 := bytesOf_length 0 3
  have Z3 := bytesOf_length 0 2
  have Z4 := bytesOf_length L.length 2
  have HR := Lib.hid fun U (k' : Below b w U) => body_c vr L 16 U (by omega) hs (ha.below (hD.trans (k'.mono hb)))
  unfold BodyPost at HR
  obtain ⟨pr, cr, hvr⟩ := ha.slice
  rw [hvr] at HR
  have hn := hL
  obtain ⟨T, hT⟩ : ∃ T, T = decide (g.size = 0) := ⟨_, rfl⟩
  have HM := Lib.hid fun U h => mayw b ok [] T U h
  have HF := Lib.hid fun U h => firstw b (ok && T) [] 143 U h (fun _ => by simp) (by omega)
  have HN := Lib.hid fun U h => numberw_ok b (ok && T) ([] ++ bytesOf 143 1 ++ bytesOf 0 3) 0 2 U h (fun _ => by simp only [List.length_append, List.length_nil]; omega) (by omega) (by omega) (by omega) (by omega)
  have HN2 := Lib.hid fun U h => numberw_ok b (ok && T) ([] ++ bytesOf 143 1 ++ bytesOf 0 3 ++ bytesOf 0 2) L.length 2 U h (fun _ => by simp only [List.length_append, List.length_nil]; omega) (by omega) (by omega) (by omega) (by omega)
  have HT := Lib.hid fun U h => textw b (ok && T) ([] ++ bytesOf 143 1 ++ bytesOf 0 3 ++ bytesOf 0 2 ++ bytesOf L.length 2) (bodyI L 16).2 (bodyI L 16).1 U h (body_err L 16) (fun _ h => by
    obtain ⟨e1, e2, e3, e4⟩ := body_size L h
    rw [e1, ByteArray.size_mk', List.size_toArray]
    simp only [List.length_append, List.length_nil]
    omega)
  have HX := Lib.hid (show (ok && T && decide ((bodyI L 16).1 = 0)) = (ok && rec6OK g L) by unfold rec6OK; rw [hT, Bool.and_assoc])
  have HY := Lib.hid (show [] ++ bytesOf 143 1 ++ bytesOf 0 3 ++ bytesOf 0 2 ++ bytesOf L.length 2 ++ (bodyI L 16).2.data.toList = rec6L L from rfl)
  have HG := Lib.hid (MG.start #[.int .i64 k, .int .i64 v, .string g, .int .i64 mx, .bool q, .int .i64 rob, .int .i64 ev, .slice p n cp, .slice pr L.length cr] h)
  rw [hvr]
  generalize rec6OK g L = RO at *
  generalize rec6L L = RL at *
  generalize (bodyI L 16).1 = BE at *
  generalize (bodyI L 16).2 = BS at *
  generalize L.length = nr at *
  clear h ha hD hvr hs Z1 Z2 Z3 Z4
  by_cases hz : g.size = 0
  · obtain rfl := bytes_empty hz
    obtain rfl : T = true := by rw [hT]; rfl
    clear hz hT
    go_enter Tryz.func51, Tryz.ntmps51
    go_wp2_with fail
    refine (HM.out _ HG.out.1.1).mono ?_
    rintro e w1 ⟨rfl, h1⟩
    replace HG := Lib.hid (HG.out.then h1)
    clear h1
    go_wp2_with fail
    refine (HF.out _ HG.out.1.1).mono ?_
    rintro e w2 ⟨rfl, h1⟩
    replace HG := Lib.hid (HG.out.then h1)
    clear h1
    go_wp2_with fail
    refine (HN.out _ HG.out.1.1).mono ?_
    rintro e w3 ⟨rfl, h1⟩
    replace HG := Lib.hid (HG.out.then h1)
    clear h1
    have c8 := HG.out.cell 8 rfl
    go_wp2_with fail
    refine (HN2.out _ HG.out.1.1).mono ?_
    rintro e w4 ⟨rfl, h1⟩
    replace HG := Lib.hid (HG.out.then h1)
    clear h1 c8
    have c8 := HG.out.cell 8 rfl
    have D1 := HG.out.1.2.1
    go_wp2_with fail
    ((with_reducible refine (HR.out _ D1).mono ?_); rintro e w5 ⟨rfl, h1⟩)
    replace HG := Lib.hid (HG.out.below h1)
    clear h1 c8 D1
    go_wp2_with fail
    refine (HT.out _ HG.out.1.1).mono ?_
    rintro e w6 ⟨rfl, h1⟩
    replace HG := Lib.hid (HG.out.then h1)
    clear h1
    go_wp2_with fail
    go_end0
    exact ⟨rfl, HG.out.1.cast HX.out (fun _ => HY.out)⟩
  · have e1 : g.toList.isEmpty = false := toList_ne g hz
    obtain rfl : T = false := by rw [hT, decide_eq_false hz]
    clear hz hT
    go_enter Tryz.func51, Tryz.ntmps51
    go_wp2_with fail
    refine (HM.out _ HG.out.1.1).mono ?_
    rintro e w1 ⟨rfl, h1⟩
    replace HG := Lib.hid (HG.out.then h1)
    clear h1
    go_wp2_with fail
    refine (HF.out _ HG.out.1.1).mono ?_
    rintro e w2 ⟨rfl, h1⟩
    replace HG := Lib.hid (HG.out.then h1)
    clear h1
    go_wp2_with fail
    refine (HN.out _ HG.out.1.1).mono ?_
    rintro e w3 ⟨rfl, h1⟩
    replace HG := Lib.hid (HG.out.then h1)
    clear h1
    have c8 := HG.out.cell 8 rfl
    go_wp2_with fail
    refine (HN2.out _ HG.out.1.1).mono ?_
    rintro e w4 ⟨rfl, h1⟩
    replace HG := Lib.hid (HG.out.then h1)
    clear h1 c8
    have c8 := HG.out.cell 8 rfl
    have D1 := HG.out.1.2.1
    go_wp2_with fail
    ((with_reducible refine (HR.out _ D1).mono ?_); rintro e w5 ⟨rfl, h1⟩)
    replace HG := Lib.hid (HG.out.below h1)
    clear h1 c8 D1
    go_wp2_with fail
    refine (HT.out _ HG.out.1.1).mono ?_
    rintro e w6 ⟨rfl, h1⟩
    replace HG := Lib.hid (HG.out.then h1)
    clear h1
    go_wp2_with fail
    go_end0
    exact ⟨rfl, HG.out.1.cast HX.out (fun _ => HY.out)⟩

def tellOK (k v : Int) (g : ByteArray) (L : List Rec) : Bool := if k = 2 ∧ v = 2 then rec6OK g L else oneOK v g L.length
def tellL (k v : Int) (g : ByteArray) (L : List Rec) : List UInt8 := if k = 2 ∧ v = 2 then rec6L L else one6L (if k = 2 then 131 else 132) g

set_option maxHeartbeats 2000000 in
set_option maxRecDepth 100000 in
theorem tellingw (b : Nat) (ok : Bool) (k v : Int) (g : ByteArray) (mx : Int) (q : Bool) (rob ev : Int) (p : Option Addr) (n cp : Nat) (vr : Value) (L : List Rec) (w00 w : World) (h : MQ b ok [] w) (hL : L.length ≤ 65535) (hs : ∀ r ∈ L, r.srcs.length ≤ 9223372036854775807) (ha : RecsAt w00 vr L) (hD : Below w00.heap.size w00 w) (hb : w00.heap.size ≤ b) :
    Calls Tryz.prog 23 #[.pointer (some ⟨b, 0, none⟩), .agg #[.int .i64 k, .int .i64 v, .string g, .int .i64 mx, .bool q, .int .i64 rob, .int .i64 ev, .slice p n cp, vr]] w (MPost b (ok && tellOK k v g L) (tellL k v g L) w) := by
  have HR := Lib.hid fun U h (k' : Below b w U) => recordsw b ok k v g mx q rob ev p n cp vr L w00 U h hL hs ha (hD.trans (k'.mono hb)) hb
  obtain ⟨pr, cr, rfl⟩ := ha.slice
  have HO := Lib.hid fun c U h hc => onew b ok k v g mx q rob ev p n cp pr L.length cr c U h hc
  have HG := Lib.hid (MG.start #[.int .i64 k, .int .i64 v, .string g, .int .i64 mx, .bool q, .int .i64 rob, .int .i64 ev, .slice p n cp, .slice pr L.length cr] h)
  clear h ha hD hs
  by_cases hk : k = 2
  · obtain ⟨a1, a2⟩ := eq_t hk
    by_cases hv : v = 2
    · obtain ⟨b1, b2⟩ := eq_t hv
      have E1 := Lib.hid (show tellOK k v g L = rec6OK g L from if_pos ⟨hk, hv⟩)
      have E2 := Lib.hid (show tellL k v g L = rec6L L from if_pos ⟨hk, hv⟩)
      clear hk hv HO
      go_enter Tryz.func23, Tryz.ntmps23
      go_wp2_with fail
      refine (HR.out _ HG.out.1.1 HG.out.1.2.1).mono ?_
      rintro e w1 ⟨rfl, h1⟩
      replace HG := Lib.hid (HG.out.then h1)
      clear h1
      go_wp2_with fail
      go_end0
      exact ⟨rfl, HG.out.1.cast (by rw [E1.out]) (fun _ => by rw [E2.out])⟩
    · obtain ⟨b1, b2⟩ := ne_t hv
      have E1 := Lib.hid (show tellOK k v g L = oneOK v g L.length from if_neg fun h => hv h.2)
      have E2 := Lib.hid (show tellL k v g L = one6L 131 g by unfold tellL; rw [if_neg fun h => hv h.2, if_pos hk])
      clear hk hv HR
      have HO1 := Lib.hid fun U h => HO.out 131 U h (by omega)
      clear HO
      go_enter Tryz.func23, Tryz.ntmps23
      go_wp2_with fail
      refine (HO1.out _ HG.out.1.1).mono ?_
      rintro e w1 ⟨rfl, h1⟩
      replace HG := Lib.hid (HG.out.then h1)
      clear h1
      go_wp2_with fail
      go_end0
      exact ⟨rfl, HG.out.1.cast (by rw [E1.out]) (fun _ => by rw [E2.out])⟩
  · obtain ⟨a1, a2⟩ := ne_t hk
    have E1 := Lib.hid (show tellOK k v g L = oneOK v g L.length from if_neg fun h => hk h.1)
    have E2 := Lib.hid (show tellL k v g L = one6L 132 g by unfold tellL; rw [if_neg fun h => hk h.1, if_neg hk])
    clear hk HR
    have HO1 := Lib.hid fun U h => HO.out 132 U h (by omega)
    clear HO
    go_enter Tryz.func23, Tryz.ntmps23
    go_wp2_with fail
    refine (HO1.out _ HG.out.1.1).mono ?_
    rintro e w1 ⟨rfl, h1⟩
    replace HG := Lib.hid (HG.out.then h1)
    clear h1
    go_wp2_with fail
    go_end0
    exact ⟨rfl, HG.out.1.cast (by rw [E1.out]) (fun _ => by rw [E2.out])⟩

/-- May a message be written? -/
def mayD (m : Msg) : Bool :=
  if m.kind = 1 then decide (m.recs.length = 0) && (if m.version = 2 then q2OK m.group m.max m.robust m.every m.srcs else q1OK m.version m.group m.max m.quiet m.robust m.every m.srcs.length)
  else if m.kind = 2 ∨ m.kind = 3 then (decide (m.max = 0) && !detB6 m.quiet m.robust m.every m.srcs.length) && tellOK m.kind m.version m.group m.recs
  else false
/-- Its bytes, the sum 0. -/
def msgD (m : Msg) : List UInt8 :=
  if m.kind = 1 then (if m.version = 2 then q2L m.group m.max m.quiet m.robust m.every m.srcs else q1L m.group m.max)
  else tellL m.kind m.version m.group m.recs

set_option maxHeartbeats 2000000 in
set_option maxRecDepth 100000 in
theorem messagew (b : Nat) (m : Msg) (vs vr : Value) (w00 w : World) (h : MQ b true [] w) (hn : m.srcs.length ≤ 65535) (hL : m.recs.length ≤ 65535) (hs : ∀ r ∈ m.recs, r.srcs.length ≤ 9223372036854775807) (ha : AddrsAt w00 vs m.srcs) (hr : RecsAt w00 vr m.recs) (hD : Below w00.heap.size w00 w) (hb : w00.heap.size ≤ b)
    (r1 : -9223372036854775808 ≤ m.robust) (r2 : m.robust ≤ 9223372036854775807) (m1 : -9223372036854775808 ≤ m.max) (m2 : m.max ≤ 9223372036854775807) (hev : m.every ≤ 9223372036854775807) :
    Calls Tryz.prog 9 #[.pointer (some ⟨b, 0, none⟩), m.val vs vr] w (MPost b (mayD m) (msgD m) w) := by
  obtain ⟨k, v, g, mx, q, rob, ev, ss, L⟩ := m
  simp only [Msg.val] at *
  obtain ⟨p, cp, rfl⟩ := ha.slice
  obtain ⟨pr, cr, rfl⟩ := hr.slice
  have HG := Lib.hid (MG.start #[.int .i64 k, .int .i64 v, .string g, .int .i64 mx, .bool q, .int .i64 rob, .int .i64 ev, .slice p ss.length cp, .slice pr L.length cr] h)
  by_cases hk1 : k = 1
  · obtain ⟨a1, a2⟩ := eq_t hk1
    obtain ⟨T, hT⟩ : ∃ T, T = decide (L.length = 0) := ⟨_, rfl⟩
    have hn1 : ((L.length : Int) == 0) = T := by
      rw [hT]
      by_cases h : L.length = 0
      · simp [h]
      · simp [h]
    have HM := Lib.hid fun U h => mayw b true [] T U h
    by_cases hv : v = 2
    · subst hv
      have HQ := Lib.hid fun U h (k' : Below b w U) => queryw2 b (true && T) k g mx q rob ev (.slice p ss.length cp) ss pr L.length cr w00 U h ha (hD.trans (k'.mono hb)) hb r1 r2 m2 hev hn
      have E1 := Lib.hid (show mayD ⟨k, 2, g, mx, q, rob, ev, ss, L⟩ = (T && q2OK g mx rob ev ss) by unfold mayD; simp only; rw [if_pos hk1, if_pos trivial, hT])
      have E2 := Lib.hid (show msgD ⟨k, 2, g, mx, q, rob, ev, ss, L⟩ = q2L g mx q rob ev ss by unfold msgD; simp only; rw [if_pos hk1, if_pos trivial])
      clear h ha hr hD hs hk1 hT
      go_enter Tryz.func9, Tryz.ntmps9
      go_wp2_with fail
      refine (HM.out _ HG.out.1.1).mono ?_
      rintro e w1 ⟨rfl, h1⟩
      replace HG := Lib.hid (HG.out.then h1)
      clear h1
      have c0 := HG.out.cell 0 rfl
      have c1 := HG.out.cell 1 rfl
      have c2 := HG.out.cell 2 rfl
      have c3 := HG.out.cell 3 rfl
      have c4 := HG.out.cell 4 rfl
      have c5 := HG.out.cell 5 rfl
      have c6 := HG.out.cell 6 rfl
      have c7 := HG.out.cell 7 rfl
      have c8 := HG.out.cell 8 rfl
      go_wp2_with fail
      refine (HQ.out _ HG.out.1.1 HG.out.1.2.1).mono ?_
      rintro e w2 ⟨rfl, h1⟩
      replace HG := Lib.hid (HG.out.then h1)
      clear h1 c0 c1 c2 c3 c4 c5 c6 c7 c8
      go_wp2_with fail
      go_end0
      exact ⟨rfl, HG.out.1.cast (by rw [E1.out, Bool.true_and]) (fun _ => by rw [E2.out])⟩
    · have HQ := Lib.hid fun U h => queryw1 b (true && T) k v g mx q rob ev p ss.length cp pr L.length cr U h hv m1 m2
      have E1 := Lib.hid (show mayD ⟨k, v, g, mx, q, rob, ev, ss, L⟩ = (T && q1OK v g mx q rob ev ss.length) by unfold mayD; simp only; rw [if_pos hk1, if_neg hv, hT])
      have E2 := Lib.hid (show msgD ⟨k, v, g, mx, q, rob, ev, ss, L⟩ = q1L g mx by unfold msgD; simp only; rw [if_pos hk1, if_neg hv])
      clear h ha hr hD hs hk1 hT
      go_enter Tryz.func9, Tryz.ntmps9
      go_wp2_with fail
      refine (HM.out _ HG.out.1.1).mono ?_
      rintro e w1 ⟨rfl, h1⟩
      replace HG := Lib.hid (HG.out.then h1)
      clear h1
      have c0 := HG.out.cell 0 rfl
      have c1 := HG.out.cell 1 rfl
      have c2 := HG.out.cell 2 rfl
      have c3 := HG.out.cell 3 rfl
      have c4 := HG.out.cell 4 rfl
      have c5 := HG.out.cell 5 rfl
      have c6 := HG.out.cell 6 rfl
      have c7 := HG.out.cell 7 rfl
      have c8 := HG.out.cell 8 rfl
      go_wp2_with fail
      refine (HQ.out _ HG.out.1.1).mono ?_
      rintro e w2 ⟨rfl, h1⟩
      replace HG := Lib.hid (HG.out.then h1)
      clear h1 c0 c1 c2 c3 c4 c5 c6 c7 c8
      go_wp2_with fail
      go_end0
      exact ⟨rfl, HG.out.1.cast (by rw [E1.out, Bool.true_and]) (fun _ => by rw [E2.out])⟩
  · obtain ⟨a1, a2⟩ := ne_t hk1
    by_cases hk : k = 2 ∨ k = 3
    · have HI := Lib.hid fun U => misdet_c k v g mx q rob ev p ss.length cp pr L.length cr U
      obtain ⟨T, hT⟩ : ∃ T, T = (decide (mx = 0) && !detB6 q rob ev ss.length) := ⟨_, rfl⟩
      have HM := Lib.hid fun U h => mayw b true [] T U h
      have HTl := Lib.hid fun U h (k' : Below b w U) => tellingw b (true && T) k v g mx q rob ev p ss.length cp (.slice pr L.length cr) L w00 U h hL hs hr (hD.trans (k'.mono hb)) hb
      have E1 := Lib.hid (show mayD ⟨k, v, g, mx, q, rob, ev, ss, L⟩ = (T && tellOK k v g L) by unfold mayD; simp only; rw [if_neg hk1, if_pos hk, hT])
      have E2 := Lib.hid (show msgD ⟨k, v, g, mx, q, rob, ev, ss, L⟩ = tellL k v g L by unfold msgD; simp only; rw [if_neg hk1])
      have hkt : (k == 2) = true ∨ ((k == 2) = false ∧ (k == 3) = true) := by
        rcases hk with rfl | rfl
        · exact .inl rfl
        · exact .inr ⟨rfl, rfl⟩
      have hmt : ((mx == 0) = true ∧ decide (mx = 0) = true) ∨ ((mx == 0) = false ∧ decide (mx = 0) = false) := by
        by_cases h : mx = 0
        · exact .inl ⟨by simp [h], by simp [h]⟩
        · exact .inr ⟨by simp [h], by simp [h]⟩
      clear h ha hr hD hs hk hk1
      generalize mayD ⟨k, v, g, mx, q, rob, ev, ss, L⟩ = MD at *
      generalize msgD ⟨k, v, g, mx, q, rob, ev, ss, L⟩ = ML at *
      generalize detB6 q rob ev ss.length = DB at *
      rcases hkt with k2 | ⟨k2, k3⟩ <;> rcases hmt with ⟨x1, x2⟩ | ⟨x1, x2⟩
      all_goals
        rw [x2] at hT
        clear x2
      case inl.inl =>
        obtain rfl : T = !DB := by rw [hT]; rfl
        clear hT
        go_enter Tryz.func9, Tryz.ntmps9
        go_wp2_with fail
        ((with_reducible refine (HI.out _).mono ?_); rintro e w0 ⟨rfl, h1⟩)
        replace HG := Lib.hid (HG.out.below h1)
        clear h1
        go_wp2_with fail
        refine (HM.out _ HG.out.1.1).mono ?_
        rintro e w1 ⟨rfl, h1⟩
        replace HG := Lib.hid (HG.out.then h1)
        clear h1
        have c0 := HG.out.cell 0 rfl
        have c1 := HG.out.cell 1 rfl
        have c2 := HG.out.cell 2 rfl
        have c3 := HG.out.cell 3 rfl
        have c4 := HG.out.cell 4 rfl
        have c5 := HG.out.cell 5 rfl
        have c6 := HG.out.cell 6 rfl
        have c7 := HG.out.cell 7 rfl
        have c8 := HG.out.cell 8 rfl
        go_wp2_with fail
        refine (HTl.out _ HG.out.1.1 HG.out.1.2.1).mono ?_
        rintro e w2 ⟨rfl, h1⟩
        replace HG := Lib.hid (HG.out.then h1)
        clear h1 c0 c1 c2 c3 c4 c5 c6 c7 c8
        go_wp2_with fail
        go_end0
        exact ⟨rfl, HG.out.1.cast (by rw [E1.out, Bool.true_and]) (fun _ => by rw [E2.out])⟩
      case inr.inl =>
        obtain rfl : T = !DB := by rw [hT]; rfl
        clear hT
        go_enter Tryz.func9, Tryz.ntmps9
        go_wp2_with fail
        ((with_reducible refine (HI.out _).mono ?_); rintro e w0 ⟨rfl, h1⟩)
        replace HG := Lib.hid (HG.out.below h1)
        clear h1
        go_wp2_with fail
        refine (HM.out _ HG.out.1.1).mono ?_
        rintro e w1 ⟨rfl, h1⟩
        replace HG := Lib.hid (HG.out.then h1)
        clear h1
        have c0 := HG.out.cell 0 rfl
        have c1 := HG.out.cell 1 rfl
        have c2 := HG.out.cell 2 rfl
        have c3 := HG.out.cell 3 rfl
        have c4 := HG.out.cell 4 rfl
        have c5 := HG.out.cell 5 rfl
        have c6 := HG.out.cell 6 rfl
        have c7 := HG.out.cell 7 rfl
        have c8 := HG.out.cell 8 rfl
        go_wp2_with fail
        refine (HTl.out _ HG.out.1.1 HG.out.1.2.1).mono ?_
        rintro e w2 ⟨rfl, h1⟩
        replace HG := Lib.hid (HG.out.then h1)
        clear h1 c0 c1 c2 c3 c4 c5 c6 c7 c8
        go_wp2_with fail
        go_end0
        exact ⟨rfl, HG.out.1.cast (by rw [E1.out, Bool.true_and]) (fun _ => by rw [E2.out])⟩
      all_goals
        obtain rfl : T = false := by rw [hT]; rfl
        clear hT
        go_enter Tryz.func9, Tryz.ntmps9
        go_wp2_with fail
        refine (HM.out _ HG.out.1.1).mono ?_
        rintro e w1 ⟨rfl, h1⟩
        replace HG := Lib.hid (HG.out.then h1)
        clear h1
        have c0 := HG.out.cell 0 rfl
        have c1 := HG.out.cell 1 rfl
        have c2 := HG.out.cell 2 rfl
        have c3 := HG.out.cell 3 rfl
        have c4 := HG.out.cell 4 rfl
        have c5 := HG.out.cell 5 rfl
        have c6 := HG.out.cell 6 rfl
        have c7 := HG.out.cell 7 rfl
        have c8 := HG.out.cell 8 rfl
        go_wp2_with fail
        refine (HTl.out _ HG.out.1.1 HG.out.1.2.1).mono ?_
        rintro e w2 ⟨rfl, h1⟩
        replace HG := Lib.hid (HG.out.then h1)
        clear h1 c0 c1 c2 c3 c4 c5 c6 c7 c8
        go_wp2_with fail
        go_end0
        exact ⟨rfl, HG.out.1.cast (by rw [E1.out]; simp) (fun _ => by rw [E2.out])⟩
    · obtain ⟨b1, b2⟩ := ne_t (show k ≠ 2 by omega)
      obtain ⟨d1, d2⟩ := ne_t (show k ≠ 3 by omega)
      have HK := Lib.hid fun U h => keepw b true [] 1 U h (.inr rfl)
      have E1 := Lib.hid (show mayD ⟨k, v, g, mx, q, rob, ev, ss, L⟩ = false by unfold mayD; simp only; rw [if_neg hk1, if_neg hk])
      clear h ha hr hD hs hk hk1
      go_enter Tryz.func9, Tryz.ntmps9
      go_wp2_with fail
      refine (HK.out _ HG.out.1.1).mono ?_
      rintro e w1 ⟨rfl, h1⟩
      replace HG := Lib.hid (HG.out.then h1)
      clear h1
      go_wp2_with fail
      go_end0
      exact ⟨rfl, HG.out.1.cast (by rw [E1.out]; simp) (fun h => by rw [E1.out] at h; cases h)⟩

/-- What stands ahead of a message of n bytes in its sum. -/
def aheadI (src dst : ByteArray) (n : Int) : ByteArray × Int := if src.size ≠ 16 then (⟨#[]⟩, 1) else pseudoSpec src dst n 58

set_option maxHeartbeats 1000000 in
set_option maxRecDepth 100000 in
theorem ahead_c (src dst : ByteArray) (n : Int) (w : World) :
    Calls Tryz.prog 11 #[.string src, .string dst, .int .i64 n] w fun e w' => e = .returned (.tuple #[.string (aheadI src dst n).1, .int .i64 (aheadI src dst n).2]) ∧ Below w.heap.size w w' := by
  by_cases h : src.size = 16
  · obtain ⟨a1, a2⟩ := eq_t (show (src.size : Int) = 16 by omega)
    have V := Lib.hid (show aheadI src dst n = pseudoSpec src dst n 58 from if_neg fun h' => h' h)
    have HP := Lib.hid fun U => pseudo_c src dst n 58 U (by omega) (by omega)
    clear h
    go_enter Tryz.func11, Tryz.ntmps11
    go_wp2_with fail
    ((with_reducible refine (HP.out _).mono ?_); rintro e w1 ⟨rfl, h1⟩)
    go_wp2_with fail
    go_ret2
    exact ⟨by rw [V.out]; rfl, h1⟩
  · obtain ⟨a1, a2⟩ := ne_t (show (src.size : Int) ≠ 16 by omega)
    have V := Lib.hid (show aheadI src dst n = (⟨#[]⟩, 1) from if_pos h)
    clear h
    go_enter Tryz.func11, Tryz.ntmps11
    go_wp2_with fail
    go_ret2
    exact ⟨by rw [V.out]; rfl, Below.refl _ _⟩

set_option maxHeartbeats 1000000 in
set_option maxRecDepth 100000 in
theorem keepc (b : Nat) (ok : Bool) (p v : Value) (e : Int) (w : World) (h : w.heap[b]? = some (.cells #[.int .i64 (okI ok), p, v] 46 (0, 0))) (he : e = 0 ∨ e = 1) :
    Calls Tryz.prog 12 #[.pointer (some ⟨b, 0, none⟩), .int .i64 e] w fun r w' => r = .returned (.tuple #[]) ∧ w'.heap[b]? = some (.cells #[.int .i64 (okI (ok && decide (e = 0))), p, v] 46 (0, 0)) ∧ Below b w w' := by
  have HH := Lib.hid h
  have c0 : w.cell? ⟨b, 0, none⟩ = some (.int .i64 (okI ok)) := cell_of_block h rfl
  have f0 : w.frozen? ⟨b, 0, none⟩ = false := free_of_block h
  clear h
  cases ok
  · rw [show okI false = 1 from rfl] at c0
    go_enter Tryz.func12, Tryz.ntmps12
    go_wp2_with fail
    go_end0
    exact ⟨rfl, HH.out, Below.refl _ _⟩
  · rw [show okI true = 0 from rfl] at c0
    have HR := Lib.hid fun x => heap_store (j := 0) (v := .int .i64 x) HH.out
    rcases he with rfl | rfl
    all_goals
      go_enter Tryz.func12, Tryz.ntmps12
      go_wp2_with fail
      go_end0
      exact ⟨rfl, HR.out _, (Below.refl b w).setCell (p := ⟨b, 0, none⟩) (Nat.le_refl _) _⟩

theorem det_len (q : Bool) (rob ev : Int) (ss : List ByteArray) (h : detOK rob ev ss = true) : (detL q rob ev ss).length ≤ 1000 := by
  unfold detOK at h
  simp only [Bool.and_eq_true, decide_eq_true_iff] at h
  have h1 := all16_len ss h.2
  have h2 := h.1.2
  unfold detL
  simp only [List.length_append, bytesOf_length, codeL_len]
  omega

theorem msgD_len (m : Msg) (h : mayD m = true) : 8 ≤ (msgD m).length ∧ (msgD m).length ≤ 40000 := by
  obtain ⟨k, v, g, mx, q, rob, ev, ss, L⟩ := m
  unfold mayD at h
  unfold msgD
  simp only at h ⊢
  by_cases h1 : k = 1
  · rw [if_pos h1] at h ⊢
    rw [Bool.and_eq_true] at h
    have h2 := h.2
    by_cases hv : v = 2
    · rw [if_pos hv] at h2 ⊢
      unfold q2OK at h2
      rw [Bool.and_eq_true, Bool.and_eq_true] at h2
      have hg := (grp6_all h2.1.2).2
      have hg2 := vlen (grp6 g)
      have hd := det_len q rob ev ss h2.2
      unfold q2L
      simp only [List.length_append, bytesOf_length, codeL_len]
      omega
    · rw [if_neg hv] at h2 ⊢
      unfold q1OK at h2
      rw [Bool.and_eq_true] at h2
      have hg := (grp6_all h2.2).2
      have hg2 := vlen (grp6 g)
      have hz := wput_len mx 2
      unfold q1L
      simp only [List.length_append, bytesOf_length]
      omega
  · rw [if_neg h1] at h ⊢
    by_cases h2 : k = 2 ∨ k = 3
    · rw [if_pos h2, Bool.and_eq_true] at h
      have h3 := h.2
      unfold tellOK at h3
      unfold tellL
      by_cases h4 : k = 2 ∧ v = 2
      · rw [if_pos h4] at h3 ⊢
        unfold rec6OK at h3
        rw [Bool.and_eq_true, decide_eq_true_iff, decide_eq_true_iff] at h3
        obtain ⟨e1, e2, e3, e4⟩ := body_size L h3.2
        unfold rec6L
        rw [e1]
        simp only [List.length_append, bytesOf_length]
        omega
      · rw [if_neg h4] at h3 ⊢
        unfold oneOK at h3
        simp only [Bool.and_eq_true] at h3
        have hg := (grp16 h3.1.2).2
        have hg2 := vlen g
        unfold one6L
        simp only [List.length_append, bytesOf_length]
        omega
    · rw [if_neg h2] at h
      simp at h

theorem pseudo_err (src dst : ByteArray) (n p : Int) : (pseudoSpec src dst n p).2 = 0 ∨ (pseudoSpec src dst n p).2 = 1 := by
  unfold pseudoSpec
  split
  · exact .inr rfl
  · split <;> exact .inl rfl
theorem ahead_err (src dst : ByteArray) (n : Int) : (aheadI src dst n).2 = 0 ∨ (aheadI src dst n).2 = 1 := by
  unfold aheadI
  split
  · exact .inr rfl
  · exact pseudo_err _ _ _ _
theorem ahead_size (src dst : ByteArray) (n : Int) : (aheadI src dst n).1.size ≤ 100 := by
  unfold aheadI
  split
  · decide
  · next h =>
    unfold pseudoSpec
    split
    · decide
    · next h2 =>
      split
      · next h3 => omega
      · simp only [ByteArray.size_append, ByteArray.size_mk', List.size_toArray, bytesOf_length]
        have e : (⟨#[0, 0, 0]⟩ : ByteArray).size = 3 := rfl
        simp only [List.length_cons, List.length_nil]
        omega

/-- What Encode answers. -/
def encD (src dst : ByteArray) (m : Msg) : ByteArray × Int :=
  if mayD m = true ∧ (aheadI src dst (msgD m).length).2 = 0 then fillSpec (aheadI src dst (msgD m).length).1 ⟨(msgD m).toArray⟩ 2 else (⟨#[]⟩, 1)

set_option maxHeartbeats 2000000 in
set_option maxRecDepth 100000 in
theorem menc_c (src dst : ByteArray) (m : Msg) (vs vr : Value) (w : World) (hn : m.srcs.length ≤ 65535) (hL : m.recs.length ≤ 65535) (hs : ∀ r ∈ m.recs, r.srcs.length ≤ 9223372036854775807) (ha : AddrsAt w vs m.srcs) (hr : RecsAt w vr m.recs)
    (r1 : -9223372036854775808 ≤ m.robust) (r2 : m.robust ≤ 9223372036854775807) (m1 : -9223372036854775808 ≤ m.max) (m2 : m.max ≤ 9223372036854775807) (hev : m.every ≤ 9223372036854775807) :
    Calls Tryz.prog 6 #[.string src, .string dst, m.val vs vr] w fun e w' => e = .returned (.tuple #[.string (encD src dst m).1, .int .i64 (encD src dst m).2]) ∧ Below w.heap.size w w' := by
  have HW := Lib.hid fun b U h h1 h2 => messagew b m vs vr w U h hn hL hs ha hr h1 h2 r1 r2 m1 m2 hev
  have HLn := Lib.hid (msgD_len m)
  have HE := Lib.hid (show encD src dst m = if mayD m = true ∧ (aheadI src dst (msgD m).length).2 = 0 then fillSpec (aheadI src dst (msgD m).length).1 ⟨(msgD m).toArray⟩ 2 else (⟨#[]⟩, 1) from rfl)
  have HAh := Lib.hid fun n U => ahead_c src dst n U
  have HAe := Lib.hid fun n => ahead_err src dst n
  have HAz := Lib.hid fun n => ahead_size src dst n
  obtain ⟨k, v, g, mx, q, rob, ev, ss, L⟩ := m
  simp only [Msg.val] at HW ⊢
  obtain ⟨p, cp, rfl⟩ := ha.slice
  obtain ⟨pr, cr, rfl⟩ := hr.slice
  generalize encD src dst ⟨k, v, g, mx, q, rob, ev, ss, L⟩ = ED at *
  generalize mayD ⟨k, v, g, mx, q, rob, ev, ss, L⟩ = MD at *
  generalize msgD ⟨k, v, g, mx, q, rob, ev, ss, L⟩ = ML at *
  clear ha hr hs hn hL r1 r2 m1 m2 hev
  have B0 := Lib.hid (Box.start w #[.int .i64 k, .int .i64 v, .string g, .int .i64 mx, .bool q, .int .i64 rob, .int .i64 ev, .slice p ss.length cp, .slice pr L.length cr] 28)
  go_enter Tryz.func6, Tryz.ntmps6
  go_upto_region 2 with fail
  have hsz : (w.alloc (.cells #[.int .i64 k, .int .i64 v, .string g, .int .i64 mx, .bool q, .int .i64 rob, .int .i64 ev, .slice p ss.length cp, .slice pr L.length cr] 28)).heap.size = w.heap.size + 1 := by simp
  generalize w.alloc (.cells #[.int .i64 k, .int .i64 v, .string g, .int .i64 mx, .bool q, .int .i64 rob, .int .i64 ev, .slice p ss.length cp, .slice pr L.length cr] 28) = wa at B0 hsz ⊢
  have hlt := B0.out.lt
  have hb1 : Below wa.heap.size wa (wa.alloc (.cells #[.int .i64 0, .pointer none, .slice none 0 0] 46)) := (Below.refl _ wa).alloc (Nat.le_refl _) _
  have B1 := Lib.hid (B0.out.belowP hlt hb1)
  have HQ : MQ wa.heap.size true [] (wa.alloc (.cells #[.int .i64 0, .pointer none, .slice none 0 0] 46)) := ⟨[], Wm.Bld.fresh wa, fun _ => rfl⟩
  have WB := Lib.hid HQ
  clear hb1 HQ B0
  rw [hsz] at WB hlt
  generalize wa.alloc (.cells #[.int .i64 0, .pointer none, .slice none 0 0] 46) = wb at B1 WB ⊢
  clear hsz
  generalize w.heap.size + 1 = P at WB hlt ⊢
  have c0 := B1.out.cell 0 rfl
  have c1 := B1.out.cell 1 rfl
  have c2 := B1.out.cell 2 rfl
  have c3 := B1.out.cell 3 rfl
  have c4 := B1.out.cell 4 rfl
  have c5 := B1.out.cell 5 rfl
  have c6 := B1.out.cell 6 rfl
  have c7 := B1.out.cell 7 rfl
  have c8 := B1.out.cell 8 rfl
  go_wp2_with fail
  refine (HW.out _ _ WB.out B1.out.2 (Nat.le_of_lt hlt)).mono ?_
  rintro e w2 ⟨rfl, h1⟩
  obtain ⟨⟨l', hB, hl⟩, h2, -⟩ := h1
  have D2 := Lib.hid (B1.out.belowP hlt h2).2
  have HB := Lib.hid hB
  have HL := Lib.hid hl
  clear h2 hB hl c0 c1 c2 c3 c4 c5 c6 c7 c8 WB B1
  go_wp2_with fail
  refine (Wm.bstr_c _ _ l' w2 HB.out).mono ?_
  rintro e w3 ⟨rfl, hk, h3⟩
  obtain ⟨p0, v0, -, hb0, -⟩ := HB.out
  have C3 := Lib.hid (hk.trans hb0)
  have D3 := Lib.hid (D2.out.trans (h3.mono (Nat.le_of_lt hlt)))
  clear hk h3 HB D2 hb0
  have hz3 := lt_of_block C3.out
  have HA1 := Lib.hid (HAh.out (l'.length : Int))
  have HEr := Lib.hid (HAe.out (l'.length : Int))
  have HEz := HAz.out (l'.length : Int)
  have HSz : (⟨l'.toArray⟩ : ByteArray).size = l'.length := by rw [ByteArray.size_mk', List.size_toArray]
  obtain ⟨AE, hAE⟩ : ∃ AE, AE = (aheadI src dst (l'.length : Int)).2 := ⟨_, rfl⟩
  obtain ⟨AS, hAS⟩ : ∃ AS, AS = (aheadI src dst (l'.length : Int)).1 := ⟨_, rfl⟩
  rw [← hAE, ← hAS] at HA1
  rw [← hAE] at HEr
  rw [← hAS] at HEz
  have HK := Lib.hid fun U c => keepc P MD p0 v0 AE U c HEr.out
  -- what is to be answered
  have HNo := Lib.hid (show (MD && decide (AE = 0)) = false → ED = (⟨#[]⟩, 1) from fun h => by
    rw [HE.out, if_neg]
    rintro ⟨h1, h2⟩
    subst h1
    obtain rfl := HL.out rfl
    rw [hAE, h2] at h
    simp at h)
  have HYes := Lib.hid (show (MD && decide (AE = 0)) = true → ED = fillSpec AS ⟨l'.toArray⟩ 2 ∧ l'.length ≤ 40000 from fun h => by
    rw [Bool.and_eq_true, decide_eq_true_iff] at h
    obtain ⟨rfl, h2⟩ := h
    obtain rfl := HL.out rfl
    rw [hAE] at h2
    exact ⟨by rw [HE.out, if_pos ⟨rfl, h2⟩, hAS], (HLn.out rfl).2⟩)
  have HF := Lib.hid fun U (h : l'.length ≤ 40000) => fill_c AS ⟨l'.toArray⟩ 2 U (by omega) (by rw [HSz]; omega)
  generalize (⟨l'.toArray⟩ : ByteArray) = S at *
  clear HE HAh HAe HAz HLn HL HEz hAE hAS
  go_wp2_with fail
  ((with_reducible refine (HA1.out _).mono ?_); rintro e w4 ⟨rfl, h4⟩)
  have C4 := Lib.hid (below_block h4 hz3 C3.out)
  have D4 := Lib.hid (D3.out.trans (h4.mono D3.out.size))
  clear h4 C3 D3 HA1
  go_wp2_with fail
  refine (HK.out _ C4.out).mono ?_
  rintro e w5 ⟨rfl, C5', h5⟩
  have D5 := Lib.hid (D4.out.trans (h5.mono (Nat.le_of_lt hlt)))
  have C5 : w5.cell? ⟨P, 0, none⟩ = some (.int .i64 (okI (MD && decide (AE = 0)))) := cell_of_block C5' rfl
  clear h5 C4 D4 HK C5'
  generalize (MD && decide (AE = 0)) = fin at *
  cases fin
  · have V := HNo.out rfl
    subst V
    rw [show okI false = 1 from rfl] at C5
    clear HNo HYes
    go_wp2_with fail
    first
      | (go_ret2; first | exact ⟨rfl, D5.out⟩ | exact ⟨rfl, D5.out.drew⟩)
      | (go_region
         all_goals (go_wp2; go_ret2; first | exact ⟨rfl, D5.out⟩ | exact ⟨rfl, D5.out.drew⟩))
  · obtain ⟨rfl, hz⟩ := HYes.out rfl
    have HF1 := Lib.hid fun U => HF.out U hz
    rw [show okI true = 0 from rfl] at C5
    clear HNo HYes HF
    go_wp2_with fail
    ((with_reducible refine (HF1.out _).mono ?_); rintro e w6 ⟨rfl, h6⟩)
    go_wp2_with fail
    go_ret2
    exact ⟨rfl, D5.out.trans (h6.mono D5.out.size)⟩

end Go.Proofs.YtniahpbjfpmmhaaGreat
