/-
  Reading group messages of IPv6: whole messages. A contract over the translated program.
  Reading group messages of IPv6: Decode. A contract over the translated program.
-/
import Derived.Test.YtnfngmclomjimaaMdW
import Derived.Test.YtnfngmclomjimaaMdE
import Derived.Test.YtnfngmclomjimaaSumB
namespace Go.Proofs.Ytnfngmclomjimaa
open Go.RowKit
set_option linter.unusedVariables false

/-- A message whose sum is right. -/
def rdM (s : ByteArray) : Int × Msg :=
  if byt s 0 = 130 then qryD s else if byt s 0 = 131 then oneD s 2 else if byt s 0 = 132 then oneD s 3 else if byt s 0 = 143 then repD s else (3, zeroM)

/-- What was answered is handed on. -/
theorem rm_on {b : Nat} {s : ByteArray} {x : Int × Msg} {w W W' : World} {t : Int} {r : Ending} (h : RQ b w 0 s t W) (k : RMPost b s x W r W') :
    ∃ (m : Msg) (p : Option Addr) (n c : Nat) (p' : Option Addr) (n' c' : Nat) (t' : Int), r = .returned (m.val (.slice p n c) (.slice p' n' c')) ∧ RQ b w x.1 s t' W' ∧
      (x.1 = 0 → m = x.2 ∧ AddrsG (w.heap.size + 1) true W' (.slice p n c) m.srcs ∧ RecsG (w.heap.size + 1) true W' (.slice p' n' c') m.recs) := by
  obtain ⟨m, p, n, c, p', n', c', t', e1, e2, e3, e4⟩ := k
  have hlt : w.heap.size + 1 ≤ W.heap.size := lt_of_block h.2.1
  exact ⟨m, p, n, c, p', n', c', t', e1, h.then ⟨e2, e3⟩, fun h0 => ⟨(e4 h0).1, (e4 h0).2.1.mono hlt id, (e4 h0).2.2.mono hlt id⟩⟩
theorem rq_end {b : Nat} {s : ByteArray} {x : Int × Msg} {w W : World} {k v : Int} {g : ByteArray} {mx : Int} {q : Bool} {rob ev : Int} {p : Option Addr} {n c : Nat} {p' : Option Addr} {n' c' : Nat} {e : Int} {t : Int} {ss : List ByteArray} {rs : List Rec}
    (h : RQ b w e s t W) (he : e = x.1) (hm : x.1 = 0 → ⟨k, v, g, mx, q, rob, ev, ss, rs⟩ = x.2 ∧ AddrsG (w.heap.size + 1) true W (.slice p n c) ss ∧ RecsG (w.heap.size + 1) true W (.slice p' n' c') rs) :
    RMPost b s x w (.returned (.agg #[.int .i64 k, .int .i64 v, .string g, .int .i64 mx, .bool q, .int .i64 rob, .int .i64 ev, .slice p n c, .slice p' n' c'])) (((((((((W.setCell ⟨w.heap.size, 0, none⟩ (.int .i64 k)).setCell ⟨w.heap.size, 1, none⟩ (.int .i64 v)).setCell ⟨w.heap.size, 2, none⟩ (.string g)).setCell ⟨w.heap.size, 3, none⟩ (.int .i64 mx)).setCell ⟨w.heap.size, 4, none⟩ (.bool q)).setCell ⟨w.heap.size, 5, none⟩ (.int .i64 rob)).setCell ⟨w.heap.size, 6, none⟩ (.int .i64 ev)).setCell ⟨w.heap.size, 7, none⟩ (.slice p n c)).setCell ⟨w.heap.size, 8, none⟩ (.slice p' n' c')) := by
  obtain ⟨l1, l2⟩ := h.laid (.int .i64 k) (.int .i64 v) (.string g) (.int .i64 mx) (.bool q) (.int .i64 rob) (.int .i64 ev) (.slice p n c) (.slice p' n' c')
  by_cases h0 : x.1 = 0
  · obtain ⟨e1, e2, e3⟩ := hm h0
    exact ⟨⟨k, v, g, mx, q, rob, ev, ss, rs⟩, p, n, c, p', n', c', t, rfl, he ▸ l1, l2, fun _ => ⟨e1, e2.storeN9 w.heap.size (Nat.lt_succ_self _), e3.storeN9 w.heap.size (Nat.lt_succ_self _)⟩⟩
  · exact ⟨⟨k, v, g, mx, q, rob, ev, [], []⟩, p, n, c, p', n', c', t, rfl, he ▸ l1, l2, fun h => absurd h h0⟩

set_option maxHeartbeats 4000000 in
set_option maxRecDepth 100000 in
theorem messager (b : Nat) (s : ByteArray) (w : World) (h : RB b 0 s 0 w) (hs : s.size ≤ 281474976710000) (h8 : 8 ≤ s.size) :
    Calls Try.prog 17 #[.pointer (some ⟨b, 0, none⟩)] w (RMPost b s (rdM s) w) := by
  have H1 := Lib.hid fun U h => numr b 0 s 0 1 1 U h (by omega) (by omega) (by omega) (by omega) hs (by omega) rfl
  have hb0 : numv s 0 1 = (byt s 0 : Int) := by
    have := numv_byte s 0 (by omega)
    rw [byt_get s 0 (by omega)] at this
    exact this
  rw [hb0] at H1
  have HS := Lib.hid fun U h => skipr b 0 s 1 3 U h (by omega) (by omega) (by omega) (by omega)
  rw [show ((1 : Int) + 3) = 4 from rfl] at HS
  have Q := Lib.hid (RQ.start h)
  have V := Lib.hid (show rdM s = if byt s 0 = 130 then qryD s else if byt s 0 = 131 then oneD s 2 else if byt s 0 = 132 then oneD s 3 else if byt s 0 = 143 then repD s else (3, zeroM) from rfl)
  have HQ := Lib.hid fun U h => queryr b s U h hs h8
  have HO2 := Lib.hid fun U h => oner b s 2 U h hs
  have HO3 := Lib.hid fun U h => oner b s 3 U h hs
  have HR := Lib.hid fun U h => recordsr b s U h hs h8
  have HK := Lib.hid fun U h => keepr b 0 s 4 3 U h
  generalize rdM s = OD at *
  generalize qryD s = D1 at *
  generalize oneD s 2 = D2 at *
  generalize oneD s 3 = D3 at *
  generalize repD s = D4 at *
  clear h hb0 h8
  generalize byt s 0 = B0 at *
  by_cases n1 : B0 = 130
  · obtain ⟨a1, a2⟩ := eq_t (show (B0 : Int) = 130 by omega)
    rw [if_pos n1] at V
    clear n1 HO2 HO3 HR HK
    go_enter Try.func17, Try.ntmps17
    go_wp2_with fail
    refine (H1.out _ Q.out.1).mono ?_
    rintro r w1 ⟨rfl, h1⟩
    replace Q := Lib.hid (Q.out.then h1)
    clear h1
    go_wp2_with fail
    refine (HS.out _ Q.out.1).mono ?_
    rintro r w2 ⟨rfl, h1⟩
    replace Q := Lib.hid (Q.out.then h1)
    clear h1
    go_wp2_with fail
    refine (HQ.out _ Q.out.1).mono ?_
    intro r w3 h3
    obtain ⟨m, p, n, c, p', n', c', t', rfl, hq, hm⟩ := rm_on Q.out h3
    have Q3 := Lib.hid hq
    have M3 := Lib.hid hm
    clear h3 hq hm Q
    obtain ⟨k, v, g, mx, q, rob, ev, ss, rs⟩ := m
    simp only [Msg.val] at *
    have r0 := Q3.out.cell 0 rfl
    have r1 := Q3.out.cell 1 rfl
    have r2 := Q3.out.cell 2 rfl
    have r3 := Q3.out.cell 3 rfl
    have r4 := Q3.out.cell 4 rfl
    have r5 := Q3.out.cell 5 rfl
    have r6 := Q3.out.cell 6 rfl
    have r7 := Q3.out.cell 7 rfl
    have r8 := Q3.out.cell 8 rfl
    have g0 := Q3.out.free 0
    have g1 := Q3.out.free 1
    have g2 := Q3.out.free 2
    have g3 := Q3.out.free 3
    have g4 := Q3.out.free 4
    have g5 := Q3.out.free 5
    have g6 := Q3.out.free 6
    have g7 := Q3.out.free 7
    have g8 := Q3.out.free 8
    go_wp2
    refine bodyPost_ret (v := .agg #[.int .i64 k, .int .i64 v, .string g, .int .i64 mx, .bool q, .int .i64 rob, .int .i64 ev, .slice p n c, .slice p' n' c']) (by simp [results, Try.results17, go_sem, r0, r1, r2, r3, r4, r5, r6, r7, r8]) rfl ?_
    rw [V.out]
    exact rq_end Q3.out rfl M3.out
  · obtain ⟨a1, a2⟩ := ne_t (show (B0 : Int) ≠ 130 by omega)
    rw [if_neg n1] at V
    by_cases n2 : B0 = 131
    · obtain ⟨b1, b2⟩ := eq_t (show (B0 : Int) = 131 by omega)
      rw [if_pos n2] at V
      clear n1 n2 HQ HO3 HR HK
      go_enter Try.func17, Try.ntmps17
      go_wp2_with fail
      refine (H1.out _ Q.out.1).mono ?_
      rintro r w1 ⟨rfl, h1⟩
      replace Q := Lib.hid (Q.out.then h1)
      clear h1
      go_wp2_with fail
      refine (HS.out _ Q.out.1).mono ?_
      rintro r w2 ⟨rfl, h1⟩
      replace Q := Lib.hid (Q.out.then h1)
      clear h1
      go_wp2_with fail
      refine (HO2.out _ Q.out.1).mono ?_
      intro r w3 h3
      obtain ⟨m, p, n, c, p', n', c', t', rfl, hq, hm⟩ := rm_on Q.out h3
      have Q3 := Lib.hid hq
      have M3 := Lib.hid hm
      clear h3 hq hm Q
      obtain ⟨k, v, g, mx, q, rob, ev, ss, rs⟩ := m
      simp only [Msg.val] at *
      have r0 := Q3.out.cell 0 rfl
      have r1 := Q3.out.cell 1 rfl
      have r2 := Q3.out.cell 2 rfl
      have r3 := Q3.out.cell 3 rfl
      have r4 := Q3.out.cell 4 rfl
      have r5 := Q3.out.cell 5 rfl
      have r6 := Q3.out.cell 6 rfl
      have r7 := Q3.out.cell 7 rfl
      have r8 := Q3.out.cell 8 rfl
      have g0 := Q3.out.free 0
      have g1 := Q3.out.free 1
      have g2 := Q3.out.free 2
      have g3 := Q3.out.free 3
      have g4 := Q3.out.free 4
      have g5 := Q3.out.free 5
      have g6 := Q3.out.free 6
      have g7 := Q3.out.free 7
      have g8 := Q3.out.free 8
      go_wp2
      refine bodyPost_ret (v := .agg #[.int .i64 k, .int .i64 v, .string g, .int .i64 mx, .bool q, .int .i64 rob, .int .i64 ev, .slice p n c, .slice p' n' c']) (by simp [results, Try.results17, go_sem, r0, r1, r2, r3, r4, r5, r6, r7, r8]) rfl ?_
      rw [V.out]
      exact rq_end Q3.out rfl M3.out
    · obtain ⟨b1, b2⟩ := ne_t (show (B0 : Int) ≠ 131 by omega)
      rw [if_neg n2] at V
      by_cases n3 : B0 = 132
      · obtain ⟨d1, d2⟩ := eq_t (show (B0 : Int) = 132 by omega)
        rw [if_pos n3] at V
        clear n1 n2 n3 HQ HO2 HR HK
        go_enter Try.func17, Try.ntmps17
        go_wp2_with fail
        refine (H1.out _ Q.out.1).mono ?_
        rintro r w1 ⟨rfl, h1⟩
        replace Q := Lib.hid (Q.out.then h1)
        clear h1
        go_wp2_with fail
        refine (HS.out _ Q.out.1).mono ?_
        rintro r w2 ⟨rfl, h1⟩
        replace Q := Lib.hid (Q.out.then h1)
        clear h1
        go_wp2_with fail
        refine (HO3.out _ Q.out.1).mono ?_
        intro r w3 h3
        obtain ⟨m, p, n, c, p', n', c', t', rfl, hq, hm⟩ := rm_on Q.out h3
        have Q3 := Lib.hid hq
        have M3 := Lib.hid hm
        clear h3 hq hm Q
        obtain ⟨k, v, g, mx, q, rob, ev, ss, rs⟩ := m
        simp only [Msg.val] at *
        have r0 := Q3.out.cell 0 rfl
        have r1 := Q3.out.cell 1 rfl
        have r2 := Q3.out.cell 2 rfl
        have r3 := Q3.out.cell 3 rfl
        have r4 := Q3.out.cell 4 rfl
        have r5 := Q3.out.cell 5 rfl
        have r6 := Q3.out.cell 6 rfl
        have r7 := Q3.out.cell 7 rfl
        have r8 := Q3.out.cell 8 rfl
        have g0 := Q3.out.free 0
        have g1 := Q3.out.free 1
        have g2 := Q3.out.free 2
        have g3 := Q3.out.free 3
        have g4 := Q3.out.free 4
        have g5 := Q3.out.free 5
        have g6 := Q3.out.free 6
        have g7 := Q3.out.free 7
        have g8 := Q3.out.free 8
        go_wp2
        refine bodyPost_ret (v := .agg #[.int .i64 k, .int .i64 v, .string g, .int .i64 mx, .bool q, .int .i64 rob, .int .i64 ev, .slice p n c, .slice p' n' c']) (by simp [results, Try.results17, go_sem, r0, r1, r2, r3, r4, r5, r6, r7, r8]) rfl ?_
        rw [V.out]
        exact rq_end Q3.out rfl M3.out
      · obtain ⟨d1, d2⟩ := ne_t (show (B0 : Int) ≠ 132 by omega)
        rw [if_neg n3] at V
        by_cases n4 : B0 = 143
        · obtain ⟨e1, e2⟩ := eq_t (show (B0 : Int) = 143 by omega)
          rw [if_pos n4] at V
          clear n1 n2 n3 n4 HQ HO2 HO3 HK
          go_enter Try.func17, Try.ntmps17
          go_wp2_with fail
          refine (H1.out _ Q.out.1).mono ?_
          rintro r w1 ⟨rfl, h1⟩
          replace Q := Lib.hid (Q.out.then h1)
          clear h1
          go_wp2_with fail
          refine (HS.out _ Q.out.1).mono ?_
          rintro r w2 ⟨rfl, h1⟩
          replace Q := Lib.hid (Q.out.then h1)
          clear h1
          go_wp2_with fail
          refine (HR.out _ Q.out.1).mono ?_
          intro r w3 h3
          obtain ⟨m, p, n, c, p', n', c', t', rfl, hq, hm⟩ := rm_on Q.out h3
          have Q3 := Lib.hid hq
          have M3 := Lib.hid hm
          clear h3 hq hm Q
          obtain ⟨k, v, g, mx, q, rob, ev, ss, rs⟩ := m
          simp only [Msg.val] at *
          have r0 := Q3.out.cell 0 rfl
          have r1 := Q3.out.cell 1 rfl
          have r2 := Q3.out.cell 2 rfl
          have r3 := Q3.out.cell 3 rfl
          have r4 := Q3.out.cell 4 rfl
          have r5 := Q3.out.cell 5 rfl
          have r6 := Q3.out.cell 6 rfl
          have r7 := Q3.out.cell 7 rfl
          have r8 := Q3.out.cell 8 rfl
          have g0 := Q3.out.free 0
          have g1 := Q3.out.free 1
          have g2 := Q3.out.free 2
          have g3 := Q3.out.free 3
          have g4 := Q3.out.free 4
          have g5 := Q3.out.free 5
          have g6 := Q3.out.free 6
          have g7 := Q3.out.free 7
          have g8 := Q3.out.free 8
          go_wp2
          refine bodyPost_ret (v := .agg #[.int .i64 k, .int .i64 v, .string g, .int .i64 mx, .bool q, .int .i64 rob, .int .i64 ev, .slice p n c, .slice p' n' c']) (by simp [results, Try.results17, go_sem, r0, r1, r2, r3, r4, r5, r6, r7, r8]) rfl ?_
          rw [V.out]
          exact rq_end Q3.out rfl M3.out
        · obtain ⟨e1, e2⟩ := ne_t (show (B0 : Int) ≠ 143 by omega)
          rw [if_neg n4] at V
          clear n1 n2 n3 n4 HQ HO2 HO3 HR
          go_enter Try.func17, Try.ntmps17
          go_wp2_with fail
          refine (H1.out _ Q.out.1).mono ?_
          rintro r w1 ⟨rfl, h1⟩
          replace Q := Lib.hid (Q.out.then h1)
          clear h1
          go_wp2_with fail
          refine (HS.out _ Q.out.1).mono ?_
          rintro r w2 ⟨rfl, h1⟩
          replace Q := Lib.hid (Q.out.then h1)
          clear h1
          go_wp2_with fail
          refine (HK.out _ Q.out.1).mono ?_
          rintro r w3 ⟨rfl, h1⟩
          have Q3 := Lib.hid (Q.out.then h1)
          clear h1 Q
          have r0 := Q3.out.cell 0 rfl
          have r1 := Q3.out.cell 1 rfl
          have r2 := Q3.out.cell 2 rfl
          have r3 := Q3.out.cell 3 rfl
          have r4 := Q3.out.cell 4 rfl
          have r5 := Q3.out.cell 5 rfl
          have r6 := Q3.out.cell 6 rfl
          have r7 := Q3.out.cell 7 rfl
          have r8 := Q3.out.cell 8 rfl
          have g0 := Q3.out.free 0
          have g1 := Q3.out.free 1
          have g2 := Q3.out.free 2
          have g3 := Q3.out.free 3
          have g4 := Q3.out.free 4
          have g5 := Q3.out.free 5
          have g6 := Q3.out.free 6
          have g7 := Q3.out.free 7
          have g8 := Q3.out.free 8
          go_wp2
          refine bodyPost_ret (v := .agg #[.int .i64 0, .int .i64 0, .string ⟨#[]⟩, .int .i64 0, .bool false, .int .i64 0, .int .i64 0, .slice none 0 0, .slice none 0 0]) (by simp [results, Try.results17, go_sem, r0, r1, r2, r3, r4, r5, r6, r7, r8]) rfl ?_
          rw [V.out]
          exact rq_end (ss := []) (rs := []) Q3.out rfl (fun h => absurd h (by decide))

/-- What Decode answers. -/
def fixD (t : Int × Msg) : Int × Msg := if t.1 ≠ 0 then (t.1, zeroM) else (0, t.2)
def decD (src dst s : ByteArray) : Int × Msg :=
  if (aheadI src dst s.size).2 ≠ 0 then ((aheadI src dst s.size).2, zeroM)
  else if s.size < 8 then (2, zeroM)
  else if sumN ((aheadI src dst s.size).1 ++ s).data.toList ≠ 0 then (4, zeroM)
  else fixD (rdM s)

theorem Box.grownR {w0 w w' : World} {xs : Array Value} {t : TypeId} {b : Nat} (h : Box w0 w xs t) (k : w.grownBy w' (some b)) (hb : w0.heap.size < b) : Box w0 w' xs t :=
  ⟨(k.block _ (lt_of_block h.1) (by simp; omega)).trans h.1, ⟨k.os.trans h.2.os, k.tape.trans h.2.tape, k.output.trans h.2.output, Nat.le_trans h.2.size k.size, fun j hj => (k.block j (by have := h.2.size; omega) (by simp; omega)).trans (h.2.block j hj)⟩⟩

/-- The answer's block, the reader, and the message. -/
def DB (w : World) (b P : Nat) (xs : Array Value) (e : Int) (s : ByteArray) (t : Int) (W : World) : Prop :=
  Box w W #[.int .i64 0, .int .i64 0, .string ⟨#[]⟩, .int .i64 0, .bool false, .int .i64 0, .int .i64 0, .slice none 0 0, .slice none 0 0] 28 ∧ RB b e s t W ∧ W.heap[P]? = some (.cells xs 28 (0, 0)) ∧ w.heap.size < P ∧ w.heap.size < b
theorem DB.drew {w : World} {b P : Nat} {xs : Array Value} {e : Int} {s : ByteArray} {t : Int} {W : World} (h : DB w b P xs e s t W) : DB w b P xs e s t W.drew := ⟨⟨h.1.1, h.1.2.drew⟩, h.2.1, h.2.2⟩

set_option maxHeartbeats 4000000 in
set_option maxRecDepth 100000 in
theorem mdec_c (src dst s : ByteArray) (w : World) (hs : s.size ≤ 281474976710000) :
    Calls Try.prog 9 #[.string src, .string dst, .string s] w (MsgPost (decD src dst s) w) := by
  have HA := Lib.hid fun U => ahead_c src dst s.size U
  have hz := ahead_size src dst s.size
  have V0 := Lib.hid (show decD src dst s = if (aheadI src dst s.size).2 ≠ 0 then ((aheadI src dst s.size).2, zeroM) else if s.size < 8 then (2, zeroM) else if sumN ((aheadI src dst s.size).1 ++ s).data.toList ≠ 0 then (4, zeroM) else fixD (rdM s) from rfl)
  generalize decD src dst s = OD at *
  generalize (aheadI src dst s.size).1 = A1 at *
  generalize (aheadI src dst s.size).2 = A2 at *
  by_cases h2 : A2 = 0
  · subst h2
    rw [if_neg (by simp)] at V0
    by_cases h8 : s.size < 8
    · have V := Lib.hid (V0.out.trans (if_pos h8))
      have h8' : (s.size : Int) < 8 := by omega
      clear h8 V0 hz
      go_enter Try.func9, Try.ntmps9
      go_wp2_with fail
      ((with_reducible refine (HA.out _).mono ?_); rintro r w1 ⟨rfl, h1⟩)
      have B := Lib.hid ((Box.start w _ _).below h1)
      clear h1
      have c0 := B.out.cell 0 rfl
      have c1 := B.out.cell 1 rfl
      have c2 := B.out.cell 2 rfl
      have c3 := B.out.cell 3 rfl
      have c4 := B.out.cell 4 rfl
      have c5 := B.out.cell 5 rfl
      have c6 := B.out.cell 6 rfl
      have c7 := B.out.cell 7 rfl
      have c8 := B.out.cell 8 rfl
      have g0 := B.out.free 0
      have g1 := B.out.free 1
      have g2 := B.out.free 2
      have g3 := B.out.free 3
      have g4 := B.out.free 4
      have g5 := B.out.free 5
      have g6 := B.out.free 6
      have g7 := B.out.free 7
      have g8 := B.out.free 8
      go_wp2_with fail
      refine bodyPost_ret (v := .tuple #[.agg #[.int .i64 0, .int .i64 0, .string ⟨#[]⟩, .int .i64 0, .bool false, .int .i64 0, .int .i64 0, .slice none 0 0, .slice none 0 0], .int .i64 2]) (by simp [results, Try.results9, go_sem, c0, c1, c2, c3, c4, c5, c6, c7, c8]) rfl (MsgPost.bad V.out rfl ?_)
      exact (((((((((B.out.2.setCell (p := ⟨w.heap.size, 0, none⟩) (Nat.le_refl _) _).setCell (p := ⟨w.heap.size, 1, none⟩) (Nat.le_refl _) _).setCell (p := ⟨w.heap.size, 2, none⟩) (Nat.le_refl _) _).setCell (p := ⟨w.heap.size, 3, none⟩) (Nat.le_refl _) _).setCell (p := ⟨w.heap.size, 4, none⟩) (Nat.le_refl _) _).setCell (p := ⟨w.heap.size, 5, none⟩) (Nat.le_refl _) _).setCell (p := ⟨w.heap.size, 6, none⟩) (Nat.le_refl _) _).setCell (p := ⟨w.heap.size, 7, none⟩) (Nat.le_refl _) _).setCell (p := ⟨w.heap.size, 8, none⟩) (Nat.le_refl _) _)
    · have V1 := Lib.hid (V0.out.trans (if_neg h8))
      have h8' : ¬ (s.size : Int) < 8 := by omega
      have hn : ¬ (9223372036854775807 < A1.size + s.size) := by omega
      have HR := Lib.hid fun U => right_c (A1 ++ s) U (by rw [ByteArray.size_append]; omega)
      obtain ⟨X, hX⟩ : ∃ X, A1 ++ s = X := ⟨_, rfl⟩
      rw [hX] at V1 HR
      by_cases hq : sumN X.data.toList = 0
      · have V := Lib.hid (V1.out.trans (if_neg fun h => h hq))
        rw [show ((sumN X.data.toList : Int) == 0) = true from by rw [hq]; rfl] at HR
        have HM := Lib.hid fun b U h => messager b s U h hs (by omega)
        clear hq V0 V1 h8 hz
        generalize rdM s = RD at *
        go_enter Try.func9, Try.ntmps9
        go_wp2_with fail
        ((with_reducible refine (HA.out _).mono ?_); rintro r w1 ⟨rfl, h1⟩)
        have B := Lib.hid ((Box.start w _ _).below h1)
        clear h1
        go_wp2_with fail
        ((with_reducible refine (HR.out _).mono ?_); rintro r w2 ⟨rfl, h2⟩)
        replace B := Lib.hid (B.out.below h2)
        clear h2
        go_upto_region 9 with fail
        have hRB : RB w2.heap.size 0 s 0 (w2.alloc (.cells #[.int .i64 0, .string s, .int .i64 0] 57)) := heap_new _ _
        have hBx := B.out.below ((Below.refl _ w2).alloc (Nat.le_refl _) (.cells #[.int .i64 0, .string s, .int .i64 0] 57))
        have hbw : w.heap.size < w2.heap.size := B.out.lt
        have HRB := Lib.hid hRB
        replace B := Lib.hid hBx
        clear hRB hBx
        generalize w2.alloc (.cells #[.int .i64 0, .string s, .int .i64 0] 57) = W2 at HRB B ⊢
        generalize w2.heap.size = b at HRB hbw ⊢
        go_wp2_with fail
        refine (HM.out b W2 HRB.out).mono ?_
        rintro r w3 ⟨m, p, n, c, p', n', c', t', rfl, hrb, hg, hm⟩
        replace B := Lib.hid (B.out.grownR hg hbw)
        have hlt2 : w.heap.size + 1 ≤ W2.heap.size := by have := HRB.out.lt; omega
        have HM3 := Lib.hid fun h0 => (⟨(hm h0).1, (hm h0).2.1.mono hlt2 id, (hm h0).2.2.mono hlt2 id⟩ : m = RD.2 ∧ AddrsG (w.heap.size + 1) true w3 (.slice p n c) m.srcs ∧ RecsG (w.heap.size + 1) true w3 (.slice p' n' c') m.recs)
        have HRB3 := Lib.hid hrb
        clear hrb hg hm hlt2 HRB HM
        obtain ⟨k, v, g, mx, q, rob, ev, ss, rs⟩ := m
        simp only [Msg.val] at *
        go_upto_region 10 with fail
        have hal := (Below.refl w3.heap.size w3).alloc (Nat.le_refl _) (.cells #[.int .i64 k, .int .i64 v, .string g, .int .i64 mx, .bool q, .int .i64 rob, .int .i64 ev, .slice p n c, .slice p' n' c'] 28)
        have hD : DB w b w3.heap.size #[.int .i64 k, .int .i64 v, .string g, .int .i64 mx, .bool q, .int .i64 rob, .int .i64 ev, .slice p n c, .slice p' n' c'] RD.1 s t' (w3.alloc (.cells #[.int .i64 k, .int .i64 v, .string g, .int .i64 mx, .bool q, .int .i64 rob, .int .i64 ev, .slice p n c, .slice p' n' c'] 28)) :=
          ⟨B.out.below hal, HRB3.out.below hal, heap_new _ _, B.out.lt, hbw⟩
        have D := Lib.hid hD
        have M4 := Lib.hid fun h0 => (⟨(HM3.out h0).1, (HM3.out h0).2.1.below hal, (HM3.out h0).2.2.below hal⟩ : (⟨k, v, g, mx, q, rob, ev, ss, rs⟩ : Msg) = RD.2 ∧ AddrsG (w.heap.size + 1) true _ (.slice p n c) ss ∧ RecsG (w.heap.size + 1) true _ (.slice p' n' c') rs)
        clear hal hD B HRB3 HM3
        generalize w3.alloc (.cells #[.int .i64 k, .int .i64 v, .string g, .int .i64 mx, .bool q, .int .i64 rob, .int .i64 ev, .slice p n c, .slice p' n' c'] 28) = W3 at D M4 ⊢
        generalize w3.heap.size = P at D ⊢
        have x0 := D.out.2.1.cells.1
        have hNP : w.heap.size ≠ P := by have := D.out.2.2.2.1; omega
        have m0 : W3.cell? ⟨P, 0, none⟩ = some _ := cell_of_block D.out.2.2.1 rfl
        have m1 : W3.cell? ⟨P, 1, none⟩ = some _ := cell_of_block D.out.2.2.1 rfl
        have m2 : W3.cell? ⟨P, 2, none⟩ = some _ := cell_of_block D.out.2.2.1 rfl
        have m3 : W3.cell? ⟨P, 3, none⟩ = some _ := cell_of_block D.out.2.2.1 rfl
        have m4 : W3.cell? ⟨P, 4, none⟩ = some _ := cell_of_block D.out.2.2.1 rfl
        have m5 : W3.cell? ⟨P, 5, none⟩ = some _ := cell_of_block D.out.2.2.1 rfl
        have m6 : W3.cell? ⟨P, 6, none⟩ = some _ := cell_of_block D.out.2.2.1 rfl
        have m7 : W3.cell? ⟨P, 7, none⟩ = some _ := cell_of_block D.out.2.2.1 rfl
        have m8 : W3.cell? ⟨P, 8, none⟩ = some _ := cell_of_block D.out.2.2.1 rfl
        have c0 := D.out.1.cell 0 rfl
        have c1 := D.out.1.cell 1 rfl
        have c2 := D.out.1.cell 2 rfl
        have c3 := D.out.1.cell 3 rfl
        have c4 := D.out.1.cell 4 rfl
        have c5 := D.out.1.cell 5 rfl
        have c6 := D.out.1.cell 6 rfl
        have c7 := D.out.1.cell 7 rfl
        have c8 := D.out.1.cell 8 rfl
        have g0 := D.out.1.free 0
        have g1 := D.out.1.free 1
        have g2 := D.out.1.free 2
        have g3 := D.out.1.free 3
        have g4 := D.out.1.free 4
        have g5 := D.out.1.free 5
        have g6 := D.out.1.free 6
        have g7 := D.out.1.free 7
        have g8 := D.out.1.free 8
        by_cases h0 : RD.1 = 0
        · have hx : RD.1 = 0 := h0
          rw [hx] at x0
          obtain ⟨M1, M2, M3⟩ := M4.out hx
          have HS := Lib.hid M2
          have HR2 := Lib.hid M3
          have VV := Lib.hid (show OD = (0, ⟨k, v, g, mx, q, rob, ev, ss, rs⟩) by rw [V.out]; unfold fixD; rw [if_neg (fun h => h hx), ← M1])
          clear M1 M2 M3 M4 V h0 hx
          go_wp2
          refine bodyPost_ret (v := .tuple #[.agg #[.int .i64 k, .int .i64 v, .string g, .int .i64 mx, .bool q, .int .i64 rob, .int .i64 ev, .slice p n c, .slice p' n' c'], .int .i64 0]) (by simp [results, Try.results9, go_sem, c0, c1, c2, c3, c4, c5, c6, c7, c8]) rfl ?_
          unfold MsgPost
          rw [VV.out]
          exact ⟨_, _, rfl, HS.out.storeN9 w.heap.size (Nat.lt_succ_self _), HR2.out.storeN9 w.heap.size (Nat.lt_succ_self _), (((((((((D.out.1.2.setCell (p := ⟨w.heap.size, 0, none⟩) (Nat.le_refl _) _).setCell (p := ⟨w.heap.size, 1, none⟩) (Nat.le_refl _) _).setCell (p := ⟨w.heap.size, 2, none⟩) (Nat.le_refl _) _).setCell (p := ⟨w.heap.size, 3, none⟩) (Nat.le_refl _) _).setCell (p := ⟨w.heap.size, 4, none⟩) (Nat.le_refl _) _).setCell (p := ⟨w.heap.size, 5, none⟩) (Nat.le_refl _) _).setCell (p := ⟨w.heap.size, 6, none⟩) (Nat.le_refl _) _).setCell (p := ⟨w.heap.size, 7, none⟩) (Nat.le_refl _) _).setCell (p := ⟨w.heap.size, 8, none⟩) (Nat.le_refl _) _)⟩
        · obtain ⟨y1, y2⟩ := ne_t h0
          have VV := Lib.hid (show OD = (RD.1, zeroM) by rw [V.out]; unfold fixD; rw [if_pos h0])
          generalize RD.1 = RE at *
          clear h0 M4 V m0 m1 m2 m3 m4 m5 m6 m7 m8
          go_wp2_with fail
          go_region
          all_goals
            go_wp2
            refine bodyPost_ret (v := .tuple #[.agg #[.int .i64 0, .int .i64 0, .string ⟨#[]⟩, .int .i64 0, .bool false, .int .i64 0, .int .i64 0, .slice none 0 0, .slice none 0 0], .int .i64 RE]) (by simp [results, Try.results9, go_sem, c0, c1, c2, c3, c4, c5, c6, c7, c8]) rfl (MsgPost.bad VV.out rfl ?_)
            exact ((((((((((D.out.1.2.setCell (p := ⟨w.heap.size, 0, none⟩) (Nat.le_refl _) _).setCell (p := ⟨w.heap.size, 1, none⟩) (Nat.le_refl _) _).setCell (p := ⟨w.heap.size, 2, none⟩) (Nat.le_refl _) _).setCell (p := ⟨w.heap.size, 3, none⟩) (Nat.le_refl _) _).setCell (p := ⟨w.heap.size, 4, none⟩) (Nat.le_refl _) _).setCell (p := ⟨w.heap.size, 5, none⟩) (Nat.le_refl _) _).setCell (p := ⟨w.heap.size, 6, none⟩) (Nat.le_refl _) _).setCell (p := ⟨w.heap.size, 7, none⟩) (Nat.le_refl _) _).setCell (p := ⟨w.heap.size, 8, none⟩) (Nat.le_refl _) _)).drew
      · have V := Lib.hid (V1.out.trans (if_pos hq))
        rw [show ((sumN X.data.toList : Int) == 0) = false from by simp; omega] at HR
        clear hq V0 V1 h8 hz
        go_enter Try.func9, Try.ntmps9
        go_wp2_with fail
        ((with_reducible refine (HA.out _).mono ?_); rintro r w1 ⟨rfl, h1⟩)
        have B := Lib.hid ((Box.start w _ _).below h1)
        clear h1
        go_wp2_with fail
        ((with_reducible refine (HR.out _).mono ?_); rintro r w2 ⟨rfl, h2⟩)
        replace B := Lib.hid (B.out.below h2)
        clear h2
        have c0 := B.out.cell 0 rfl
        have c1 := B.out.cell 1 rfl
        have c2 := B.out.cell 2 rfl
        have c3 := B.out.cell 3 rfl
        have c4 := B.out.cell 4 rfl
        have c5 := B.out.cell 5 rfl
        have c6 := B.out.cell 6 rfl
        have c7 := B.out.cell 7 rfl
        have c8 := B.out.cell 8 rfl
        have g0 := B.out.free 0
        have g1 := B.out.free 1
        have g2 := B.out.free 2
        have g3 := B.out.free 3
        have g4 := B.out.free 4
        have g5 := B.out.free 5
        have g6 := B.out.free 6
        have g7 := B.out.free 7
        have g8 := B.out.free 8
        go_wp2_with fail
        refine bodyPost_ret (v := .tuple #[.agg #[.int .i64 0, .int .i64 0, .string ⟨#[]⟩, .int .i64 0, .bool false, .int .i64 0, .int .i64 0, .slice none 0 0, .slice none 0 0], .int .i64 4]) (by simp [results, Try.results9, go_sem, c0, c1, c2, c3, c4, c5, c6, c7, c8]) rfl (MsgPost.bad V.out rfl ?_)
        exact (((((((((B.out.2.setCell (p := ⟨w.heap.size, 0, none⟩) (Nat.le_refl _) _).setCell (p := ⟨w.heap.size, 1, none⟩) (Nat.le_refl _) _).setCell (p := ⟨w.heap.size, 2, none⟩) (Nat.le_refl _) _).setCell (p := ⟨w.heap.size, 3, none⟩) (Nat.le_refl _) _).setCell (p := ⟨w.heap.size, 4, none⟩) (Nat.le_refl _) _).setCell (p := ⟨w.heap.size, 5, none⟩) (Nat.le_refl _) _).setCell (p := ⟨w.heap.size, 6, none⟩) (Nat.le_refl _) _).setCell (p := ⟨w.heap.size, 7, none⟩) (Nat.le_refl _) _).setCell (p := ⟨w.heap.size, 8, none⟩) (Nat.le_refl _) _)
  · have V := Lib.hid (V0.out.trans (if_pos h2))
    obtain ⟨a1, a2⟩ := ne_t h2
    clear h2 V0 hz
    go_enter Try.func9, Try.ntmps9
    go_wp2_with fail
    ((with_reducible refine (HA.out _).mono ?_); rintro r w1 ⟨rfl, h1⟩)
    have B := Lib.hid ((Box.start w _ _).below h1)
    clear h1
    have c0 := B.out.cell 0 rfl
    have c1 := B.out.cell 1 rfl
    have c2 := B.out.cell 2 rfl
    have c3 := B.out.cell 3 rfl
    have c4 := B.out.cell 4 rfl
    have c5 := B.out.cell 5 rfl
    have c6 := B.out.cell 6 rfl
    have c7 := B.out.cell 7 rfl
    have c8 := B.out.cell 8 rfl
    have g0 := B.out.free 0
    have g1 := B.out.free 1
    have g2 := B.out.free 2
    have g3 := B.out.free 3
    have g4 := B.out.free 4
    have g5 := B.out.free 5
    have g6 := B.out.free 6
    have g7 := B.out.free 7
    have g8 := B.out.free 8
    go_wp2_with fail
    refine bodyPost_ret (v := .tuple #[.agg #[.int .i64 0, .int .i64 0, .string ⟨#[]⟩, .int .i64 0, .bool false, .int .i64 0, .int .i64 0, .slice none 0 0, .slice none 0 0], .int .i64 A2]) (by simp [results, Try.results9, go_sem, c0, c1, c2, c3, c4, c5, c6, c7, c8]) rfl (MsgPost.bad V.out rfl ?_)
    exact (((((((((B.out.2.setCell (p := ⟨w.heap.size, 0, none⟩) (Nat.le_refl _) _).setCell (p := ⟨w.heap.size, 1, none⟩) (Nat.le_refl _) _).setCell (p := ⟨w.heap.size, 2, none⟩) (Nat.le_refl _) _).setCell (p := ⟨w.heap.size, 3, none⟩) (Nat.le_refl _) _).setCell (p := ⟨w.heap.size, 4, none⟩) (Nat.le_refl _) _).setCell (p := ⟨w.heap.size, 5, none⟩) (Nat.le_refl _) _).setCell (p := ⟨w.heap.size, 6, none⟩) (Nat.le_refl _) _).setCell (p := ⟨w.heap.size, 7, none⟩) (Nat.le_refl _) _).setCell (p := ⟨w.heap.size, 8, none⟩) (Nat.le_refl _) _)

end Go.Proofs.Ytnfngmclomjimaa
