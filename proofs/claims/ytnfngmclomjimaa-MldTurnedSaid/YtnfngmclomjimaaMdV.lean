/-
  Reading group messages of IPv6: queries and reports of version 2. Contracts over the translated program.
-/
import Derived.Test.YtnfngmclomjimaaMdT
import Derived.WalkSpells
namespace Go.Proofs.Ytnfngmclomjimaa
open Go.RowKit
set_option linter.unusedVariables false

def none6 : ByteArray := ⟨#[0, 0, 0, 0, 0, 0, 0, 0, 0, 0, 0, 0, 0, 0, 0, 0]⟩
/-- Group of a query. -/
def grpQ (s : ByteArray) : ByteArray := if s.extract 8 24 = none6 then ⟨#[]⟩ else s.extract 8 24
/-- A query, at the bytes behind the head. -/
def qryD (s : ByteArray) : Int × Msg :=
  if s.size < 24 then (2, zeroM)
  else if s.size = 24 then (if qGrp6 (grpQ s) 0 then (0, ⟨1, 1, grpQ s, numv s 4 2, false, 0, 0, [], []⟩) else (3, zeroM))
  else if dtE s ≠ 0 then (dtE s, zeroM)
  else if qGrp6 (grpQ s) (numv s 26 2).toNat then
    (0, ⟨1, 2, grpQ s, (decI 12 (numv s 4 2)).1, decide (byt s 24 / 8 % 2 = 1), ((byt s 24 % 8 : Nat) : Int), (decI 4 (byt s 25)).1, addrsL s 28 (numv s 26 2).toNat 16, []⟩)
  else (3, zeroM)

theorem RP.det {b P : Nat} {w W W' : World} {xs xs' : Array Value} {e e' : Int} {s : ByteArray} {t t' : Int} (h : RP b w P xs e s t W) (k : DS b P W xs' e' s t' W') : RP b w P xs' e' s t' W' := by
  have h1 := h.1.2.2.2
  have h2 := h.2.2
  refine ⟨⟨k.1, (k.2.2.1.2.2.2.2 _ (lt_of_block h.1.2.1) (by omega) (by omega)).trans h.1.2.1, ?_, h1⟩, k.2.1, h2⟩
  obtain ⟨q1, q2, q3, q4, q5⟩ := k.2.2.1
  have hb := h.1.2.2.1
  exact ⟨q1.trans hb.os, q2.trans hb.tape, q3.trans hb.output, Nat.le_trans hb.size q4, fun j hj hjb => (q5 j (by have := hb.size; omega) (by simp at hjb; omega) (by omega)).trans (hb.block j hj hjb)⟩

/-- The end of a query's reading: its group is looked at, and the message handed back. -/
theorem rm_end {b : Nat} {s : ByteArray} {x : Int × Msg} {w W : World} {P : Nat} {k v : Int} {g : ByteArray} {mx : Int} {q : Bool} {rob ev : Int} {p : Option Addr} {n c : Nat} {p' : Option Addr} {n' c' : Nat} {e : Int} {t : Int} {xs : Array Value}
    (h : RP b w P xs e s t W) (he : e = x.1) (hm : x.1 = 0 → ∃ ss rs, ⟨k, v, g, mx, q, rob, ev, ss, rs⟩ = x.2 ∧ AddrsG (w.heap.size + 1) true W (.slice p n c) ss ∧ RecsG (w.heap.size + 1) true W (.slice p' n' c') rs) :
    RMPost b s x w (.returned (.agg #[.int .i64 k, .int .i64 v, .string g, .int .i64 mx, .bool q, .int .i64 rob, .int .i64 ev, .slice p n c, .slice p' n' c'])) (((((((((W.setCell ⟨w.heap.size, 0, none⟩ (.int .i64 k)).setCell ⟨w.heap.size, 1, none⟩ (.int .i64 v)).setCell ⟨w.heap.size, 2, none⟩ (.string g)).setCell ⟨w.heap.size, 3, none⟩ (.int .i64 mx)).setCell ⟨w.heap.size, 4, none⟩ (.bool q)).setCell ⟨w.heap.size, 5, none⟩ (.int .i64 rob)).setCell ⟨w.heap.size, 6, none⟩ (.int .i64 ev)).setCell ⟨w.heap.size, 7, none⟩ (.slice p n c)).setCell ⟨w.heap.size, 8, none⟩ (.slice p' n' c')) := by
  obtain ⟨l1, l2⟩ := h.1.laid (.int .i64 k) (.int .i64 v) (.string g) (.int .i64 mx) (.bool q) (.int .i64 rob) (.int .i64 ev) (.slice p n c) (.slice p' n' c')
  have hb := h.1.2.2.2
  by_cases h0 : x.1 = 0
  · obtain ⟨ss, rs, e1, e2, e3⟩ := hm h0
    refine ⟨⟨k, v, g, mx, q, rob, ev, ss, rs⟩, p, n, c, p', n', c', t, rfl, he ▸ l1, l2, fun _ => ⟨e1, ?_, ?_⟩⟩
    · exact e2.storeN9 w.heap.size (Nat.lt_succ_self _)
    · exact e3.storeN9 w.heap.size (Nat.lt_succ_self _)
  · exact ⟨⟨k, v, g, mx, q, rob, ev, [], []⟩, p, n, c, p', n', c', t, rfl, he ▸ l1, l2, fun h => absurd h h0⟩

/-- A report of version 2, at the bytes behind the head. -/
def repQ (t : Int × List Rec) : Int × Msg := if t.1 ≠ 0 then (t.1, zeroM) else (0, ⟨2, 2, ⟨#[]⟩, 0, false, 0, 0, [], t.2⟩)
def repD (s : ByteArray) : Int × Msg := repQ (recsI (s.extract 8 s.size) (numv s 6 2) 16)

set_option maxHeartbeats 4000000 in
set_option maxRecDepth 100000 in
theorem recordsr (b : Nat) (s : ByteArray) (w : World) (h : RB b 0 s 4 w) (hs : s.size ≤ 281474976710000) (h8 : 8 ≤ s.size) :
    Calls Try.prog 32 #[.pointer (some ⟨b, 0, none⟩)] w (RMPost b s (repD s) w) := by
  have HS := Lib.hid fun U h => skipr b 0 s 4 2 U h (by omega) (by omega) (by omega) (by omega)
  have HN := Lib.hid fun U h => numr b 0 s 6 2 8 U h (by omega) (by omega) (by omega) (by omega) hs (by omega) rfl
  have bn := numv_le2 s 6
  have HR := Lib.hid fun U => recs_c (s.extract 8 s.size) (numv s 6 2) 16 U (by rw [ByteArray.size_extract]; omega) (by omega)
  have V := Lib.hid (show repD s = repQ (recsI (s.extract 8 s.size) (numv s 6 2) 16) from rfl)
  generalize repD s = OD at *
  generalize recsI (s.extract 8 s.size) (numv s 6 2) 16 = T at *
  generalize numv s 6 2 = N at *
  obtain ⟨te, tl⟩ := T
  unfold RecsPost at HR
  simp only at HR
  have HK := Lib.hid fun U h => keepr b 0 s 8 te U h
  simp only [kI, if_true] at HK
  have Q := Lib.hid (RQ.start h)
  have h8' : (8 : Int) ≤ (s.size : Int) := by omega
  have hs' : (s.size : Int) ≤ 281474976710000 := by omega
  clear h bn
  go_enter Try.func32, Try.ntmps32
  go_wp2_with fail
  refine (HS.out _ Q.out.1).mono ?_
  rintro r w1 ⟨rfl, h1⟩
  replace Q := Lib.hid (Q.out.then h1)
  clear h1
  go_wp2_with fail
  refine (HN.out _ Q.out.1).mono ?_
  rintro r w2 ⟨rfl, h1⟩
  replace Q := Lib.hid (Q.out.then h1)
  clear h1
  obtain ⟨-, c1, c2, -, -⟩ := Q.out.1.cells
  go_wp2_with fail
  have Qd := Lib.hid (Q.out.below ((Below.refl _ w2).drew))
  go_region_with (go_at_call 54; refine (HR.out _).mono ?_; rintro r w3 ⟨vr, rfl, hvr, h3⟩; have Q3 := Lib.hid (Qd.out.below h3); have hlt3 := lt_of_block Qd.out.2.1)
  all_goals
    obtain ⟨pv, cv, rfl⟩ := hvr.slice
    have HV := Lib.hid (hvr.mono (show w.heap.size + 1 ≤ _ from hlt3) id)
    clear hvr h3 c1 c2 Q Qd
    go_wp2_with fail
    refine (HK.out _ Q3.out.1).mono ?_
    rintro r w4 ⟨rfl, h4⟩
    have HV4 : Hid (te = 0 → RecsG (w.heap.size + 1) true w4 (.slice pv tl.length cv) tl) := by
      refine Lib.hid fun h0 => ?_
      subst h0
      have hb := Q3.out.2.2.2
      obtain ⟨p, cap, bb, off, e1, e2, e3⟩ := HV.out
      refine ⟨p, cap, bb, off, e1, e2, fun j rr hj => ?_⟩
      have hne : tl ≠ [] := by rintro rfl; simp at hj
      have hbb : b ≠ bb := by have := (e2 hne).2; omega
      obtain ⟨x0, x1, vs, x2, xa⟩ := e3 j rr hj
      have kc : ∀ o u, w3.cell? ⟨bb, o, none⟩ = some u → w4.cell? ⟨bb, o, none⟩ = some u := fun o u hu =>
        (World.cell?_of_block (w := w3) (a := ⟨bb, o, none⟩) (h4.2.block bb (cell_lt' hu) (by simp; omega))).trans hu
      refine ⟨kc _ _ x0, kc _ _ x1, vs, kc _ _ x2, ?_⟩
      obtain ⟨p2, cap2, b2, off2, g1, g2, g3⟩ := xa
      refine ⟨p2, cap2, b2, off2, g1, fun hL => ?_, fun i u hi => ?_⟩
      · obtain ⟨k1, k2, k3⟩ := g2 hL
        refine ⟨k1, k2, fun ht => ?_⟩
        obtain ⟨cs, f, k4⟩ := k3 ht
        exact ⟨cs, f, (h4.2.block b2 (lt_of_block k4) (by simp; omega)).trans k4⟩
      · have hL : rr.srcs ≠ [] := by intro h; rw [h] at hi; simp at hi
        have k2 := (g2 hL).2.1
        exact (World.cell?_of_block (w := w3) (a := ⟨b2, off2 + i, none⟩) (h4.2.block b2 (cell_lt' (g3 i u hi)) (by simp; omega))).trans (g3 i u hi)
    have Q4 := Lib.hid (Q3.out.then h4)
    clear h4 Q3 HV
    have g0 := Q4.out.free 0
    have g1 := Q4.out.free 1
    have g2 := Q4.out.free 2
    have g3 := Q4.out.free 3
    have g4 := Q4.out.free 4
    have g5 := Q4.out.free 5
    have g6 := Q4.out.free 6
    have g7 := Q4.out.free 7
    have g8 := Q4.out.free 8
    have r0 := Q4.out.cell 0 rfl
    have r1 := Q4.out.cell 1 rfl
    have r2 := Q4.out.cell 2 rfl
    have r3 := Q4.out.cell 3 rfl
    have r4 := Q4.out.cell 4 rfl
    have r5 := Q4.out.cell 5 rfl
    have r6 := Q4.out.cell 6 rfl
    have r7 := Q4.out.cell 7 rfl
    have r8 := Q4.out.cell 8 rfl
    go_wp2
    refine bodyPost_ret (v := .agg #[.int .i64 2, .int .i64 2, .string ⟨#[]⟩, .int .i64 0, .bool false, .int .i64 0, .int .i64 0, .slice none 0 0, .slice pv tl.length cv]) (by simp [results, Try.results32, go_sem, r0, r1, r2, r3, r4, r5, r6, r7, r8]) rfl ?_
    obtain ⟨l1, l2⟩ := Q4.out.laid (.int .i64 2) (.int .i64 2) (.string ⟨#[]⟩) (.int .i64 0) (.bool false) (.int .i64 0) (.int .i64 0) (.slice none 0 0) (.slice pv tl.length cv)
    have hb := Q4.out.2.2.2
    have ve : OD.1 = te := by
      rw [V.out]; unfold repQ; simp only
      split
      · rfl
      · next h0 => exact (Decidable.not_not.1 h0).symm
    rw [← ve] at l1
    refine ⟨⟨2, 2, ⟨#[]⟩, 0, false, 0, 0, [], tl⟩, none, 0, 0, pv, tl.length, cv, _, rfl, l1, l2, fun h0 => ⟨?_, AddrsG.nil _ _ _, ?_⟩⟩
    · rw [V.out]; unfold repQ; simp only; rw [if_neg (by rw [← ve]; simpa using h0)]
    · exact (HV4.out (ve ▸ h0)).storeN9 w.heap.size (Nat.lt_succ_self _)

end Go.Proofs.Ytnfngmclomjimaa
