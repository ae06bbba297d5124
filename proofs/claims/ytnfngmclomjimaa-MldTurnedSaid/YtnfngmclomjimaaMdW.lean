/-
  Reading group messages of IPv6: queries; whole messages. Contracts over the translated program.
-/
import Derived.Test.YtnfngmclomjimaaMdV
namespace Go.Proofs.Ytnfngmclomjimaa
open Go.RowKit
set_option linter.unusedVariables false

/-- A list that was read stays while the reader's error is set. -/
theorem AddrsG.kept {B b : Nat} {w w' : World} {v : Value} {l : List ByteArray} {e : Int} {s : ByteArray} {t : Int} (h : AddrsG B true w v l) (k : w.grownBy w' (some b)) (hb : RB b e s t w) : AddrsG B true w' v l :=
  h.grown k fun g hg => by
    obtain rfl : b = g := by simpa using hg
    exact ⟨_, _, _, hb, by decide⟩

set_option maxHeartbeats 4000000 in
set_option maxRecDepth 100000 in
theorem queryr (b : Nat) (s : ByteArray) (w : World) (h : RB b 0 s 4 w) (hs : s.size ≤ 281474976710000) (h8 : 8 ≤ s.size) :
    Calls Try.prog 30 #[.pointer (some ⟨b, 0, none⟩)] w (RMPost b s (qryD s) w) := by
  have H1 := Lib.hid fun U h => numr b 0 s 4 2 6 U h (by omega) (by omega) (by omega) (by omega) hs (by omega) rfl
  have HS := Lib.hid fun U h => skipr b 0 s 6 2 U h (by omega) (by omega) (by omega) (by omega)
  rw [show ((6 : Int) + 2) = 8 from rfl] at HS
  have HA := Lib.hid fun U h => addrr b 0 s 8 U h (by omega) (by omega) hs
  rw [show ((8 : Int) + 16) = 24 from rfl] at HA
  have HL := Lib.hid fun e U h => leftr b e s 24 U h (by omega) (by omega) hs
  have Q0 := Lib.hid (RQ.start h)
  clear h
  by_cases hz : s.size < 24
  · have V := Lib.hid (show qryD s = (2, zeroM) from if_pos hz)
    have hc := cut_no s 8 (by omega)
    rw [show ((8 : Nat) : Int) = 8 from rfl] at hc
    rw [hc] at HA
    simp only [kI, if_true] at HA
    have HG := Lib.hid fun U => mgmay_c 1 1 ⟨#[]⟩ (numv s 4 2) false 0 0 none 0 0 (.slice none 0 0) U
    rw [show qGrp6 ⟨#[]⟩ 0 = true from rfl] at HG
    have HN := Lib.hid fun U h => needr b 2 s 24 true 3 U h
    simp only [if_true] at HN
    have hlt : (s.size : Int) < 24 := by omega
    generalize numv s 4 2 = N4 at *
    clear hz hc h8
    go_enter Try.func30, Try.ntmps30
    go_wp2_with fail
    refine (H1.out _ Q0.out.1).mono ?_
    rintro r w1 ⟨rfl, h1⟩
    have Q1 := Lib.hid (Q0.out.then h1)
    clear h1 Q0
    go_wp2_with fail
    have Q := Lib.hid (RP.start #[.int .i64 1, .int .i64 1, .string ⟨#[]⟩, .int .i64 N4, .bool false, .int .i64 0, .int .i64 0, .slice none 0 0, .slice none 0 0] Q1.out)
    refine (HS.out _ Q.out.1.1).mono ?_
    rintro r w2 ⟨rfl, h1⟩
    replace Q := Lib.hid (Q.out.then h1)
    clear h1 Q1
    go_wp2_with fail
    refine (HA.out _ Q.out.1.1).mono ?_
    rintro r w3 ⟨rfl, h1⟩
    replace Q := Lib.hid (Q.out.then h1)
    clear h1
    generalize w1.heap.size = P at Q ⊢
    have f2 := Q.out.free 2
    have c2 := Q.out.cell 2 rfl
    go_wp2_with fail
    refine (HL.out _ _ (Q.out.store 2 (.string ⟨#[]⟩)).1.1).mono ?_
    rintro r w4 ⟨rfl, h4⟩
    replace Q := Lib.hid (((Q.out.store 2 (.string ⟨#[]⟩))).below h4)
    clear h4 f2 c2
    go_upto_region 8 with fail
    have c0 := Q.out.cell 0 rfl
    have c1 := Q.out.cell 1 rfl
    have c2 := Q.out.cell 2 rfl
    have c3 := Q.out.cell 3 rfl
    have c4 := Q.out.cell 4 rfl
    have c5 := Q.out.cell 5 rfl
    have c6 := Q.out.cell 6 rfl
    have c7 := Q.out.cell 7 rfl
    have c8 := Q.out.cell 8 rfl
    have Qd := Lib.hid (Q.out.below ((Below.refl _ w4).drew))
    go_region_with (first
      | (go_at_call 37; refine (HG.out _).mono ?_; rintro r w7 ⟨rfl, h7⟩; have Q7 := Lib.hid (Qd.out.below h7); have k7 := (Below.refl _ w4).drew.trans h7)
      | (go_at_call 33; refine (HN.out _ Q7.out.1.1).mono ?_; rintro r w8 ⟨rfl, h8⟩))
    all_goals
      have Q8 := Lib.hid (Q7.out.then h8)
      clear h7 h8 Q Qd Q7 k7 c0 c1 c2 c3 c4 c5 c6 c7 c8
      have c0 := Q8.out.cell 0 rfl
      have c1 := Q8.out.cell 1 rfl
      have c2 := Q8.out.cell 2 rfl
      have c3 := Q8.out.cell 3 rfl
      have c4 := Q8.out.cell 4 rfl
      have c5 := Q8.out.cell 5 rfl
      have c6 := Q8.out.cell 6 rfl
      have c7 := Q8.out.cell 7 rfl
      have c8 := Q8.out.cell 8 rfl
      have r0 := Q8.out.1.cell 0 rfl
      have r1 := Q8.out.1.cell 1 rfl
      have r2 := Q8.out.1.cell 2 rfl
      have r3 := Q8.out.1.cell 3 rfl
      have r4 := Q8.out.1.cell 4 rfl
      have r5 := Q8.out.1.cell 5 rfl
      have r6 := Q8.out.1.cell 6 rfl
      have r7 := Q8.out.1.cell 7 rfl
      have r8 := Q8.out.1.cell 8 rfl
      have g0 := Q8.out.1.free 0
      have g1 := Q8.out.1.free 1
      have g2 := Q8.out.1.free 2
      have g3 := Q8.out.1.free 3
      have g4 := Q8.out.1.free 4
      have g5 := Q8.out.1.free 5
      have g6 := Q8.out.1.free 6
      have g7 := Q8.out.1.free 7
      have g8 := Q8.out.1.free 8
      have hNP : w.heap.size ≠ P := by have := Q8.out.2.2; omega
      go_wp2
      refine bodyPost_ret (v := .agg #[.int .i64 1, .int .i64 1, .string ⟨#[]⟩, .int .i64 N4, .bool false, .int .i64 0, .int .i64 0, .slice none 0 0, .slice none 0 0]) (by simp [results, Try.results30, go_sem, r0, r1, r2, r3, r4, r5, r6, r7, r8]) rfl ?_
      rw [V.out]
      exact rm_end Q8.out rfl (fun h => by simp at h)
  · have hcx := cut_fit s 8 (by omega)
    rw [show ((8 : Nat) : Int) = 8 from rfl, show 8 + 16 = 24 from rfl] at hcx
    rw [hcx] at HA
    simp only [kI, if_true] at HA
    clear hcx
    have hgq : (s.extract 8 24 = ⟨#[0, 0, 0, 0, 0, 0, 0, 0, 0, 0, 0, 0, 0, 0, 0, 0]⟩ ∧ grpQ s = ⟨#[]⟩) ∨ (grpQ s = s.extract 8 24 ∧ ((grpQ s).toList == [0, 0, 0, 0, 0, 0, 0, 0, 0, 0, 0, 0, 0, 0, 0, 0]) = false) := by
      unfold grpQ
      by_cases hh : s.extract 8 24 = none6
      · rw [if_pos hh]; exact .inl ⟨hh, rfl⟩
      · rw [if_neg hh]
        refine .inr ⟨rfl, ?_⟩
        rw [beq_eq_false_iff_ne, ByteArray.toList_eq]
        intro h
        exact hh (ByteArray.ext (Array.toList_inj.1 h))
    by_cases h24 : s.size = 24
    · have V := Lib.hid (show qryD s = if qGrp6 (grpQ s) 0 then (0, ⟨1, 1, grpQ s, numv s 4 2, false, 0, 0, [], []⟩) else (3, zeroM) by unfold qryD; rw [if_neg hz, if_pos h24])
      have hlt : (s.size : Int) = 24 := by omega
      generalize s.extract 8 24 = a at *
      generalize grpQ s = g at *
      have HG := Lib.hid fun U => mgmay_c 1 1 g (numv s 4 2) false 0 0 none 0 0 (.slice none 0 0) U
      have HN := Lib.hid fun U h => needr b 0 s 24 (qGrp6 g 0) 3 U h
      generalize qGrp6 g 0 = qb at *
      generalize numv s 4 2 = N4 at *
      clear hz h24 h8
      rcases hgq with ⟨rfl, rfl⟩ | ⟨rfl, t1⟩
      · go_enter Try.func30, Try.ntmps30
        go_wp2_with fail
        refine (H1.out _ Q0.out.1).mono ?_
        rintro r w1 ⟨rfl, h1⟩
        have Q1 := Lib.hid (Q0.out.then h1)
        clear h1 Q0
        go_wp2_with fail
        have Q := Lib.hid (RP.start #[.int .i64 1, .int .i64 1, .string ⟨#[]⟩, .int .i64 N4, .bool false, .int .i64 0, .int .i64 0, .slice none 0 0, .slice none 0 0] Q1.out)
        refine (HS.out _ Q.out.1.1).mono ?_
        rintro r w2 ⟨rfl, h1⟩
        replace Q := Lib.hid (Q.out.then h1)
        clear h1 Q1
        go_wp2_with fail
        refine (HA.out _ Q.out.1.1).mono ?_
        rintro r w3 ⟨rfl, h1⟩
        replace Q := Lib.hid (Q.out.then h1)
        clear h1
        generalize w1.heap.size = P at Q ⊢
        have f2 := Q.out.free 2
        have c2 := Q.out.cell 2 rfl
        go_wp2_with fail
        refine (HL.out _ _ Q.out.1.1).mono ?_
        rintro r w4 ⟨rfl, h4⟩
        replace Q := Lib.hid (Q.out.below h4)
        clear h4 f2 c2
        go_upto_region 8 with fail
        have c0 := Q.out.cell 0 rfl
        have c1 := Q.out.cell 1 rfl
        have c2 := Q.out.cell 2 rfl
        have c3 := Q.out.cell 3 rfl
        have c4 := Q.out.cell 4 rfl
        have c5 := Q.out.cell 5 rfl
        have c6 := Q.out.cell 6 rfl
        have c7 := Q.out.cell 7 rfl
        have c8 := Q.out.cell 8 rfl
        have Qd := Lib.hid (Q.out.below ((Below.refl _ w4).drew))
        go_region_with (first
          | (go_at_call 37; refine (HG.out _).mono ?_; rintro r w7 ⟨rfl, h7⟩; have Q7 := Lib.hid (Qd.out.below h7); have k7 := (Below.refl _ w4).drew.trans h7)
          | (go_at_call 33; refine (HN.out _ Q7.out.1.1).mono ?_; rintro r w8 ⟨rfl, h8⟩))
        all_goals
          have Q8 := Lib.hid (Q7.out.then h8)
          clear h7 h8 Q Qd Q7 k7 c0 c1 c2 c3 c4 c5 c6 c7 c8
          have c0 := Q8.out.cell 0 rfl
          have c1 := Q8.out.cell 1 rfl
          have c2 := Q8.out.cell 2 rfl
          have c3 := Q8.out.cell 3 rfl
          have c4 := Q8.out.cell 4 rfl
          have c5 := Q8.out.cell 5 rfl
          have c6 := Q8.out.cell 6 rfl
          have c7 := Q8.out.cell 7 rfl
          have c8 := Q8.out.cell 8 rfl
          have r0 := Q8.out.1.cell 0 rfl
          have r1 := Q8.out.1.cell 1 rfl
          have r2 := Q8.out.1.cell 2 rfl
          have r3 := Q8.out.1.cell 3 rfl
          have r4 := Q8.out.1.cell 4 rfl
          have r5 := Q8.out.1.cell 5 rfl
          have r6 := Q8.out.1.cell 6 rfl
          have r7 := Q8.out.1.cell 7 rfl
          have r8 := Q8.out.1.cell 8 rfl
          have g0 := Q8.out.1.free 0
          have g1 := Q8.out.1.free 1
          have g2 := Q8.out.1.free 2
          have g3 := Q8.out.1.free 3
          have g4 := Q8.out.1.free 4
          have g5 := Q8.out.1.free 5
          have g6 := Q8.out.1.free 6
          have g7 := Q8.out.1.free 7
          have g8 := Q8.out.1.free 8
          have hNP : w.heap.size ≠ P := by have := Q8.out.2.2; omega
          go_wp2
          refine bodyPost_ret (v := .agg #[.int .i64 1, .int .i64 1, .string ⟨#[]⟩, .int .i64 N4, .bool false, .int .i64 0, .int .i64 0, .slice none 0 0, .slice none 0 0]) (by simp [results, Try.results30, go_sem, r0, r1, r2, r3, r4, r5, r6, r7, r8]) rfl ?_
          rw [V.out]
          cases qb
          · exact rm_end Q8.out rfl (fun h => by simp at h)
          · exact rm_end Q8.out rfl (fun _ => ⟨[], [], rfl, AddrsG.nil _ _ _, RecsG.nil _ _ _⟩)
      · go_enter Try.func30, Try.ntmps30
        go_wp2_with fail
        refine (H1.out _ Q0.out.1).mono ?_
        rintro r w1 ⟨rfl, h1⟩
        have Q1 := Lib.hid (Q0.out.then h1)
        clear h1 Q0
        go_wp2_with fail
        have Q := Lib.hid (RP.start #[.int .i64 1, .int .i64 1, .string ⟨#[]⟩, .int .i64 N4, .bool false, .int .i64 0, .int .i64 0, .slice none 0 0, .slice none 0 0] Q1.out)
        refine (HS.out _ Q.out.1.1).mono ?_
        rintro r w2 ⟨rfl, h1⟩
        replace Q := Lib.hid (Q.out.then h1)
        clear h1 Q1
        go_wp2_with fail
        refine (HA.out _ Q.out.1.1).mono ?_
        rintro r w3 ⟨rfl, h1⟩
        replace Q := Lib.hid (Q.out.then h1)
        clear h1
        generalize w1.heap.size = P at Q ⊢
        have f2 := Q.out.free 2
        have c2 := Q.out.cell 2 rfl
        go_wp2_with fail
        refine (HL.out _ _ (Q.out.store 2 (.string g)).1.1).mono ?_
        rintro r w4 ⟨rfl, h4⟩
        replace Q := Lib.hid (((Q.out.store 2 (.string g))).below h4)
        clear h4 f2 c2
        go_upto_region 8 with fail
        have c0 := Q.out.cell 0 rfl
        have c1 := Q.out.cell 1 rfl
        have c2 := Q.out.cell 2 rfl
        have c3 := Q.out.cell 3 rfl
        have c4 := Q.out.cell 4 rfl
        have c5 := Q.out.cell 5 rfl
        have c6 := Q.out.cell 6 rfl
        have c7 := Q.out.cell 7 rfl
        have c8 := Q.out.cell 8 rfl
        have Qd := Lib.hid (Q.out.below ((Below.refl _ w4).drew))
        go_region_with (first
          | (go_at_call 37; refine (HG.out _).mono ?_; rintro r w7 ⟨rfl, h7⟩; have Q7 := Lib.hid (Qd.out.below h7); have k7 := (Below.refl _ w4).drew.trans h7)
          | (go_at_call 33; refine (HN.out _ Q7.out.1.1).mono ?_; rintro r w8 ⟨rfl, h8⟩))
        all_goals
          have Q8 := Lib.hid (Q7.out.then h8)
          clear h7 h8 Q Qd Q7 k7 c0 c1 c2 c3 c4 c5 c6 c7 c8
          have c0 := Q8.out.cell 0 rfl
          have c1 := Q8.out.cell 1 rfl
          have c2 := Q8.out.cell 2 rfl
          have c3 := Q8.out.cell 3 rfl
          have c4 := Q8.out.cell 4 rfl
          have c5 := Q8.out.cell 5 rfl
          have c6 := Q8.out.cell 6 rfl
          have c7 := Q8.out.cell 7 rfl
          have c8 := Q8.out.cell 8 rfl
          have r0 := Q8.out.1.cell 0 rfl
          have r1 := Q8.out.1.cell 1 rfl
          have r2 := Q8.out.1.cell 2 rfl
          have r3 := Q8.out.1.cell 3 rfl
          have r4 := Q8.out.1.cell 4 rfl
          have r5 := Q8.out.1.cell 5 rfl
          have r6 := Q8.out.1.cell 6 rfl
          have r7 := Q8.out.1.cell 7 rfl
          have r8 := Q8.out.1.cell 8 rfl
          have g0 := Q8.out.1.free 0
          have g1 := Q8.out.1.free 1
          have g2 := Q8.out.1.free 2
          have g3 := Q8.out.1.free 3
          have g4 := Q8.out.1.free 4
          have g5 := Q8.out.1.free 5
          have g6 := Q8.out.1.free 6
          have g7 := Q8.out.1.free 7
          have g8 := Q8.out.1.free 8
          have hNP : w.heap.size ≠ P := by have := Q8.out.2.2; omega
          go_wp2
          refine bodyPost_ret (v := .agg #[.int .i64 1, .int .i64 1, .string g, .int .i64 N4, .bool false, .int .i64 0, .int .i64 0, .slice none 0 0, .slice none 0 0]) (by simp [results, Try.results30, go_sem, r0, r1, r2, r3, r4, r5, r6, r7, r8]) rfl ?_
          rw [V.out]
          cases qb
          · exact rm_end Q8.out rfl (fun h => by simp at h)
          · exact rm_end Q8.out rfl (fun _ => ⟨[], [], rfl, AddrsG.nil _ _ _, RecsG.nil _ _ _⟩)
    · have h24' : 24 < s.size := by omega
      have V := Lib.hid (show qryD s = if dtE s ≠ 0 then (dtE s, zeroM) else if qGrp6 (grpQ s) (numv s 26 2).toNat then
          (0, ⟨1, 2, grpQ s, (decI 12 (numv s 4 2)).1, decide (byt s 24 / 8 % 2 = 1), ((byt s 24 % 8 : Nat) : Int), (decI 4 (byt s 25)).1, addrsL s 28 (numv s 26 2).toNat 16, []⟩) else (3, zeroM) by
        unfold qryD; rw [if_neg hz, if_neg h24])
      have hlt : (24 : Int) < (s.size : Int) := by omega
      generalize s.extract 8 24 = a at *
      generalize grpQ s = g at *
      generalize hN4 : numv s 4 2 = N4 at *
      have HDt := Lib.hid fun P U h hP hb => detailsr b P s g N4 U h hP hb hs h24'
      unfold DPost at HDt
      have HG := Lib.hid fun M q rob ev p n c U => mgmay_c 1 2 g M q rob ev p n c (.slice none 0 0) U
      have HN := Lib.hid fun e t qb U h => needr b e s t qb 3 U h
      clear hz h24 h8 hN4
      generalize (decI 12 N4).1 = M16 at *
      rcases hgq with ⟨rfl, rfl⟩ | ⟨rfl, t1⟩
      · go_enter Try.func30, Try.ntmps30
        go_wp2_with fail
        refine (H1.out _ Q0.out.1).mono ?_
        rintro r w1 ⟨rfl, h1⟩
        have Q1 := Lib.hid (Q0.out.then h1)
        clear h1 Q0
        go_wp2_with fail
        have Q := Lib.hid (RP.start #[.int .i64 1, .int .i64 1, .string ⟨#[]⟩, .int .i64 N4, .bool false, .int .i64 0, .int .i64 0, .slice none 0 0, .slice none 0 0] Q1.out)
        refine (HS.out _ Q.out.1.1).mono ?_
        rintro r w2 ⟨rfl, h1⟩
        replace Q := Lib.hid (Q.out.then h1)
        clear h1 Q1
        go_wp2_with fail
        refine (HA.out _ Q.out.1.1).mono ?_
        rintro r w3 ⟨rfl, h1⟩
        replace Q := Lib.hid (Q.out.then h1)
        clear h1
        generalize w1.heap.size = P at Q ⊢
        have f2 := Q.out.free 2
        have c2 := Q.out.cell 2 rfl
        go_wp2_with fail
        refine (HL.out _ _ Q.out.1.1).mono ?_
        rintro r w4 ⟨rfl, h4⟩
        replace Q := Lib.hid (Q.out.below h4)
        clear h4 f2 c2
        go_wp2_with fail
        refine (HDt.out P _ Q.out.1.1 Q.out.2.1 (by have := Q.out.1.2.2.2; have := Q.out.2.2; omega)).mono ?_
        rintro r w5 ⟨rfl, q, rob, ev, p, n, c, t, hd, hok⟩
        replace Q := Lib.hid (Q.out.det hd)
        have OK := Lib.hid hok
        clear hd hok
        go_upto_region 8 with fail
        have c0 := Q.out.cell 0 rfl
        have c1 := Q.out.cell 1 rfl
        have c2 := Q.out.cell 2 rfl
        have c3 := Q.out.cell 3 rfl
        have c4 := Q.out.cell 4 rfl
        have c5 := Q.out.cell 5 rfl
        have c6 := Q.out.cell 6 rfl
        have c7 := Q.out.cell 7 rfl
        have c8 := Q.out.cell 8 rfl
        have Qd := Lib.hid (Q.out.below ((Below.refl _ w5).drew))
        go_region_with (first
          | (go_at_call 37; refine (HG.out _ _ _ _ _ _ _ _).mono ?_; rintro r w7 ⟨rfl, h7⟩; have Q7 := Lib.hid (Qd.out.below h7); have k7 := (Below.refl _ w5).drew.trans h7)
          | (go_at_call 33; refine (HN.out _ _ _ _ Q7.out.1.1).mono ?_; rintro r w8 ⟨rfl, h8⟩))
        all_goals
          have Q8 := Lib.hid (Q7.out.then h8)
          have AK : Hid (dtE s = 0 → AddrsG (w.heap.size + 1) true w8 (.slice p n c) (addrsL s 28 (numv s 26 2).toNat 16)) := by
            refine Lib.hid fun h0 => ?_
            obtain ⟨-, -, -, -, ha⟩ := OK.out h0
            exact ((ha.below k7).kept h8.2 Q7.out.1.1).mono (by have := Q.out.2.2; omega) id
          clear h7 h8 Q Qd Q7 k7 c0 c1 c2 c3 c4 c5 c6 c7 c8
          have c0 := Q8.out.cell 0 rfl
          have c1 := Q8.out.cell 1 rfl
          have c2 := Q8.out.cell 2 rfl
          have c3 := Q8.out.cell 3 rfl
          have c4 := Q8.out.cell 4 rfl
          have c5 := Q8.out.cell 5 rfl
          have c6 := Q8.out.cell 6 rfl
          have c7 := Q8.out.cell 7 rfl
          have c8 := Q8.out.cell 8 rfl
          have r0 := Q8.out.1.cell 0 rfl
          have r1 := Q8.out.1.cell 1 rfl
          have r2 := Q8.out.1.cell 2 rfl
          have r3 := Q8.out.1.cell 3 rfl
          have r4 := Q8.out.1.cell 4 rfl
          have r5 := Q8.out.1.cell 5 rfl
          have r6 := Q8.out.1.cell 6 rfl
          have r7 := Q8.out.1.cell 7 rfl
          have r8 := Q8.out.1.cell 8 rfl
          have g0 := Q8.out.1.free 0
          have g1 := Q8.out.1.free 1
          have g2 := Q8.out.1.free 2
          have g3 := Q8.out.1.free 3
          have g4 := Q8.out.1.free 4
          have g5 := Q8.out.1.free 5
          have g6 := Q8.out.1.free 6
          have g7 := Q8.out.1.free 7
          have g8 := Q8.out.1.free 8
          have hNP : w.heap.size ≠ P := by have := Q8.out.2.2; omega
          go_wp2
          refine bodyPost_ret (v := .agg #[.int .i64 1, .int .i64 2, .string ⟨#[]⟩, .int .i64 M16, .bool q, .int .i64 rob, .int .i64 ev, .slice p n c, .slice none 0 0]) (by simp [results, Try.results30, go_sem, r0, r1, r2, r3, r4, r5, r6, r7, r8]) rfl ?_
          rw [V.out]
          by_cases hd0 : dtE s = 0
          · obtain ⟨rfl, rfl, rfl, rfl, -⟩ := OK.out hd0
            have ha := AK.out hd0
            rw [if_neg (by rw [hd0]; simp)]
            rw [hd0] at Q8
            generalize hqb : qGrp6 ⟨#[]⟩ (numv s 26 2).toNat = qb at Q8 ⊢
            cases qb
            · exact rm_end Q8.out rfl (fun h => by simp at h)
            · exact rm_end Q8.out rfl (fun _ => ⟨_, [], rfl, ha, RecsG.nil _ _ _⟩)
          · rw [if_pos hd0]
            refine rm_end Q8.out ?_ (fun h => absurd h hd0)
            simp only [kI]
            split
            · rfl
            · first | rfl | rw [if_neg hd0]
      · go_enter Try.func30, Try.ntmps30
        go_wp2_with fail
        refine (H1.out _ Q0.out.1).mono ?_
        rintro r w1 ⟨rfl, h1⟩
        have Q1 := Lib.hid (Q0.out.then h1)
        clear h1 Q0
        go_wp2_with fail
        have Q := Lib.hid (RP.start #[.int .i64 1, .int .i64 1, .string ⟨#[]⟩, .int .i64 N4, .bool false, .int .i64 0, .int .i64 0, .slice none 0 0, .slice none 0 0] Q1.out)
        refine (HS.out _ Q.out.1.1).mono ?_
        rintro r w2 ⟨rfl, h1⟩
        replace Q := Lib.hid (Q.out.then h1)
        clear h1 Q1
        go_wp2_with fail
        refine (HA.out _ Q.out.1.1).mono ?_
        rintro r w3 ⟨rfl, h1⟩
        replace Q := Lib.hid (Q.out.then h1)
        clear h1
        generalize w1.heap.size = P at Q ⊢
        have f2 := Q.out.free 2
        have c2 := Q.out.cell 2 rfl
        go_wp2_with fail
        refine (HL.out _ _ (Q.out.store 2 (.string g)).1.1).mono ?_
        rintro r w4 ⟨rfl, h4⟩
        replace Q := Lib.hid (((Q.out.store 2 (.string g))).below h4)
        clear h4 f2 c2
        go_wp2_with fail
        refine (HDt.out P _ Q.out.1.1 Q.out.2.1 (by have := Q.out.1.2.2.2; have := Q.out.2.2; omega)).mono ?_
        rintro r w5 ⟨rfl, q, rob, ev, p, n, c, t, hd, hok⟩
        replace Q := Lib.hid (Q.out.det hd)
        have OK := Lib.hid hok
        clear hd hok
        go_upto_region 8 with fail
        have c0 := Q.out.cell 0 rfl
        have c1 := Q.out.cell 1 rfl
        have c2 := Q.out.cell 2 rfl
        have c3 := Q.out.cell 3 rfl
        have c4 := Q.out.cell 4 rfl
        have c5 := Q.out.cell 5 rfl
        have c6 := Q.out.cell 6 rfl
        have c7 := Q.out.cell 7 rfl
        have c8 := Q.out.cell 8 rfl
        have Qd := Lib.hid (Q.out.below ((Below.refl _ w5).drew))
        go_region_with (first
          | (go_at_call 37; refine (HG.out _ _ _ _ _ _ _ _).mono ?_; rintro r w7 ⟨rfl, h7⟩; have Q7 := Lib.hid (Qd.out.below h7); have k7 := (Below.refl _ w5).drew.trans h7)
          | (go_at_call 33; refine (HN.out _ _ _ _ Q7.out.1.1).mono ?_; rintro r w8 ⟨rfl, h8⟩))
        all_goals
          have Q8 := Lib.hid (Q7.out.then h8)
          have AK : Hid (dtE s = 0 → AddrsG (w.heap.size + 1) true w8 (.slice p n c) (addrsL s 28 (numv s 26 2).toNat 16)) := by
            refine Lib.hid fun h0 => ?_
            obtain ⟨-, -, -, -, ha⟩ := OK.out h0
            exact ((ha.below k7).kept h8.2 Q7.out.1.1).mono (by have := Q.out.2.2; omega) id
          clear h7 h8 Q Qd Q7 k7 c0 c1 c2 c3 c4 c5 c6 c7 c8
          have c0 := Q8.out.cell 0 rfl
          have c1 := Q8.out.cell 1 rfl
          have c2 := Q8.out.cell 2 rfl
          have c3 := Q8.out.cell 3 rfl
          have c4 := Q8.out.cell 4 rfl
          have c5 := Q8.out.cell 5 rfl
          have c6 := Q8.out.cell 6 rfl
          have c7 := Q8.out.cell 7 rfl
          have c8 := Q8.out.cell 8 rfl
          have r0 := Q8.out.1.cell 0 rfl
          have r1 := Q8.out.1.cell 1 rfl
          have r2 := Q8.out.1.cell 2 rfl
          have r3 := Q8.out.1.cell 3 rfl
          have r4 := Q8.out.1.cell 4 rfl
          have r5 := Q8.out.1.cell 5 rfl
          have r6 := Q8.out.1.cell 6 rfl
          have r7 := Q8.out.1.cell 7 rfl
          have r8 := Q8.out.1.cell 8 rfl
          have g0 := Q8.out.1.free 0
          have g1 := Q8.out.1.free 1
          have g2 := Q8.out.1.free 2
          have g3 := Q8.out.1.free 3
          have g4 := Q8.out.1.free 4
          have g5 := Q8.out.1.free 5
          have g6 := Q8.out.1.free 6
          have g7 := Q8.out.1.free 7
          have g8 := Q8.out.1.free 8
          have hNP : w.heap.size ≠ P := by have := Q8.out.2.2; omega
          go_wp2
          refine bodyPost_ret (v := .agg #[.int .i64 1, .int .i64 2, .string g, .int .i64 M16, .bool q, .int .i64 rob, .int .i64 ev, .slice p n c, .slice none 0 0]) (by simp [results, Try.results30, go_sem, r0, r1, r2, r3, r4, r5, r6, r7, r8]) rfl ?_
          rw [V.out]
          by_cases hd0 : dtE s = 0
          · obtain ⟨rfl, rfl, rfl, rfl, -⟩ := OK.out hd0
            have ha := AK.out hd0
            rw [if_neg (by rw [hd0]; simp)]
            rw [hd0] at Q8
            generalize hqb : qGrp6 g (numv s 26 2).toNat = qb at Q8 ⊢
            cases qb
            · exact rm_end Q8.out rfl (fun h => by simp at h)
            · exact rm_end Q8.out rfl (fun _ => ⟨_, [], rfl, ha, RecsG.nil _ _ _⟩)
          · rw [if_pos hd0]
            refine rm_end Q8.out ?_ (fun h => absurd h hd0)
            simp only [kI]
            split
            · rfl
            · first | rfl | rw [if_neg hd0]

end Go.Proofs.Ytnfngmclomjimaa
