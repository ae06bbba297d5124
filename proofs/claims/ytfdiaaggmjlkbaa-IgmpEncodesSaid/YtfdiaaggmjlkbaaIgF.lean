/-
  Reading queries: igmp.readQuery. A contract over the translated program.
-/
import Derived.Test.YtfdiaaggmjlkbaaIgDE
namespace Go.Proofs.Ytfdiaaggmjlkbaa
open Go.RowKit
set_option linter.unusedVariables false

theorem Box.store {w0 w : World} {xs : Array Value} {t : TypeId} {P : Nat} (h : Box w0 w xs t) (j : Nat) (v : Value) (hP : w0.heap.size < P) : Box w0 (w.setCell ⟨P, j, none⟩ v) xs t :=
  ⟨heap_store_other h.1 (by omega), h.2.setCell (p := ⟨P, j, none⟩) (Nat.le_of_lt hP) _⟩
theorem Box.belowP {w0 w w' : World} {xs : Array Value} {t : TypeId} {P : Nat} (h : Box w0 w xs t) (hP : w0.heap.size < P) (k : Below P w w') : Box w0 w' xs t :=
  ⟨(k.block _ hP).trans h.1, h.2.trans (k.mono (Nat.le_of_lt hP))⟩

/-- The two blocks of readQuery: the answer's and the message's. -/
def QB (w : World) (P : Nat) (xs : Array Value) (W : World) : Prop := Box w W #[.int .i64 0, .int .i64 0, .string ⟨#[]⟩, .int .i64 0, .bool false, .int .i64 0, .int .i64 0, .slice none 0 0, .slice none 0 0] 26 ∧ LB P W xs W ∧ w.heap.size < P
theorem QB.below {w W W' : World} {P : Nat} {xs : Array Value} (h : QB w P xs W) (k : Below W.heap.size W W') : QB w P xs W' :=
  ⟨h.1.below k, ⟨(h.2.1.below k).1, Below.refl _ _⟩, h.2.2⟩
theorem QB.store {w W : World} {P : Nat} {xs : Array Value} (h : QB w P xs W) (j : Nat) (v : Value) : QB w P (xs.setIfInBounds j v) (W.setCell ⟨P, j, none⟩ v) :=
  ⟨h.1.store j v h.2.2, ⟨(h.2.1.store j v).1, Below.refl _ _⟩, h.2.2⟩
theorem QB.start {w w1 : World} {xs : Array Value} (h : Box w w1 #[.int .i64 0, .int .i64 0, .string ⟨#[]⟩, .int .i64 0, .bool false, .int .i64 0, .int .i64 0, .slice none 0 0, .slice none 0 0] 26) : QB w w1.heap.size xs (w1.alloc (.cells xs 26)) :=
  ⟨h.below ((Below.refl _ _).alloc (Nat.le_refl _) _), ⟨heap_new _ _, Below.refl _ _⟩, h.lt⟩

theorem query_bad (s : ByteArray) (hl : 8 < s.size) (h : detE s ≠ 0) : queryI s = (detE s, zeroM) := by
  unfold detE at h ⊢
  unfold queryI
  rw [if_neg (by omega)]
  split
  · rfl
  · next h1 =>
    rw [if_neg h1] at h
    split
    · rfl
    · next h2 =>
      rw [if_neg h2] at h
      split
      · rfl
      · next h3 => rw [if_neg h3] at h; exact absurd rfl h
theorem query_good (s : ByteArray) (hl : 8 < s.size) (h : detE s = 0) : queryI s = if qGrpB (qGrp s) (numv s 10 2).toNat then (0, ⟨1, 3, qGrp s, (decI 4 (byt s 1)).1, decide (byt s 8 / 8 % 2 = 1), ((byt s 8 % 8 : Nat) : Int), (decI 4 (byt s 9)).1, addrsL s 12 (numv s 10 2).toNat 4, []⟩) else (3, zeroM) := by
  unfold detE at h
  unfold queryI
  rw [if_neg (by omega)]
  split at h
  · cases h
  · next h1 =>
    rw [if_neg h1]
    split at h
    · cases h
    · next h2 =>
      rw [if_neg h2]
      split at h
      · cases h
      · next h3 => rw [if_neg h3]

set_option maxHeartbeats 4000000 in
set_option maxRecDepth 100000 in
theorem query_gms (s : ByteArray) (w : World) (hs : s.size ≤ 281474976710000) (h8 : 8 ≤ s.size) (hg : s.extract 4 8 ≠ noGrp) (hm : byt s 1 ≠ 0) (hl : s.size ≤ 8) :
    Calls Try.prog 23 #[.string s] w (MsgPost (queryI s) w) := by
  have HM := Lib.hid fun U => gnum1_c s 1 U hs (by omega)
  have HA := Lib.hid fun U => gaddr_c s 4 4 U hs (by omega)
  rw [show ((4 : Nat) : Int) = 4 from rfl, show 4 + 4 = 8 from rfl] at HA
  have hqg : qGrp s = s.extract 4 8 := by unfold qGrp; rw [if_neg hg]
  have t1 : ((s.extract 4 8).toList == [0, 0, 0, 0]) = false := by rw [beq_eq_false_iff_ne, ByteArray.toList_eq]; intro h; exact hg (ByteArray.ext (Array.toList_inj.1 h))
  have HV := Lib.hid (show queryI s = if qGrpB (qGrp s) 0 then (0, ⟨1, 2, qGrp s, byt s 1, false, 0, 0, [], []⟩) else (3, zeroM) by unfold queryI; rw [if_pos hl]; rw [if_neg hm])
  rw [hqg] at HV
  have hl' : (s.size : Int) ≤ 8 := by omega
  generalize s.extract 4 8 = g at *
  obtain ⟨m1, m2⟩ := ne_t (show (byt s 1 : Int) ≠ 0 by omega)
  have HG := Lib.hid fun U => gmay_c 1 2 g (byt s 1 : Int) false 0 0 none 0 0 (.slice none 0 0) U
  generalize qGrpB g 0 = qb at HG HV
  clear hqg hm hl hg
  generalize byt s 1 = mx at *
  go_enter Try.func23, Try.ntmps23
  go_wp2_with fail
  refine (HM.out _).mono ?_
  rintro e w1 ⟨rfl, h1⟩
  have B := Lib.hid ((Box.start w _ _).below h1)
  clear h1
  go_wp2_with fail
  have Q := Lib.hid (QB.start (xs := #[.int .i64 1, .int .i64 1, .string ⟨#[]⟩, .int .i64 (mx : Int), .bool false, .int .i64 0, .int .i64 0, .slice none 0 0, .slice none 0 0]) B.out)
  refine (HA.out _).mono ?_
  rintro e w2 ⟨rfl, h2⟩
  replace Q := Lib.hid (Q.out.below h2)
  generalize w1.heap.size = P at Q ⊢
  clear h2 B
  have c0 := Q.out.2.1.cell 0 rfl
  have c1 := Q.out.2.1.cell 1 rfl
  have c2 := Q.out.2.1.cell 2 rfl
  have c3 := Q.out.2.1.cell 3 rfl
  have c4 := Q.out.2.1.cell 4 rfl
  have c5 := Q.out.2.1.cell 5 rfl
  have c6 := Q.out.2.1.cell 6 rfl
  have c7 := Q.out.2.1.cell 7 rfl
  have c8 := Q.out.2.1.cell 8 rfl
  have f1 := Q.out.2.1.free 1
  have f2 := Q.out.2.1.free 2
  go_wp2_with fail
  refine (HG.out _).mono ?_
  rintro e w3 ⟨rfl, h3⟩
  have Q3 : QB w P #[.int .i64 1, .int .i64 2, .string g, .int .i64 (mx : Int), .bool false, .int .i64 0, .int .i64 0, .slice none 0 0, .slice none 0 0] w3 := ((Q.out.store 2 (.string g)).store 1 (.int .i64 2)).below h3
  clear h3
  clear c0 c1 c2 c3 c4 c5 c6 c7 c8 f1 f2
  replace Q := Lib.hid Q3
  clear Q3
  have c0 := Q.out.2.1.cell 0 rfl
  have c1 := Q.out.2.1.cell 1 rfl
  have c2 := Q.out.2.1.cell 2 rfl
  have c3 := Q.out.2.1.cell 3 rfl
  have c4 := Q.out.2.1.cell 4 rfl
  have c5 := Q.out.2.1.cell 5 rfl
  have c6 := Q.out.2.1.cell 6 rfl
  have c7 := Q.out.2.1.cell 7 rfl
  have c8 := Q.out.2.1.cell 8 rfl
  have f1 := Q.out.2.1.free 1
  have f2 := Q.out.2.1.free 2
  have r0 := Q.out.1.cell 0 rfl
  have r1 := Q.out.1.cell 1 rfl
  have r2 := Q.out.1.cell 2 rfl
  have r3 := Q.out.1.cell 3 rfl
  have r4 := Q.out.1.cell 4 rfl
  have r5 := Q.out.1.cell 5 rfl
  have r6 := Q.out.1.cell 6 rfl
  have r7 := Q.out.1.cell 7 rfl
  have r8 := Q.out.1.cell 8 rfl
  have g0 := Q.out.1.free 0
  have g1 := Q.out.1.free 1
  have g2 := Q.out.1.free 2
  have g3 := Q.out.1.free 3
  have g4 := Q.out.1.free 4
  have g5 := Q.out.1.free 5
  have g6 := Q.out.1.free 6
  have g7 := Q.out.1.free 7
  have g8 := Q.out.1.free 8
  have hNP : w.heap.size ≠ P := by have := Q.out.2.2; omega
  cases qb
  · replace HV := Lib.hid (show queryI s = (3, zeroM) from HV.out)
    go_wp2
    refine bodyPost_ret (v := .tuple #[.agg #[.int .i64 0, .int .i64 0, .string ⟨#[]⟩, .int .i64 0, .bool false, .int .i64 0, .int .i64 0, .slice none 0 0, .slice none 0 0], .int .i64 3]) (by simp [results, Try.results23, go_sem, r0, r1, r2, r3, r4, r5, r6, r7, r8]) rfl (MsgPost.bad HV.out rfl ?_)
    exact (((((((((Q.out.1.2.setCell (p := ⟨w.heap.size, 0, none⟩) (Nat.le_refl _) _).setCell (p := ⟨w.heap.size, 1, none⟩) (Nat.le_refl _) _).setCell (p := ⟨w.heap.size, 2, none⟩) (Nat.le_refl _) _).setCell (p := ⟨w.heap.size, 3, none⟩) (Nat.le_refl _) _).setCell (p := ⟨w.heap.size, 4, none⟩) (Nat.le_refl _) _).setCell (p := ⟨w.heap.size, 5, none⟩) (Nat.le_refl _) _).setCell (p := ⟨w.heap.size, 6, none⟩) (Nat.le_refl _) _).setCell (p := ⟨w.heap.size, 7, none⟩) (Nat.le_refl _) _).setCell (p := ⟨w.heap.size, 8, none⟩) (Nat.le_refl _) _)
  · replace HV := Lib.hid (show queryI s = (0, ⟨1, 2, g, (mx : Int), false, 0, 0, [], []⟩) from HV.out)
    go_wp2
    refine bodyPost_ret (v := .tuple #[.agg #[.int .i64 1, .int .i64 2, .string g, .int .i64 (mx : Int), .bool false, .int .i64 0, .int .i64 0, .slice none 0 0, .slice none 0 0], .int .i64 0]) (by simp [results, Try.results23, go_sem, r0, r1, r2, r3, r4, r5, r6, r7, r8]) rfl ?_
    unfold MsgPost
    rw [HV.out]
    exact ⟨_, _, rfl, AddrsG.nil _ _ _, RecsG.nil _ _ _, (((((((((Q.out.1.2.setCell (p := ⟨w.heap.size, 0, none⟩) (Nat.le_refl _) _).setCell (p := ⟨w.heap.size, 1, none⟩) (Nat.le_refl _) _).setCell (p := ⟨w.heap.size, 2, none⟩) (Nat.le_refl _) _).setCell (p := ⟨w.heap.size, 3, none⟩) (Nat.le_refl _) _).setCell (p := ⟨w.heap.size, 4, none⟩) (Nat.le_refl _) _).setCell (p := ⟨w.heap.size, 5, none⟩) (Nat.le_refl _) _).setCell (p := ⟨w.heap.size, 6, none⟩) (Nat.le_refl _) _).setCell (p := ⟨w.heap.size, 7, none⟩) (Nat.le_refl _) _).setCell (p := ⟨w.heap.size, 8, none⟩) (Nat.le_refl _) _)⟩

set_option maxHeartbeats 4000000 in
set_option maxRecDepth 100000 in
theorem query_gml (s : ByteArray) (w : World) (hs : s.size ≤ 281474976710000) (h8 : 8 ≤ s.size) (hg : s.extract 4 8 ≠ noGrp) (hm : byt s 1 ≠ 0) (hl : 8 < s.size) :
    Calls Try.prog 23 #[.string s] w (MsgPost (queryI s) w) := by
  have HM := Lib.hid fun U => gnum1_c s 1 U hs (by omega)
  have HA := Lib.hid fun U => gaddr_c s 4 4 U hs (by omega)
  rw [show ((4 : Nat) : Int) = 4 from rfl, show 4 + 4 = 8 from rfl] at HA
  have hqg : qGrp s = s.extract 4 8 := by unfold qGrp; rw [if_neg hg]
  have t1 : ((s.extract 4 8).toList == [0, 0, 0, 0]) = false := by rw [beq_eq_false_iff_ne, ByteArray.toList_eq]; intro h; exact hg (ByteArray.ext (Array.toList_inj.1 h))
  have HVE := Lib.hid fun (h : detE s ≠ 0) => query_bad s hl h
  have HVO := Lib.hid fun (h : detE s = 0) => query_good s hl h
  rw [hqg] at HVO
  have hl' : (8 : Int) < (s.size : Int) := by omega
  generalize s.extract 4 8 = g at *
  obtain ⟨m1, m2⟩ := ne_t (show (byt s 1 : Int) ≠ 0 by omega)
  have HDet := Lib.hid fun P U hL => det_c s P 1 2 g (byt s 1 : Int) U U hs hl hL
  clear hqg hl hg hm
  go_enter Try.func23, Try.ntmps23
  go_wp2_with fail
  refine (HM.out _).mono ?_
  rintro e w1 ⟨rfl, h1⟩
  have B := Lib.hid ((Box.start w _ _).below h1)
  clear h1
  go_wp2_with fail
  have Q := Lib.hid (QB.start (xs := #[.int .i64 1, .int .i64 1, .string ⟨#[]⟩, .int .i64 (byt s 1 : Int), .bool false, .int .i64 0, .int .i64 0, .slice none 0 0, .slice none 0 0]) B.out)
  refine (HA.out _).mono ?_
  rintro e w2 ⟨rfl, h2⟩
  replace Q := Lib.hid (Q.out.below h2)
  generalize w1.heap.size = P at Q ⊢
  clear h2 B
  have c0 := Q.out.2.1.cell 0 rfl
  have c1 := Q.out.2.1.cell 1 rfl
  have c2 := Q.out.2.1.cell 2 rfl
  have c3 := Q.out.2.1.cell 3 rfl
  have c4 := Q.out.2.1.cell 4 rfl
  have c5 := Q.out.2.1.cell 5 rfl
  have c6 := Q.out.2.1.cell 6 rfl
  have c7 := Q.out.2.1.cell 7 rfl
  have c8 := Q.out.2.1.cell 8 rfl
  have f1 := Q.out.2.1.free 1
  have f2 := Q.out.2.1.free 2
  go_wp2_with fail
  have Q3 : QB w P #[.int .i64 1, .int .i64 2, .string g, .int .i64 (byt s 1 : Int), .bool false, .int .i64 0, .int .i64 0, .slice none 0 0, .slice none 0 0] _ := ((Q.out.store 2 (.string g)).store 1 (.int .i64 2))
  refine (HDet.out P _ Q3.2.1).mono ?_
  rintro e w3 ⟨rfl, h3, hok⟩
  have hPR := Q3.2.2
  have B3 := Lib.hid (Q3.1.belowP hPR h3)
  have HOK := Lib.hid hok
  clear c0 c1 c2 c3 c4 c5 c6 c7 c8 f1 f2
  clear Q Q3 h3 hok
  by_cases hd : detE s = 0
  · obtain ⟨p, cp, hLB, hAd⟩ := HOK.out hd
    have V0 := Lib.hid (HVO.out hd)
    rw [hd]
    have Q : Hid (QB w P _ w3) := Lib.hid ⟨B3.out, ⟨hLB.1, Below.refl _ _⟩, hPR⟩
    have HA2 := Lib.hid hAd
    clear HOK hLB hAd HVE HVO hd B3 HDet HA HM
    have HG := Lib.hid fun U => gmay_c 1 3 g (decI 4 (byt s 1)).1 (decide (byt s 8 / 8 % 2 = 1)) ((byt s 8 % 8 : Nat) : Int) (decI 4 (byt s 9)).1 p (numv s 10 2).toNat cp (.slice none 0 0) U
    generalize qGrpB g (numv s 10 2).toNat = qb at HG V0
    generalize (decI 4 (byt s 1)).1 = d1 at *
    generalize decide (byt s 8 / 8 % 2 = 1) = d2 at *
    generalize ((byt s 8 % 8 : Nat) : Int) = d3 at *
    generalize (decI 4 (byt s 9)).1 = d4 at *
    generalize addrsL s 12 (numv s 10 2).toNat 4 = al at *
    generalize (numv s 10 2).toNat = n at *
    have c0 := Q.out.2.1.cell 0 rfl
    have c1 := Q.out.2.1.cell 1 rfl
    have c2 := Q.out.2.1.cell 2 rfl
    have c3 := Q.out.2.1.cell 3 rfl
    have c4 := Q.out.2.1.cell 4 rfl
    have c5 := Q.out.2.1.cell 5 rfl
    have c6 := Q.out.2.1.cell 6 rfl
    have c7 := Q.out.2.1.cell 7 rfl
    have c8 := Q.out.2.1.cell 8 rfl
    have f1 := Q.out.2.1.free 1
    have f2 := Q.out.2.1.free 2
    go_wp2_with fail
    refine (HG.out _).mono ?_
    rintro e w4 ⟨rfl, h4⟩
    replace Q := Lib.hid (Q.out.below h4)
    replace HA2 := Lib.hid (HA2.out.below h4)
    clear h4
    clear c0 c1 c2 c3 c4 c5 c6 c7 c8 f1 f2
    have c0 := Q.out.2.1.cell 0 rfl
    have c1 := Q.out.2.1.cell 1 rfl
    have c2 := Q.out.2.1.cell 2 rfl
    have c3 := Q.out.2.1.cell 3 rfl
    have c4 := Q.out.2.1.cell 4 rfl
    have c5 := Q.out.2.1.cell 5 rfl
    have c6 := Q.out.2.1.cell 6 rfl
    have c7 := Q.out.2.1.cell 7 rfl
    have c8 := Q.out.2.1.cell 8 rfl
    have f1 := Q.out.2.1.free 1
    have f2 := Q.out.2.1.free 2
    have r0 := Q.out.1.cell 0 rfl
    have r1 := Q.out.1.cell 1 rfl
    have r2 := Q.out.1.cell 2 rfl
    have r3 := Q.out.1.cell 3 rfl
    have r4 := Q.out.1.cell 4 rfl
    have r5 := Q.out.1.cell 5 rfl
    have r6 := Q.out.1.cell 6 rfl
    have r7 := Q.out.1.cell 7 rfl
    have r8 := Q.out.1.cell 8 rfl
    have g0 := Q.out.1.free 0
    have g1 := Q.out.1.free 1
    have g2 := Q.out.1.free 2
    have g3 := Q.out.1.free 3
    have g4 := Q.out.1.free 4
    have g5 := Q.out.1.free 5
    have g6 := Q.out.1.free 6
    have g7 := Q.out.1.free 7
    have g8 := Q.out.1.free 8
    replace hPR := Lib.hid hPR
    have hNP : w.heap.size ≠ P := by have := Q.out.2.2; omega
    cases qb
    · have HV := Lib.hid (show queryI s = (3, zeroM) from V0.out)
      go_wp2
      refine bodyPost_ret (v := .tuple #[.agg #[.int .i64 0, .int .i64 0, .string ⟨#[]⟩, .int .i64 0, .bool false, .int .i64 0, .int .i64 0, .slice none 0 0, .slice none 0 0], .int .i64 3]) (by simp [results, Try.results23, go_sem, r0, r1, r2, r3, r4, r5, r6, r7, r8]) rfl (MsgPost.bad HV.out rfl ?_)
      exact (((((((((Q.out.1.2.setCell (p := ⟨w.heap.size, 0, none⟩) (Nat.le_refl _) _).setCell (p := ⟨w.heap.size, 1, none⟩) (Nat.le_refl _) _).setCell (p := ⟨w.heap.size, 2, none⟩) (Nat.le_refl _) _).setCell (p := ⟨w.heap.size, 3, none⟩) (Nat.le_refl _) _).setCell (p := ⟨w.heap.size, 4, none⟩) (Nat.le_refl _) _).setCell (p := ⟨w.heap.size, 5, none⟩) (Nat.le_refl _) _).setCell (p := ⟨w.heap.size, 6, none⟩) (Nat.le_refl _) _).setCell (p := ⟨w.heap.size, 7, none⟩) (Nat.le_refl _) _).setCell (p := ⟨w.heap.size, 8, none⟩) (Nat.le_refl _) _)
    · have HV := Lib.hid (show queryI s = (0, ⟨1, 3, g, d1, d2, d3, d4, al, []⟩) from V0.out)
      go_wp2
      refine bodyPost_ret (v := .tuple #[.agg #[.int .i64 1, .int .i64 3, .string g, .int .i64 d1, .bool d2, .int .i64 d3, .int .i64 d4, .slice p n cp, .slice none 0 0], .int .i64 0]) (by simp [results, Try.results23, go_sem, r0, r1, r2, r3, r4, r5, r6, r7, r8]) rfl ?_
      unfold MsgPost
      rw [HV.out]
      exact ⟨_, _, rfl, (HA2.out.mono (show w.heap.size + 1 ≤ P + 1 by have := hPR.out; omega) id).storeN9 w.heap.size (Nat.lt_succ_self _), RecsG.nil _ _ _, (((((((((Q.out.1.2.setCell (p := ⟨w.heap.size, 0, none⟩) (Nat.le_refl _) _).setCell (p := ⟨w.heap.size, 1, none⟩) (Nat.le_refl _) _).setCell (p := ⟨w.heap.size, 2, none⟩) (Nat.le_refl _) _).setCell (p := ⟨w.heap.size, 3, none⟩) (Nat.le_refl _) _).setCell (p := ⟨w.heap.size, 4, none⟩) (Nat.le_refl _) _).setCell (p := ⟨w.heap.size, 5, none⟩) (Nat.le_refl _) _).setCell (p := ⟨w.heap.size, 6, none⟩) (Nat.le_refl _) _).setCell (p := ⟨w.heap.size, 7, none⟩) (Nat.le_refl _) _).setCell (p := ⟨w.heap.size, 8, none⟩) (Nat.le_refl _) _)⟩
  · have HV := Lib.hid (HVE.out hd)
    obtain ⟨q1, q2⟩ := ne_t hd
    generalize detE s = de at *
    clear HOK HVE HVO hd HDet HA HM
    have B := B3
    have r0 := B.out.cell 0 rfl
    have r1 := B.out.cell 1 rfl
    have r2 := B.out.cell 2 rfl
    have r3 := B.out.cell 3 rfl
    have r4 := B.out.cell 4 rfl
    have r5 := B.out.cell 5 rfl
    have r6 := B.out.cell 6 rfl
    have r7 := B.out.cell 7 rfl
    have r8 := B.out.cell 8 rfl
    have g0 := B.out.free 0
    have g1 := B.out.free 1
    have g2 := B.out.free 2
    have g3 := B.out.free 3
    have g4 := B.out.free 4
    have g5 := B.out.free 5
    have g6 := B.out.free 6
    have g7 := B.out.free 7
    have g8 := B.out.free 8
    go_wp2
    refine bodyPost_ret (v := .tuple #[.agg #[.int .i64 0, .int .i64 0, .string ⟨#[]⟩, .int .i64 0, .bool false, .int .i64 0, .int .i64 0, .slice none 0 0, .slice none 0 0], .int .i64 de]) (by simp [results, Try.results23, go_sem, r0, r1, r2, r3, r4, r5, r6, r7, r8]) rfl (MsgPost.bad HV.out rfl ?_)
    exact (((((((((B.out.2.setCell (p := ⟨w.heap.size, 0, none⟩) (Nat.le_refl _) _).setCell (p := ⟨w.heap.size, 1, none⟩) (Nat.le_refl _) _).setCell (p := ⟨w.heap.size, 2, none⟩) (Nat.le_refl _) _).setCell (p := ⟨w.heap.size, 3, none⟩) (Nat.le_refl _) _).setCell (p := ⟨w.heap.size, 4, none⟩) (Nat.le_refl _) _).setCell (p := ⟨w.heap.size, 5, none⟩) (Nat.le_refl _) _).setCell (p := ⟨w.heap.size, 6, none⟩) (Nat.le_refl _) _).setCell (p := ⟨w.heap.size, 7, none⟩) (Nat.le_refl _) _).setCell (p := ⟨w.heap.size, 8, none⟩) (Nat.le_refl _) _)

set_option maxHeartbeats 4000000 in
set_option maxRecDepth 100000 in
theorem query_gzs (s : ByteArray) (w : World) (hs : s.size ≤ 281474976710000) (h8 : 8 ≤ s.size) (hg : s.extract 4 8 ≠ noGrp) (hm : byt s 1 = 0) (hl : s.size ≤ 8) :
    Calls Try.prog 23 #[.string s] w (MsgPost (queryI s) w) := by
  have HM := Lib.hid fun U => gnum1_c s 1 U hs (by omega)
  have HA := Lib.hid fun U => gaddr_c s 4 4 U hs (by omega)
  rw [show ((4 : Nat) : Int) = 4 from rfl, show 4 + 4 = 8 from rfl] at HA
  have hqg : qGrp s = s.extract 4 8 := by unfold qGrp; rw [if_neg hg]
  have t1 : ((s.extract 4 8).toList == [0, 0, 0, 0]) = false := by rw [beq_eq_false_iff_ne, ByteArray.toList_eq]; intro h; exact hg (ByteArray.ext (Array.toList_inj.1 h))
  have HV := Lib.hid (show queryI s = if qGrpB (qGrp s) 0 then (0, ⟨1, 1, qGrp s, byt s 1, false, 0, 0, [], []⟩) else (3, zeroM) by unfold queryI; rw [if_pos hl]; rw [if_pos hm])
  rw [hqg] at HV
  have hl' : (s.size : Int) ≤ 8 := by omega
  generalize s.extract 4 8 = g at *
  rw [hm] at HM HV
  have m1 : ((0 : Int) == 0) = true := rfl
  have HG := Lib.hid fun U => gmay_c 1 1 g ((0 : Nat) : Int) false 0 0 none 0 0 (.slice none 0 0) U
  generalize qGrpB g 0 = qb at HG HV
  clear hqg hm hl hg
  go_enter Try.func23, Try.ntmps23
  go_wp2_with fail
  refine (HM.out _).mono ?_
  rintro e w1 ⟨rfl, h1⟩
  have B := Lib.hid ((Box.start w _ _).below h1)
  clear h1
  go_wp2_with fail
  have Q := Lib.hid (QB.start (xs := #[.int .i64 1, .int .i64 1, .string ⟨#[]⟩, .int .i64 ((0 : Nat) : Int), .bool false, .int .i64 0, .int .i64 0, .slice none 0 0, .slice none 0 0]) B.out)
  refine (HA.out _).mono ?_
  rintro e w2 ⟨rfl, h2⟩
  replace Q := Lib.hid (Q.out.below h2)
  generalize w1.heap.size = P at Q ⊢
  clear h2 B
  have c0 := Q.out.2.1.cell 0 rfl
  have c1 := Q.out.2.1.cell 1 rfl
  have c2 := Q.out.2.1.cell 2 rfl
  have c3 := Q.out.2.1.cell 3 rfl
  have c4 := Q.out.2.1.cell 4 rfl
  have c5 := Q.out.2.1.cell 5 rfl
  have c6 := Q.out.2.1.cell 6 rfl
  have c7 := Q.out.2.1.cell 7 rfl
  have c8 := Q.out.2.1.cell 8 rfl
  have f1 := Q.out.2.1.free 1
  have f2 := Q.out.2.1.free 2
  go_wp2_with fail
  refine (HG.out _).mono ?_
  rintro e w3 ⟨rfl, h3⟩
  have Q3 : QB w P #[.int .i64 1, .int .i64 1, .string g, .int .i64 ((0 : Nat) : Int), .bool false, .int .i64 0, .int .i64 0, .slice none 0 0, .slice none 0 0] w3 := (Q.out.store 2 (.string g)).below h3
  clear h3
  clear c0 c1 c2 c3 c4 c5 c6 c7 c8 f1 f2
  replace Q := Lib.hid Q3
  clear Q3
  have c0 := Q.out.2.1.cell 0 rfl
  have c1 := Q.out.2.1.cell 1 rfl
  have c2 := Q.out.2.1.cell 2 rfl
  have c3 := Q.out.2.1.cell 3 rfl
  have c4 := Q.out.2.1.cell 4 rfl
  have c5 := Q.out.2.1.cell 5 rfl
  have c6 := Q.out.2.1.cell 6 rfl
  have c7 := Q.out.2.1.cell 7 rfl
  have c8 := Q.out.2.1.cell 8 rfl
  have f1 := Q.out.2.1.free 1
  have f2 := Q.out.2.1.free 2
  have r0 := Q.out.1.cell 0 rfl
  have r1 := Q.out.1.cell 1 rfl
  have r2 := Q.out.1.cell 2 rfl
  have r3 := Q.out.1.cell 3 rfl
  have r4 := Q.out.1.cell 4 rfl
  have r5 := Q.out.1.cell 5 rfl
  have r6 := Q.out.1.cell 6 rfl
  have r7 := Q.out.1.cell 7 rfl
  have r8 := Q.out.1.cell 8 rfl
  have g0 := Q.out.1.free 0
  have g1 := Q.out.1.free 1
  have g2 := Q.out.1.free 2
  have g3 := Q.out.1.free 3
  have g4 := Q.out.1.free 4
  have g5 := Q.out.1.free 5
  have g6 := Q.out.1.free 6
  have g7 := Q.out.1.free 7
  have g8 := Q.out.1.free 8
  have hNP : w.heap.size ≠ P := by have := Q.out.2.2; omega
  cases qb
  · replace HV := Lib.hid (show queryI s = (3, zeroM) from HV.out)
    go_wp2
    refine bodyPost_ret (v := .tuple #[.agg #[.int .i64 0, .int .i64 0, .string ⟨#[]⟩, .int .i64 0, .bool false, .int .i64 0, .int .i64 0, .slice none 0 0, .slice none 0 0], .int .i64 3]) (by simp [results, Try.results23, go_sem, r0, r1, r2, r3, r4, r5, r6, r7, r8]) rfl (MsgPost.bad HV.out rfl ?_)
    exact (((((((((Q.out.1.2.setCell (p := ⟨w.heap.size, 0, none⟩) (Nat.le_refl _) _).setCell (p := ⟨w.heap.size, 1, none⟩) (Nat.le_refl _) _).setCell (p := ⟨w.heap.size, 2, none⟩) (Nat.le_refl _) _).setCell (p := ⟨w.heap.size, 3, none⟩) (Nat.le_refl _) _).setCell (p := ⟨w.heap.size, 4, none⟩) (Nat.le_refl _) _).setCell (p := ⟨w.heap.size, 5, none⟩) (Nat.le_refl _) _).setCell (p := ⟨w.heap.size, 6, none⟩) (Nat.le_refl _) _).setCell (p := ⟨w.heap.size, 7, none⟩) (Nat.le_refl _) _).setCell (p := ⟨w.heap.size, 8, none⟩) (Nat.le_refl _) _)
  · replace HV := Lib.hid (show queryI s = (0, ⟨1, 1, g, ((0 : Nat) : Int), false, 0, 0, [], []⟩) from HV.out)
    go_wp2
    refine bodyPost_ret (v := .tuple #[.agg #[.int .i64 1, .int .i64 1, .string g, .int .i64 ((0 : Nat) : Int), .bool false, .int .i64 0, .int .i64 0, .slice none 0 0, .slice none 0 0], .int .i64 0]) (by simp [results, Try.results23, go_sem, r0, r1, r2, r3, r4, r5, r6, r7, r8]) rfl ?_
    unfold MsgPost
    rw [HV.out]
    exact ⟨_, _, rfl, AddrsG.nil _ _ _, RecsG.nil _ _ _, (((((((((Q.out.1.2.setCell (p := ⟨w.heap.size, 0, none⟩) (Nat.le_refl _) _).setCell (p := ⟨w.heap.size, 1, none⟩) (Nat.le_refl _) _).setCell (p := ⟨w.heap.size, 2, none⟩) (Nat.le_refl _) _).setCell (p := ⟨w.heap.size, 3, none⟩) (Nat.le_refl _) _).setCell (p := ⟨w.heap.size, 4, none⟩) (Nat.le_refl _) _).setCell (p := ⟨w.heap.size, 5, none⟩) (Nat.le_refl _) _).setCell (p := ⟨w.heap.size, 6, none⟩) (Nat.le_refl _) _).setCell (p := ⟨w.heap.size, 7, none⟩) (Nat.le_refl _) _).setCell (p := ⟨w.heap.size, 8, none⟩) (Nat.le_refl _) _)⟩

set_option maxHeartbeats 4000000 in
set_option maxRecDepth 100000 in
theorem query_gzl (s : ByteArray) (w : World) (hs : s.size ≤ 281474976710000) (h8 : 8 ≤ s.size) (hg : s.extract 4 8 ≠ noGrp) (hm : byt s 1 = 0) (hl : 8 < s.size) :
    Calls Try.prog 23 #[.string s] w (MsgPost (queryI s) w) := by
  have HM := Lib.hid fun U => gnum1_c s 1 U hs (by omega)
  have HA := Lib.hid fun U => gaddr_c s 4 4 U hs (by omega)
  rw [show ((4 : Nat) : Int) = 4 from rfl, show 4 + 4 = 8 from rfl] at HA
  have hqg : qGrp s = s.extract 4 8 := by unfold qGrp; rw [if_neg hg]
  have t1 : ((s.extract 4 8).toList == [0, 0, 0, 0]) = false := by rw [beq_eq_false_iff_ne, ByteArray.toList_eq]; intro h; exact hg (ByteArray.ext (Array.toList_inj.1 h))
  have HVE := Lib.hid fun (h : detE s ≠ 0) => query_bad s hl h
  have HVO := Lib.hid fun (h : detE s = 0) => query_good s hl h
  rw [hqg] at HVO
  have hl' : (8 : Int) < (s.size : Int) := by omega
  generalize s.extract 4 8 = g at *
  rw [hm] at HM
  have m1 : ((0 : Int) == 0) = true := rfl
  have HDet := Lib.hid fun P U hL => det_c s P 1 1 g ((0 : Nat) : Int) U U hs hl hL
  clear hqg hl hg hm
  go_enter Try.func23, Try.ntmps23
  go_wp2_with fail
  refine (HM.out _).mono ?_
  rintro e w1 ⟨rfl, h1⟩
  have B := Lib.hid ((Box.start w _ _).below h1)
  clear h1
  go_wp2_with fail
  have Q := Lib.hid (QB.start (xs := #[.int .i64 1, .int .i64 1, .string ⟨#[]⟩, .int .i64 ((0 : Nat) : Int), .bool false, .int .i64 0, .int .i64 0, .slice none 0 0, .slice none 0 0]) B.out)
  refine (HA.out _).mono ?_
  rintro e w2 ⟨rfl, h2⟩
  replace Q := Lib.hid (Q.out.below h2)
  generalize w1.heap.size = P at Q ⊢
  clear h2 B
  have c0 := Q.out.2.1.cell 0 rfl
  have c1 := Q.out.2.1.cell 1 rfl
  have c2 := Q.out.2.1.cell 2 rfl
  have c3 := Q.out.2.1.cell 3 rfl
  have c4 := Q.out.2.1.cell 4 rfl
  have c5 := Q.out.2.1.cell 5 rfl
  have c6 := Q.out.2.1.cell 6 rfl
  have c7 := Q.out.2.1.cell 7 rfl
  have c8 := Q.out.2.1.cell 8 rfl
  have f1 := Q.out.2.1.free 1
  have f2 := Q.out.2.1.free 2
  go_wp2_with fail
  have Q3 : QB w P #[.int .i64 1, .int .i64 1, .string g, .int .i64 ((0 : Nat) : Int), .bool false, .int .i64 0, .int .i64 0, .slice none 0 0, .slice none 0 0] _ := (Q.out.store 2 (.string g))
  refine (HDet.out P _ Q3.2.1).mono ?_
  rintro e w3 ⟨rfl, h3, hok⟩
  have hPR := Q3.2.2
  have B3 := Lib.hid (Q3.1.belowP hPR h3)
  have HOK := Lib.hid hok
  clear c0 c1 c2 c3 c4 c5 c6 c7 c8 f1 f2
  clear Q Q3 h3 hok
  by_cases hd : detE s = 0
  · obtain ⟨p, cp, hLB, hAd⟩ := HOK.out hd
    have V0 := Lib.hid (HVO.out hd)
    rw [hd]
    have Q : Hid (QB w P _ w3) := Lib.hid ⟨B3.out, ⟨hLB.1, Below.refl _ _⟩, hPR⟩
    have HA2 := Lib.hid hAd
    clear HOK hLB hAd HVE HVO hd B3 HDet HA HM
    have HG := Lib.hid fun U => gmay_c 1 3 g (decI 4 (byt s 1)).1 (decide (byt s 8 / 8 % 2 = 1)) ((byt s 8 % 8 : Nat) : Int) (decI 4 (byt s 9)).1 p (numv s 10 2).toNat cp (.slice none 0 0) U
    generalize qGrpB g (numv s 10 2).toNat = qb at HG V0
    generalize (decI 4 (byt s 1)).1 = d1 at *
    generalize decide (byt s 8 / 8 % 2 = 1) = d2 at *
    generalize ((byt s 8 % 8 : Nat) : Int) = d3 at *
    generalize (decI 4 (byt s 9)).1 = d4 at *
    generalize addrsL s 12 (numv s 10 2).toNat 4 = al at *
    generalize (numv s 10 2).toNat = n at *
    have c0 := Q.out.2.1.cell 0 rfl
    have c1 := Q.out.2.1.cell 1 rfl
    have c2 := Q.out.2.1.cell 2 rfl
    have c3 := Q.out.2.1.cell 3 rfl
    have c4 := Q.out.2.1.cell 4 rfl
    have c5 := Q.out.2.1.cell 5 rfl
    have c6 := Q.out.2.1.cell 6 rfl
    have c7 := Q.out.2.1.cell 7 rfl
    have c8 := Q.out.2.1.cell 8 rfl
    have f1 := Q.out.2.1.free 1
    have f2 := Q.out.2.1.free 2
    go_wp2_with fail
    refine (HG.out _).mono ?_
    rintro e w4 ⟨rfl, h4⟩
    replace Q := Lib.hid (Q.out.below h4)
    replace HA2 := Lib.hid (HA2.out.below h4)
    clear h4
    clear c0 c1 c2 c3 c4 c5 c6 c7 c8 f1 f2
    have c0 := Q.out.2.1.cell 0 rfl
    have c1 := Q.out.2.1.cell 1 rfl
    have c2 := Q.out.2.1.cell 2 rfl
    have c3 := Q.out.2.1.cell 3 rfl
    have c4 := Q.out.2.1.cell 4 rfl
    have c5 := Q.out.2.1.cell 5 rfl
    have c6 := Q.out.2.1.cell 6 rfl
    have c7 := Q.out.2.1.cell 7 rfl
    have c8 := Q.out.2.1.cell 8 rfl
    have f1 := Q.out.2.1.free 1
    have f2 := Q.out.2.1.free 2
    have r0 := Q.out.1.cell 0 rfl
    have r1 := Q.out.1.cell 1 rfl
    have r2 := Q.out.1.cell 2 rfl
    have r3 := Q.out.1.cell 3 rfl
    have r4 := Q.out.1.cell 4 rfl
    have r5 := Q.out.1.cell 5 rfl
    have r6 := Q.out.1.cell 6 rfl
    have r7 := Q.out.1.cell 7 rfl
    have r8 := Q.out.1.cell 8 rfl
    have g0 := Q.out.1.free 0
    have g1 := Q.out.1.free 1
    have g2 := Q.out.1.free 2
    have g3 := Q.out.1.free 3
    have g4 := Q.out.1.free 4
    have g5 := Q.out.1.free 5
    have g6 := Q.out.1.free 6
    have g7 := Q.out.1.free 7
    have g8 := Q.out.1.free 8
    replace hPR := Lib.hid hPR
    have hNP : w.heap.size ≠ P := by have := Q.out.2.2; omega
    cases qb
    · have HV := Lib.hid (show queryI s = (3, zeroM) from V0.out)
      go_wp2
      refine bodyPost_ret (v := .tuple #[.agg #[.int .i64 0, .int .i64 0, .string ⟨#[]⟩, .int .i64 0, .bool false, .int .i64 0, .int .i64 0, .slice none 0 0, .slice none 0 0], .int .i64 3]) (by simp [results, Try.results23, go_sem, r0, r1, r2, r3, r4, r5, r6, r7, r8]) rfl (MsgPost.bad HV.out rfl ?_)
      exact (((((((((Q.out.1.2.setCell (p := ⟨w.heap.size, 0, none⟩) (Nat.le_refl _) _).setCell (p := ⟨w.heap.size, 1, none⟩) (Nat.le_refl _) _).setCell (p := ⟨w.heap.size, 2, none⟩) (Nat.le_refl _) _).setCell (p := ⟨w.heap.size, 3, none⟩) (Nat.le_refl _) _).setCell (p := ⟨w.heap.size, 4, none⟩) (Nat.le_refl _) _).setCell (p := ⟨w.heap.size, 5, none⟩) (Nat.le_refl _) _).setCell (p := ⟨w.heap.size, 6, none⟩) (Nat.le_refl _) _).setCell (p := ⟨w.heap.size, 7, none⟩) (Nat.le_refl _) _).setCell (p := ⟨w.heap.size, 8, none⟩) (Nat.le_refl _) _)
    · have HV := Lib.hid (show queryI s = (0, ⟨1, 3, g, d1, d2, d3, d4, al, []⟩) from V0.out)
      go_wp2
      refine bodyPost_ret (v := .tuple #[.agg #[.int .i64 1, .int .i64 3, .string g, .int .i64 d1, .bool d2, .int .i64 d3, .int .i64 d4, .slice p n cp, .slice none 0 0], .int .i64 0]) (by simp [results, Try.results23, go_sem, r0, r1, r2, r3, r4, r5, r6, r7, r8]) rfl ?_
      unfold MsgPost
      rw [HV.out]
      exact ⟨_, _, rfl, (HA2.out.mono (show w.heap.size + 1 ≤ P + 1 by have := hPR.out; omega) id).storeN9 w.heap.size (Nat.lt_succ_self _), RecsG.nil _ _ _, (((((((((Q.out.1.2.setCell (p := ⟨w.heap.size, 0, none⟩) (Nat.le_refl _) _).setCell (p := ⟨w.heap.size, 1, none⟩) (Nat.le_refl _) _).setCell (p := ⟨w.heap.size, 2, none⟩) (Nat.le_refl _) _).setCell (p := ⟨w.heap.size, 3, none⟩) (Nat.le_refl _) _).setCell (p := ⟨w.heap.size, 4, none⟩) (Nat.le_refl _) _).setCell (p := ⟨w.heap.size, 5, none⟩) (Nat.le_refl _) _).setCell (p := ⟨w.heap.size, 6, none⟩) (Nat.le_refl _) _).setCell (p := ⟨w.heap.size, 7, none⟩) (Nat.le_refl _) _).setCell (p := ⟨w.heap.size, 8, none⟩) (Nat.le_refl _) _)⟩
  · have HV := Lib.hid (HVE.out hd)
    obtain ⟨q1, q2⟩ := ne_t hd
    generalize detE s = de at *
    clear HOK HVE HVO hd HDet HA HM
    have B := B3
    have r0 := B.out.cell 0 rfl
    have r1 := B.out.cell 1 rfl
    have r2 := B.out.cell 2 rfl
    have r3 := B.out.cell 3 rfl
    have r4 := B.out.cell 4 rfl
    have r5 := B.out.cell 5 rfl
    have r6 := B.out.cell 6 rfl
    have r7 := B.out.cell 7 rfl
    have r8 := B.out.cell 8 rfl
    have g0 := B.out.free 0
    have g1 := B.out.free 1
    have g2 := B.out.free 2
    have g3 := B.out.free 3
    have g4 := B.out.free 4
    have g5 := B.out.free 5
    have g6 := B.out.free 6
    have g7 := B.out.free 7
    have g8 := B.out.free 8
    go_wp2
    refine bodyPost_ret (v := .tuple #[.agg #[.int .i64 0, .int .i64 0, .string ⟨#[]⟩, .int .i64 0, .bool false, .int .i64 0, .int .i64 0, .slice none 0 0, .slice none 0 0], .int .i64 de]) (by simp [results, Try.results23, go_sem, r0, r1, r2, r3, r4, r5, r6, r7, r8]) rfl (MsgPost.bad HV.out rfl ?_)
    exact (((((((((B.out.2.setCell (p := ⟨w.heap.size, 0, none⟩) (Nat.le_refl _) _).setCell (p := ⟨w.heap.size, 1, none⟩) (Nat.le_refl _) _).setCell (p := ⟨w.heap.size, 2, none⟩) (Nat.le_refl _) _).setCell (p := ⟨w.heap.size, 3, none⟩) (Nat.le_refl _) _).setCell (p := ⟨w.heap.size, 4, none⟩) (Nat.le_refl _) _).setCell (p := ⟨w.heap.size, 5, none⟩) (Nat.le_refl _) _).setCell (p := ⟨w.heap.size, 6, none⟩) (Nat.le_refl _) _).setCell (p := ⟨w.heap.size, 7, none⟩) (Nat.le_refl _) _).setCell (p := ⟨w.heap.size, 8, none⟩) (Nat.le_refl _) _)

set_option maxHeartbeats 4000000 in
set_option maxRecDepth 100000 in
theorem query_nms (s : ByteArray) (w : World) (hs : s.size ≤ 281474976710000) (h8 : 8 ≤ s.size) (hg : s.extract 4 8 = noGrp) (hm : byt s 1 ≠ 0) (hl : s.size ≤ 8) :
    Calls Try.prog 23 #[.string s] w (MsgPost (queryI s) w) := by
  have HM := Lib.hid fun U => gnum1_c s 1 U hs (by omega)
  have HA := Lib.hid fun U => gaddr_c s 4 4 U hs (by omega)
  rw [show ((4 : Nat) : Int) = 4 from rfl, show 4 + 4 = 8 from rfl] at HA
  have hqg : qGrp s = ⟨#[]⟩ := by unfold qGrp; rw [if_pos hg]
  have t1 : (noGrp.toList == [0, 0, 0, 0]) = true := by decide +kernel
  rw [hg] at HA
  have HV := Lib.hid (show queryI s = if qGrpB (qGrp s) 0 then (0, ⟨1, 2, qGrp s, byt s 1, false, 0, 0, [], []⟩) else (3, zeroM) by unfold queryI; rw [if_pos hl]; rw [if_neg hm])
  rw [hqg] at HV
  have hl' : (s.size : Int) ≤ 8 := by omega
  generalize noGrp = g at HA t1
  obtain ⟨m1, m2⟩ := ne_t (show (byt s 1 : Int) ≠ 0 by omega)
  have HG := Lib.hid fun U => gmay_c 1 2 ⟨#[]⟩ (byt s 1 : Int) false 0 0 none 0 0 (.slice none 0 0) U
  generalize qGrpB ⟨#[]⟩ 0 = qb at HG HV
  clear hqg hm hl hg
  generalize byt s 1 = mx at *
  go_enter Try.func23, Try.ntmps23
  go_wp2_with fail
  refine (HM.out _).mono ?_
  rintro e w1 ⟨rfl, h1⟩
  have B := Lib.hid ((Box.start w _ _).below h1)
  clear h1
  go_wp2_with fail
  have Q := Lib.hid (QB.start (xs := #[.int .i64 1, .int .i64 1, .string ⟨#[]⟩, .int .i64 (mx : Int), .bool false, .int .i64 0, .int .i64 0, .slice none 0 0, .slice none 0 0]) B.out)
  refine (HA.out _).mono ?_
  rintro e w2 ⟨rfl, h2⟩
  replace Q := Lib.hid (Q.out.below h2)
  generalize w1.heap.size = P at Q ⊢
  clear h2 B
  have c0 := Q.out.2.1.cell 0 rfl
  have c1 := Q.out.2.1.cell 1 rfl
  have c2 := Q.out.2.1.cell 2 rfl
  have c3 := Q.out.2.1.cell 3 rfl
  have c4 := Q.out.2.1.cell 4 rfl
  have c5 := Q.out.2.1.cell 5 rfl
  have c6 := Q.out.2.1.cell 6 rfl
  have c7 := Q.out.2.1.cell 7 rfl
  have c8 := Q.out.2.1.cell 8 rfl
  have f1 := Q.out.2.1.free 1
  have f2 := Q.out.2.1.free 2
  go_wp2_with fail
  refine (HG.out _).mono ?_
  rintro e w3 ⟨rfl, h3⟩
  have Q3 : QB w P #[.int .i64 1, .int .i64 2, .string ⟨#[]⟩, .int .i64 (mx : Int), .bool false, .int .i64 0, .int .i64 0, .slice none 0 0, .slice none 0 0] w3 := (Q.out.store 1 (.int .i64 2)).below h3
  clear h3
  clear c0 c1 c2 c3 c4 c5 c6 c7 c8 f1 f2
  replace Q := Lib.hid Q3
  clear Q3
  have c0 := Q.out.2.1.cell 0 rfl
  have c1 := Q.out.2.1.cell 1 rfl
  have c2 := Q.out.2.1.cell 2 rfl
  have c3 := Q.out.2.1.cell 3 rfl
  have c4 := Q.out.2.1.cell 4 rfl
  have c5 := Q.out.2.1.cell 5 rfl
  have c6 := Q.out.2.1.cell 6 rfl
  have c7 := Q.out.2.1.cell 7 rfl
  have c8 := Q.out.2.1.cell 8 rfl
  have f1 := Q.out.2.1.free 1
  have f2 := Q.out.2.1.free 2
  have r0 := Q.out.1.cell 0 rfl
  have r1 := Q.out.1.cell 1 rfl
  have r2 := Q.out.1.cell 2 rfl
  have r3 := Q.out.1.cell 3 rfl
  have r4 := Q.out.1.cell 4 rfl
  have r5 := Q.out.1.cell 5 rfl
  have r6 := Q.out.1.cell 6 rfl
  have r7 := Q.out.1.cell 7 rfl
  have r8 := Q.out.1.cell 8 rfl
  have g0 := Q.out.1.free 0
  have g1 := Q.out.1.free 1
  have g2 := Q.out.1.free 2
  have g3 := Q.out.1.free 3
  have g4 := Q.out.1.free 4
  have g5 := Q.out.1.free 5
  have g6 := Q.out.1.free 6
  have g7 := Q.out.1.free 7
  have g8 := Q.out.1.free 8
  have hNP : w.heap.size ≠ P := by have := Q.out.2.2; omega
  cases qb
  · replace HV := Lib.hid (show queryI s = (3, zeroM) from HV.out)
    go_wp2
    refine bodyPost_ret (v := .tuple #[.agg #[.int .i64 0, .int .i64 0, .string ⟨#[]⟩, .int .i64 0, .bool false, .int .i64 0, .int .i64 0, .slice none 0 0, .slice none 0 0], .int .i64 3]) (by simp [results, Try.results23, go_sem, r0, r1, r2, r3, r4, r5, r6, r7, r8]) rfl (MsgPost.bad HV.out rfl ?_)
    exact (((((((((Q.out.1.2.setCell (p := ⟨w.heap.size, 0, none⟩) (Nat.le_refl _) _).setCell (p := ⟨w.heap.size, 1, none⟩) (Nat.le_refl _) _).setCell (p := ⟨w.heap.size, 2, none⟩) (Nat.le_refl _) _).setCell (p := ⟨w.heap.size, 3, none⟩) (Nat.le_refl _) _).setCell (p := ⟨w.heap.size, 4, none⟩) (Nat.le_refl _) _).setCell (p := ⟨w.heap.size, 5, none⟩) (Nat.le_refl _) _).setCell (p := ⟨w.heap.size, 6, none⟩) (Nat.le_refl _) _).setCell (p := ⟨w.heap.size, 7, none⟩) (Nat.le_refl _) _).setCell (p := ⟨w.heap.size, 8, none⟩) (Nat.le_refl _) _)
  · replace HV := Lib.hid (show queryI s = (0, ⟨1, 2, ⟨#[]⟩, (mx : Int), false, 0, 0, [], []⟩) from HV.out)
    go_wp2
    refine bodyPost_ret (v := .tuple #[.agg #[.int .i64 1, .int .i64 2, .string ⟨#[]⟩, .int .i64 (mx : Int), .bool false, .int .i64 0, .int .i64 0, .slice none 0 0, .slice none 0 0], .int .i64 0]) (by simp [results, Try.results23, go_sem, r0, r1, r2, r3, r4, r5, r6, r7, r8]) rfl ?_
    unfold MsgPost
    rw [HV.out]
    exact ⟨_, _, rfl, AddrsG.nil _ _ _, RecsG.nil _ _ _, (((((((((Q.out.1.2.setCell (p := ⟨w.heap.size, 0, none⟩) (Nat.le_refl _) _).setCell (p := ⟨w.heap.size, 1, none⟩) (Nat.le_refl _) _).setCell (p := ⟨w.heap.size, 2, none⟩) (Nat.le_refl _) _).setCell (p := ⟨w.heap.size, 3, none⟩) (Nat.le_refl _) _).setCell (p := ⟨w.heap.size, 4, none⟩) (Nat.le_refl _) _).setCell (p := ⟨w.heap.size, 5, none⟩) (Nat.le_refl _) _).setCell (p := ⟨w.heap.size, 6, none⟩) (Nat.le_refl _) _).setCell (p := ⟨w.heap.size, 7, none⟩) (Nat.le_refl _) _).setCell (p := ⟨w.heap.size, 8, none⟩) (Nat.le_refl _) _)⟩

set_option maxHeartbeats 4000000 in
set_option maxRecDepth 100000 in
theorem query_nml (s : ByteArray) (w : World) (hs : s.size ≤ 281474976710000) (h8 : 8 ≤ s.size) (hg : s.extract 4 8 = noGrp) (hm : byt s 1 ≠ 0) (hl : 8 < s.size) :
    Calls Try.prog 23 #[.string s] w (MsgPost (queryI s) w) := by
  have HM := Lib.hid fun U => gnum1_c s 1 U hs (by omega)
  have HA := Lib.hid fun U => gaddr_c s 4 4 U hs (by omega)
  rw [show ((4 : Nat) : Int) = 4 from rfl, show 4 + 4 = 8 from rfl] at HA
  have hqg : qGrp s = ⟨#[]⟩ := by unfold qGrp; rw [if_pos hg]
  have t1 : (noGrp.toList == [0, 0, 0, 0]) = true := by decide +kernel
  rw [hg] at HA
  have HVE := Lib.hid fun (h : detE s ≠ 0) => query_bad s hl h
  have HVO := Lib.hid fun (h : detE s = 0) => query_good s hl h
  rw [hqg] at HVO
  have hl' : (8 : Int) < (s.size : Int) := by omega
  generalize noGrp = g at HA t1
  obtain ⟨m1, m2⟩ := ne_t (show (byt s 1 : Int) ≠ 0 by omega)
  have HDet := Lib.hid fun P U hL => det_c s P 1 2 ⟨#[]⟩ (byt s 1 : Int) U U hs hl hL
  clear hqg hl hg hm
  go_enter Try.func23, Try.ntmps23
  go_wp2_with fail
  refine (HM.out _).mono ?_
  rintro e w1 ⟨rfl, h1⟩
  have B := Lib.hid ((Box.start w _ _).below h1)
  clear h1
  go_wp2_with fail
  have Q := Lib.hid (QB.start (xs := #[.int .i64 1, .int .i64 1, .string ⟨#[]⟩, .int .i64 (byt s 1 : Int), .bool false, .int .i64 0, .int .i64 0, .slice none 0 0, .slice none 0 0]) B.out)
  refine (HA.out _).mono ?_
  rintro e w2 ⟨rfl, h2⟩
  replace Q := Lib.hid (Q.out.below h2)
  generalize w1.heap.size = P at Q ⊢
  clear h2 B
  have c0 := Q.out.2.1.cell 0 rfl
  have c1 := Q.out.2.1.cell 1 rfl
  have c2 := Q.out.2.1.cell 2 rfl
  have c3 := Q.out.2.1.cell 3 rfl
  have c4 := Q.out.2.1.cell 4 rfl
  have c5 := Q.out.2.1.cell 5 rfl
  have c6 := Q.out.2.1.cell 6 rfl
  have c7 := Q.out.2.1.cell 7 rfl
  have c8 := Q.out.2.1.cell 8 rfl
  have f1 := Q.out.2.1.free 1
  have f2 := Q.out.2.1.free 2
  go_wp2_with fail
  have Q3 : QB w P #[.int .i64 1, .int .i64 2, .string ⟨#[]⟩, .int .i64 (byt s 1 : Int), .bool false, .int .i64 0, .int .i64 0, .slice none 0 0, .slice none 0 0] _ := (Q.out.store 1 (.int .i64 2))
  refine (HDet.out P _ Q3.2.1).mono ?_
  rintro e w3 ⟨rfl, h3, hok⟩
  have hPR := Q3.2.2
  have B3 := Lib.hid (Q3.1.belowP hPR h3)
  have HOK := Lib.hid hok
  clear c0 c1 c2 c3 c4 c5 c6 c7 c8 f1 f2
  clear Q Q3 h3 hok
  by_cases hd : detE s = 0
  · obtain ⟨p, cp, hLB, hAd⟩ := HOK.out hd
    have V0 := Lib.hid (HVO.out hd)
    rw [hd]
    have Q : Hid (QB w P _ w3) := Lib.hid ⟨B3.out, ⟨hLB.1, Below.refl _ _⟩, hPR⟩
    have HA2 := Lib.hid hAd
    clear HOK hLB hAd HVE HVO hd B3 HDet HA HM
    have HG := Lib.hid fun U => gmay_c 1 3 ⟨#[]⟩ (decI 4 (byt s 1)).1 (decide (byt s 8 / 8 % 2 = 1)) ((byt s 8 % 8 : Nat) : Int) (decI 4 (byt s 9)).1 p (numv s 10 2).toNat cp (.slice none 0 0) U
    generalize qGrpB ⟨#[]⟩ (numv s 10 2).toNat = qb at HG V0
    generalize (decI 4 (byt s 1)).1 = d1 at *
    generalize decide (byt s 8 / 8 % 2 = 1) = d2 at *
    generalize ((byt s 8 % 8 : Nat) : Int) = d3 at *
    generalize (decI 4 (byt s 9)).1 = d4 at *
    generalize addrsL s 12 (numv s 10 2).toNat 4 = al at *
    generalize (numv s 10 2).toNat = n at *
    have c0 := Q.out.2.1.cell 0 rfl
    have c1 := Q.out.2.1.cell 1 rfl
    have c2 := Q.out.2.1.cell 2 rfl
    have c3 := Q.out.2.1.cell 3 rfl
    have c4 := Q.out.2.1.cell 4 rfl
    have c5 := Q.out.2.1.cell 5 rfl
    have c6 := Q.out.2.1.cell 6 rfl
    have c7 := Q.out.2.1.cell 7 rfl
    have c8 := Q.out.2.1.cell 8 rfl
    have f1 := Q.out.2.1.free 1
    have f2 := Q.out.2.1.free 2
    go_wp2_with fail
    refine (HG.out _).mono ?_
    rintro e w4 ⟨rfl, h4⟩
    replace Q := Lib.hid (Q.out.below h4)
    replace HA2 := Lib.hid (HA2.out.below h4)
    clear h4
    clear c0 c1 c2 c3 c4 c5 c6 c7 c8 f1 f2
    have c0 := Q.out.2.1.cell 0 rfl
    have c1 := Q.out.2.1.cell 1 rfl
    have c2 := Q.out.2.1.cell 2 rfl
    have c3 := Q.out.2.1.cell 3 rfl
    have c4 := Q.out.2.1.cell 4 rfl
    have c5 := Q.out.2.1.cell 5 rfl
    have c6 := Q.out.2.1.cell 6 rfl
    have c7 := Q.out.2.1.cell 7 rfl
    have c8 := Q.out.2.1.cell 8 rfl
    have f1 := Q.out.2.1.free 1
    have f2 := Q.out.2.1.free 2
    have r0 := Q.out.1.cell 0 rfl
    have r1 := Q.out.1.cell 1 rfl
    have r2 := Q.out.1.cell 2 rfl
    have r3 := Q.out.1.cell 3 rfl
    have r4 := Q.out.1.cell 4 rfl
    have r5 := Q.out.1.cell 5 rfl
    have r6 := Q.out.1.cell 6 rfl
    have r7 := Q.out.1.cell 7 rfl
    have r8 := Q.out.1.cell 8 rfl
    have g0 := Q.out.1.free 0
    have g1 := Q.out.1.free 1
    have g2 := Q.out.1.free 2
    have g3 := Q.out.1.free 3
    have g4 := Q.out.1.free 4
    have g5 := Q.out.1.free 5
    have g6 := Q.out.1.free 6
    have g7 := Q.out.1.free 7
    have g8 := Q.out.1.free 8
    replace hPR := Lib.hid hPR
    have hNP : w.heap.size ≠ P := by have := Q.out.2.2; omega
    cases qb
    · have HV := Lib.hid (show queryI s = (3, zeroM) from V0.out)
      go_wp2
      refine bodyPost_ret (v := .tuple #[.agg #[.int .i64 0, .int .i64 0, .string ⟨#[]⟩, .int .i64 0, .bool false, .int .i64 0, .int .i64 0, .slice none 0 0, .slice none 0 0], .int .i64 3]) (by simp [results, Try.results23, go_sem, r0, r1, r2, r3, r4, r5, r6, r7, r8]) rfl (MsgPost.bad HV.out rfl ?_)
      exact (((((((((Q.out.1.2.setCell (p := ⟨w.heap.size, 0, none⟩) (Nat.le_refl _) _).setCell (p := ⟨w.heap.size, 1, none⟩) (Nat.le_refl _) _).setCell (p := ⟨w.heap.size, 2, none⟩) (Nat.le_refl _) _).setCell (p := ⟨w.heap.size, 3, none⟩) (Nat.le_refl _) _).setCell (p := ⟨w.heap.size, 4, none⟩) (Nat.le_refl _) _).setCell (p := ⟨w.heap.size, 5, none⟩) (Nat.le_refl _) _).setCell (p := ⟨w.heap.size, 6, none⟩) (Nat.le_refl _) _).setCell (p := ⟨w.heap.size, 7, none⟩) (Nat.le_refl _) _).setCell (p := ⟨w.heap.size, 8, none⟩) (Nat.le_refl _) _)
    · have HV := Lib.hid (show queryI s = (0, ⟨1, 3, ⟨#[]⟩, d1, d2, d3, d4, al, []⟩) from V0.out)
      go_wp2
      refine bodyPost_ret (v := .tuple #[.agg #[.int .i64 1, .int .i64 3, .string ⟨#[]⟩, .int .i64 d1, .bool d2, .int .i64 d3, .int .i64 d4, .slice p n cp, .slice none 0 0], .int .i64 0]) (by simp [results, Try.results23, go_sem, r0, r1, r2, r3, r4, r5, r6, r7, r8]) rfl ?_
      unfold MsgPost
      rw [HV.out]
      exact ⟨_, _, rfl, (HA2.out.mono (show w.heap.size + 1 ≤ P + 1 by have := hPR.out; omega) id).storeN9 w.heap.size (Nat.lt_succ_self _), RecsG.nil _ _ _, (((((((((Q.out.1.2.setCell (p := ⟨w.heap.size, 0, none⟩) (Nat.le_refl _) _).setCell (p := ⟨w.heap.size, 1, none⟩) (Nat.le_refl _) _).setCell (p := ⟨w.heap.size, 2, none⟩) (Nat.le_refl _) _).setCell (p := ⟨w.heap.size, 3, none⟩) (Nat.le_refl _) _).setCell (p := ⟨w.heap.size, 4, none⟩) (Nat.le_refl _) _).setCell (p := ⟨w.heap.size, 5, none⟩) (Nat.le_refl _) _).setCell (p := ⟨w.heap.size, 6, none⟩) (Nat.le_refl _) _).setCell (p := ⟨w.heap.size, 7, none⟩) (Nat.le_refl _) _).setCell (p := ⟨w.heap.size, 8, none⟩) (Nat.le_refl _) _)⟩
  · have HV := Lib.hid (HVE.out hd)
    obtain ⟨q1, q2⟩ := ne_t hd
    generalize detE s = de at *
    clear HOK HVE HVO hd HDet HA HM
    have B := B3
    have r0 := B.out.cell 0 rfl
    have r1 := B.out.cell 1 rfl
    have r2 := B.out.cell 2 rfl
    have r3 := B.out.cell 3 rfl
    have r4 := B.out.cell 4 rfl
    have r5 := B.out.cell 5 rfl
    have r6 := B.out.cell 6 rfl
    have r7 := B.out.cell 7 rfl
    have r8 := B.out.cell 8 rfl
    have g0 := B.out.free 0
    have g1 := B.out.free 1
    have g2 := B.out.free 2
    have g3 := B.out.free 3
    have g4 := B.out.free 4
    have g5 := B.out.free 5
    have g6 := B.out.free 6
    have g7 := B.out.free 7
    have g8 := B.out.free 8
    go_wp2
    refine bodyPost_ret (v := .tuple #[.agg #[.int .i64 0, .int .i64 0, .string ⟨#[]⟩, .int .i64 0, .bool false, .int .i64 0, .int .i64 0, .slice none 0 0, .slice none 0 0], .int .i64 de]) (by simp [results, Try.results23, go_sem, r0, r1, r2, r3, r4, r5, r6, r7, r8]) rfl (MsgPost.bad HV.out rfl ?_)
    exact (((((((((B.out.2.setCell (p := ⟨w.heap.size, 0, none⟩) (Nat.le_refl _) _).setCell (p := ⟨w.heap.size, 1, none⟩) (Nat.le_refl _) _).setCell (p := ⟨w.heap.size, 2, none⟩) (Nat.le_refl _) _).setCell (p := ⟨w.heap.size, 3, none⟩) (Nat.le_refl _) _).setCell (p := ⟨w.heap.size, 4, none⟩) (Nat.le_refl _) _).setCell (p := ⟨w.heap.size, 5, none⟩) (Nat.le_refl _) _).setCell (p := ⟨w.heap.size, 6, none⟩) (Nat.le_refl _) _).setCell (p := ⟨w.heap.size, 7, none⟩) (Nat.le_refl _) _).setCell (p := ⟨w.heap.size, 8, none⟩) (Nat.le_refl _) _)

set_option maxHeartbeats 4000000 in
set_option maxRecDepth 100000 in
theorem query_nzs (s : ByteArray) (w : World) (hs : s.size ≤ 281474976710000) (h8 : 8 ≤ s.size) (hg : s.extract 4 8 = noGrp) (hm : byt s 1 = 0) (hl : s.size ≤ 8) :
    Calls Try.prog 23 #[.string s] w (MsgPost (queryI s) w) := by
  have HM := Lib.hid fun U => gnum1_c s 1 U hs (by omega)
  have HA := Lib.hid fun U => gaddr_c s 4 4 U hs (by omega)
  rw [show ((4 : Nat) : Int) = 4 from rfl, show 4 + 4 = 8 from rfl] at HA
  have hqg : qGrp s = ⟨#[]⟩ := by unfold qGrp; rw [if_pos hg]
  have t1 : (noGrp.toList == [0, 0, 0, 0]) = true := by decide +kernel
  rw [hg] at HA
  have HV := Lib.hid (show queryI s = if qGrpB (qGrp s) 0 then (0, ⟨1, 1, qGrp s, byt s 1, false, 0, 0, [], []⟩) else (3, zeroM) by unfold queryI; rw [if_pos hl]; rw [if_pos hm])
  rw [hqg] at HV
  have hl' : (s.size : Int) ≤ 8 := by omega
  generalize noGrp = g at HA t1
  rw [hm] at HM HV
  have m1 : ((0 : Int) == 0) = true := rfl
  have HG := Lib.hid fun U => gmay_c 1 1 ⟨#[]⟩ ((0 : Nat) : Int) false 0 0 none 0 0 (.slice none 0 0) U
  generalize qGrpB ⟨#[]⟩ 0 = qb at HG HV
  clear hqg hm hl hg
  go_enter Try.func23, Try.ntmps23
  go_wp2_with fail
  refine (HM.out _).mono ?_
  rintro e w1 ⟨rfl, h1⟩
  have B := Lib.hid ((Box.start w _ _).below h1)
  clear h1
  go_wp2_with fail
  have Q := Lib.hid (QB.start (xs := #[.int .i64 1, .int .i64 1, .string ⟨#[]⟩, .int .i64 ((0 : Nat) : Int), .bool false, .int .i64 0, .int .i64 0, .slice none 0 0, .slice none 0 0]) B.out)
  refine (HA.out _).mono ?_
  rintro e w2 ⟨rfl, h2⟩
  replace Q := Lib.hid (Q.out.below h2)
  generalize w1.heap.size = P at Q ⊢
  clear h2 B
  have c0 := Q.out.2.1.cell 0 rfl
  have c1 := Q.out.2.1.cell 1 rfl
  have c2 := Q.out.2.1.cell 2 rfl
  have c3 := Q.out.2.1.cell 3 rfl
  have c4 := Q.out.2.1.cell 4 rfl
  have c5 := Q.out.2.1.cell 5 rfl
  have c6 := Q.out.2.1.cell 6 rfl
  have c7 := Q.out.2.1.cell 7 rfl
  have c8 := Q.out.2.1.cell 8 rfl
  have f1 := Q.out.2.1.free 1
  have f2 := Q.out.2.1.free 2
  go_wp2_with fail
  refine (HG.out _).mono ?_
  rintro e w3 ⟨rfl, h3⟩
  have Q3 : QB w P #[.int .i64 1, .int .i64 1, .string ⟨#[]⟩, .int .i64 ((0 : Nat) : Int), .bool false, .int .i64 0, .int .i64 0, .slice none 0 0, .slice none 0 0] w3 := Q.out.below h3
  clear h3
  clear c0 c1 c2 c3 c4 c5 c6 c7 c8 f1 f2
  replace Q := Lib.hid Q3
  clear Q3
  have c0 := Q.out.2.1.cell 0 rfl
  have c1 := Q.out.2.1.cell 1 rfl
  have c2 := Q.out.2.1.cell 2 rfl
  have c3 := Q.out.2.1.cell 3 rfl
  have c4 := Q.out.2.1.cell 4 rfl
  have c5 := Q.out.2.1.cell 5 rfl
  have c6 := Q.out.2.1.cell 6 rfl
  have c7 := Q.out.2.1.cell 7 rfl
  have c8 := Q.out.2.1.cell 8 rfl
  have f1 := Q.out.2.1.free 1
  have f2 := Q.out.2.1.free 2
  have r0 := Q.out.1.cell 0 rfl
  have r1 := Q.out.1.cell 1 rfl
  have r2 := Q.out.1.cell 2 rfl
  have r3 := Q.out.1.cell 3 rfl
  have r4 := Q.out.1.cell 4 rfl
  have r5 := Q.out.1.cell 5 rfl
  have r6 := Q.out.1.cell 6 rfl
  have r7 := Q.out.1.cell 7 rfl
  have r8 := Q.out.1.cell 8 rfl
  have g0 := Q.out.1.free 0
  have g1 := Q.out.1.free 1
  have g2 := Q.out.1.free 2
  have g3 := Q.out.1.free 3
  have g4 := Q.out.1.free 4
  have g5 := Q.out.1.free 5
  have g6 := Q.out.1.free 6
  have g7 := Q.out.1.free 7
  have g8 := Q.out.1.free 8
  have hNP : w.heap.size ≠ P := by have := Q.out.2.2; omega
  cases qb
  · replace HV := Lib.hid (show queryI s = (3, zeroM) from HV.out)
    go_wp2
    refine bodyPost_ret (v := .tuple #[.agg #[.int .i64 0, .int .i64 0, .string ⟨#[]⟩, .int .i64 0, .bool false, .int .i64 0, .int .i64 0, .slice none 0 0, .slice none 0 0], .int .i64 3]) (by simp [results, Try.results23, go_sem, r0, r1, r2, r3, r4, r5, r6, r7, r8]) rfl (MsgPost.bad HV.out rfl ?_)
    exact (((((((((Q.out.1.2.setCell (p := ⟨w.heap.size, 0, none⟩) (Nat.le_refl _) _).setCell (p := ⟨w.heap.size, 1, none⟩) (Nat.le_refl _) _).setCell (p := ⟨w.heap.size, 2, none⟩) (Nat.le_refl _) _).setCell (p := ⟨w.heap.size, 3, none⟩) (Nat.le_refl _) _).setCell (p := ⟨w.heap.size, 4, none⟩) (Nat.le_refl _) _).setCell (p := ⟨w.heap.size, 5, none⟩) (Nat.le_refl _) _).setCell (p := ⟨w.heap.size, 6, none⟩) (Nat.le_refl _) _).setCell (p := ⟨w.heap.size, 7, none⟩) (Nat.le_refl _) _).setCell (p := ⟨w.heap.size, 8, none⟩) (Nat.le_refl _) _)
  · replace HV := Lib.hid (show queryI s = (0, ⟨1, 1, ⟨#[]⟩, ((0 : Nat) : Int), false, 0, 0, [], []⟩) from HV.out)
    go_wp2
    refine bodyPost_ret (v := .tuple #[.agg #[.int .i64 1, .int .i64 1, .string ⟨#[]⟩, .int .i64 ((0 : Nat) : Int), .bool false, .int .i64 0, .int .i64 0, .slice none 0 0, .slice none 0 0], .int .i64 0]) (by simp [results, Try.results23, go_sem, r0, r1, r2, r3, r4, r5, r6, r7, r8]) rfl ?_
    unfold MsgPost
    rw [HV.out]
    exact ⟨_, _, rfl, AddrsG.nil _ _ _, RecsG.nil _ _ _, (((((((((Q.out.1.2.setCell (p := ⟨w.heap.size, 0, none⟩) (Nat.le_refl _) _).setCell (p := ⟨w.heap.size, 1, none⟩) (Nat.le_refl _) _).setCell (p := ⟨w.heap.size, 2, none⟩) (Nat.le_refl _) _).setCell (p := ⟨w.heap.size, 3, none⟩) (Nat.le_refl _) _).setCell (p := ⟨w.heap.size, 4, none⟩) (Nat.le_refl _) _).setCell (p := ⟨w.heap.size, 5, none⟩) (Nat.le_refl _) _).setCell (p := ⟨w.heap.size, 6, none⟩) (Nat.le_refl _) _).setCell (p := ⟨w.heap.size, 7, none⟩) (Nat.le_refl _) _).setCell (p := ⟨w.heap.size, 8, none⟩) (Nat.le_refl _) _)⟩

set_option maxHeartbeats 4000000 in
set_option maxRecDepth 100000 in
theorem query_nzl (s : ByteArray) (w : World) (hs : s.size ≤ 281474976710000) (h8 : 8 ≤ s.size) (hg : s.extract 4 8 = noGrp) (hm : byt s 1 = 0) (hl : 8 < s.size) :
    Calls Try.prog 23 #[.string s] w (MsgPost (queryI s) w) := by
  have HM := Lib.hid fun U => gnum1_c s 1 U hs (by omega)
  have HA := Lib.hid fun U => gaddr_c s 4 4 U hs (by omega)
  rw [show ((4 : Nat) : Int) = 4 from rfl, show 4 + 4 = 8 from rfl] at HA
  have hqg : qGrp s = ⟨#[]⟩ := by unfold qGrp; rw [if_pos hg]
  have t1 : (noGrp.toList == [0, 0, 0, 0]) = true := by decide +kernel
  rw [hg] at HA
  have HVE := Lib.hid fun (h : detE s ≠ 0) => query_bad s hl h
  have HVO := Lib.hid fun (h : detE s = 0) => query_good s hl h
  rw [hqg] at HVO
  have hl' : (8 : Int) < (s.size : Int) := by omega
  generalize noGrp = g at HA t1
  rw [hm] at HM
  have m1 : ((0 : Int) == 0) = true := rfl
  have HDet := Lib.hid fun P U hL => det_c s P 1 1 ⟨#[]⟩ ((0 : Nat) : Int) U U hs hl hL
  clear hqg hl hg hm
  go_enter Try.func23, Try.ntmps23
  go_wp2_with fail
  refine (HM.out _).mono ?_
  rintro e w1 ⟨rfl, h1⟩
  have B := Lib.hid ((Box.start w _ _).below h1)
  clear h1
  go_wp2_with fail
  have Q := Lib.hid (QB.start (xs := #[.int .i64 1, .int .i64 1, .string ⟨#[]⟩, .int .i64 ((0 : Nat) : Int), .bool false, .int .i64 0, .int .i64 0, .slice none 0 0, .slice none 0 0]) B.out)
  refine (HA.out _).mono ?_
  rintro e w2 ⟨rfl, h2⟩
  replace Q := Lib.hid (Q.out.below h2)
  generalize w1.heap.size = P at Q ⊢
  clear h2 B
  have c0 := Q.out.2.1.cell 0 rfl
  have c1 := Q.out.2.1.cell 1 rfl
  have c2 := Q.out.2.1.cell 2 rfl
  have c3 := Q.out.2.1.cell 3 rfl
  have c4 := Q.out.2.1.cell 4 rfl
  have c5 := Q.out.2.1.cell 5 rfl
  have c6 := Q.out.2.1.cell 6 rfl
  have c7 := Q.out.2.1.cell 7 rfl
  have c8 := Q.out.2.1.cell 8 rfl
  have f1 := Q.out.2.1.free 1
  have f2 := Q.out.2.1.free 2
  go_wp2_with fail
  have Q3 : QB w P #[.int .i64 1, .int .i64 1, .string ⟨#[]⟩, .int .i64 ((0 : Nat) : Int), .bool false, .int .i64 0, .int .i64 0, .slice none 0 0, .slice none 0 0] _ := Q.out
  refine (HDet.out P _ Q3.2.1).mono ?_
  rintro e w3 ⟨rfl, h3, hok⟩
  have hPR := Q3.2.2
  have B3 := Lib.hid (Q3.1.belowP hPR h3)
  have HOK := Lib.hid hok
  clear c0 c1 c2 c3 c4 c5 c6 c7 c8 f1 f2
  clear Q Q3 h3 hok
  by_cases hd : detE s = 0
  · obtain ⟨p, cp, hLB, hAd⟩ := HOK.out hd
    have V0 := Lib.hid (HVO.out hd)
    rw [hd]
    have Q : Hid (QB w P _ w3) := Lib.hid ⟨B3.out, ⟨hLB.1, Below.refl _ _⟩, hPR⟩
    have HA2 := Lib.hid hAd
    clear HOK hLB hAd HVE HVO hd B3 HDet HA HM
    have HG := Lib.hid fun U => gmay_c 1 3 ⟨#[]⟩ (decI 4 (byt s 1)).1 (decide (byt s 8 / 8 % 2 = 1)) ((byt s 8 % 8 : Nat) : Int) (decI 4 (byt s 9)).1 p (numv s 10 2).toNat cp (.slice none 0 0) U
    generalize qGrpB ⟨#[]⟩ (numv s 10 2).toNat = qb at HG V0
    generalize (decI 4 (byt s 1)).1 = d1 at *
    generalize decide (byt s 8 / 8 % 2 = 1) = d2 at *
    generalize ((byt s 8 % 8 : Nat) : Int) = d3 at *
    generalize (decI 4 (byt s 9)).1 = d4 at *
    generalize addrsL s 12 (numv s 10 2).toNat 4 = al at *
    generalize (numv s 10 2).toNat = n at *
    have c0 := Q.out.2.1.cell 0 rfl
    have c1 := Q.out.2.1.cell 1 rfl
    have c2 := Q.out.2.1.cell 2 rfl
    have c3 := Q.out.2.1.cell 3 rfl
    have c4 := Q.out.2.1.cell 4 rfl
    have c5 := Q.out.2.1.cell 5 rfl
    have c6 := Q.out.2.1.cell 6 rfl
    have c7 := Q.out.2.1.cell 7 rfl
    have c8 := Q.out.2.1.cell 8 rfl
    have f1 := Q.out.2.1.free 1
    have f2 := Q.out.2.1.free 2
    go_wp2_with fail
    refine (HG.out _).mono ?_
    rintro e w4 ⟨rfl, h4⟩
    replace Q := Lib.hid (Q.out.below h4)
    replace HA2 := Lib.hid (HA2.out.below h4)
    clear h4
    clear c0 c1 c2 c3 c4 c5 c6 c7 c8 f1 f2
    have c0 := Q.out.2.1.cell 0 rfl
    have c1 := Q.out.2.1.cell 1 rfl
    have c2 := Q.out.2.1.cell 2 rfl
    have c3 := Q.out.2.1.cell 3 rfl
    have c4 := Q.out.2.1.cell 4 rfl
    have c5 := Q.out.2.1.cell 5 rfl
    have c6 := Q.out.2.1.cell 6 rfl
    have c7 := Q.out.2.1.cell 7 rfl
    have c8 := Q.out.2.1.cell 8 rfl
    have f1 := Q.out.2.1.free 1
    have f2 := Q.out.2.1.free 2
    have r0 := Q.out.1.cell 0 rfl
    have r1 := Q.out.1.cell 1 rfl
    have r2 := Q.out.1.cell 2 rfl
    have r3 := Q.out.1.cell 3 rfl
    have r4 := Q.out.1.cell 4 rfl
    have r5 := Q.out.1.cell 5 rfl
    have r6 := Q.out.1.cell 6 rfl
    have r7 := Q.out.1.cell 7 rfl
    have r8 := Q.out.1.cell 8 rfl
    have g0 := Q.out.1.free 0
    have g1 := Q.out.1.free 1
    have g2 := Q.out.1.free 2
    have g3 := Q.out.1.free 3
    have g4 := Q.out.1.free 4
    have g5 := Q.out.1.free 5
    have g6 := Q.out.1.free 6
    have g7 := Q.out.1.free 7
    have g8 := Q.out.1.free 8
    replace hPR := Lib.hid hPR
    have hNP : w.heap.size ≠ P := by have := Q.out.2.2; omega
    cases qb
    · have HV := Lib.hid (show queryI s = (3, zeroM) from V0.out)
      go_wp2
      refine bodyPost_ret (v := .tuple #[.agg #[.int .i64 0, .int .i64 0, .string ⟨#[]⟩, .int .i64 0, .bool false, .int .i64 0, .int .i64 0, .slice none 0 0, .slice none 0 0], .int .i64 3]) (by simp [results, Try.results23, go_sem, r0, r1, r2, r3, r4, r5, r6, r7, r8]) rfl (MsgPost.bad HV.out rfl ?_)
      exact (((((((((Q.out.1.2.setCell (p := ⟨w.heap.size, 0, none⟩) (Nat.le_refl _) _).setCell (p := ⟨w.heap.size, 1, none⟩) (Nat.le_refl _) _).setCell (p := ⟨w.heap.size, 2, none⟩) (Nat.le_refl _) _).setCell (p := ⟨w.heap.size, 3, none⟩) (Nat.le_refl _) _).setCell (p := ⟨w.heap.size, 4, none⟩) (Nat.le_refl _) _).setCell (p := ⟨w.heap.size, 5, none⟩) (Nat.le_refl _) _).setCell (p := ⟨w.heap.size, 6, none⟩) (Nat.le_refl _) _).setCell (p := ⟨w.heap.size, 7, none⟩) (Nat.le_refl _) _).setCell (p := ⟨w.heap.size, 8, none⟩) (Nat.le_refl _) _)
    · have HV := Lib.hid (show queryI s = (0, ⟨1, 3, ⟨#[]⟩, d1, d2, d3, d4, al, []⟩) from V0.out)
      go_wp2
      refine bodyPost_ret (v := .tuple #[.agg #[.int .i64 1, .int .i64 3, .string ⟨#[]⟩, .int .i64 d1, .bool d2, .int .i64 d3, .int .i64 d4, .slice p n cp, .slice none 0 0], .int .i64 0]) (by simp [results, Try.results23, go_sem, r0, r1, r2, r3, r4, r5, r6, r7, r8]) rfl ?_
      unfold MsgPost
      rw [HV.out]
      exact ⟨_, _, rfl, (HA2.out.mono (show w.heap.size + 1 ≤ P + 1 by have := hPR.out; omega) id).storeN9 w.heap.size (Nat.lt_succ_self _), RecsG.nil _ _ _, (((((((((Q.out.1.2.setCell (p := ⟨w.heap.size, 0, none⟩) (Nat.le_refl _) _).setCell (p := ⟨w.heap.size, 1, none⟩) (Nat.le_refl _) _).setCell (p := ⟨w.heap.size, 2, none⟩) (Nat.le_refl _) _).setCell (p := ⟨w.heap.size, 3, none⟩) (Nat.le_refl _) _).setCell (p := ⟨w.heap.size, 4, none⟩) (Nat.le_refl _) _).setCell (p := ⟨w.heap.size, 5, none⟩) (Nat.le_refl _) _).setCell (p := ⟨w.heap.size, 6, none⟩) (Nat.le_refl _) _).setCell (p := ⟨w.heap.size, 7, none⟩) (Nat.le_refl _) _).setCell (p := ⟨w.heap.size, 8, none⟩) (Nat.le_refl _) _)⟩
  · have HV := Lib.hid (HVE.out hd)
    obtain ⟨q1, q2⟩ := ne_t hd
    generalize detE s = de at *
    clear HOK HVE HVO hd HDet HA HM
    have B := B3
    have r0 := B.out.cell 0 rfl
    have r1 := B.out.cell 1 rfl
    have r2 := B.out.cell 2 rfl
    have r3 := B.out.cell 3 rfl
    have r4 := B.out.cell 4 rfl
    have r5 := B.out.cell 5 rfl
    have r6 := B.out.cell 6 rfl
    have r7 := B.out.cell 7 rfl
    have r8 := B.out.cell 8 rfl
    have g0 := B.out.free 0
    have g1 := B.out.free 1
    have g2 := B.out.free 2
    have g3 := B.out.free 3
    have g4 := B.out.free 4
    have g5 := B.out.free 5
    have g6 := B.out.free 6
    have g7 := B.out.free 7
    have g8 := B.out.free 8
    go_wp2
    refine bodyPost_ret (v := .tuple #[.agg #[.int .i64 0, .int .i64 0, .string ⟨#[]⟩, .int .i64 0, .bool false, .int .i64 0, .int .i64 0, .slice none 0 0, .slice none 0 0], .int .i64 de]) (by simp [results, Try.results23, go_sem, r0, r1, r2, r3, r4, r5, r6, r7, r8]) rfl (MsgPost.bad HV.out rfl ?_)
    exact (((((((((B.out.2.setCell (p := ⟨w.heap.size, 0, none⟩) (Nat.le_refl _) _).setCell (p := ⟨w.heap.size, 1, none⟩) (Nat.le_refl _) _).setCell (p := ⟨w.heap.size, 2, none⟩) (Nat.le_refl _) _).setCell (p := ⟨w.heap.size, 3, none⟩) (Nat.le_refl _) _).setCell (p := ⟨w.heap.size, 4, none⟩) (Nat.le_refl _) _).setCell (p := ⟨w.heap.size, 5, none⟩) (Nat.le_refl _) _).setCell (p := ⟨w.heap.size, 6, none⟩) (Nat.le_refl _) _).setCell (p := ⟨w.heap.size, 7, none⟩) (Nat.le_refl _) _).setCell (p := ⟨w.heap.size, 8, none⟩) (Nat.le_refl _) _)

theorem query_c (s : ByteArray) (w : World) (hs : s.size ≤ 281474976710000) (h8 : 8 ≤ s.size) :
    Calls Try.prog 23 #[.string s] w (MsgPost (queryI s) w) := by
  by_cases hg : s.extract 4 8 = noGrp
  · by_cases hm : byt s 1 = 0
    · by_cases hl : s.size ≤ 8
      · exact query_nzs s w hs h8 hg hm hl
      · exact query_nzl s w hs h8 hg hm (by omega)
    · by_cases hl : s.size ≤ 8
      · exact query_nms s w hs h8 hg hm hl
      · exact query_nml s w hs h8 hg hm (by omega)
  · by_cases hm : byt s 1 = 0
    · by_cases hl : s.size ≤ 8
      · exact query_gzs s w hs h8 hg hm hl
      · exact query_gzl s w hs h8 hg hm (by omega)
    · by_cases hl : s.size ≤ 8
      · exact query_gms s w hs h8 hg hm hl
      · exact query_gml s w hs h8 hg hm (by omega)

end Go.Proofs.Ytfdiaaggmjlkbaa
