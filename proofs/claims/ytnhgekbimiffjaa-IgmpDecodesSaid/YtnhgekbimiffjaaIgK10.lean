/-
  Reading queries, the document's answer: siphonref08.query.
-/
import Derived.Test.YtnhgekbimiffjaaIgF
import Derived.Test.YtnhgekbimiffjaaIgJ
import Derived.Test.YtnhgekbimiffjaaCodeE
import Derived.Deep.Cut
namespace Go.Proofs.Ytnhgekbimiffjaa
open Go.RowKit
set_option linter.unusedVariables false

theorem wrap_n10 (B : Nat) (h : B < 256) : wrap64 (B : Int) = (B : Int) := by unfold wrap64; omega
theorem byt_lt10 (s : ByteArray) (j : Nat) : byt s j < 256 := by unfold byt; exact UInt8.toNat_lt _
theorem QB.two10 (w : World) (xs : Array Value) : QB w (w.heap.size + 1) xs ((w.alloc (.cells #[.int .i64 0, .int .i64 0, .string ⟨#[]⟩, .int .i64 0, .bool false, .int .i64 0, .int .i64 0, .slice none 0 0, .slice none 0 0] 27)).alloc (.cells xs 27)).drew := by
  have h := QB.start (xs := xs) (Box.start w #[.int .i64 0, .int .i64 0, .string ⟨#[]⟩, .int .i64 0, .bool false, .int .i64 0, .int .i64 0, .slice none 0 0, .slice none 0 0] 27)
  rw [World.size_alloc] at h
  exact ⟨⟨h.1.1, h.1.2.drew⟩, ⟨h.2.1.1, Below.refl _ _⟩, h.2.2⟩

set_option maxHeartbeats 800000 in
set_option maxRecDepth 100000 in
theorem rquery_nms (s : ByteArray) (w : World) (hs : s.size ≤ 281474976710000) (h8 : 8 ≤ s.size) (hg : s.extract 4 8 = noGrp) (hm : byt s 1 ≠ 0) (hl : s.size ≤ 8) :
    Calls Try.prog 29 #[.string s] w (MsgPost (queryI s) w) := by
  have u1 : (1 : Int) < (s.size : Int) := by omega
  have u8 : (8 : Int) ≤ (s.size : Int) := by omega
  have z1 : 1 < s.size := by omega
  have q1 := byt_lt10 s 1
  have q1' : (byt s 1 : Int) ≤ 255 := Int.ofNat_le.2 (Nat.le_of_lt_succ q1)
  have q1'' : (0 : Int) ≤ (byt s 1 : Int) := Int.natCast_nonneg _
  have hqg : qGrp s = ⟨#[]⟩ := by unfold qGrp; rw [if_pos hg]
  have t1 : (noGrp.toList == [0, 0, 0, 0]) = true := by decide +kernel
  have m0 : (0 : Int) < (byt s 1 : Int) := by omega
  have HV := Lib.hid (show queryI s = if qGrpB (qGrp s) 0 then (0, ⟨1, 2, qGrp s, byt s 1, false, 0, 0, [], []⟩) else (3, zeroM) by unfold queryI; rw [if_pos hl]; rw [if_neg hm])
  have hl' : (s.size : Int) ≤ 8 := by omega
  rw [hqg] at HV
  have hqb : qGrpB ⟨#[]⟩ 0 = decide (0 = 0) := rfl
  rw [hqb] at HV
  clear hqb
  have hgg : s.extract 4 8 = noGrp := hg
  clear hqg hm hg
  have hb1 : (s[1].toNat : Int) = (byt s 1 : Int) := congrArg Int.ofNat (byt_get s 1 z1)
  have hw1 : wrap64 (s[1].toNat : Int) = (byt s 1 : Int) := (wrap_b _).trans hb1
  generalize byt s 1 = B1 at *
  go_enter Try.func29, Try.ntmps29
  go_wp2_with fail
  go_region
  have Q := Lib.hid (QB.two10 w #[.int .i64 1, .int .i64 1, .string noGrp, .int .i64 (B1 : Int), .bool false, .int .i64 0, .int .i64 0, .slice none 0 0, .slice none 0 0])
  all_goals
    generalize w.heap.size + 1 = P at Q ⊢
    generalize ((w.alloc _).alloc _).drew = W at Q ⊢
    have c0 := Q.out.2.1.cell 0 rfl
    have c1 := Q.out.2.1.cell 1 rfl
    have c2 := Q.out.2.1.cell 2 rfl
    have c3 := Q.out.2.1.cell 3 rfl
    have c4 := Q.out.2.1.cell 4 rfl
    have c5 := Q.out.2.1.cell 5 rfl
    have c6 := Q.out.2.1.cell 6 rfl
    have c7 := Q.out.2.1.cell 7 rfl
    have c8 := Q.out.2.1.cell 8 rfl
    have f1 := Q.out.2.1.free 1
    have f2 := Q.out.2.1.free 2
    have r0 := Q.out.1.cell 0 rfl
    have r1 := Q.out.1.cell 1 rfl
    have r2 := Q.out.1.cell 2 rfl
    have r3 := Q.out.1.cell 3 rfl
    have r4 := Q.out.1.cell 4 rfl
    have r5 := Q.out.1.cell 5 rfl
    have r6 := Q.out.1.cell 6 rfl
    have r7 := Q.out.1.cell 7 rfl
    have r8 := Q.out.1.cell 8 rfl
    have g0 := Q.out.1.free 0
    have g1 := Q.out.1.free 1
    have g2 := Q.out.1.free 2
    have g3 := Q.out.1.free 3
    have g4 := Q.out.1.free 4
    have g5 := Q.out.1.free 5
    have g6 := Q.out.1.free 6
    have g7 := Q.out.1.free 7
    have g8 := Q.out.1.free 8
    have hPR := Lib.hid Q.out.2.2
    have hNP : w.heap.size ≠ P := by have := hPR.out; omega
    go_wp2_with fail
    replace HV := Lib.hid (show queryI s = (0, ⟨1, 2, ⟨#[]⟩, B1, false, 0, 0, [], []⟩) from HV.out)
    refine bodyPost_ret (v := .tuple #[.agg #[.int .i64 1, .int .i64 2, .string ⟨#[]⟩, .int .i64 (B1 : Int), .bool false, .int .i64 0, .int .i64 0, .slice none 0 0, .slice none 0 0], .int .i64 0]) (by simp [results, Try.results29, go_sem, r0, r1, r2, r3, r4, r5, r6, r7, r8]) rfl ?_
    unfold MsgPost
    rw [HV.out]
    exact ⟨_, _, rfl, AddrsG.nil _ _ _, RecsG.nil _ _ _, (((((((((((Q.out.store 2 (.string ⟨#[]⟩)).store 1 (.int .i64 2)).1.2.setCell (p := ⟨w.heap.size, 0, none⟩) (Nat.le_refl _) _).setCell (p := ⟨w.heap.size, 1, none⟩) (Nat.le_refl _) _).setCell (p := ⟨w.heap.size, 2, none⟩) (Nat.le_refl _) _).setCell (p := ⟨w.heap.size, 3, none⟩) (Nat.le_refl _) _).setCell (p := ⟨w.heap.size, 4, none⟩) (Nat.le_refl _) _).setCell (p := ⟨w.heap.size, 5, none⟩) (Nat.le_refl _) _).setCell (p := ⟨w.heap.size, 6, none⟩) (Nat.le_refl _) _).setCell (p := ⟨w.heap.size, 7, none⟩) (Nat.le_refl _) _).setCell (p := ⟨w.heap.size, 8, none⟩) (Nat.le_refl _) _)⟩

set_option maxHeartbeats 800000 in
set_option maxRecDepth 100000 in
theorem rquery_nml1 (s : ByteArray) (w : World) (hs : s.size ≤ 281474976710000) (h8 : 8 ≤ s.size) (hg : s.extract 4 8 = noGrp) (hm : byt s 1 ≠ 0) (hl : 8 < s.size) (hl2 : s.size < 12) :
    Calls Try.prog 29 #[.string s] w (MsgPost (queryI s) w) := by
  have u1 : (1 : Int) < (s.size : Int) := by omega
  have u8 : (8 : Int) ≤ (s.size : Int) := by omega
  have z1 : 1 < s.size := by omega
  have q1 := byt_lt10 s 1
  have q1' : (byt s 1 : Int) ≤ 255 := Int.ofNat_le.2 (Nat.le_of_lt_succ q1)
  have q1'' : (0 : Int) ≤ (byt s 1 : Int) := Int.natCast_nonneg _
  have hqg : qGrp s = ⟨#[]⟩ := by unfold qGrp; rw [if_pos hg]
  have t1 : (noGrp.toList == [0, 0, 0, 0]) = true := by decide +kernel
  have m0 : (0 : Int) < (byt s 1 : Int) := by omega
  have HV := Lib.hid (show queryI s = (3, zeroM) by unfold queryI; rw [if_neg (by omega), if_pos hl2])
  have hl' : (8 : Int) < (s.size : Int) := by omega
  have hl2' : (s.size : Int) < 12 := by omega
  have hgg : s.extract 4 8 = noGrp := hg
  clear hqg hm hg
  have hb1 : (s[1].toNat : Int) = (byt s 1 : Int) := congrArg Int.ofNat (byt_get s 1 z1)
  have hw1 : wrap64 (s[1].toNat : Int) = (byt s 1 : Int) := (wrap_b _).trans hb1
  generalize byt s 1 = B1 at *
  go_enter Try.func29, Try.ntmps29
  go_wp2_with fail
  go_region
  have Q := Lib.hid (QB.two10 w #[.int .i64 1, .int .i64 1, .string noGrp, .int .i64 (B1 : Int), .bool false, .int .i64 0, .int .i64 0, .slice none 0 0, .slice none 0 0])
  all_goals
    generalize w.heap.size + 1 = P at Q ⊢
    generalize ((w.alloc _).alloc _).drew = W at Q ⊢
    have c0 := Q.out.2.1.cell 0 rfl
    have c1 := Q.out.2.1.cell 1 rfl
    have c2 := Q.out.2.1.cell 2 rfl
    have c3 := Q.out.2.1.cell 3 rfl
    have c4 := Q.out.2.1.cell 4 rfl
    have c5 := Q.out.2.1.cell 5 rfl
    have c6 := Q.out.2.1.cell 6 rfl
    have c7 := Q.out.2.1.cell 7 rfl
    have c8 := Q.out.2.1.cell 8 rfl
    have f1 := Q.out.2.1.free 1
    have f2 := Q.out.2.1.free 2
    have r0 := Q.out.1.cell 0 rfl
    have r1 := Q.out.1.cell 1 rfl
    have r2 := Q.out.1.cell 2 rfl
    have r3 := Q.out.1.cell 3 rfl
    have r4 := Q.out.1.cell 4 rfl
    have r5 := Q.out.1.cell 5 rfl
    have r6 := Q.out.1.cell 6 rfl
    have r7 := Q.out.1.cell 7 rfl
    have r8 := Q.out.1.cell 8 rfl
    have g0 := Q.out.1.free 0
    have g1 := Q.out.1.free 1
    have g2 := Q.out.1.free 2
    have g3 := Q.out.1.free 3
    have g4 := Q.out.1.free 4
    have g5 := Q.out.1.free 5
    have g6 := Q.out.1.free 6
    have g7 := Q.out.1.free 7
    have g8 := Q.out.1.free 8
    have hPR := Lib.hid Q.out.2.2
    have hNP : w.heap.size ≠ P := by have := hPR.out; omega
    go_wp2_with fail
    refine bodyPost_ret (v := .tuple #[.agg #[.int .i64 0, .int .i64 0, .string ⟨#[]⟩, .int .i64 0, .bool false, .int .i64 0, .int .i64 0, .slice none 0 0, .slice none 0 0], .int .i64 3]) (by simp [results, Try.results29, go_sem, r0, r1, r2, r3, r4, r5, r6, r7, r8]) rfl (MsgPost.bad HV.out rfl ?_)
    exact (((((((((((Q.out.store 2 (.string ⟨#[]⟩)).store 1 (.int .i64 2)).1.2.setCell (p := ⟨w.heap.size, 0, none⟩) (Nat.le_refl _) _).setCell (p := ⟨w.heap.size, 1, none⟩) (Nat.le_refl _) _).setCell (p := ⟨w.heap.size, 2, none⟩) (Nat.le_refl _) _).setCell (p := ⟨w.heap.size, 3, none⟩) (Nat.le_refl _) _).setCell (p := ⟨w.heap.size, 4, none⟩) (Nat.le_refl _) _).setCell (p := ⟨w.heap.size, 5, none⟩) (Nat.le_refl _) _).setCell (p := ⟨w.heap.size, 6, none⟩) (Nat.le_refl _) _).setCell (p := ⟨w.heap.size, 7, none⟩) (Nat.le_refl _) _).setCell (p := ⟨w.heap.size, 8, none⟩) (Nat.le_refl _) _)

set_option maxHeartbeats 800000 in
set_option maxRecDepth 100000 in
theorem rquery_nml2 (s : ByteArray) (w : World) (hs : s.size ≤ 281474976710000) (h8 : 8 ≤ s.size) (hg : s.extract 4 8 = noGrp) (hm : byt s 1 ≠ 0) (hl : 8 < s.size) (hl2 : 12 ≤ s.size) (h60 : 60 < (numv s 10 2).toNat) :
    Calls Try.prog 29 #[.string s] w (MsgPost (queryI s) w) := by
  have u1 : (1 : Int) < (s.size : Int) := by omega
  have u8 : (8 : Int) ≤ (s.size : Int) := by omega
  have z1 : 1 < s.size := by omega
  have q1 := byt_lt10 s 1
  have q1' : (byt s 1 : Int) ≤ 255 := Int.ofNat_le.2 (Nat.le_of_lt_succ q1)
  have q1'' : (0 : Int) ≤ (byt s 1 : Int) := Int.natCast_nonneg _
  have hqg : qGrp s = ⟨#[]⟩ := by unfold qGrp; rw [if_pos hg]
  have t1 : (noGrp.toList == [0, 0, 0, 0]) = true := by decide +kernel
  have m0 : (0 : Int) < (byt s 1 : Int) := by omega
  have bC := numv_le2 s 10
  obtain ⟨C, hC⟩ := Int.eq_ofNat_of_zero_le bC.1
  have hCn : (numv s 10 2).toNat = C := by omega
  rw [hCn] at h60
  have HAt := Lib.hid fun U => vat_c s 10 2 U (by omega) (by omega) (by omega)
  rw [hC] at HAt bC
  have hl' : (8 : Int) < (s.size : Int) := by omega
  have hl2' : (12 : Int) ≤ (s.size : Int) := by omega
  have u8b : (8 : Int) < (s.size : Int) := by omega
  have u9b : (9 : Int) < (s.size : Int) := by omega
  have z8 : 8 < s.size := by omega
  have z9 : 9 < s.size := by omega
  have q8 := byt_lt10 s 8
  have q9 := byt_lt10 s 9
  have q8' : (byt s 8 : Int) ≤ 255 := Int.ofNat_le.2 (Nat.le_of_lt_succ q8)
  have q9' : (byt s 9 : Int) ≤ 255 := Int.ofNat_le.2 (Nat.le_of_lt_succ q9)
  have q8'' : (0 : Int) ≤ (byt s 8 : Int) := Int.natCast_nonneg _
  have q9'' : (0 : Int) ≤ (byt s 9 : Int) := Int.natCast_nonneg _
  have HD1 := Lib.hid fun U => rdec8_c (byt s 1) U
  have HD9 := Lib.hid fun U => rdec8_c (byt s 9) U
  have HV := Lib.hid (show queryI s = (3, zeroM) by unfold queryI; rw [if_neg (by omega), if_neg (by omega), if_pos (by omega)])
  have h6 : (60 : Int) < (C : Int) := by omega
  generalize (decI 4 (byt s 1)).1 = d1 at *
  generalize (decI 4 (byt s 1)).2 = d1' at *
  generalize (decI 4 (byt s 9)).1 = d9 at *
  generalize (decI 4 (byt s 9)).2 = d9' at *
  clear hC hCn h60
  have hgg : s.extract 4 8 = noGrp := hg
  clear hqg hm hg
  have hb1 : (s[1].toNat : Int) = (byt s 1 : Int) := congrArg Int.ofNat (byt_get s 1 z1)
  have hw1 : wrap64 (s[1].toNat : Int) = (byt s 1 : Int) := (wrap_b _).trans hb1
  have hb8 : (s[8].toNat : Int) = (byt s 8 : Int) := congrArg Int.ofNat (byt_get s 8 z8)
  have hw8 : wrap64 (s[8].toNat : Int) = (byt s 8 : Int) := (wrap_b _).trans hb8
  have hb9 : (s[9].toNat : Int) = (byt s 9 : Int) := congrArg Int.ofNat (byt_get s 9 z9)
  have hw9 : wrap64 (s[9].toNat : Int) = (byt s 9 : Int) := (wrap_b _).trans hb9
  generalize byt s 8 = B8 at *
  generalize byt s 9 = B9 at *
  have K8 := Lib.hid hb8
  have K9 := Lib.hid hb9
  have J8 := Lib.hid hw8
  have J9 := Lib.hid hw9
  clear hb8 hb9 hw8 hw9
  generalize byt s 1 = B1 at *
  have V9 := Lib.hid (wrap_n10 B9 q9)
  have V8 := Lib.hid (wrap_n10 B8 q8)
  go_enter Try.func29, Try.ntmps29
  go_wp2_with fail
  go_region
  have Q := Lib.hid (QB.two10 w #[.int .i64 1, .int .i64 1, .string noGrp, .int .i64 (B1 : Int), .bool false, .int .i64 0, .int .i64 0, .slice none 0 0, .slice none 0 0])
  all_goals
    generalize w.heap.size + 1 = P at Q ⊢
    generalize ((w.alloc _).alloc _).drew = W at Q ⊢
    have c1 := Q.out.2.1.cell 1 rfl
    have c2 := Q.out.2.1.cell 2 rfl
    have c3 := Q.out.2.1.cell 3 rfl
    have f1 := Q.out.2.1.free 1
    have f2 := Q.out.2.1.free 2
    have hPR := Lib.hid Q.out.2.2
    have hNP : w.heap.size ≠ P := by have := hPR.out; omega
    go_wp2_with fail
    ((with_reducible refine (HD1.out _).mono ?_); rintro e w3 ⟨rfl, rfl⟩)
    have Q' : QB w P #[.int .i64 1, .int .i64 3, .string ⟨#[]⟩, .int .i64 (B1 : Int), .bool false, .int .i64 0, .int .i64 0, .slice none 0 0, .slice none 0 0] (((W.setCell ⟨P, 2, none⟩ (.string ⟨#[]⟩)).setCell ⟨P, 1, none⟩ (.int .i64 2)).setCell ⟨P, 1, none⟩ (.int .i64 3)) := (((Q.out.store 2 (.string ⟨#[]⟩)).store 1 (.int .i64 2)).store 1 (.int .i64 3))
    generalize (((W.setCell ⟨P, 2, none⟩ (.string ⟨#[]⟩)).setCell ⟨P, 1, none⟩ (.int .i64 2)).setCell ⟨P, 1, none⟩ (.int .i64 3)) = W3 at Q' ⊢
    clear Q
    clear c1 c2 c3 f1 f2
    have Q := Lib.hid Q'
    clear Q'
    obtain ⟨W, rfl⟩ : ∃ W, W = W3 := ⟨_, rfl⟩
    have c3 := Q.out.2.1.cell 3 rfl
    have c4 := Q.out.2.1.cell 4 rfl
    have c5 := Q.out.2.1.cell 5 rfl
    have f3 := Q.out.2.1.free 3
    have f4 := Q.out.2.1.free 4
    have f5 := Q.out.2.1.free 5
    clear hb1 hw1
    have hb8 := K8.out
    go_upto_region 13 with fail
    clear hb8
    have hb9 := K9.out
    go_wp2_with fail
    ((with_reducible refine (HD9.out _).mono ?_); rintro e w4 ⟨rfl, rfl⟩)
    clear hb9
    have Q' : QB w P #[.int .i64 1, .int .i64 3, .string ⟨#[]⟩, .int .i64 d1, .bool (((B8 : Int) / 8 % 2) == 1), .int .i64 ((B8 : Int) % 8), .int .i64 0, .slice none 0 0, .slice none 0 0] (((W.setCell ⟨P, 3, none⟩ (.int .i64 d1)).setCell ⟨P, 4, none⟩ (.bool (((B8 : Int) / 8 % 2) == 1))).setCell ⟨P, 5, none⟩ (.int .i64 ((B8 : Int) % 8))) := (((Q.out.store 3 (.int .i64 d1)).store 4 (.bool (((B8 : Int) / 8 % 2) == 1))).store 5 (.int .i64 ((B8 : Int) % 8)))
    generalize (((W.setCell ⟨P, 3, none⟩ (.int .i64 d1)).setCell ⟨P, 4, none⟩ (.bool (((B8 : Int) / 8 % 2) == 1))).setCell ⟨P, 5, none⟩ (.int .i64 ((B8 : Int) % 8))) = W4 at Q' ⊢
    clear Q
    clear c3 c4 c5 f3 f4 f5
    have Q := Lib.hid Q'
    clear Q'
    obtain ⟨W, rfl⟩ : ∃ W, W = W4 := ⟨_, rfl⟩
    have c6 := Q.out.2.1.cell 6 rfl
    have f6 := Q.out.2.1.free 6
    go_wp2_with fail
    ((with_reducible refine (HAt.out _).mono ?_); rintro e w5 ⟨rfl, rfl⟩)
    have Q' : QB w P #[.int .i64 1, .int .i64 3, .string ⟨#[]⟩, .int .i64 d1, .bool (((B8 : Int) / 8 % 2) == 1), .int .i64 ((B8 : Int) % 8), .int .i64 d9, .slice none 0 0, .slice none 0 0] (W.setCell ⟨P, 6, none⟩ (.int .i64 d9)) := (Q.out.store 6 (.int .i64 d9))
    generalize (W.setCell ⟨P, 6, none⟩ (.int .i64 d9)) = W5 at Q' ⊢
    clear Q
    clear c6 f6
    have Q := Lib.hid Q'
    clear Q'
    obtain ⟨W, rfl⟩ : ∃ W, W = W5 := ⟨_, rfl⟩
    have r0 := Q.out.1.cell 0 rfl
    have r1 := Q.out.1.cell 1 rfl
    have r2 := Q.out.1.cell 2 rfl
    have r3 := Q.out.1.cell 3 rfl
    have r4 := Q.out.1.cell 4 rfl
    have r5 := Q.out.1.cell 5 rfl
    have r6 := Q.out.1.cell 6 rfl
    have r7 := Q.out.1.cell 7 rfl
    have r8 := Q.out.1.cell 8 rfl
    have g0 := Q.out.1.free 0
    have g1 := Q.out.1.free 1
    have g2 := Q.out.1.free 2
    have g3 := Q.out.1.free 3
    have g4 := Q.out.1.free 4
    have g5 := Q.out.1.free 5
    have g6 := Q.out.1.free 6
    have g7 := Q.out.1.free 7
    have g8 := Q.out.1.free 8
    go_wp2_with fail
    refine bodyPost_ret (v := .tuple #[.agg #[.int .i64 0, .int .i64 0, .string ⟨#[]⟩, .int .i64 0, .bool false, .int .i64 0, .int .i64 0, .slice none 0 0, .slice none 0 0], .int .i64 3]) (by simp [results, Try.results29, go_sem, r0, r1, r2, r3, r4, r5, r6, r7, r8]) rfl (MsgPost.bad HV.out rfl ?_)
    exact (((((((((Q.out.1.2.setCell (p := ⟨w.heap.size, 0, none⟩) (Nat.le_refl _) _).setCell (p := ⟨w.heap.size, 1, none⟩) (Nat.le_refl _) _).setCell (p := ⟨w.heap.size, 2, none⟩) (Nat.le_refl _) _).setCell (p := ⟨w.heap.size, 3, none⟩) (Nat.le_refl _) _).setCell (p := ⟨w.heap.size, 4, none⟩) (Nat.le_refl _) _).setCell (p := ⟨w.heap.size, 5, none⟩) (Nat.le_refl _) _).setCell (p := ⟨w.heap.size, 6, none⟩) (Nat.le_refl _) _).setCell (p := ⟨w.heap.size, 7, none⟩) (Nat.le_refl _) _).setCell (p := ⟨w.heap.size, 8, none⟩) (Nat.le_refl _) _)

set_option maxHeartbeats 800000 in
set_option maxRecDepth 100000 in
theorem rquery_nml3 (s : ByteArray) (w : World) (hs : s.size ≤ 281474976710000) (h8 : 8 ≤ s.size) (hg : s.extract 4 8 = noGrp) (hm : byt s 1 ≠ 0) (hl : 8 < s.size) (hl2 : 12 ≤ s.size) (h60 : (numv s 10 2).toNat ≤ 60) (hc : s.size < 12 + (numv s 10 2).toNat * 4) :
    Calls Try.prog 29 #[.string s] w (MsgPost (queryI s) w) := by
  have u1 : (1 : Int) < (s.size : Int) := by omega
  have u8 : (8 : Int) ≤ (s.size : Int) := by omega
  have z1 : 1 < s.size := by omega
  have q1 := byt_lt10 s 1
  have q1' : (byt s 1 : Int) ≤ 255 := Int.ofNat_le.2 (Nat.le_of_lt_succ q1)
  have q1'' : (0 : Int) ≤ (byt s 1 : Int) := Int.natCast_nonneg _
  have hqg : qGrp s = ⟨#[]⟩ := by unfold qGrp; rw [if_pos hg]
  have t1 : (noGrp.toList == [0, 0, 0, 0]) = true := by decide +kernel
  have m0 : (0 : Int) < (byt s 1 : Int) := by omega
  have bC := numv_le2 s 10
  obtain ⟨C, hC⟩ := Int.eq_ofNat_of_zero_le bC.1
  have hCn : (numv s 10 2).toNat = C := by omega
  rw [hCn] at h60
  have HAt := Lib.hid fun U => vat_c s 10 2 U (by omega) (by omega) (by omega)
  rw [hC] at HAt bC
  have hl' : (8 : Int) < (s.size : Int) := by omega
  have hl2' : (12 : Int) ≤ (s.size : Int) := by omega
  have u8b : (8 : Int) < (s.size : Int) := by omega
  have u9b : (9 : Int) < (s.size : Int) := by omega
  have z8 : 8 < s.size := by omega
  have z9 : 9 < s.size := by omega
  have q8 := byt_lt10 s 8
  have q9 := byt_lt10 s 9
  have q8' : (byt s 8 : Int) ≤ 255 := Int.ofNat_le.2 (Nat.le_of_lt_succ q8)
  have q9' : (byt s 9 : Int) ≤ 255 := Int.ofNat_le.2 (Nat.le_of_lt_succ q9)
  have q8'' : (0 : Int) ≤ (byt s 8 : Int) := Int.natCast_nonneg _
  have q9'' : (0 : Int) ≤ (byt s 9 : Int) := Int.natCast_nonneg _
  have HD1 := Lib.hid fun U => rdec8_c (byt s 1) U
  have HD9 := Lib.hid fun U => rdec8_c (byt s 9) U
  rw [hCn] at hc
  have HV := Lib.hid (show queryI s = (2, zeroM) by unfold queryI; rw [if_neg (by omega), if_neg (by omega), if_neg (by omega), if_pos (by omega)])
  have h6 : (C : Int) ≤ 60 := by omega
  have HS := Lib.hid fun U => rsrc_no s 12 C 4 U hs (by omega) (by omega) (by omega) (by omega)
  rw [show ((12 : Nat) : Int) = 12 from rfl, show ((4 : Nat) : Int) = 4 from rfl] at HS
  generalize (decI 4 (byt s 1)).1 = d1 at *
  generalize (decI 4 (byt s 1)).2 = d1' at *
  generalize (decI 4 (byt s 9)).1 = d9 at *
  generalize (decI 4 (byt s 9)).2 = d9' at *
  clear hC hCn h60 hc
  have hgg : s.extract 4 8 = noGrp := hg
  clear hqg hm hg
  have hb1 : (s[1].toNat : Int) = (byt s 1 : Int) := congrArg Int.ofNat (byt_get s 1 z1)
  have hw1 : wrap64 (s[1].toNat : Int) = (byt s 1 : Int) := (wrap_b _).trans hb1
  have hb8 : (s[8].toNat : Int) = (byt s 8 : Int) := congrArg Int.ofNat (byt_get s 8 z8)
  have hw8 : wrap64 (s[8].toNat : Int) = (byt s 8 : Int) := (wrap_b _).trans hb8
  have hb9 : (s[9].toNat : Int) = (byt s 9 : Int) := congrArg Int.ofNat (byt_get s 9 z9)
  have hw9 : wrap64 (s[9].toNat : Int) = (byt s 9 : Int) := (wrap_b _).trans hb9
  generalize byt s 8 = B8 at *
  generalize byt s 9 = B9 at *
  have K8 := Lib.hid hb8
  have K9 := Lib.hid hb9
  have J8 := Lib.hid hw8
  have J9 := Lib.hid hw9
  clear hb8 hb9 hw8 hw9
  generalize byt s 1 = B1 at *
  have V9 := Lib.hid (wrap_n10 B9 q9)
  have V8 := Lib.hid (wrap_n10 B8 q8)
  go_enter Try.func29, Try.ntmps29
  go_wp2_with fail
  go_region
  have Q := Lib.hid (QB.two10 w #[.int .i64 1, .int .i64 1, .string noGrp, .int .i64 (B1 : Int), .bool false, .int .i64 0, .int .i64 0, .slice none 0 0, .slice none 0 0])
  all_goals
    generalize w.heap.size + 1 = P at Q ⊢
    generalize ((w.alloc _).alloc _).drew = W at Q ⊢
    have c1 := Q.out.2.1.cell 1 rfl
    have c2 := Q.out.2.1.cell 2 rfl
    have c3 := Q.out.2.1.cell 3 rfl
    have f1 := Q.out.2.1.free 1
    have f2 := Q.out.2.1.free 2
    have hPR := Lib.hid Q.out.2.2
    have hNP : w.heap.size ≠ P := by have := hPR.out; omega
    go_wp2_with fail
    ((with_reducible refine (HD1.out _).mono ?_); rintro e w3 ⟨rfl, rfl⟩)
    have Q' : QB w P #[.int .i64 1, .int .i64 3, .string ⟨#[]⟩, .int .i64 (B1 : Int), .bool false, .int .i64 0, .int .i64 0, .slice none 0 0, .slice none 0 0] (((W.setCell ⟨P, 2, none⟩ (.string ⟨#[]⟩)).setCell ⟨P, 1, none⟩ (.int .i64 2)).setCell ⟨P, 1, none⟩ (.int .i64 3)) := (((Q.out.store 2 (.string ⟨#[]⟩)).store 1 (.int .i64 2)).store 1 (.int .i64 3))
    generalize (((W.setCell ⟨P, 2, none⟩ (.string ⟨#[]⟩)).setCell ⟨P, 1, none⟩ (.int .i64 2)).setCell ⟨P, 1, none⟩ (.int .i64 3)) = W3 at Q' ⊢
    clear Q
    clear c1 c2 c3 f1 f2
    have Q := Lib.hid Q'
    clear Q'
    obtain ⟨W, rfl⟩ : ∃ W, W = W3 := ⟨_, rfl⟩
    have c3 := Q.out.2.1.cell 3 rfl
    have c4 := Q.out.2.1.cell 4 rfl
    have c5 := Q.out.2.1.cell 5 rfl
    have f3 := Q.out.2.1.free 3
    have f4 := Q.out.2.1.free 4
    have f5 := Q.out.2.1.free 5
    clear hb1 hw1
    have hb8 := K8.out
    go_upto_region 13 with fail
    clear hb8
    have hb9 := K9.out
    go_wp2_with fail
    ((with_reducible refine (HD9.out _).mono ?_); rintro e w4 ⟨rfl, rfl⟩)
    clear hb9
    have Q' : QB w P #[.int .i64 1, .int .i64 3, .string ⟨#[]⟩, .int .i64 d1, .bool (((B8 : Int) / 8 % 2) == 1), .int .i64 ((B8 : Int) % 8), .int .i64 0, .slice none 0 0, .slice none 0 0] (((W.setCell ⟨P, 3, none⟩ (.int .i64 d1)).setCell ⟨P, 4, none⟩ (.bool (((B8 : Int) / 8 % 2) == 1))).setCell ⟨P, 5, none⟩ (.int .i64 ((B8 : Int) % 8))) := (((Q.out.store 3 (.int .i64 d1)).store 4 (.bool (((B8 : Int) / 8 % 2) == 1))).store 5 (.int .i64 ((B8 : Int) % 8)))
    generalize (((W.setCell ⟨P, 3, none⟩ (.int .i64 d1)).setCell ⟨P, 4, none⟩ (.bool (((B8 : Int) / 8 % 2) == 1))).setCell ⟨P, 5, none⟩ (.int .i64 ((B8 : Int) % 8))) = W4 at Q' ⊢
    clear Q
    clear c3 c4 c5 f3 f4 f5
    have Q := Lib.hid Q'
    clear Q'
    obtain ⟨W, rfl⟩ : ∃ W, W = W4 := ⟨_, rfl⟩
    have c6 := Q.out.2.1.cell 6 rfl
    have f6 := Q.out.2.1.free 6
    go_wp2_with fail
    ((with_reducible refine (HAt.out _).mono ?_); rintro e w5 ⟨rfl, rfl⟩)
    have Q' : QB w P #[.int .i64 1, .int .i64 3, .string ⟨#[]⟩, .int .i64 d1, .bool (((B8 : Int) / 8 % 2) == 1), .int .i64 ((B8 : Int) % 8), .int .i64 d9, .slice none 0 0, .slice none 0 0] (W.setCell ⟨P, 6, none⟩ (.int .i64 d9)) := (Q.out.store 6 (.int .i64 d9))
    generalize (W.setCell ⟨P, 6, none⟩ (.int .i64 d9)) = W5 at Q' ⊢
    clear Q
    clear c6 f6
    have Q := Lib.hid Q'
    clear Q'
    obtain ⟨W, rfl⟩ : ∃ W, W = W5 := ⟨_, rfl⟩
    have r0 := Q.out.1.cell 0 rfl
    have r1 := Q.out.1.cell 1 rfl
    have r2 := Q.out.1.cell 2 rfl
    have r3 := Q.out.1.cell 3 rfl
    have r4 := Q.out.1.cell 4 rfl
    have r5 := Q.out.1.cell 5 rfl
    have r6 := Q.out.1.cell 6 rfl
    have r7 := Q.out.1.cell 7 rfl
    have r8 := Q.out.1.cell 8 rfl
    have g0 := Q.out.1.free 0
    have g1 := Q.out.1.free 1
    have g2 := Q.out.1.free 2
    have g3 := Q.out.1.free 3
    have g4 := Q.out.1.free 4
    have g5 := Q.out.1.free 5
    have g6 := Q.out.1.free 6
    have g7 := Q.out.1.free 7
    have g8 := Q.out.1.free 8
    go_wp2_with fail
    ((with_reducible refine (HS.out _).mono ?_); rintro e w6 ⟨rfl, rfl⟩)
    go_wp2_with fail
    refine bodyPost_ret (v := .tuple #[.agg #[.int .i64 0, .int .i64 0, .string ⟨#[]⟩, .int .i64 0, .bool false, .int .i64 0, .int .i64 0, .slice none 0 0, .slice none 0 0], .int .i64 2]) (by simp [results, Try.results29, go_sem, r0, r1, r2, r3, r4, r5, r6, r7, r8]) rfl (MsgPost.bad HV.out rfl ?_)
    exact (((((((((Q.out.1.2.setCell (p := ⟨w.heap.size, 0, none⟩) (Nat.le_refl _) _).setCell (p := ⟨w.heap.size, 1, none⟩) (Nat.le_refl _) _).setCell (p := ⟨w.heap.size, 2, none⟩) (Nat.le_refl _) _).setCell (p := ⟨w.heap.size, 3, none⟩) (Nat.le_refl _) _).setCell (p := ⟨w.heap.size, 4, none⟩) (Nat.le_refl _) _).setCell (p := ⟨w.heap.size, 5, none⟩) (Nat.le_refl _) _).setCell (p := ⟨w.heap.size, 6, none⟩) (Nat.le_refl _) _).setCell (p := ⟨w.heap.size, 7, none⟩) (Nat.le_refl _) _).setCell (p := ⟨w.heap.size, 8, none⟩) (Nat.le_refl _) _)

set_option maxHeartbeats 800000 in
set_option maxRecDepth 100000 in
theorem rquery_nml4 (s : ByteArray) (w : World) (hs : s.size ≤ 281474976710000) (h8 : 8 ≤ s.size) (hg : s.extract 4 8 = noGrp) (hm : byt s 1 ≠ 0) (hl : 8 < s.size) (hl2 : 12 ≤ s.size) (h60 : (numv s 10 2).toNat ≤ 60) (hc : 12 + (numv s 10 2).toNat * 4 ≤ s.size) :
    Calls Try.prog 29 #[.string s] w (MsgPost (queryI s) w) := by
  have u1 : (1 : Int) < (s.size : Int) := by omega
  have u8 : (8 : Int) ≤ (s.size : Int) := by omega
  have z1 : 1 < s.size := by omega
  have q1 := byt_lt10 s 1
  have q1' : (byt s 1 : Int) ≤ 255 := Int.ofNat_le.2 (Nat.le_of_lt_succ q1)
  have q1'' : (0 : Int) ≤ (byt s 1 : Int) := Int.natCast_nonneg _
  have hqg : qGrp s = ⟨#[]⟩ := by unfold qGrp; rw [if_pos hg]
  have t1 : (noGrp.toList == [0, 0, 0, 0]) = true := by decide +kernel
  have m0 : (0 : Int) < (byt s 1 : Int) := by omega
  have bC := numv_le2 s 10
  obtain ⟨C, hC⟩ := Int.eq_ofNat_of_zero_le bC.1
  have hCn : (numv s 10 2).toNat = C := by omega
  rw [hCn] at h60
  have HAt := Lib.hid fun U => vat_c s 10 2 U (by omega) (by omega) (by omega)
  rw [hC] at HAt bC
  have hl' : (8 : Int) < (s.size : Int) := by omega
  have hl2' : (12 : Int) ≤ (s.size : Int) := by omega
  have u8b : (8 : Int) < (s.size : Int) := by omega
  have u9b : (9 : Int) < (s.size : Int) := by omega
  have z8 : 8 < s.size := by omega
  have z9 : 9 < s.size := by omega
  have q8 := byt_lt10 s 8
  have q9 := byt_lt10 s 9
  have q8' : (byt s 8 : Int) ≤ 255 := Int.ofNat_le.2 (Nat.le_of_lt_succ q8)
  have q9' : (byt s 9 : Int) ≤ 255 := Int.ofNat_le.2 (Nat.le_of_lt_succ q9)
  have q8'' : (0 : Int) ≤ (byt s 8 : Int) := Int.natCast_nonneg _
  have q9'' : (0 : Int) ≤ (byt s 9 : Int) := Int.natCast_nonneg _
  have HD1 := Lib.hid fun U => rdec8_c (byt s 1) U
  have HD9 := Lib.hid fun U => rdec8_c (byt s 9) U
  rw [hCn] at hc
  have HV := Lib.hid (show queryI s = if qGrpB (qGrp s) C then (0, ⟨1, 3, qGrp s, (decI 4 (byt s 1)).1, decide (byt s 8 / 8 % 2 = 1), ((byt s 8 % 8 : Nat) : Int), (decI 4 (byt s 9)).1, addrsL s 12 C 4, []⟩) else (3, zeroM) by unfold queryI; rw [if_neg (by omega), if_neg (by omega), if_neg (by omega), if_neg (by omega), hCn])
  have h6 : (C : Int) ≤ 60 := by omega
  have HS := Lib.hid fun U => rsrc_c s 12 C 4 U hs (by omega) (by omega) (by omega)
  rw [show ((12 : Nat) : Int) = 12 from rfl, show ((4 : Nat) : Int) = 4 from rfl] at HS
  have hal := Lib.hid (addrsL_length s 12 C 4)
  generalize addrsL s 12 C 4 = al at HS HV hal
  have e8 : decide (byt s 8 / 8 % 2 = 1) = (((byt s 8 : Int) / 8 % 2) == 1) := by
    rw [Bool.eq_iff_iff, decide_eq_true_iff, beq_iff_eq]
    omega
  rw [e8] at HV
  clear e8
  generalize (decI 4 (byt s 1)).1 = d1 at *
  generalize (decI 4 (byt s 1)).2 = d1' at *
  generalize (decI 4 (byt s 9)).1 = d9 at *
  generalize (decI 4 (byt s 9)).2 = d9' at *
  clear hC hCn h60 hc
  rw [hqg] at HV
  have hqb : qGrpB ⟨#[]⟩ C = decide (C = 0) := rfl
  rw [hqb] at HV
  clear hqb
  have hgg : s.extract 4 8 = noGrp := hg
  clear hqg hm hg
  have hb1 : (s[1].toNat : Int) = (byt s 1 : Int) := congrArg Int.ofNat (byt_get s 1 z1)
  have hw1 : wrap64 (s[1].toNat : Int) = (byt s 1 : Int) := (wrap_b _).trans hb1
  have hb8 : (s[8].toNat : Int) = (byt s 8 : Int) := congrArg Int.ofNat (byt_get s 8 z8)
  have hw8 : wrap64 (s[8].toNat : Int) = (byt s 8 : Int) := (wrap_b _).trans hb8
  have hb9 : (s[9].toNat : Int) = (byt s 9 : Int) := congrArg Int.ofNat (byt_get s 9 z9)
  have hw9 : wrap64 (s[9].toNat : Int) = (byt s 9 : Int) := (wrap_b _).trans hb9
  generalize byt s 8 = B8 at *
  generalize byt s 9 = B9 at *
  have K8 := Lib.hid hb8
  have K9 := Lib.hid hb9
  have J8 := Lib.hid hw8
  have J9 := Lib.hid hw9
  clear hb8 hb9 hw8 hw9
  generalize byt s 1 = B1 at *
  have V9 := Lib.hid (wrap_n10 B9 q9)
  have V8 := Lib.hid (wrap_n10 B8 q8)
  go_enter Try.func29, Try.ntmps29
  go_wp2_with fail
  go_region
  have Q := Lib.hid (QB.two10 w #[.int .i64 1, .int .i64 1, .string noGrp, .int .i64 (B1 : Int), .bool false, .int .i64 0, .int .i64 0, .slice none 0 0, .slice none 0 0])
  all_goals
    generalize w.heap.size + 1 = P at Q ⊢
    generalize ((w.alloc _).alloc _).drew = W at Q ⊢
    have c1 := Q.out.2.1.cell 1 rfl
    have c2 := Q.out.2.1.cell 2 rfl
    have c3 := Q.out.2.1.cell 3 rfl
    have f1 := Q.out.2.1.free 1
    have f2 := Q.out.2.1.free 2
    have hPR := Lib.hid Q.out.2.2
    have hNP : w.heap.size ≠ P := by have := hPR.out; omega
    go_wp2_with fail
    ((with_reducible refine (HD1.out _).mono ?_); rintro e w3 ⟨rfl, rfl⟩)
    have Q' : QB w P #[.int .i64 1, .int .i64 3, .string ⟨#[]⟩, .int .i64 (B1 : Int), .bool false, .int .i64 0, .int .i64 0, .slice none 0 0, .slice none 0 0] (((W.setCell ⟨P, 2, none⟩ (.string ⟨#[]⟩)).setCell ⟨P, 1, none⟩ (.int .i64 2)).setCell ⟨P, 1, none⟩ (.int .i64 3)) := (((Q.out.store 2 (.string ⟨#[]⟩)).store 1 (.int .i64 2)).store 1 (.int .i64 3))
    generalize (((W.setCell ⟨P, 2, none⟩ (.string ⟨#[]⟩)).setCell ⟨P, 1, none⟩ (.int .i64 2)).setCell ⟨P, 1, none⟩ (.int .i64 3)) = W3 at Q' ⊢
    clear Q
    clear c1 c2 c3 f1 f2
    have Q := Lib.hid Q'
    clear Q'
    obtain ⟨W, rfl⟩ : ∃ W, W = W3 := ⟨_, rfl⟩
    have c3 := Q.out.2.1.cell 3 rfl
    have c4 := Q.out.2.1.cell 4 rfl
    have c5 := Q.out.2.1.cell 5 rfl
    have f3 := Q.out.2.1.free 3
    have f4 := Q.out.2.1.free 4
    have f5 := Q.out.2.1.free 5
    clear hb1 hw1
    have hb8 := K8.out
    go_upto_region 13 with fail
    clear hb8
    have hb9 := K9.out
    go_wp2_with fail
    ((with_reducible refine (HD9.out _).mono ?_); rintro e w4 ⟨rfl, rfl⟩)
    clear hb9
    have Q' : QB w P #[.int .i64 1, .int .i64 3, .string ⟨#[]⟩, .int .i64 d1, .bool (((B8 : Int) / 8 % 2) == 1), .int .i64 ((B8 : Int) % 8), .int .i64 0, .slice none 0 0, .slice none 0 0] (((W.setCell ⟨P, 3, none⟩ (.int .i64 d1)).setCell ⟨P, 4, none⟩ (.bool (((B8 : Int) / 8 % 2) == 1))).setCell ⟨P, 5, none⟩ (.int .i64 ((B8 : Int) % 8))) := (((Q.out.store 3 (.int .i64 d1)).store 4 (.bool (((B8 : Int) / 8 % 2) == 1))).store 5 (.int .i64 ((B8 : Int) % 8)))
    generalize (((W.setCell ⟨P, 3, none⟩ (.int .i64 d1)).setCell ⟨P, 4, none⟩ (.bool (((B8 : Int) / 8 % 2) == 1))).setCell ⟨P, 5, none⟩ (.int .i64 ((B8 : Int) % 8))) = W4 at Q' ⊢
    clear Q
    clear c3 c4 c5 f3 f4 f5
    have Q := Lib.hid Q'
    clear Q'
    obtain ⟨W, rfl⟩ : ∃ W, W = W4 := ⟨_, rfl⟩
    have c6 := Q.out.2.1.cell 6 rfl
    have f6 := Q.out.2.1.free 6
    go_wp2_with fail
    ((with_reducible refine (HAt.out _).mono ?_); rintro e w5 ⟨rfl, rfl⟩)
    have Q' : QB w P #[.int .i64 1, .int .i64 3, .string ⟨#[]⟩, .int .i64 d1, .bool (((B8 : Int) / 8 % 2) == 1), .int .i64 ((B8 : Int) % 8), .int .i64 d9, .slice none 0 0, .slice none 0 0] (W.setCell ⟨P, 6, none⟩ (.int .i64 d9)) := (Q.out.store 6 (.int .i64 d9))
    generalize (W.setCell ⟨P, 6, none⟩ (.int .i64 d9)) = W5 at Q' ⊢
    clear Q
    clear c6 f6
    have Q := Lib.hid Q'
    clear Q'
    obtain ⟨W, rfl⟩ : ∃ W, W = W5 := ⟨_, rfl⟩
    go_wp2_with fail
    have Q5 : QB w P #[.int .i64 1, .int .i64 3, .string ⟨#[]⟩, .int .i64 d1, .bool (((B8 : Int) / 8 % 2) == 1), .int .i64 ((B8 : Int) % 8), .int .i64 d9, .slice none 0 0, .slice none 0 0] W := Q.out
    ((with_reducible refine (HS.out _).mono ?_); rintro e w6 ⟨vs, rfl, hvs, h6'⟩)
    have hlt := Q5.2.1.lt
    obtain ⟨p, cp, rfl⟩ := hvs.slice
    have HS2 := Lib.hid (hvs.mono hlt id)
    have Q6 : QB w P #[.int .i64 1, .int .i64 3, .string ⟨#[]⟩, .int .i64 d1, .bool (((B8 : Int) / 8 % 2) == 1), .int .i64 ((B8 : Int) % 8), .int .i64 d9, .slice none 0 0, .slice none 0 0] w6 := Q5.below h6'
    replace Q := Lib.hid Q6
    clear Q5 Q6 hvs h6' hlt
    have c0 := Q.out.2.1.cell 0 rfl
    have c1 := Q.out.2.1.cell 1 rfl
    have c2 := Q.out.2.1.cell 2 rfl
    have c3 := Q.out.2.1.cell 3 rfl
    have c4 := Q.out.2.1.cell 4 rfl
    have c5 := Q.out.2.1.cell 5 rfl
    have c6 := Q.out.2.1.cell 6 rfl
    have c7 := Q.out.2.1.cell 7 rfl
    have c8 := Q.out.2.1.cell 8 rfl
    have f1 := Q.out.2.1.free 1
    have f2 := Q.out.2.1.free 2
    have f3 := Q.out.2.1.free 3
    have f4 := Q.out.2.1.free 4
    have f5 := Q.out.2.1.free 5
    have f6 := Q.out.2.1.free 6
    have f7 := Q.out.2.1.free 7
    have r0 := Q.out.1.cell 0 rfl
    have r1 := Q.out.1.cell 1 rfl
    have r2 := Q.out.1.cell 2 rfl
    have r3 := Q.out.1.cell 3 rfl
    have r4 := Q.out.1.cell 4 rfl
    have r5 := Q.out.1.cell 5 rfl
    have r6 := Q.out.1.cell 6 rfl
    have r7 := Q.out.1.cell 7 rfl
    have r8 := Q.out.1.cell 8 rfl
    have g0 := Q.out.1.free 0
    have g1 := Q.out.1.free 1
    have g2 := Q.out.1.free 2
    have g3 := Q.out.1.free 3
    have g4 := Q.out.1.free 4
    have g5 := Q.out.1.free 5
    have g6 := Q.out.1.free 6
    have g7 := Q.out.1.free 7
    have g8 := Q.out.1.free 8
    have h7 : al.length = C := hal.out
    by_cases h0 : C = 0
    · replace HV := Lib.hid (show queryI s = (0, ⟨1, 3, ⟨#[]⟩, d1, (((B8 : Int) / 8 % 2) == 1), ((B8 % 8 : Nat) : Int), d9, al, []⟩) from by rw [HV.out, if_pos (decide_eq_true h0)])
      have h9 : ¬ (0 : Int) < (al.length : Int) := by omega
      clear h7 h0
      go_wp2_with fail
      refine bodyPost_ret (v := .tuple #[.agg #[.int .i64 1, .int .i64 3, .string ⟨#[]⟩, .int .i64 d1, .bool (((B8 : Int) / 8 % 2) == 1), .int .i64 ((B8 : Int) % 8), .int .i64 d9, .slice p al.length cp, .slice none 0 0], .int .i64 0]) (by simp [results, Try.results29, go_sem, r0, r1, r2, r3, r4, r5, r6, r7, r8]) rfl ?_
      unfold MsgPost
      rw [HV.out]
      exact ⟨_, _, rfl, (((HS2.out.store (Nat.lt_succ_self _)).mono (show w.heap.size + 1 ≤ P + 1 by have := hPR.out; omega) id).storeN9 w.heap.size (Nat.lt_succ_self _)), RecsG.nil _ _ _, ((((((((((Q.out.store 7 (.slice p al.length cp)).1.2.setCell (p := ⟨w.heap.size, 0, none⟩) (Nat.le_refl _) _).setCell (p := ⟨w.heap.size, 1, none⟩) (Nat.le_refl _) _).setCell (p := ⟨w.heap.size, 2, none⟩) (Nat.le_refl _) _).setCell (p := ⟨w.heap.size, 3, none⟩) (Nat.le_refl _) _).setCell (p := ⟨w.heap.size, 4, none⟩) (Nat.le_refl _) _).setCell (p := ⟨w.heap.size, 5, none⟩) (Nat.le_refl _) _).setCell (p := ⟨w.heap.size, 6, none⟩) (Nat.le_refl _) _).setCell (p := ⟨w.heap.size, 7, none⟩) (Nat.le_refl _) _).setCell (p := ⟨w.heap.size, 8, none⟩) (Nat.le_refl _) _)⟩
    · replace HV := Lib.hid (show queryI s = (3, zeroM) by rw [HV.out, if_neg (by simpa using h0)])
      have h9 : (0 : Int) < (al.length : Int) := by omega
      clear h7 h0
      go_wp2_with fail
      refine bodyPost_ret (v := .tuple #[.agg #[.int .i64 0, .int .i64 0, .string ⟨#[]⟩, .int .i64 0, .bool false, .int .i64 0, .int .i64 0, .slice none 0 0, .slice none 0 0], .int .i64 3]) (by simp [results, Try.results29, go_sem, r0, r1, r2, r3, r4, r5, r6, r7, r8]) rfl (MsgPost.bad HV.out rfl ?_)
      exact ((((((((((Q.out.store 7 (.slice p al.length cp)).1.2.setCell (p := ⟨w.heap.size, 0, none⟩) (Nat.le_refl _) _).setCell (p := ⟨w.heap.size, 1, none⟩) (Nat.le_refl _) _).setCell (p := ⟨w.heap.size, 2, none⟩) (Nat.le_refl _) _).setCell (p := ⟨w.heap.size, 3, none⟩) (Nat.le_refl _) _).setCell (p := ⟨w.heap.size, 4, none⟩) (Nat.le_refl _) _).setCell (p := ⟨w.heap.size, 5, none⟩) (Nat.le_refl _) _).setCell (p := ⟨w.heap.size, 6, none⟩) (Nat.le_refl _) _).setCell (p := ⟨w.heap.size, 7, none⟩) (Nat.le_refl _) _).setCell (p := ⟨w.heap.size, 8, none⟩) (Nat.le_refl _) _)

end Go.Proofs.Ytnhgekbimiffjaa
