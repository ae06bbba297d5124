/-
  Reading queries of IPv6, the document's answer: siphonref09.query.
-/
import Derived.Test.YtnfngmclomjimaaGreatMdRd
import Derived.Test.YtnfngmclomjimaaGreatMdG
import Derived.Test.YtnfngmclomjimaaGreatRAt
import Derived.Test.YtnfngmclomjimaaGreatCodeE
import Derived.Deep.Cut
namespace Go.Proofs.YtnfngmclomjimaaGreat
open Go.RowKit
set_option linter.unusedVariables false

theorem QB.two91 (w : World) (xs : Array Value) : QB w (w.heap.size + 1) xs ((w.alloc (.cells #[.int .i64 0, .int .i64 0, .string ⟨#[]⟩, .int .i64 0, .bool false, .int .i64 0, .int .i64 0, .slice none 0 0, .slice none 0 0] 29)).alloc (.cells xs 29)).drew := by
  have h := QB.start (xs := xs) (Box.start w #[.int .i64 0, .int .i64 0, .string ⟨#[]⟩, .int .i64 0, .bool false, .int .i64 0, .int .i64 0, .slice none 0 0, .slice none 0 0] 29)
  rw [World.size_alloc] at h
  exact ⟨⟨h.1.1, h.1.2.drew⟩, ⟨h.2.1.1, Below.refl _ _⟩, h.2.2⟩

set_option maxHeartbeats 1000000 in
set_option maxRecDepth 100000 in
theorem rqry_cut (s : ByteArray) (w : World) (h : s.size < 24) :
    Calls Tryz.prog 17 #[.string s] w (MsgPost (qryD s) w) := by
  have HV := Lib.hid (show qryD s = (2, zeroM) from if_pos h)
  have h' : (s.size : Int) < 24 := by omega
  have B := Lib.hid (Box.start w #[.int .i64 0, .int .i64 0, .string ⟨#[]⟩, .int .i64 0, .bool false, .int .i64 0, .int .i64 0, .slice none 0 0, .slice none 0 0] 29)
  clear h
  go_enter Tryz.func17, Tryz.ntmps17
  go_wp2_with fail
  refine bodyPost_ret (v := .tuple #[.agg #[.int .i64 0, .int .i64 0, .string ⟨#[]⟩, .int .i64 0, .bool false, .int .i64 0, .int .i64 0, .slice none 0 0, .slice none 0 0], .int .i64 2]) (by simp [results, Tryz.results17, go_sem]) rfl (MsgPost.bad HV.out rfl ?_)
  exact B.out.2

set_option maxHeartbeats 1000000 in
set_option maxRecDepth 100000 in
theorem rqry_ns (s : ByteArray) (w : World) (hs : s.size ≤ 281474976710000) (hg : s.extract 8 24 = none6) (h8 : s.size = 24) :
    Calls Tryz.prog 17 #[.string s] w (MsgPost (qryD s) w) := by
  have HA4 := Lib.hid fun U => vat_c s 4 2 U (by omega) (by omega) (by omega)
  have u24 : (24 : Int) ≤ (s.size : Int) := by omega
  have hqg : grpQ s = ⟨#[]⟩ := by unfold grpQ; rw [if_pos hg]
  have hx : s.extract 8 24 = ⟨#[0, 0, 0, 0, 0, 0, 0, 0, 0, 0, 0, 0, 0, 0, 0, 0]⟩ := hg
  have HV := Lib.hid (show qryD s = if qGrp6 (grpQ s) 0 then (0, ⟨1, 1, grpQ s, numv s 4 2, false, 0, 0, [], []⟩) else (3, zeroM) by unfold qryD; rw [if_neg (by omega), if_pos h8])
  have hl' : ¬ (24 : Int) < (s.size : Int) := by omega
  rw [hqg] at HV
  have hqb : qGrp6 ⟨#[]⟩ 0 = decide (0 = 0) := rfl
  rw [hqb] at HV
  clear hqb
  clear hqg hg h8
  generalize numv s 4 2 = N4 at *
  go_enter Tryz.func17, Tryz.ntmps17
  go_wp2_with fail
  go_region_with (go_at_call 19; refine (HA4.out _).mono ?_; rintro e w3 ⟨rfl, rfl⟩)
  all_goals
    have Q := Lib.hid (QB.two91 w #[.int .i64 1, .int .i64 1, .string ⟨#[0, 0, 0, 0, 0, 0, 0, 0, 0, 0, 0, 0, 0, 0, 0, 0]⟩, .int .i64 N4, .bool false, .int .i64 0, .int .i64 0, .slice none 0 0, .slice none 0 0])
    generalize w.heap.size + 1 = P at Q ⊢
    generalize ((w.alloc _).alloc _).drew = W at Q ⊢
    have hPR := Lib.hid Q.out.2.2
    have hNP : w.heap.size ≠ P := by have := hPR.out; omega
    have c0 := Q.out.2.1.cell 0 rfl
    have c1 := Q.out.2.1.cell 1 rfl
    have c2 := Q.out.2.1.cell 2 rfl
    have c3 := Q.out.2.1.cell 3 rfl
    have c4 := Q.out.2.1.cell 4 rfl
    have c5 := Q.out.2.1.cell 5 rfl
    have c6 := Q.out.2.1.cell 6 rfl
    have c7 := Q.out.2.1.cell 7 rfl
    have c8 := Q.out.2.1.cell 8 rfl
    have f2 := Q.out.2.1.free 2
    have r0 := Q.out.1.cell 0 rfl
    have g0 := Q.out.1.free 0
    have r1 := Q.out.1.cell 1 rfl
    have g1 := Q.out.1.free 1
    have r2 := Q.out.1.cell 2 rfl
    have g2 := Q.out.1.free 2
    have r3 := Q.out.1.cell 3 rfl
    have g3 := Q.out.1.free 3
    have r4 := Q.out.1.cell 4 rfl
    have g4 := Q.out.1.free 4
    have r5 := Q.out.1.cell 5 rfl
    have g5 := Q.out.1.free 5
    have r6 := Q.out.1.cell 6 rfl
    have g6 := Q.out.1.free 6
    have r7 := Q.out.1.cell 7 rfl
    have g7 := Q.out.1.free 7
    have r8 := Q.out.1.cell 8 rfl
    have g8 := Q.out.1.free 8
    go_wp2_with fail
    replace HV := Lib.hid (show qryD s = (0, ⟨1, 1, ⟨#[]⟩, N4, false, 0, 0, [], []⟩) from HV.out)
    refine bodyPost_ret (v := .tuple #[.agg #[.int .i64 1, .int .i64 1, .string ⟨#[]⟩, .int .i64 N4, .bool false, .int .i64 0, .int .i64 0, .slice none 0 0, .slice none 0 0], .int .i64 0]) (by simp [results, Tryz.results17, go_sem, r0, r1, r2, r3, r4, r5, r6, r7, r8]) rfl ?_
    unfold MsgPost
    rw [HV.out]
    exact ⟨_, _, rfl, AddrsG.nil _ _ _, RecsG.nil _ _ _, ((((((((((Q.out.store 2 (.string ⟨#[]⟩)).1.2.setCell (p := ⟨w.heap.size, 0, none⟩) (Nat.le_refl _) _).setCell (p := ⟨w.heap.size, 1, none⟩) (Nat.le_refl _) _).setCell (p := ⟨w.heap.size, 2, none⟩) (Nat.le_refl _) _).setCell (p := ⟨w.heap.size, 3, none⟩) (Nat.le_refl _) _).setCell (p := ⟨w.heap.size, 4, none⟩) (Nat.le_refl _) _).setCell (p := ⟨w.heap.size, 5, none⟩) (Nat.le_refl _) _).setCell (p := ⟨w.heap.size, 6, none⟩) (Nat.le_refl _) _).setCell (p := ⟨w.heap.size, 7, none⟩) (Nat.le_refl _) _).setCell (p := ⟨w.heap.size, 8, none⟩) (Nat.le_refl _) _)⟩

set_option maxHeartbeats 1000000 in
set_option maxRecDepth 100000 in
theorem rqry_nl1 (s : ByteArray) (w : World) (hs : s.size ≤ 281474976710000) (hg : s.extract 8 24 = none6) (h8 : 24 < s.size) (hl2 : s.size < 28) :
    Calls Tryz.prog 17 #[.string s] w (MsgPost (qryD s) w) := by
  have HA4 := Lib.hid fun U => vat_c s 4 2 U (by omega) (by omega) (by omega)
  have u24 : (24 : Int) ≤ (s.size : Int) := by omega
  have hqg : grpQ s = ⟨#[]⟩ := by unfold grpQ; rw [if_pos hg]
  have hx : s.extract 8 24 = ⟨#[0, 0, 0, 0, 0, 0, 0, 0, 0, 0, 0, 0, 0, 0, 0, 0]⟩ := hg
  have HV := Lib.hid (show qryD s = (3, zeroM) by
    have hd : dtE s = 3 := by unfold dtE; rw [if_pos hl2]
    unfold qryD; rw [if_neg (by omega), if_neg (by omega), if_pos (by rw [hd]; simp), hd])
  have hl' : (24 : Int) < (s.size : Int) := by omega
  have hl2' : (s.size : Int) < 28 := by omega
  clear hqg hg h8
  generalize numv s 4 2 = N4 at *
  go_enter Tryz.func17, Tryz.ntmps17
  go_wp2_with fail
  go_region_with (go_at_call 19; refine (HA4.out _).mono ?_; rintro e w3 ⟨rfl, rfl⟩)
  all_goals
    have Q := Lib.hid (QB.two91 w #[.int .i64 1, .int .i64 1, .string ⟨#[0, 0, 0, 0, 0, 0, 0, 0, 0, 0, 0, 0, 0, 0, 0, 0]⟩, .int .i64 N4, .bool false, .int .i64 0, .int .i64 0, .slice none 0 0, .slice none 0 0])
    generalize w.heap.size + 1 = P at Q ⊢
    generalize ((w.alloc _).alloc _).drew = W at Q ⊢
    have hPR := Lib.hid Q.out.2.2
    have hNP : w.heap.size ≠ P := by have := hPR.out; omega
    have c2 := Q.out.2.1.cell 2 rfl
    have f2 := Q.out.2.1.free 2
    have r0 := Q.out.1.cell 0 rfl
    have g0 := Q.out.1.free 0
    have r1 := Q.out.1.cell 1 rfl
    have g1 := Q.out.1.free 1
    have r2 := Q.out.1.cell 2 rfl
    have g2 := Q.out.1.free 2
    have r3 := Q.out.1.cell 3 rfl
    have g3 := Q.out.1.free 3
    have r4 := Q.out.1.cell 4 rfl
    have g4 := Q.out.1.free 4
    have r5 := Q.out.1.cell 5 rfl
    have g5 := Q.out.1.free 5
    have r6 := Q.out.1.cell 6 rfl
    have g6 := Q.out.1.free 6
    have r7 := Q.out.1.cell 7 rfl
    have g7 := Q.out.1.free 7
    have r8 := Q.out.1.cell 8 rfl
    have g8 := Q.out.1.free 8
    go_wp2_with fail
    refine bodyPost_ret (v := .tuple #[.agg #[.int .i64 0, .int .i64 0, .string ⟨#[]⟩, .int .i64 0, .bool false, .int .i64 0, .int .i64 0, .slice none 0 0, .slice none 0 0], .int .i64 3]) (by simp [results, Tryz.results17, go_sem, r0, r1, r2, r3, r4, r5, r6, r7, r8]) rfl (MsgPost.bad HV.out rfl ?_)
    exact ((((((((((Q.out.store 2 (.string ⟨#[]⟩)).1.2.setCell (p := ⟨w.heap.size, 0, none⟩) (Nat.le_refl _) _).setCell (p := ⟨w.heap.size, 1, none⟩) (Nat.le_refl _) _).setCell (p := ⟨w.heap.size, 2, none⟩) (Nat.le_refl _) _).setCell (p := ⟨w.heap.size, 3, none⟩) (Nat.le_refl _) _).setCell (p := ⟨w.heap.size, 4, none⟩) (Nat.le_refl _) _).setCell (p := ⟨w.heap.size, 5, none⟩) (Nat.le_refl _) _).setCell (p := ⟨w.heap.size, 6, none⟩) (Nat.le_refl _) _).setCell (p := ⟨w.heap.size, 7, none⟩) (Nat.le_refl _) _).setCell (p := ⟨w.heap.size, 8, none⟩) (Nat.le_refl _) _)

set_option maxHeartbeats 1000000 in
set_option maxRecDepth 100000 in
theorem rqry_nl2 (s : ByteArray) (w : World) (hs : s.size ≤ 281474976710000) (hg : s.extract 8 24 = none6) (h8 : 28 ≤ s.size) (h60 : 60 < (numv s 26 2).toNat) :
    Calls Tryz.prog 17 #[.string s] w (MsgPost (qryD s) w) := by
  have HA4 := Lib.hid fun U => vat_c s 4 2 U (by omega) (by omega) (by omega)
  have u24 : (24 : Int) ≤ (s.size : Int) := by omega
  have hqg : grpQ s = ⟨#[]⟩ := by unfold grpQ; rw [if_pos hg]
  have hx : s.extract 8 24 = ⟨#[0, 0, 0, 0, 0, 0, 0, 0, 0, 0, 0, 0, 0, 0, 0, 0]⟩ := hg
  have bC := numv_le2 s 26
  obtain ⟨C, hC⟩ := Int.eq_ofNat_of_zero_le bC.1
  have hCn : (numv s 26 2).toNat = C := by omega
  rw [hCn] at h60
  have HAt := Lib.hid fun U => vat_c s 26 2 U (by omega) (by omega) (by omega)
  rw [hC] at HAt bC
  have hl' : (24 : Int) < (s.size : Int) := by omega
  have hl2' : ¬ (s.size : Int) < 28 := by omega
  have u24b : (24 : Int) < (s.size : Int) := by omega
  have u25b : (25 : Int) < (s.size : Int) := by omega
  have z24 : 24 < s.size := by omega
  have z25 : 25 < s.size := by omega
  have HD16 := Lib.hid fun U => rdec16_c (numv s 4 2) U
  have HD8 := Lib.hid fun U => rdec8_c (byt s 25) U
  have q24 : byt s 24 < 256 := by unfold byt; exact UInt8.toNat_lt _
  have q25 : byt s 25 < 256 := by unfold byt; exact UInt8.toNat_lt _
  have HV := Lib.hid (show qryD s = (3, zeroM) by
    have hd : dtE s = 3 := by unfold dtE; rw [if_neg (by omega), hCn, if_pos h60]
    unfold qryD; rw [if_neg (by omega), if_neg (by omega), if_pos (by rw [hd]; simp), hd])
  have h6 : (60 : Int) < (C : Int) := by omega
  generalize (decI 12 (numv s 4 2)).1 = d1 at *
  generalize (decI 12 (numv s 4 2)).2 = d1' at *
  generalize (decI 4 (byt s 25)).1 = d9 at *
  generalize (decI 4 (byt s 25)).2 = d9' at *
  clear hC hCn h60
  clear hqg hg h8
  generalize numv s 4 2 = N4 at *
  have hb24 : (s[24].toNat : Int) = (byt s 24 : Int) := congrArg Int.ofNat (byt_get s 24 z24)
  have hw24 : wrap64 (s[24].toNat : Int) = (byt s 24 : Int) := (wrap_b _).trans hb24
  have hb25 : (s[25].toNat : Int) = (byt s 25 : Int) := congrArg Int.ofNat (byt_get s 25 z25)
  have hw25 : wrap64 (s[25].toNat : Int) = (byt s 25 : Int) := (wrap_b _).trans hb25
  generalize byt s 24 = B24 at *
  generalize byt s 25 = B25 at *
  have q24' : (B24 : Int) ≤ 255 := by omega
  have q25' : (B25 : Int) ≤ 255 := by omega
  have q24'' : (0 : Int) ≤ (B24 : Int) := Int.natCast_nonneg _
  have q25'' : (0 : Int) ≤ (B25 : Int) := Int.natCast_nonneg _
  have K24 := Lib.hid hb24
  have K25 := Lib.hid hb25
  have J24 := Lib.hid hw24
  have J25 := Lib.hid hw25
  clear hb24 hb25 hw24 hw25
  go_enter Tryz.func17, Tryz.ntmps17
  go_wp2_with fail
  go_region_with (go_at_call 19; refine (HA4.out _).mono ?_; rintro e w3 ⟨rfl, rfl⟩)
  all_goals
    have Q := Lib.hid (QB.two91 w #[.int .i64 1, .int .i64 1, .string ⟨#[0, 0, 0, 0, 0, 0, 0, 0, 0, 0, 0, 0, 0, 0, 0, 0]⟩, .int .i64 N4, .bool false, .int .i64 0, .int .i64 0, .slice none 0 0, .slice none 0 0])
    generalize w.heap.size + 1 = P at Q ⊢
    generalize ((w.alloc _).alloc _).drew = W at Q ⊢
    have hPR := Lib.hid Q.out.2.2
    have hNP : w.heap.size ≠ P := by have := hPR.out; omega
    have c1 := Q.out.2.1.cell 1 rfl
    have c2 := Q.out.2.1.cell 2 rfl
    have c3 := Q.out.2.1.cell 3 rfl
    have f1 := Q.out.2.1.free 1
    have f2 := Q.out.2.1.free 2
    go_wp2_with fail
    ((with_reducible refine (HD16.out _).mono ?_); rintro e w3 ⟨rfl, rfl⟩)
    clear c1 c2 c3 f1 f2
    have Q' : QB w P #[.int .i64 1, .int .i64 2, .string ⟨#[]⟩, .int .i64 N4, .bool false, .int .i64 0, .int .i64 0, .slice none 0 0, .slice none 0 0] ((W.setCell ⟨P, 2, none⟩ (.string ⟨#[]⟩)).setCell ⟨P, 1, none⟩ (.int .i64 2)) := ((Q.out.store 2 (.string ⟨#[]⟩)).store 1 (.int .i64 2))
    generalize ((W.setCell ⟨P, 2, none⟩ (.string ⟨#[]⟩)).setCell ⟨P, 1, none⟩ (.int .i64 2)) = W3 at Q' ⊢
    clear Q
    have Q := Lib.hid Q'
    clear Q'
    obtain ⟨W, rfl⟩ : ∃ W, W = W3 := ⟨_, rfl⟩
    have c3 := Q.out.2.1.cell 3 rfl
    have c4 := Q.out.2.1.cell 4 rfl
    have c5 := Q.out.2.1.cell 5 rfl
    have f3 := Q.out.2.1.free 3
    have f4 := Q.out.2.1.free 4
    have f5 := Q.out.2.1.free 5
    have hb24 := K24.out
    have hw24 := J24.out
    go_upto_region 13 with fail
    clear hb24 hw24
    have hb25 := K25.out
    have hw25 := J25.out
    go_wp2_with fail
    ((with_reducible refine (HD8.out _).mono ?_); rintro e w4 ⟨rfl, rfl⟩)
    clear hb25 hw25
    clear c3 c4 c5 f3 f4 f5
    have Q' : QB w P #[.int .i64 1, .int .i64 2, .string ⟨#[]⟩, .int .i64 d1, .bool (((B24 : Int) / 8 % 2) == 1), .int .i64 ((B24 : Int) % 8), .int .i64 0, .slice none 0 0, .slice none 0 0] (((W.setCell ⟨P, 3, none⟩ (.int .i64 d1)).setCell ⟨P, 4, none⟩ (.bool (((B24 : Int) / 8 % 2) == 1))).setCell ⟨P, 5, none⟩ (.int .i64 ((B24 : Int) % 8))) := (((Q.out.store 3 (.int .i64 d1)).store 4 (.bool (((B24 : Int) / 8 % 2) == 1))).store 5 (.int .i64 ((B24 : Int) % 8)))
    generalize (((W.setCell ⟨P, 3, none⟩ (.int .i64 d1)).setCell ⟨P, 4, none⟩ (.bool (((B24 : Int) / 8 % 2) == 1))).setCell ⟨P, 5, none⟩ (.int .i64 ((B24 : Int) % 8))) = W4 at Q' ⊢
    clear Q
    have Q := Lib.hid Q'
    clear Q'
    obtain ⟨W, rfl⟩ : ∃ W, W = W4 := ⟨_, rfl⟩
    have c6 := Q.out.2.1.cell 6 rfl
    have f6 := Q.out.2.1.free 6
    go_wp2_with fail
    ((with_reducible refine (HAt.out _).mono ?_); rintro e w5 ⟨rfl, rfl⟩)
    clear c6 f6
    have Q' : QB w P #[.int .i64 1, .int .i64 2, .string ⟨#[]⟩, .int .i64 d1, .bool (((B24 : Int) / 8 % 2) == 1), .int .i64 ((B24 : Int) % 8), .int .i64 d9, .slice none 0 0, .slice none 0 0] (W.setCell ⟨P, 6, none⟩ (.int .i64 d9)) := (Q.out.store 6 (.int .i64 d9))
    generalize (W.setCell ⟨P, 6, none⟩ (.int .i64 d9)) = W5 at Q' ⊢
    clear Q
    have Q := Lib.hid Q'
    clear Q'
    obtain ⟨W, rfl⟩ : ∃ W, W = W5 := ⟨_, rfl⟩
    have r0 := Q.out.1.cell 0 rfl
    have g0 := Q.out.1.free 0
    have r1 := Q.out.1.cell 1 rfl
    have g1 := Q.out.1.free 1
    have r2 := Q.out.1.cell 2 rfl
    have g2 := Q.out.1.free 2
    have r3 := Q.out.1.cell 3 rfl
    have g3 := Q.out.1.free 3
    have r4 := Q.out.1.cell 4 rfl
    have g4 := Q.out.1.free 4
    have r5 := Q.out.1.cell 5 rfl
    have g5 := Q.out.1.free 5
    have r6 := Q.out.1.cell 6 rfl
    have g6 := Q.out.1.free 6
    have r7 := Q.out.1.cell 7 rfl
    have g7 := Q.out.1.free 7
    have r8 := Q.out.1.cell 8 rfl
    have g8 := Q.out.1.free 8
    go_wp2_with fail
    refine bodyPost_ret (v := .tuple #[.agg #[.int .i64 0, .int .i64 0, .string ⟨#[]⟩, .int .i64 0, .bool false, .int .i64 0, .int .i64 0, .slice none 0 0, .slice none 0 0], .int .i64 3]) (by simp [results, Tryz.results17, go_sem, r0, r1, r2, r3, r4, r5, r6, r7, r8]) rfl (MsgPost.bad HV.out rfl ?_)
    exact (((((((((Q.out.1.2.setCell (p := ⟨w.heap.size, 0, none⟩) (Nat.le_refl _) _).setCell (p := ⟨w.heap.size, 1, none⟩) (Nat.le_refl _) _).setCell (p := ⟨w.heap.size, 2, none⟩) (Nat.le_refl _) _).setCell (p := ⟨w.heap.size, 3, none⟩) (Nat.le_refl _) _).setCell (p := ⟨w.heap.size, 4, none⟩) (Nat.le_refl _) _).setCell (p := ⟨w.heap.size, 5, none⟩) (Nat.le_refl _) _).setCell (p := ⟨w.heap.size, 6, none⟩) (Nat.le_refl _) _).setCell (p := ⟨w.heap.size, 7, none⟩) (Nat.le_refl _) _).setCell (p := ⟨w.heap.size, 8, none⟩) (Nat.le_refl _) _)

set_option maxHeartbeats 1000000 in
set_option maxRecDepth 100000 in
theorem rqry_nl3 (s : ByteArray) (w : World) (hs : s.size ≤ 281474976710000) (hg : s.extract 8 24 = none6) (h8 : 28 ≤ s.size) (h60 : (numv s 26 2).toNat ≤ 60) (hc : s.size < 28 + (numv s 26 2).toNat * 16) :
    Calls Tryz.prog 17 #[.string s] w (MsgPost (qryD s) w) := by
  have HA4 := Lib.hid fun U => vat_c s 4 2 U (by omega) (by omega) (by omega)
  have u24 : (24 : Int) ≤ (s.size : Int) := by omega
  have hqg : grpQ s = ⟨#[]⟩ := by unfold grpQ; rw [if_pos hg]
  have hx : s.extract 8 24 = ⟨#[0, 0, 0, 0, 0, 0, 0, 0, 0, 0, 0, 0, 0, 0, 0, 0]⟩ := hg
  have bC := numv_le2 s 26
  obtain ⟨C, hC⟩ := Int.eq_ofNat_of_zero_le bC.1
  have hCn : (numv s 26 2).toNat = C := by omega
  rw [hCn] at h60
  have HAt := Lib.hid fun U => vat_c s 26 2 U (by omega) (by omega) (by omega)
  rw [hC] at HAt bC
  have hl' : (24 : Int) < (s.size : Int) := by omega
  have hl2' : ¬ (s.size : Int) < 28 := by omega
  have u24b : (24 : Int) < (s.size : Int) := by omega
  have u25b : (25 : Int) < (s.size : Int) := by omega
  have z24 : 24 < s.size := by omega
  have z25 : 25 < s.size := by omega
  have HD16 := Lib.hid fun U => rdec16_c (numv s 4 2) U
  have HD8 := Lib.hid fun U => rdec8_c (byt s 25) U
  have q24 : byt s 24 < 256 := by unfold byt; exact UInt8.toNat_lt _
  have q25 : byt s 25 < 256 := by unfold byt; exact UInt8.toNat_lt _
  rw [hCn] at hc
  have HV := Lib.hid (show qryD s = (2, zeroM) by
    have hd : dtE s = 2 := by unfold dtE; rw [if_neg (by omega), hCn, if_neg (by omega), if_pos hc]
    unfold qryD; rw [if_neg (by omega), if_neg (by omega), if_pos (by rw [hd]; simp), hd])
  have h6 : (C : Int) ≤ 60 := by omega
  have HS := Lib.hid fun U => rSources_no s 28 C U hs (by omega) (by omega) hc
  rw [show ((28 : Nat) : Int) = 28 from rfl] at HS
  generalize (decI 12 (numv s 4 2)).1 = d1 at *
  generalize (decI 12 (numv s 4 2)).2 = d1' at *
  generalize (decI 4 (byt s 25)).1 = d9 at *
  generalize (decI 4 (byt s 25)).2 = d9' at *
  clear hC hCn h60 hc
  clear hqg hg h8
  generalize numv s 4 2 = N4 at *
  have hb24 : (s[24].toNat : Int) = (byt s 24 : Int) := congrArg Int.ofNat (byt_get s 24 z24)
  have hw24 : wrap64 (s[24].toNat : Int) = (byt s 24 : Int) := (wrap_b _).trans hb24
  have hb25 : (s[25].toNat : Int) = (byt s 25 : Int) := congrArg Int.ofNat (byt_get s 25 z25)
  have hw25 : wrap64 (s[25].toNat : Int) = (byt s 25 : Int) := (wrap_b _).trans hb25
  generalize byt s 24 = B24 at *
  generalize byt s 25 = B25 at *
  have q24' : (B24 : Int) ≤ 255 := by omega
  have q25' : (B25 : Int) ≤ 255 := by omega
  have q24'' : (0 : Int) ≤ (B24 : Int) := Int.natCast_nonneg _
  have q25'' : (0 : Int) ≤ (B25 : Int) := Int.natCast_nonneg _
  have K24 := Lib.hid hb24
  have K25 := Lib.hid hb25
  have J24 := Lib.hid hw24
  have J25 := Lib.hid hw25
  clear hb24 hb25 hw24 hw25
  go_enter Tryz.func17, Tryz.ntmps17
  go_wp2_with fail
  go_region_with (go_at_call 19; refine (HA4.out _).mono ?_; rintro e w3 ⟨rfl, rfl⟩)
  all_goals
    have Q := Lib.hid (QB.two91 w #[.int .i64 1, .int .i64 1, .string ⟨#[0, 0, 0, 0, 0, 0, 0, 0, 0, 0, 0, 0, 0, 0, 0, 0]⟩, .int .i64 N4, .bool false, .int .i64 0, .int .i64 0, .slice none 0 0, .slice none 0 0])
    generalize w.heap.size + 1 = P at Q ⊢
    generalize ((w.alloc _).alloc _).drew = W at Q ⊢
    have hPR := Lib.hid Q.out.2.2
    have hNP : w.heap.size ≠ P := by have := hPR.out; omega
    have c1 := Q.out.2.1.cell 1 rfl
    have c2 := Q.out.2.1.cell 2 rfl
    have c3 := Q.out.2.1.cell 3 rfl
    have f1 := Q.out.2.1.free 1
    have f2 := Q.out.2.1.free 2
    go_wp2_with fail
    ((with_reducible refine (HD16.out _).mono ?_); rintro e w3 ⟨rfl, rfl⟩)
    clear c1 c2 c3 f1 f2
    have Q' : QB w P #[.int .i64 1, .int .i64 2, .string ⟨#[]⟩, .int .i64 N4, .bool false, .int .i64 0, .int .i64 0, .slice none 0 0, .slice none 0 0] ((W.setCell ⟨P, 2, none⟩ (.string ⟨#[]⟩)).setCell ⟨P, 1, none⟩ (.int .i64 2)) := ((Q.out.store 2 (.string ⟨#[]⟩)).store 1 (.int .i64 2))
    generalize ((W.setCell ⟨P, 2, none⟩ (.string ⟨#[]⟩)).setCell ⟨P, 1, none⟩ (.int .i64 2)) = W3 at Q' ⊢
    clear Q
    have Q := Lib.hid Q'
    clear Q'
    obtain ⟨W, rfl⟩ : ∃ W, W = W3 := ⟨_, rfl⟩
    have c3 := Q.out.2.1.cell 3 rfl
    have c4 := Q.out.2.1.cell 4 rfl
    have c5 := Q.out.2.1.cell 5 rfl
    have f3 := Q.out.2.1.free 3
    have f4 := Q.out.2.1.free 4
    have f5 := Q.out.2.1.free 5
    have hb24 := K24.out
    have hw24 := J24.out
    go_upto_region 13 with fail
    clear hb24 hw24
    have hb25 := K25.out
    have hw25 := J25.out
    go_wp2_with fail
    ((with_reducible refine (HD8.out _).mono ?_); rintro e w4 ⟨rfl, rfl⟩)
    clear hb25 hw25
    clear c3 c4 c5 f3 f4 f5
    have Q' : QB w P #[.int .i64 1, .int .i64 2, .string ⟨#[]⟩, .int .i64 d1, .bool (((B24 : Int) / 8 % 2) == 1), .int .i64 ((B24 : Int) % 8), .int .i64 0, .slice none 0 0, .slice none 0 0] (((W.setCell ⟨P, 3, none⟩ (.int .i64 d1)).setCell ⟨P, 4, none⟩ (.bool (((B24 : Int) / 8 % 2) == 1))).setCell ⟨P, 5, none⟩ (.int .i64 ((B24 : Int) % 8))) := (((Q.out.store 3 (.int .i64 d1)).store 4 (.bool (((B24 : Int) / 8 % 2) == 1))).store 5 (.int .i64 ((B24 : Int) % 8)))
    generalize (((W.setCell ⟨P, 3, none⟩ (.int .i64 d1)).setCell ⟨P, 4, none⟩ (.bool (((B24 : Int) / 8 % 2) == 1))).setCell ⟨P, 5, none⟩ (.int .i64 ((B24 : Int) % 8))) = W4 at Q' ⊢
    clear Q
    have Q := Lib.hid Q'
    clear Q'
    obtain ⟨W, rfl⟩ : ∃ W, W = W4 := ⟨_, rfl⟩
    have c6 := Q.out.2.1.cell 6 rfl
    have f6 := Q.out.2.1.free 6
    go_wp2_with fail
    ((with_reducible refine (HAt.out _).mono ?_); rintro e w5 ⟨rfl, rfl⟩)
    clear c6 f6
    have Q' : QB w P #[.int .i64 1, .int .i64 2, .string ⟨#[]⟩, .int .i64 d1, .bool (((B24 : Int) / 8 % 2) == 1), .int .i64 ((B24 : Int) % 8), .int .i64 d9, .slice none 0 0, .slice none 0 0] (W.setCell ⟨P, 6, none⟩ (.int .i64 d9)) := (Q.out.store 6 (.int .i64 d9))
    generalize (W.setCell ⟨P, 6, none⟩ (.int .i64 d9)) = W5 at Q' ⊢
    clear Q
    have Q := Lib.hid Q'
    clear Q'
    obtain ⟨W, rfl⟩ : ∃ W, W = W5 := ⟨_, rfl⟩
    have r0 := Q.out.1.cell 0 rfl
    have g0 := Q.out.1.free 0
    have r1 := Q.out.1.cell 1 rfl
    have g1 := Q.out.1.free 1
    have r2 := Q.out.1.cell 2 rfl
    have g2 := Q.out.1.free 2
    have r3 := Q.out.1.cell 3 rfl
    have g3 := Q.out.1.free 3
    have r4 := Q.out.1.cell 4 rfl
    have g4 := Q.out.1.free 4
    have r5 := Q.out.1.cell 5 rfl
    have g5 := Q.out.1.free 5
    have r6 := Q.out.1.cell 6 rfl
    have g6 := Q.out.1.free 6
    have r7 := Q.out.1.cell 7 rfl
    have g7 := Q.out.1.free 7
    have r8 := Q.out.1.cell 8 rfl
    have g8 := Q.out.1.free 8
    go_wp2_with fail
    ((with_reducible refine (HS.out _).mono ?_); rintro e w6 ⟨rfl, rfl⟩)
    go_wp2_with fail
    refine bodyPost_ret (v := .tuple #[.agg #[.int .i64 0, .int .i64 0, .string ⟨#[]⟩, .int .i64 0, .bool false, .int .i64 0, .int .i64 0, .slice none 0 0, .slice none 0 0], .int .i64 2]) (by simp [results, Tryz.results17, go_sem, r0, r1, r2, r3, r4, r5, r6, r7, r8]) rfl (MsgPost.bad HV.out rfl ?_)
    exact (((((((((Q.out.1.2.setCell (p := ⟨w.heap.size, 0, none⟩) (Nat.le_refl _) _).setCell (p := ⟨w.heap.size, 1, none⟩) (Nat.le_refl _) _).setCell (p := ⟨w.heap.size, 2, none⟩) (Nat.le_refl _) _).setCell (p := ⟨w.heap.size, 3, none⟩) (Nat.le_refl _) _).setCell (p := ⟨w.heap.size, 4, none⟩) (Nat.le_refl _) _).setCell (p := ⟨w.heap.size, 5, none⟩) (Nat.le_refl _) _).setCell (p := ⟨w.heap.size, 6, none⟩) (Nat.le_refl _) _).setCell (p := ⟨w.heap.size, 7, none⟩) (Nat.le_refl _) _).setCell (p := ⟨w.heap.size, 8, none⟩) (Nat.le_refl _) _)

set_option maxHeartbeats 1000000 in
set_option maxRecDepth 100000 in
theorem rqry_nl4 (s : ByteArray) (w : World) (hs : s.size ≤ 281474976710000) (hg : s.extract 8 24 = none6) (h8 : 28 ≤ s.size) (h60 : (numv s 26 2).toNat ≤ 60) (hc : 28 + (numv s 26 2).toNat * 16 ≤ s.size) :
    Calls Tryz.prog 17 #[.string s] w (MsgPost (qryD s) w) := by
  have HA4 := Lib.hid fun U => vat_c s 4 2 U (by omega) (by omega) (by omega)
  have u24 : (24 : Int) ≤ (s.size : Int) := by omega
  have hqg : grpQ s = ⟨#[]⟩ := by unfold grpQ; rw [if_pos hg]
  have hx : s.extract 8 24 = ⟨#[0, 0, 0, 0, 0, 0, 0, 0, 0, 0, 0, 0, 0, 0, 0, 0]⟩ := hg
  have bC := numv_le2 s 26
  obtain ⟨C, hC⟩ := Int.eq_ofNat_of_zero_le bC.1
  have hCn : (numv s 26 2).toNat = C := by omega
  rw [hCn] at h60
  have HAt := Lib.hid fun U => vat_c s 26 2 U (by omega) (by omega) (by omega)
  rw [hC] at HAt bC
  have hl' : (24 : Int) < (s.size : Int) := by omega
  have hl2' : ¬ (s.size : Int) < 28 := by omega
  have u24b : (24 : Int) < (s.size : Int) := by omega
  have u25b : (25 : Int) < (s.size : Int) := by omega
  have z24 : 24 < s.size := by omega
  have z25 : 25 < s.size := by omega
  have HD16 := Lib.hid fun U => rdec16_c (numv s 4 2) U
  have HD8 := Lib.hid fun U => rdec8_c (byt s 25) U
  have q24 : byt s 24 < 256 := by unfold byt; exact UInt8.toNat_lt _
  have q25 : byt s 25 < 256 := by unfold byt; exact UInt8.toNat_lt _
  rw [hCn] at hc
  have HV := Lib.hid (show qryD s = if qGrp6 (grpQ s) C then (0, ⟨1, 2, grpQ s, (decI 12 (numv s 4 2)).1, decide (byt s 24 / 8 % 2 = 1), ((byt s 24 % 8 : Nat) : Int), (decI 4 (byt s 25)).1, addrsL s 28 C 16, []⟩) else (3, zeroM) by
    have hd : dtE s = 0 := by unfold dtE; rw [if_neg (by omega), hCn, if_neg (by omega), if_neg (by omega)]
    unfold qryD; rw [if_neg (by omega), if_neg (by omega), if_neg (by rw [hd]; simp), hCn])
  have h6 : (C : Int) ≤ 60 := by omega
  have HS := Lib.hid fun U => rSources_c s 28 C U hs (by omega) hc
  rw [show ((28 : Nat) : Int) = 28 from rfl] at HS
  have hal := Lib.hid (addrsL_length s 28 C 16)
  generalize addrsL s 28 C 16 = al at HS HV hal
  have e8 : decide (byt s 24 / 8 % 2 = 1) = (((byt s 24 : Int) / 8 % 2) == 1) := by
    rw [Bool.eq_iff_iff, decide_eq_true_iff, beq_iff_eq]
    omega
  rw [e8] at HV
  clear e8
  generalize (decI 12 (numv s 4 2)).1 = d1 at *
  generalize (decI 12 (numv s 4 2)).2 = d1' at *
  generalize (decI 4 (byt s 25)).1 = d9 at *
  generalize (decI 4 (byt s 25)).2 = d9' at *
  clear hC hCn h60 hc
  rw [hqg] at HV
  have hqb : qGrp6 ⟨#[]⟩ C = decide (C = 0) := rfl
  rw [hqb] at HV
  clear hqb
  clear hqg hg h8
  generalize numv s 4 2 = N4 at *
  have hb24 : (s[24].toNat : Int) = (byt s 24 : Int) := congrArg Int.ofNat (byt_get s 24 z24)
  have hw24 : wrap64 (s[24].toNat : Int) = (byt s 24 : Int) := (wrap_b _).trans hb24
  have hb25 : (s[25].toNat : Int) = (byt s 25 : Int) := congrArg Int.ofNat (byt_get s 25 z25)
  have hw25 : wrap64 (s[25].toNat : Int) = (byt s 25 : Int) := (wrap_b _).trans hb25
  generalize byt s 24 = B24 at *
  generalize byt s 25 = B25 at *
  have q24' : (B24 : Int) ≤ 255 := by omega
  have q25' : (B25 : Int) ≤ 255 := by omega
  have q24'' : (0 : Int) ≤ (B24 : Int) := Int.natCast_nonneg _
  have q25'' : (0 : Int) ≤ (B25 : Int) := Int.natCast_nonneg _
  have K24 := Lib.hid hb24
  have K25 := Lib.hid hb25
  have J24 := Lib.hid hw24
  have J25 := Lib.hid hw25
  clear hb24 hb25 hw24 hw25
  go_enter Tryz.func17, Tryz.ntmps17
  go_wp2_with fail
  go_region_with (go_at_call 19; refine (HA4.out _).mono ?_; rintro e w3 ⟨rfl, rfl⟩)
  all_goals
    have Q := Lib.hid (QB.two91 w #[.int .i64 1, .int .i64 1, .string ⟨#[0, 0, 0, 0, 0, 0, 0, 0, 0, 0, 0, 0, 0, 0, 0, 0]⟩, .int .i64 N4, .bool false, .int .i64 0, .int .i64 0, .slice none 0 0, .slice none 0 0])
    generalize w.heap.size + 1 = P at Q ⊢
    generalize ((w.alloc _).alloc _).drew = W at Q ⊢
    have hPR := Lib.hid Q.out.2.2
    have hNP : w.heap.size ≠ P := by have := hPR.out; omega
    have c1 := Q.out.2.1.cell 1 rfl
    have c2 := Q.out.2.1.cell 2 rfl
    have c3 := Q.out.2.1.cell 3 rfl
    have f1 := Q.out.2.1.free 1
    have f2 := Q.out.2.1.free 2
    go_wp2_with fail
    ((with_reducible refine (HD16.out _).mono ?_); rintro e w3 ⟨rfl, rfl⟩)
    clear c1 c2 c3 f1 f2
    have Q' : QB w P #[.int .i64 1, .int .i64 2, .string ⟨#[]⟩, .int .i64 N4, .bool false, .int .i64 0, .int .i64 0, .slice none 0 0, .slice none 0 0] ((W.setCell ⟨P, 2, none⟩ (.string ⟨#[]⟩)).setCell ⟨P, 1, none⟩ (.int .i64 2)) := ((Q.out.store 2 (.string ⟨#[]⟩)).store 1 (.int .i64 2))
    generalize ((W.setCell ⟨P, 2, none⟩ (.string ⟨#[]⟩)).setCell ⟨P, 1, none⟩ (.int .i64 2)) = W3 at Q' ⊢
    clear Q
    have Q := Lib.hid Q'
    clear Q'
    obtain ⟨W, rfl⟩ : ∃ W, W = W3 := ⟨_, rfl⟩
    have c3 := Q.out.2.1.cell 3 rfl
    have c4 := Q.out.2.1.cell 4 rfl
    have c5 := Q.out.2.1.cell 5 rfl
    have f3 := Q.out.2.1.free 3
    have f4 := Q.out.2.1.free 4
    have f5 := Q.out.2.1.free 5
    have hb24 := K24.out
    have hw24 := J24.out
    go_upto_region 13 with fail
    clear hb24 hw24
    have hb25 := K25.out
    have hw25 := J25.out
    go_wp2_with fail
    ((with_reducible refine (HD8.out _).mono ?_); rintro e w4 ⟨rfl, rfl⟩)
    clear hb25 hw25
    clear c3 c4 c5 f3 f4 f5
    have Q' : QB w P #[.int .i64 1, .int .i64 2, .string ⟨#[]⟩, .int .i64 d1, .bool (((B24 : Int) / 8 % 2) == 1), .int .i64 ((B24 : Int) % 8), .int .i64 0, .slice none 0 0, .slice none 0 0] (((W.setCell ⟨P, 3, none⟩ (.int .i64 d1)).setCell ⟨P, 4, none⟩ (.bool (((B24 : Int) / 8 % 2) == 1))).setCell ⟨P, 5, none⟩ (.int .i64 ((B24 : Int) % 8))) := (((Q.out.store 3 (.int .i64 d1)).store 4 (.bool (((B24 : Int) / 8 % 2) == 1))).store 5 (.int .i64 ((B24 : Int) % 8)))
    generalize (((W.setCell ⟨P, 3, none⟩ (.int .i64 d1)).setCell ⟨P, 4, none⟩ (.bool (((B24 : Int) / 8 % 2) == 1))).setCell ⟨P, 5, none⟩ (.int .i64 ((B24 : Int) % 8))) = W4 at Q' ⊢
    clear Q
    have Q := Lib.hid Q'
    clear Q'
    obtain ⟨W, rfl⟩ : ∃ W, W = W4 := ⟨_, rfl⟩
    have c6 := Q.out.2.1.cell 6 rfl
    have f6 := Q.out.2.1.free 6
    go_wp2_with fail
    ((with_reducible refine (HAt.out _).mono ?_); rintro e w5 ⟨rfl, rfl⟩)
    clear c6 f6
    have Q' : QB w P #[.int .i64 1, .int .i64 2, .string ⟨#[]⟩, .int .i64 d1, .bool (((B24 : Int) / 8 % 2) == 1), .int .i64 ((B24 : Int) % 8), .int .i64 d9, .slice none 0 0, .slice none 0 0] (W.setCell ⟨P, 6, none⟩ (.int .i64 d9)) := (Q.out.store 6 (.int .i64 d9))
    generalize (W.setCell ⟨P, 6, none⟩ (.int .i64 d9)) = W5 at Q' ⊢
    clear Q
    have Q := Lib.hid Q'
    clear Q'
    obtain ⟨W, rfl⟩ : ∃ W, W = W5 := ⟨_, rfl⟩
    go_wp2_with fail
    have Q5 : QB w P #[.int .i64 1, .int .i64 2, .string ⟨#[]⟩, .int .i64 d1, .bool (((B24 : Int) / 8 % 2) == 1), .int .i64 ((B24 : Int) % 8), .int .i64 d9, .slice none 0 0, .slice none 0 0] W := Q.out
    ((with_reducible refine (HS.out _).mono ?_); rintro e w6 ⟨p, cp, rfl, hvs, h6'⟩)
    have hlt := Q5.2.1.lt
    have HS2 := Lib.hid (hvs.mono hlt id)
    have Q6 : QB w P #[.int .i64 1, .int .i64 2, .string ⟨#[]⟩, .int .i64 d1, .bool (((B24 : Int) / 8 % 2) == 1), .int .i64 ((B24 : Int) % 8), .int .i64 d9, .slice none 0 0, .slice none 0 0] w6 := Q5.below h6'
    replace Q := Lib.hid Q6
    clear Q5 Q6 hvs h6' hlt
    have c0 := Q.out.2.1.cell 0 rfl
    have c1 := Q.out.2.1.cell 1 rfl
    have c2 := Q.out.2.1.cell 2 rfl
    have c3 := Q.out.2.1.cell 3 rfl
    have c4 := Q.out.2.1.cell 4 rfl
    have c5 := Q.out.2.1.cell 5 rfl
    have c6 := Q.out.2.1.cell 6 rfl
    have c7 := Q.out.2.1.cell 7 rfl
    have c8 := Q.out.2.1.cell 8 rfl
    have f7 := Q.out.2.1.free 7
    have r0 := Q.out.1.cell 0 rfl
    have g0 := Q.out.1.free 0
    have r1 := Q.out.1.cell 1 rfl
    have g1 := Q.out.1.free 1
    have r2 := Q.out.1.cell 2 rfl
    have g2 := Q.out.1.free 2
    have r3 := Q.out.1.cell 3 rfl
    have g3 := Q.out.1.free 3
    have r4 := Q.out.1.cell 4 rfl
    have g4 := Q.out.1.free 4
    have r5 := Q.out.1.cell 5 rfl
    have g5 := Q.out.1.free 5
    have r6 := Q.out.1.cell 6 rfl
    have g6 := Q.out.1.free 6
    have r7 := Q.out.1.cell 7 rfl
    have g7 := Q.out.1.free 7
    have r8 := Q.out.1.cell 8 rfl
    have g8 := Q.out.1.free 8
    by_cases h0 : C = 0
    · replace HV := Lib.hid (show qryD s = (0, ⟨1, 2, ⟨#[]⟩, d1, (((B24 : Int) / 8 % 2) == 1), ((B24 % 8 : Nat) : Int), d9, al, []⟩) from by rw [HV.out, if_pos (decide_eq_true h0)])
      have h9 : ¬ (0 : Int) < (C : Int) := by omega
      clear h0
      go_wp2_with fail
      refine bodyPost_ret (v := .tuple #[.agg #[.int .i64 1, .int .i64 2, .string ⟨#[]⟩, .int .i64 d1, .bool (((B24 : Int) / 8 % 2) == 1), .int .i64 ((B24 : Int) % 8), .int .i64 d9, .slice p C cp, .slice none 0 0], .int .i64 0]) (by simp [results, Tryz.results17, go_sem, r0, r1, r2, r3, r4, r5, r6, r7, r8]) rfl ?_
      unfold MsgPost
      rw [HV.out]
      exact ⟨_, _, rfl, ((((HS2.out.store (Nat.lt_succ_self _)).mono (show w.heap.size + 1 ≤ P + 1 by have := hPR.out; omega) id).storeN9 w.heap.size (Nat.lt_succ_self _))), RecsG.nil _ _ _, ((((((((((Q.out.store 7 (.slice p C cp)).1.2.setCell (p := ⟨w.heap.size, 0, none⟩) (Nat.le_refl _) _).setCell (p := ⟨w.heap.size, 1, none⟩) (Nat.le_refl _) _).setCell (p := ⟨w.heap.size, 2, none⟩) (Nat.le_refl _) _).setCell (p := ⟨w.heap.size, 3, none⟩) (Nat.le_refl _) _).setCell (p := ⟨w.heap.size, 4, none⟩) (Nat.le_refl _) _).setCell (p := ⟨w.heap.size, 5, none⟩) (Nat.le_refl _) _).setCell (p := ⟨w.heap.size, 6, none⟩) (Nat.le_refl _) _).setCell (p := ⟨w.heap.size, 7, none⟩) (Nat.le_refl _) _).setCell (p := ⟨w.heap.size, 8, none⟩) (Nat.le_refl _) _)⟩
    · replace HV := Lib.hid (show qryD s = (3, zeroM) by rw [HV.out, if_neg (by simpa using h0)])
      have h9 : (0 : Int) < (C : Int) := by omega
      clear h0
      go_wp2_with fail
      refine bodyPost_ret (v := .tuple #[.agg #[.int .i64 0, .int .i64 0, .string ⟨#[]⟩, .int .i64 0, .bool false, .int .i64 0, .int .i64 0, .slice none 0 0, .slice none 0 0], .int .i64 3]) (by simp [results, Tryz.results17, go_sem, r0, r1, r2, r3, r4, r5, r6, r7, r8]) rfl (MsgPost.bad HV.out rfl ?_)
      exact ((((((((((Q.out.store 7 (.slice p C cp)).1.2.setCell (p := ⟨w.heap.size, 0, none⟩) (Nat.le_refl _) _).setCell (p := ⟨w.heap.size, 1, none⟩) (Nat.le_refl _) _).setCell (p := ⟨w.heap.size, 2, none⟩) (Nat.le_refl _) _).setCell (p := ⟨w.heap.size, 3, none⟩) (Nat.le_refl _) _).setCell (p := ⟨w.heap.size, 4, none⟩) (Nat.le_refl _) _).setCell (p := ⟨w.heap.size, 5, none⟩) (Nat.le_refl _) _).setCell (p := ⟨w.heap.size, 6, none⟩) (Nat.le_refl _) _).setCell (p := ⟨w.heap.size, 7, none⟩) (Nat.le_refl _) _).setCell (p := ⟨w.heap.size, 8, none⟩) (Nat.le_refl _) _)

end Go.Proofs.YtnfngmclomjimaaGreat
