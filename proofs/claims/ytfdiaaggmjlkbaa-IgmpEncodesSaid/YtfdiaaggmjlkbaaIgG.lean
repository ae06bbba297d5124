/-
  Reading messages: igmp.Decode. A contract over the translated program.
-/
import Derived.Test.YtfdiaaggmjlkbaaIgF
namespace Go.Proofs.Ytfdiaaggmjlkbaa
open Go.RowKit
set_option linter.unusedVariables false

set_option maxHeartbeats 2000000 in
set_option maxRecDepth 100000 in
theorem decode_cut (s : ByteArray) (w : World) (h : s.size < 8) :
    Calls Try.prog 10 #[.string s] w (MsgPost (decM s) w) := by
  have HV := Lib.hid (show decM s = (2, zeroM) by unfold decM; rw [if_pos h])
  have h' : (s.size : Int) < 8 := by omega
  have B := Lib.hid (Box.start w #[.int .i64 0, .int .i64 0, .string ⟨#[]⟩, .int .i64 0, .bool false, .int .i64 0, .int .i64 0, .slice none 0 0, .slice none 0 0] 26)
  clear h
  go_enter Try.func10, Try.ntmps10
  go_wp2_with fail
  refine bodyPost_ret (v := .tuple #[.agg #[.int .i64 0, .int .i64 0, .string ⟨#[]⟩, .int .i64 0, .bool false, .int .i64 0, .int .i64 0, .slice none 0 0, .slice none 0 0], .int .i64 2]) (by simp [results, Try.results10, go_sem]) rfl (MsgPost.bad HV.out rfl ?_)
  exact B.out.2

set_option maxHeartbeats 2000000 in
set_option maxRecDepth 100000 in
theorem decode_sum (s : ByteArray) (w : World) (hs : s.size ≤ 281474976710000) (h : 8 ≤ s.size) (hq : sumN s.data.toList ≠ 0) :
    Calls Try.prog 10 #[.string s] w (MsgPost (decM s) w) := by
  have HV := Lib.hid (show decM s = (4, zeroM) by unfold decM; rw [if_neg (by omega), if_pos hq])
  have h' : (8 : Int) ≤ (s.size : Int) := by omega
  have HR := Lib.hid fun U => right_c s U (by omega)
  rw [show ((sumN s.data.toList : Int) == 0) = false from by rw [beq_eq_false_iff_ne]; omega] at HR
  clear h hq
  go_enter Try.func10, Try.ntmps10
  go_wp2_with fail
  refine (HR.out _).mono ?_
  rintro e w1 ⟨rfl, h1⟩
  have B := Lib.hid ((Box.start w _ _).below h1)
  clear h1
  have c0 := B.out.cell 0 rfl
  have c1 := B.out.cell 1 rfl
  have c2 := B.out.cell 2 rfl
  have c3 := B.out.cell 3 rfl
  have c4 := B.out.cell 4 rfl
  have c5 := B.out.cell 5 rfl
  have c6 := B.out.cell 6 rfl
  have c7 := B.out.cell 7 rfl
  have c8 := B.out.cell 8 rfl
  have f0 := B.out.free 0
  have f1 := B.out.free 1
  have f2 := B.out.free 2
  have f3 := B.out.free 3
  have f4 := B.out.free 4
  have f5 := B.out.free 5
  have f6 := B.out.free 6
  have f7 := B.out.free 7
  have f8 := B.out.free 8
  go_wp2_with fail
  refine bodyPost_ret (v := .tuple #[.agg #[.int .i64 0, .int .i64 0, .string ⟨#[]⟩, .int .i64 0, .bool false, .int .i64 0, .int .i64 0, .slice none 0 0, .slice none 0 0], .int .i64 4]) (by simp [results, Try.results10, go_sem, c0, c1, c2, c3, c4, c5, c6, c7, c8]) rfl (MsgPost.bad HV.out rfl ?_)
  exact (((((((((B.out.2.setCell (p := ⟨w.heap.size, 0, none⟩) (Nat.le_refl _) _).setCell (p := ⟨w.heap.size, 1, none⟩) (Nat.le_refl _) _).setCell (p := ⟨w.heap.size, 2, none⟩) (Nat.le_refl _) _).setCell (p := ⟨w.heap.size, 3, none⟩) (Nat.le_refl _) _).setCell (p := ⟨w.heap.size, 4, none⟩) (Nat.le_refl _) _).setCell (p := ⟨w.heap.size, 5, none⟩) (Nat.le_refl _) _).setCell (p := ⟨w.heap.size, 6, none⟩) (Nat.le_refl _) _).setCell (p := ⟨w.heap.size, 7, none⟩) (Nat.le_refl _) _).setCell (p := ⟨w.heap.size, 8, none⟩) (Nat.le_refl _) _)

set_option maxHeartbeats 2000000 in
set_option maxRecDepth 100000 in
theorem decode_query (s : ByteArray) (w : World) (hs : s.size ≤ 281474976710000) (h : 8 ≤ s.size) (hq : sumN s.data.toList = 0) (hb : byt s 0 = 17) :
    Calls Try.prog 10 #[.string s] w (MsgPost (decM s) w) := by
  have HV := Lib.hid (show decM s = queryI s by unfold decM; rw [if_neg (by omega), if_neg (by omega), if_pos hb])
  have h' : (8 : Int) ≤ (s.size : Int) := by omega
  have u0 : (0 : Int) < (s.size : Int) := by omega
  have hb0 : s[0].toNat = byt s 0 := byt_get s 0 (by omega)
  have HR := Lib.hid fun U => right_c s U (by omega)
  rw [show ((sumN s.data.toList : Int) == 0) = true from by rw [hq]; rfl] at HR
  obtain ⟨a17, b17⟩ := eq_t (show (s[0].toNat : Int) = 17 by omega)
  have HX := Lib.hid fun U => query_c s U hs h
  unfold MsgPost at HX
  generalize queryI s = t at HX HV
  obtain ⟨E, ⟨k, ver, g, mx, qt, rob, ev, ss, rs⟩⟩ := t
  simp only [Msg.val] at HX
  clear hq hb0 hb
  go_enter Try.func10, Try.ntmps10
  go_wp2_with fail
  refine (HR.out _).mono ?_
  rintro e w1 ⟨rfl, h1⟩
  have B := Lib.hid ((Box.start w _ _).below h1)
  clear h1
  go_wp2_with fail
  refine (HX.out _).mono ?_
  rintro e w2 ⟨vs, vr, rfl, hvs, hvr, h2⟩
  have hlt : w.heap.size + 1 ≤ w1.heap.size := B.out.lt
  replace B := Lib.hid (B.out.below h2)
  obtain ⟨p1, cp1, rfl⟩ := hvs.slice
  obtain ⟨p2, cp2, rfl⟩ := hvr.slice
  have HS := Lib.hid (hvs.mono hlt id)
  have HR2 := Lib.hid (hvr.mono hlt id)
  clear hvs hvr h2 hlt
  generalize ss.length = n1 at *
  generalize rs.length = n2 at *
  have c0 := B.out.cell 0 rfl
  have c1 := B.out.cell 1 rfl
  have c2 := B.out.cell 2 rfl
  have c3 := B.out.cell 3 rfl
  have c4 := B.out.cell 4 rfl
  have c5 := B.out.cell 5 rfl
  have c6 := B.out.cell 6 rfl
  have c7 := B.out.cell 7 rfl
  have c8 := B.out.cell 8 rfl
  have f0 := B.out.free 0
  have f1 := B.out.free 1
  have f2 := B.out.free 2
  have f3 := B.out.free 3
  have f4 := B.out.free 4
  have f5 := B.out.free 5
  have f6 := B.out.free 6
  have f7 := B.out.free 7
  have f8 := B.out.free 8
  go_wp2_with fail
  refine bodyPost_ret (v := .tuple #[.agg #[.int .i64 k, .int .i64 ver, .string g, .int .i64 mx, .bool qt, .int .i64 rob, .int .i64 ev, .slice p1 n1 cp1, .slice p2 n2 cp2], .int .i64 E]) (by simp [results, Try.results10, go_sem, c0, c1, c2, c3, c4, c5, c6, c7, c8]) rfl ?_
  unfold MsgPost
  rw [HV.out]
  exact ⟨_, _, rfl, HS.out.storeN9 w.heap.size (Nat.lt_succ_self _), HR2.out.storeN9 w.heap.size (Nat.lt_succ_self _), (((((((((B.out.2.setCell (p := ⟨w.heap.size, 0, none⟩) (Nat.le_refl _) _).setCell (p := ⟨w.heap.size, 1, none⟩) (Nat.le_refl _) _).setCell (p := ⟨w.heap.size, 2, none⟩) (Nat.le_refl _) _).setCell (p := ⟨w.heap.size, 3, none⟩) (Nat.le_refl _) _).setCell (p := ⟨w.heap.size, 4, none⟩) (Nat.le_refl _) _).setCell (p := ⟨w.heap.size, 5, none⟩) (Nat.le_refl _) _).setCell (p := ⟨w.heap.size, 6, none⟩) (Nat.le_refl _) _).setCell (p := ⟨w.heap.size, 7, none⟩) (Nat.le_refl _) _).setCell (p := ⟨w.heap.size, 8, none⟩) (Nat.le_refl _) _)⟩

set_option maxHeartbeats 2000000 in
set_option maxRecDepth 100000 in
theorem decode_one1 (s : ByteArray) (w : World) (hs : s.size ≤ 281474976710000) (h : 8 ≤ s.size) (hq : sumN s.data.toList = 0) (n17 : byt s 0 ≠ 17) (hb : byt s 0 = 18) :
    Calls Try.prog 10 #[.string s] w (MsgPost (decM s) w) := by
  have HV := Lib.hid (show decM s = oneI s 2 1 by unfold decM; rw [if_neg (by omega), if_neg (by omega), if_neg (by omega), if_pos hb])
  have h' : (8 : Int) ≤ (s.size : Int) := by omega
  have u0 : (0 : Int) < (s.size : Int) := by omega
  have hb0 : s[0].toNat = byt s 0 := byt_get s 0 (by omega)
  have HR := Lib.hid fun U => right_c s U (by omega)
  rw [show ((sumN s.data.toList : Int) == 0) = true from by rw [hq]; rfl] at HR
  obtain ⟨a17, b17⟩ := ne_t (show (s[0].toNat : Int) ≠ 17 by omega)
  obtain ⟨a18, b18⟩ := eq_t (show (s[0].toNat : Int) = 18 by omega)
  have HX := Lib.hid fun U => one_c s 2 1 U hs h
  unfold MsgPost at HX
  generalize oneI s 2 1 = t at HX HV
  obtain ⟨E, ⟨k, ver, g, mx, qt, rob, ev, ss, rs⟩⟩ := t
  simp only [Msg.val] at HX
  clear hq hb0 n17 hb
  go_enter Try.func10, Try.ntmps10
  go_wp2_with fail
  refine (HR.out _).mono ?_
  rintro e w1 ⟨rfl, h1⟩
  have B := Lib.hid ((Box.start w _ _).below h1)
  clear h1
  go_wp2_with fail
  refine (HX.out _).mono ?_
  rintro e w2 ⟨vs, vr, rfl, hvs, hvr, h2⟩
  have hlt : w.heap.size + 1 ≤ w1.heap.size := B.out.lt
  replace B := Lib.hid (B.out.below h2)
  obtain ⟨p1, cp1, rfl⟩ := hvs.slice
  obtain ⟨p2, cp2, rfl⟩ := hvr.slice
  have HS := Lib.hid (hvs.mono hlt id)
  have HR2 := Lib.hid (hvr.mono hlt id)
  clear hvs hvr h2 hlt
  generalize ss.length = n1 at *
  generalize rs.length = n2 at *
  have c0 := B.out.cell 0 rfl
  have c1 := B.out.cell 1 rfl
  have c2 := B.out.cell 2 rfl
  have c3 := B.out.cell 3 rfl
  have c4 := B.out.cell 4 rfl
  have c5 := B.out.cell 5 rfl
  have c6 := B.out.cell 6 rfl
  have c7 := B.out.cell 7 rfl
  have c8 := B.out.cell 8 rfl
  have f0 := B.out.free 0
  have f1 := B.out.free 1
  have f2 := B.out.free 2
  have f3 := B.out.free 3
  have f4 := B.out.free 4
  have f5 := B.out.free 5
  have f6 := B.out.free 6
  have f7 := B.out.free 7
  have f8 := B.out.free 8
  go_wp2_with fail
  refine bodyPost_ret (v := .tuple #[.agg #[.int .i64 k, .int .i64 ver, .string g, .int .i64 mx, .bool qt, .int .i64 rob, .int .i64 ev, .slice p1 n1 cp1, .slice p2 n2 cp2], .int .i64 E]) (by simp [results, Try.results10, go_sem, c0, c1, c2, c3, c4, c5, c6, c7, c8]) rfl ?_
  unfold MsgPost
  rw [HV.out]
  exact ⟨_, _, rfl, HS.out.storeN9 w.heap.size (Nat.lt_succ_self _), HR2.out.storeN9 w.heap.size (Nat.lt_succ_self _), (((((((((B.out.2.setCell (p := ⟨w.heap.size, 0, none⟩) (Nat.le_refl _) _).setCell (p := ⟨w.heap.size, 1, none⟩) (Nat.le_refl _) _).setCell (p := ⟨w.heap.size, 2, none⟩) (Nat.le_refl _) _).setCell (p := ⟨w.heap.size, 3, none⟩) (Nat.le_refl _) _).setCell (p := ⟨w.heap.size, 4, none⟩) (Nat.le_refl _) _).setCell (p := ⟨w.heap.size, 5, none⟩) (Nat.le_refl _) _).setCell (p := ⟨w.heap.size, 6, none⟩) (Nat.le_refl _) _).setCell (p := ⟨w.heap.size, 7, none⟩) (Nat.le_refl _) _).setCell (p := ⟨w.heap.size, 8, none⟩) (Nat.le_refl _) _)⟩

set_option maxHeartbeats 2000000 in
set_option maxRecDepth 100000 in
theorem decode_one2 (s : ByteArray) (w : World) (hs : s.size ≤ 281474976710000) (h : 8 ≤ s.size) (hq : sumN s.data.toList = 0) (n17 : byt s 0 ≠ 17) (n18 : byt s 0 ≠ 18) (hb : byt s 0 = 22) :
    Calls Try.prog 10 #[.string s] w (MsgPost (decM s) w) := by
  have HV := Lib.hid (show decM s = oneI s 2 2 by unfold decM; rw [if_neg (by omega), if_neg (by omega), if_neg (by omega), if_neg (by omega), if_pos hb])
  have h' : (8 : Int) ≤ (s.size : Int) := by omega
  have u0 : (0 : Int) < (s.size : Int) := by omega
  have hb0 : s[0].toNat = byt s 0 := byt_get s 0 (by omega)
  have HR := Lib.hid fun U => right_c s U (by omega)
  rw [show ((sumN s.data.toList : Int) == 0) = true from by rw [hq]; rfl] at HR
  obtain ⟨a17, b17⟩ := ne_t (show (s[0].toNat : Int) ≠ 17 by omega)
  obtain ⟨a18, b18⟩ := ne_t (show (s[0].toNat : Int) ≠ 18 by omega)
  obtain ⟨a22, b22⟩ := eq_t (show (s[0].toNat : Int) = 22 by omega)
  have HX := Lib.hid fun U => one_c s 2 2 U hs h
  unfold MsgPost at HX
  generalize oneI s 2 2 = t at HX HV
  obtain ⟨E, ⟨k, ver, g, mx, qt, rob, ev, ss, rs⟩⟩ := t
  simp only [Msg.val] at HX
  clear hq hb0 n17 n18 hb
  go_enter Try.func10, Try.ntmps10
  go_wp2_with fail
  refine (HR.out _).mono ?_
  rintro e w1 ⟨rfl, h1⟩
  have B := Lib.hid ((Box.start w _ _).below h1)
  clear h1
  go_wp2_with fail
  refine (HX.out _).mono ?_
  rintro e w2 ⟨vs, vr, rfl, hvs, hvr, h2⟩
  have hlt : w.heap.size + 1 ≤ w1.heap.size := B.out.lt
  replace B := Lib.hid (B.out.below h2)
  obtain ⟨p1, cp1, rfl⟩ := hvs.slice
  obtain ⟨p2, cp2, rfl⟩ := hvr.slice
  have HS := Lib.hid (hvs.mono hlt id)
  have HR2 := Lib.hid (hvr.mono hlt id)
  clear hvs hvr h2 hlt
  generalize ss.length = n1 at *
  generalize rs.length = n2 at *
  have c0 := B.out.cell 0 rfl
  have c1 := B.out.cell 1 rfl
  have c2 := B.out.cell 2 rfl
  have c3 := B.out.cell 3 rfl
  have c4 := B.out.cell 4 rfl
  have c5 := B.out.cell 5 rfl
  have c6 := B.out.cell 6 rfl
  have c7 := B.out.cell 7 rfl
  have c8 := B.out.cell 8 rfl
  have f0 := B.out.free 0
  have f1 := B.out.free 1
  have f2 := B.out.free 2
  have f3 := B.out.free 3
  have f4 := B.out.free 4
  have f5 := B.out.free 5
  have f6 := B.out.free 6
  have f7 := B.out.free 7
  have f8 := B.out.free 8
  go_wp2_with fail
  refine bodyPost_ret (v := .tuple #[.agg #[.int .i64 k, .int .i64 ver, .string g, .int .i64 mx, .bool qt, .int .i64 rob, .int .i64 ev, .slice p1 n1 cp1, .slice p2 n2 cp2], .int .i64 E]) (by simp [results, Try.results10, go_sem, c0, c1, c2, c3, c4, c5, c6, c7, c8]) rfl ?_
  unfold MsgPost
  rw [HV.out]
  exact ⟨_, _, rfl, HS.out.storeN9 w.heap.size (Nat.lt_succ_self _), HR2.out.storeN9 w.heap.size (Nat.lt_succ_self _), (((((((((B.out.2.setCell (p := ⟨w.heap.size, 0, none⟩) (Nat.le_refl _) _).setCell (p := ⟨w.heap.size, 1, none⟩) (Nat.le_refl _) _).setCell (p := ⟨w.heap.size, 2, none⟩) (Nat.le_refl _) _).setCell (p := ⟨w.heap.size, 3, none⟩) (Nat.le_refl _) _).setCell (p := ⟨w.heap.size, 4, none⟩) (Nat.le_refl _) _).setCell (p := ⟨w.heap.size, 5, none⟩) (Nat.le_refl _) _).setCell (p := ⟨w.heap.size, 6, none⟩) (Nat.le_refl _) _).setCell (p := ⟨w.heap.size, 7, none⟩) (Nat.le_refl _) _).setCell (p := ⟨w.heap.size, 8, none⟩) (Nat.le_refl _) _)⟩

set_option maxHeartbeats 2000000 in
set_option maxRecDepth 100000 in
theorem decode_leave (s : ByteArray) (w : World) (hs : s.size ≤ 281474976710000) (h : 8 ≤ s.size) (hq : sumN s.data.toList = 0) (n17 : byt s 0 ≠ 17) (n18 : byt s 0 ≠ 18) (n22 : byt s 0 ≠ 22) (hb : byt s 0 = 23) :
    Calls Try.prog 10 #[.string s] w (MsgPost (decM s) w) := by
  have HV := Lib.hid (show decM s = oneI s 3 2 by unfold decM; rw [if_neg (by omega), if_neg (by omega), if_neg (by omega), if_neg (by omega), if_neg (by omega), if_pos hb])
  have h' : (8 : Int) ≤ (s.size : Int) := by omega
  have u0 : (0 : Int) < (s.size : Int) := by omega
  have hb0 : s[0].toNat = byt s 0 := byt_get s 0 (by omega)
  have HR := Lib.hid fun U => right_c s U (by omega)
  rw [show ((sumN s.data.toList : Int) == 0) = true from by rw [hq]; rfl] at HR
  obtain ⟨a17, b17⟩ := ne_t (show (s[0].toNat : Int) ≠ 17 by omega)
  obtain ⟨a18, b18⟩ := ne_t (show (s[0].toNat : Int) ≠ 18 by omega)
  obtain ⟨a22, b22⟩ := ne_t (show (s[0].toNat : Int) ≠ 22 by omega)
  obtain ⟨a23, b23⟩ := eq_t (show (s[0].toNat : Int) = 23 by omega)
  have HX := Lib.hid fun U => one_c s 3 2 U hs h
  unfold MsgPost at HX
  generalize oneI s 3 2 = t at HX HV
  obtain ⟨E, ⟨k, ver, g, mx, qt, rob, ev, ss, rs⟩⟩ := t
  simp only [Msg.val] at HX
  clear hq hb0 n17 n18 n22 hb
  go_enter Try.func10, Try.ntmps10
  go_wp2_with fail
  refine (HR.out _).mono ?_
  rintro e w1 ⟨rfl, h1⟩
  have B := Lib.hid ((Box.start w _ _).below h1)
  clear h1
  go_wp2_with fail
  refine (HX.out _).mono ?_
  rintro e w2 ⟨vs, vr, rfl, hvs, hvr, h2⟩
  have hlt : w.heap.size + 1 ≤ w1.heap.size := B.out.lt
  replace B := Lib.hid (B.out.below h2)
  obtain ⟨p1, cp1, rfl⟩ := hvs.slice
  obtain ⟨p2, cp2, rfl⟩ := hvr.slice
  have HS := Lib.hid (hvs.mono hlt id)
  have HR2 := Lib.hid (hvr.mono hlt id)
  clear hvs hvr h2 hlt
  generalize ss.length = n1 at *
  generalize rs.length = n2 at *
  have c0 := B.out.cell 0 rfl
  have c1 := B.out.cell 1 rfl
  have c2 := B.out.cell 2 rfl
  have c3 := B.out.cell 3 rfl
  have c4 := B.out.cell 4 rfl
  have c5 := B.out.cell 5 rfl
  have c6 := B.out.cell 6 rfl
  have c7 := B.out.cell 7 rfl
  have c8 := B.out.cell 8 rfl
  have f0 := B.out.free 0
  have f1 := B.out.free 1
  have f2 := B.out.free 2
  have f3 := B.out.free 3
  have f4 := B.out.free 4
  have f5 := B.out.free 5
  have f6 := B.out.free 6
  have f7 := B.out.free 7
  have f8 := B.out.free 8
  go_wp2_with fail
  refine bodyPost_ret (v := .tuple #[.agg #[.int .i64 k, .int .i64 ver, .string g, .int .i64 mx, .bool qt, .int .i64 rob, .int .i64 ev, .slice p1 n1 cp1, .slice p2 n2 cp2], .int .i64 E]) (by simp [results, Try.results10, go_sem, c0, c1, c2, c3, c4, c5, c6, c7, c8]) rfl ?_
  unfold MsgPost
  rw [HV.out]
  exact ⟨_, _, rfl, HS.out.storeN9 w.heap.size (Nat.lt_succ_self _), HR2.out.storeN9 w.heap.size (Nat.lt_succ_self _), (((((((((B.out.2.setCell (p := ⟨w.heap.size, 0, none⟩) (Nat.le_refl _) _).setCell (p := ⟨w.heap.size, 1, none⟩) (Nat.le_refl _) _).setCell (p := ⟨w.heap.size, 2, none⟩) (Nat.le_refl _) _).setCell (p := ⟨w.heap.size, 3, none⟩) (Nat.le_refl _) _).setCell (p := ⟨w.heap.size, 4, none⟩) (Nat.le_refl _) _).setCell (p := ⟨w.heap.size, 5, none⟩) (Nat.le_refl _) _).setCell (p := ⟨w.heap.size, 6, none⟩) (Nat.le_refl _) _).setCell (p := ⟨w.heap.size, 7, none⟩) (Nat.le_refl _) _).setCell (p := ⟨w.heap.size, 8, none⟩) (Nat.le_refl _) _)⟩

set_option maxHeartbeats 2000000 in
set_option maxRecDepth 100000 in
theorem decode_rep (s : ByteArray) (w : World) (hs : s.size ≤ 281474976710000) (h : 8 ≤ s.size) (hq : sumN s.data.toList = 0) (n17 : byt s 0 ≠ 17) (n18 : byt s 0 ≠ 18) (n22 : byt s 0 ≠ 22) (n23 : byt s 0 ≠ 23) (hb : byt s 0 = 34) :
    Calls Try.prog 10 #[.string s] w (MsgPost (decM s) w) := by
  have HV := Lib.hid (show decM s = repI s by unfold decM; rw [if_neg (by omega), if_neg (by omega), if_neg (by omega), if_neg (by omega), if_neg (by omega), if_neg (by omega), if_pos hb])
  have h' : (8 : Int) ≤ (s.size : Int) := by omega
  have u0 : (0 : Int) < (s.size : Int) := by omega
  have hb0 : s[0].toNat = byt s 0 := byt_get s 0 (by omega)
  have HR := Lib.hid fun U => right_c s U (by omega)
  rw [show ((sumN s.data.toList : Int) == 0) = true from by rw [hq]; rfl] at HR
  obtain ⟨a17, b17⟩ := ne_t (show (s[0].toNat : Int) ≠ 17 by omega)
  obtain ⟨a18, b18⟩ := ne_t (show (s[0].toNat : Int) ≠ 18 by omega)
  obtain ⟨a22, b22⟩ := ne_t (show (s[0].toNat : Int) ≠ 22 by omega)
  obtain ⟨a23, b23⟩ := ne_t (show (s[0].toNat : Int) ≠ 23 by omega)
  obtain ⟨a34, b34⟩ := eq_t (show (s[0].toNat : Int) = 34 by omega)
  have HX := Lib.hid fun U => rep_c s U hs h
  unfold MsgPost at HX
  generalize repI s = t at HX HV
  obtain ⟨E, ⟨k, ver, g, mx, qt, rob, ev, ss, rs⟩⟩ := t
  simp only [Msg.val] at HX
  clear hq hb0 n17 n18 n22 n23 hb
  go_enter Try.func10, Try.ntmps10
  go_wp2_with fail
  refine (HR.out _).mono ?_
  rintro e w1 ⟨rfl, h1⟩
  have B := Lib.hid ((Box.start w _ _).below h1)
  clear h1
  go_wp2_with fail
  refine (HX.out _).mono ?_
  rintro e w2 ⟨vs, vr, rfl, hvs, hvr, h2⟩
  have hlt : w.heap.size + 1 ≤ w1.heap.size := B.out.lt
  replace B := Lib.hid (B.out.below h2)
  obtain ⟨p1, cp1, rfl⟩ := hvs.slice
  obtain ⟨p2, cp2, rfl⟩ := hvr.slice
  have HS := Lib.hid (hvs.mono hlt id)
  have HR2 := Lib.hid (hvr.mono hlt id)
  clear hvs hvr h2 hlt
  generalize ss.length = n1 at *
  generalize rs.length = n2 at *
  have c0 := B.out.cell 0 rfl
  have c1 := B.out.cell 1 rfl
  have c2 := B.out.cell 2 rfl
  have c3 := B.out.cell 3 rfl
  have c4 := B.out.cell 4 rfl
  have c5 := B.out.cell 5 rfl
  have c6 := B.out.cell 6 rfl
  have c7 := B.out.cell 7 rfl
  have c8 := B.out.cell 8 rfl
  have f0 := B.out.free 0
  have f1 := B.out.free 1
  have f2 := B.out.free 2
  have f3 := B.out.free 3
  have f4 := B.out.free 4
  have f5 := B.out.free 5
  have f6 := B.out.free 6
  have f7 := B.out.free 7
  have f8 := B.out.free 8
  go_wp2_with fail
  refine bodyPost_ret (v := .tuple #[.agg #[.int .i64 k, .int .i64 ver, .string g, .int .i64 mx, .bool qt, .int .i64 rob, .int .i64 ev, .slice p1 n1 cp1, .slice p2 n2 cp2], .int .i64 E]) (by simp [results, Try.results10, go_sem, c0, c1, c2, c3, c4, c5, c6, c7, c8]) rfl ?_
  unfold MsgPost
  rw [HV.out]
  exact ⟨_, _, rfl, HS.out.storeN9 w.heap.size (Nat.lt_succ_self _), HR2.out.storeN9 w.heap.size (Nat.lt_succ_self _), (((((((((B.out.2.setCell (p := ⟨w.heap.size, 0, none⟩) (Nat.le_refl _) _).setCell (p := ⟨w.heap.size, 1, none⟩) (Nat.le_refl _) _).setCell (p := ⟨w.heap.size, 2, none⟩) (Nat.le_refl _) _).setCell (p := ⟨w.heap.size, 3, none⟩) (Nat.le_refl _) _).setCell (p := ⟨w.heap.size, 4, none⟩) (Nat.le_refl _) _).setCell (p := ⟨w.heap.size, 5, none⟩) (Nat.le_refl _) _).setCell (p := ⟨w.heap.size, 6, none⟩) (Nat.le_refl _) _).setCell (p := ⟨w.heap.size, 7, none⟩) (Nat.le_refl _) _).setCell (p := ⟨w.heap.size, 8, none⟩) (Nat.le_refl _) _)⟩

set_option maxHeartbeats 2000000 in
set_option maxRecDepth 100000 in
theorem decode_other (s : ByteArray) (w : World) (hs : s.size ≤ 281474976710000) (h : 8 ≤ s.size) (hq : sumN s.data.toList = 0) (n17 : byt s 0 ≠ 17) (n18 : byt s 0 ≠ 18) (n22 : byt s 0 ≠ 22) (n23 : byt s 0 ≠ 23) (n34 : byt s 0 ≠ 34) :
    Calls Try.prog 10 #[.string s] w (MsgPost (decM s) w) := by
  have HV := Lib.hid (show decM s = (3, zeroM) by unfold decM; rw [if_neg (by omega), if_neg (by omega), if_neg n17, if_neg n18, if_neg n22, if_neg n23, if_neg n34])
  have h' : (8 : Int) ≤ (s.size : Int) := by omega
  have u0 : (0 : Int) < (s.size : Int) := by omega
  have hb0 : s[0].toNat = byt s 0 := byt_get s 0 (by omega)
  have HR := Lib.hid fun U => right_c s U (by omega)
  rw [show ((sumN s.data.toList : Int) == 0) = true from by rw [hq]; rfl] at HR
  obtain ⟨a17, b17⟩ := ne_t (show (s[0].toNat : Int) ≠ 17 by omega)
  obtain ⟨a18, b18⟩ := ne_t (show (s[0].toNat : Int) ≠ 18 by omega)
  obtain ⟨a22, b22⟩ := ne_t (show (s[0].toNat : Int) ≠ 22 by omega)
  obtain ⟨a23, b23⟩ := ne_t (show (s[0].toNat : Int) ≠ 23 by omega)
  obtain ⟨a34, b34⟩ := ne_t (show (s[0].toNat : Int) ≠ 34 by omega)
  clear hq hb0 n17 n18 n22 n23 n34
  go_enter Try.func10, Try.ntmps10
  go_wp2_with fail
  refine (HR.out _).mono ?_
  rintro e w1 ⟨rfl, h1⟩
  have B := Lib.hid ((Box.start w _ _).below h1)
  clear h1
  have c0 := B.out.cell 0 rfl
  have c1 := B.out.cell 1 rfl
  have c2 := B.out.cell 2 rfl
  have c3 := B.out.cell 3 rfl
  have c4 := B.out.cell 4 rfl
  have c5 := B.out.cell 5 rfl
  have c6 := B.out.cell 6 rfl
  have c7 := B.out.cell 7 rfl
  have c8 := B.out.cell 8 rfl
  have f0 := B.out.free 0
  have f1 := B.out.free 1
  have f2 := B.out.free 2
  have f3 := B.out.free 3
  have f4 := B.out.free 4
  have f5 := B.out.free 5
  have f6 := B.out.free 6
  have f7 := B.out.free 7
  have f8 := B.out.free 8
  go_wp2_with fail
  refine bodyPost_ret (v := .tuple #[.agg #[.int .i64 0, .int .i64 0, .string ⟨#[]⟩, .int .i64 0, .bool false, .int .i64 0, .int .i64 0, .slice none 0 0, .slice none 0 0], .int .i64 3]) (by simp [results, Try.results10, go_sem, c0, c1, c2, c3, c4, c5, c6, c7, c8]) rfl (MsgPost.bad HV.out rfl ?_)
  exact (((((((((B.out.2.setCell (p := ⟨w.heap.size, 0, none⟩) (Nat.le_refl _) _).setCell (p := ⟨w.heap.size, 1, none⟩) (Nat.le_refl _) _).setCell (p := ⟨w.heap.size, 2, none⟩) (Nat.le_refl _) _).setCell (p := ⟨w.heap.size, 3, none⟩) (Nat.le_refl _) _).setCell (p := ⟨w.heap.size, 4, none⟩) (Nat.le_refl _) _).setCell (p := ⟨w.heap.size, 5, none⟩) (Nat.le_refl _) _).setCell (p := ⟨w.heap.size, 6, none⟩) (Nat.le_refl _) _).setCell (p := ⟨w.heap.size, 7, none⟩) (Nat.le_refl _) _).setCell (p := ⟨w.heap.size, 8, none⟩) (Nat.le_refl _) _)

theorem decode_c (s : ByteArray) (w : World) (hs : s.size ≤ 281474976710000) :
    Calls Try.prog 10 #[.string s] w (MsgPost (decM s) w) := by
  by_cases h : s.size < 8
  · exact decode_cut s w h
  · by_cases hq : sumN s.data.toList = 0
    · by_cases h17 : byt s 0 = 17
      · exact decode_query s w hs (by omega) hq h17
      · by_cases h18 : byt s 0 = 18
        · exact decode_one1 s w hs (by omega) hq h17 h18
        · by_cases h22 : byt s 0 = 22
          · exact decode_one2 s w hs (by omega) hq h17 h18 h22
          · by_cases h23 : byt s 0 = 23
            · exact decode_leave s w hs (by omega) hq h17 h18 h22 h23
            · by_cases h34 : byt s 0 = 34
              · exact decode_rep s w hs (by omega) hq h17 h18 h22 h23 h34
              · exact decode_other s w hs (by omega) hq h17 h18 h22 h23 h34
    · exact decode_sum s w hs (by omega) hq

end Go.Proofs.Ytfdiaaggmjlkbaa
