/-
  Reading messages, the document's answer: siphonref08.Decode.
-/
import Derived.Test.YtnhgekbimiffjaaIgK00
import Derived.Test.YtnhgekbimiffjaaIgK01
import Derived.Test.YtnhgekbimiffjaaIgK10
import Derived.Test.YtnhgekbimiffjaaIgK11
import Derived.Test.YtnhgekbimiffjaaIgG
namespace Go.Proofs.Ytnhgekbimiffjaa
open Go.RowKit
set_option linter.unusedVariables false

theorem rquery_c (s : ByteArray) (w : World) (hs : s.size ≤ 281474976710000) (h8 : 8 ≤ s.size) :
    Calls Try.prog 29 #[.string s] w (MsgPost (queryI s) w) := by
  by_cases hg : s.extract 4 8 = noGrp
  · by_cases hm : byt s 1 = 0
    · by_cases hl : s.size ≤ 8
      · exact rquery_nzs s w hs h8 hg hm hl
      · by_cases hl2 : s.size < 12
        · exact rquery_nzl1 s w hs h8 hg hm (by omega) hl2
        · by_cases h60 : 60 < (numv s 10 2).toNat
          · exact rquery_nzl2 s w hs h8 hg hm (by omega) (by omega) h60
          · by_cases hc : s.size < 12 + (numv s 10 2).toNat * 4
            · exact rquery_nzl3 s w hs h8 hg hm (by omega) (by omega) (by omega) hc
            · exact rquery_nzl4 s w hs h8 hg hm (by omega) (by omega) (by omega) (by omega)
    · by_cases hl : s.size ≤ 8
      · exact rquery_nms s w hs h8 hg hm hl
      · by_cases hl2 : s.size < 12
        · exact rquery_nml1 s w hs h8 hg hm (by omega) hl2
        · by_cases h60 : 60 < (numv s 10 2).toNat
          · exact rquery_nml2 s w hs h8 hg hm (by omega) (by omega) h60
          · by_cases hc : s.size < 12 + (numv s 10 2).toNat * 4
            · exact rquery_nml3 s w hs h8 hg hm (by omega) (by omega) (by omega) hc
            · exact rquery_nml4 s w hs h8 hg hm (by omega) (by omega) (by omega) (by omega)
  · by_cases hm : byt s 1 = 0
    · by_cases hl : s.size ≤ 8
      · exact rquery_gzs s w hs h8 hg hm hl
      · by_cases hl2 : s.size < 12
        · exact rquery_gzl1 s w hs h8 hg hm (by omega) hl2
        · by_cases h60 : 60 < (numv s 10 2).toNat
          · exact rquery_gzl2 s w hs h8 hg hm (by omega) (by omega) h60
          · by_cases hc : s.size < 12 + (numv s 10 2).toNat * 4
            · exact rquery_gzl3 s w hs h8 hg hm (by omega) (by omega) (by omega) hc
            · exact rquery_gzl4 s w hs h8 hg hm (by omega) (by omega) (by omega) (by omega)
    · by_cases hl : s.size ≤ 8
      · exact rquery_gms s w hs h8 hg hm hl
      · by_cases hl2 : s.size < 12
        · exact rquery_gml1 s w hs h8 hg hm (by omega) hl2
        · by_cases h60 : 60 < (numv s 10 2).toNat
          · exact rquery_gml2 s w hs h8 hg hm (by omega) (by omega) h60
          · by_cases hc : s.size < 12 + (numv s 10 2).toNat * 4
            · exact rquery_gml3 s w hs h8 hg hm (by omega) (by omega) (by omega) hc
            · exact rquery_gml4 s w hs h8 hg hm (by omega) (by omega) (by omega) (by omega)

set_option maxHeartbeats 1000000 in
set_option maxRecDepth 100000 in
theorem rdecode_cut (s : ByteArray) (w : World) (h : s.size < 8) :
    Calls Try.prog 12 #[.string s] w (MsgPost (decM s) w) := by
  have HV := Lib.hid (show decM s = (2, zeroM) by unfold decM; rw [if_pos h])
  have h' : (s.size : Int) < 8 := by omega
  have B := Lib.hid (Box.start w #[.int .i64 0, .int .i64 0, .string ⟨#[]⟩, .int .i64 0, .bool false, .int .i64 0, .int .i64 0, .slice none 0 0, .slice none 0 0] 27)
  clear h
  go_enter Try.func12, Try.ntmps12
  go_wp2_with fail
  refine bodyPost_ret (v := .tuple #[.agg #[.int .i64 0, .int .i64 0, .string ⟨#[]⟩, .int .i64 0, .bool false, .int .i64 0, .int .i64 0, .slice none 0 0, .slice none 0 0], .int .i64 2]) (by simp [results, Try.results12, go_sem]) rfl (MsgPost.bad HV.out rfl ?_)
  exact B.out.2

set_option maxHeartbeats 1000000 in
set_option maxRecDepth 100000 in
theorem rdecode_sum (s : ByteArray) (w : World) (hs : s.size ≤ 281474976710000) (h : 8 ≤ s.size) (hq : sumN s.data.toList ≠ 0) :
    Calls Try.prog 12 #[.string s] w (MsgPost (decM s) w) := by
  have HV := Lib.hid (show decM s = (4, zeroM) by unfold decM; rw [if_neg (by omega), if_pos hq])
  have h' : (8 : Int) ≤ (s.size : Int) := by omega
  have HR := Lib.hid fun U => rsum_c s U (by omega)
  obtain ⟨q, hq'⟩ : ∃ q : Int, q = sumN s.data.toList := ⟨_, rfl⟩
  rw [← hq'] at HR
  obtain ⟨a1, a2⟩ := ne_t (show q ≠ 0 by omega)
  have B := Lib.hid (Box.start w #[.int .i64 0, .int .i64 0, .string ⟨#[]⟩, .int .i64 0, .bool false, .int .i64 0, .int .i64 0, .slice none 0 0, .slice none 0 0] 27)
  clear h hq hq'
  go_enter Try.func12, Try.ntmps12
  go_wp2_with fail
  ((with_reducible refine (HR.out _).mono ?_); rintro e w1 ⟨rfl, rfl⟩)
  go_wp2_with fail
  refine bodyPost_ret (v := .tuple #[.agg #[.int .i64 0, .int .i64 0, .string ⟨#[]⟩, .int .i64 0, .bool false, .int .i64 0, .int .i64 0, .slice none 0 0, .slice none 0 0], .int .i64 4]) (by simp [results, Try.results12, go_sem]) rfl (MsgPost.bad HV.out rfl ?_)
  exact B.out.2

set_option maxHeartbeats 1000000 in
set_option maxRecDepth 100000 in
theorem rdecode_query (s : ByteArray) (w : World) (hs : s.size ≤ 281474976710000) (h : 8 ≤ s.size) (hq : sumN s.data.toList = 0) (hb : byt s 0 = 17) :
    Calls Try.prog 12 #[.string s] w (MsgPost (decM s) w) := by
  have HV := Lib.hid (show decM s = queryI s by unfold decM; rw [if_neg (by omega), if_neg (by omega), if_pos hb])
  have h' : (8 : Int) ≤ (s.size : Int) := by omega
  have z0 : 0 < s.size := by omega
  have u0 : (0 : Int) < (s.size : Int) := by omega
  have hb0 : s[0].toNat = byt s 0 := byt_get s 0 z0
  have HR := Lib.hid fun U => rsum_c s U (by omega)
  rw [hq, show ((0 : Nat) : Int) = 0 from rfl] at HR
  obtain ⟨a17, b17⟩ := eq_t (show (s[0].toNat : Int) = 17 by omega)
  have HX := Lib.hid fun U => rquery_c s U hs h
  unfold MsgPost at HX
  generalize queryI s = t at HX HV
  obtain ⟨E, ⟨k, ver, g, mx, qt, rob, ev, ss, rs⟩⟩ := t
  simp only [Msg.val] at HX
  have B := Lib.hid (Box.start w #[.int .i64 0, .int .i64 0, .string ⟨#[]⟩, .int .i64 0, .bool false, .int .i64 0, .int .i64 0, .slice none 0 0, .slice none 0 0] 27)
  clear hq hb hb0
  go_enter Try.func12, Try.ntmps12
  go_wp2_with fail
  ((with_reducible refine (HR.out _).mono ?_); rintro e w1 ⟨rfl, rfl⟩)
  go_wp2_with fail
  ((with_reducible refine (HX.out _).mono ?_); rintro e w2 ⟨vs, vr, rfl, hvs, hvr, h2⟩)
  have hlt := B.out.lt
  replace B := Lib.hid (B.out.below h2)
  obtain ⟨p1, cp1, rfl⟩ := hvs.slice
  obtain ⟨p2, cp2, rfl⟩ := hvr.slice
  have HS := Lib.hid (hvs.mono hlt id)
  have HR2 := Lib.hid (hvr.mono hlt id)
  clear hvs hvr h2 hlt
  generalize ss.length = n1 at *
  generalize rs.length = n2 at *
  have c0 := B.out.cell 0 rfl
  have c1 := B.out.cell 1 rfl
  have c2 := B.out.cell 2 rfl
  have c3 := B.out.cell 3 rfl
  have c4 := B.out.cell 4 rfl
  have c5 := B.out.cell 5 rfl
  have c6 := B.out.cell 6 rfl
  have c7 := B.out.cell 7 rfl
  have c8 := B.out.cell 8 rfl
  have f0 := B.out.free 0
  have f1 := B.out.free 1
  have f2 := B.out.free 2
  have f3 := B.out.free 3
  have f4 := B.out.free 4
  have f5 := B.out.free 5
  have f6 := B.out.free 6
  have f7 := B.out.free 7
  have f8 := B.out.free 8
  go_wp2_with fail
  refine bodyPost_ret (v := .tuple #[.agg #[.int .i64 k, .int .i64 ver, .string g, .int .i64 mx, .bool qt, .int .i64 rob, .int .i64 ev, .slice p1 n1 cp1, .slice p2 n2 cp2], .int .i64 E]) (by simp [results, Try.results12, go_sem, c0, c1, c2, c3, c4, c5, c6, c7, c8]) rfl ?_
  unfold MsgPost
  rw [HV.out]
  exact ⟨_, _, rfl, HS.out.storeN9 w.heap.size (Nat.lt_succ_self _), HR2.out.storeN9 w.heap.size (Nat.lt_succ_self _), (((((((((B.out.2.setCell (p := ⟨w.heap.size, 0, none⟩) (Nat.le_refl _) _).setCell (p := ⟨w.heap.size, 1, none⟩) (Nat.le_refl _) _).setCell (p := ⟨w.heap.size, 2, none⟩) (Nat.le_refl _) _).setCell (p := ⟨w.heap.size, 3, none⟩) (Nat.le_refl _) _).setCell (p := ⟨w.heap.size, 4, none⟩) (Nat.le_refl _) _).setCell (p := ⟨w.heap.size, 5, none⟩) (Nat.le_refl _) _).setCell (p := ⟨w.heap.size, 6, none⟩) (Nat.le_refl _) _).setCell (p := ⟨w.heap.size, 7, none⟩) (Nat.le_refl _) _).setCell (p := ⟨w.heap.size, 8, none⟩) (Nat.le_refl _) _)⟩

set_option maxHeartbeats 1000000 in
set_option maxRecDepth 100000 in
theorem rdecode_rep (s : ByteArray) (w : World) (hs : s.size ≤ 281474976710000) (h : 8 ≤ s.size) (hq : sumN s.data.toList = 0) (n17 : byt s 0 ≠ 17) (hb : byt s 0 = 34) :
    Calls Try.prog 12 #[.string s] w (MsgPost (decM s) w) := by
  have HV := Lib.hid (show decM s = repI s by unfold decM; rw [if_neg (by omega), if_neg (by omega), if_neg (by omega), if_neg (by omega), if_neg (by omega), if_neg (by omega), if_pos hb])
  have h' : (8 : Int) ≤ (s.size : Int) := by omega
  have z0 : 0 < s.size := by omega
  have u0 : (0 : Int) < (s.size : Int) := by omega
  have hb0 : s[0].toNat = byt s 0 := byt_get s 0 z0
  have HR := Lib.hid fun U => rsum_c s U (by omega)
  rw [hq, show ((0 : Nat) : Int) = 0 from rfl] at HR
  obtain ⟨a17, b17⟩ := ne_t (show (s[0].toNat : Int) ≠ 17 by omega)
  obtain ⟨a34, b34⟩ := eq_t (show (s[0].toNat : Int) = 34 by omega)
  have bn := numv_le2 s 6
  have H1 := Lib.hid fun U => vat_c s 6 2 U (by omega) (by omega) (by omega)
  have H2 := Lib.hid fun U => rrecs_c (s.extract 8 s.size) (numv s 6 2) 4 U (by simp; omega) (by omega)
  replace HV := Lib.hid (show decM s = repJ (recsI (s.extract 8 s.size) (numv s 6 2) 4) from HV.out)
  generalize recsI (s.extract 8 s.size) (numv s 6 2) 4 = t at H2 HV
  generalize numv s 6 2 = n at H1 H2 bn
  obtain ⟨E, L⟩ := t
  unfold RecsPost at H2
  simp only at H2 HV
  clear hq hb hb0
  go_enter Try.func12, Try.ntmps12
  go_wp2_with fail
  ((with_reducible refine (HR.out _).mono ?_); rintro e w1 ⟨rfl, rfl⟩)
  go_wp2_with fail
  have B := Lib.hid (Box.start w #[.int .i64 0, .int .i64 0, .string ⟨#[]⟩, .int .i64 0, .bool false, .int .i64 0, .int .i64 0, .slice none 0 0, .slice none 0 0] 27)
  generalize w.alloc _ = W at B ⊢
  clear a17 b17 a34 b34
  go_region_with ((first | (go_at_call 30; refine (H1.out _).mono ?_; rintro e w1 ⟨rfl, rfl⟩) | (go_at_call 19; refine (H2.out _).mono ?_; rintro e w2 ⟨vr, rfl, hvr, h2⟩)))
  obtain ⟨p, cp, rfl⟩ := hvr.slice
  have B1 : Box w W.drew #[.int .i64 0, .int .i64 0, .string ⟨#[]⟩, .int .i64 0, .bool false, .int .i64 0, .int .i64 0, .slice none 0 0, .slice none 0 0] 27 := ⟨B.out.1, B.out.2.drew⟩
  have hlt := B1.lt
  replace B := Lib.hid (B1.below h2)
  have HX := Lib.hid hvr
  have HL := Lib.hid hlt
  generalize L.length = ln at HX
  clear h2 hvr B1 hlt
  by_cases hE : E = 0
  · subst hE
    replace HV := Lib.hid (show decM s = (0, ⟨2, 3, ⟨#[]⟩, 0, false, 0, 0, [], L⟩) from HV.out)
    have c0 := B.out.cell 0 rfl
    have c1 := B.out.cell 1 rfl
    have c2 := B.out.cell 2 rfl
    have c3 := B.out.cell 3 rfl
    have c4 := B.out.cell 4 rfl
    have c5 := B.out.cell 5 rfl
    have c6 := B.out.cell 6 rfl
    have c7 := B.out.cell 7 rfl
    have c8 := B.out.cell 8 rfl
    have f0 := B.out.free 0
    have f1 := B.out.free 1
    have f2 := B.out.free 2
    have f3 := B.out.free 3
    have f4 := B.out.free 4
    have f5 := B.out.free 5
    have f6 := B.out.free 6
    have f7 := B.out.free 7
    have f8 := B.out.free 8
    go_wp2
    refine bodyPost_ret (v := .tuple #[.agg #[.int .i64 2, .int .i64 3, .string ⟨#[]⟩, .int .i64 0, .bool false, .int .i64 0, .int .i64 0, .slice none 0 0, .slice p ln cp], .int .i64 0]) (by simp [results, Try.results12, go_sem, c0, c1, c2, c3, c4, c5, c6, c7, c8]) rfl ?_
    unfold MsgPost
    rw [HV.out]
    refine ⟨_, _, rfl, AddrsG.nil _ _ _, ?_, (((((((((B.out.2.setCell (p := ⟨w.heap.size, 0, none⟩) (Nat.le_refl _) _).setCell (p := ⟨w.heap.size, 1, none⟩) (Nat.le_refl _) _).setCell (p := ⟨w.heap.size, 2, none⟩) (Nat.le_refl _) _).setCell (p := ⟨w.heap.size, 3, none⟩) (Nat.le_refl _) _).setCell (p := ⟨w.heap.size, 4, none⟩) (Nat.le_refl _) _).setCell (p := ⟨w.heap.size, 5, none⟩) (Nat.le_refl _) _).setCell (p := ⟨w.heap.size, 6, none⟩) (Nat.le_refl _) _).setCell (p := ⟨w.heap.size, 7, none⟩) (Nat.le_refl _) _).setCell (p := ⟨w.heap.size, 8, none⟩) (Nat.le_refl _) _)⟩
    exact (HX.out.mono HL.out id).storeN9 w.heap.size (Nat.lt_succ_self _)
  · replace HV := Lib.hid (show decM s = (E, zeroM) by rw [HV.out]; unfold repJ; rw [if_pos hE])
    obtain ⟨q1, q2⟩ := ne_t hE
    clear hE
    have c0 := B.out.cell 0 rfl
    have c1 := B.out.cell 1 rfl
    have c2 := B.out.cell 2 rfl
    have c3 := B.out.cell 3 rfl
    have c4 := B.out.cell 4 rfl
    have c5 := B.out.cell 5 rfl
    have c6 := B.out.cell 6 rfl
    have c7 := B.out.cell 7 rfl
    have c8 := B.out.cell 8 rfl
    have f0 := B.out.free 0
    have f1 := B.out.free 1
    have f2 := B.out.free 2
    have f3 := B.out.free 3
    have f4 := B.out.free 4
    have f5 := B.out.free 5
    have f6 := B.out.free 6
    have f7 := B.out.free 7
    have f8 := B.out.free 8
    go_wp2
    refine bodyPost_ret (v := .tuple #[.agg #[.int .i64 0, .int .i64 0, .string ⟨#[]⟩, .int .i64 0, .bool false, .int .i64 0, .int .i64 0, .slice none 0 0, .slice none 0 0], .int .i64 E]) (by simp [results, Try.results12, go_sem, c0, c1, c2, c3, c4, c5, c6, c7, c8]) rfl (MsgPost.bad HV.out rfl ?_)
    exact (((((((((B.out.2.setCell (p := ⟨w.heap.size, 0, none⟩) (Nat.le_refl _) _).setCell (p := ⟨w.heap.size, 1, none⟩) (Nat.le_refl _) _).setCell (p := ⟨w.heap.size, 2, none⟩) (Nat.le_refl _) _).setCell (p := ⟨w.heap.size, 3, none⟩) (Nat.le_refl _) _).setCell (p := ⟨w.heap.size, 4, none⟩) (Nat.le_refl _) _).setCell (p := ⟨w.heap.size, 5, none⟩) (Nat.le_refl _) _).setCell (p := ⟨w.heap.size, 6, none⟩) (Nat.le_refl _) _).setCell (p := ⟨w.heap.size, 7, none⟩) (Nat.le_refl _) _).setCell (p := ⟨w.heap.size, 8, none⟩) (Nat.le_refl _) _)

set_option maxHeartbeats 1000000 in
set_option maxRecDepth 100000 in
theorem rdecode_one1 (s : ByteArray) (w : World) (hs : s.size ≤ 281474976710000) (h : 8 ≤ s.size) (hq : sumN s.data.toList = 0) (n17 : byt s 0 ≠ 17) (n34 : byt s 0 ≠ 34) (hb : byt s 0 = 18) :
    Calls Try.prog 12 #[.string s] w (MsgPost (decM s) w) := by
  have HV := Lib.hid (show decM s = oneI s 2 1 by unfold decM; rw [if_neg (by omega), if_neg (by omega), if_neg (by omega), if_pos hb])
  have h' : (8 : Int) ≤ (s.size : Int) := by omega
  have z0 : 0 < s.size := by omega
  have u0 : (0 : Int) < (s.size : Int) := by omega
  have hb0 : s[0].toNat = byt s 0 := byt_get s 0 z0
  have HR := Lib.hid fun U => rsum_c s U (by omega)
  rw [hq, show ((0 : Nat) : Int) = 0 from rfl] at HR
  obtain ⟨a17, b17⟩ := ne_t (show (s[0].toNat : Int) ≠ 17 by omega)
  obtain ⟨a34, b34⟩ := ne_t (show (s[0].toNat : Int) ≠ 34 by omega)
  obtain ⟨a18, b18⟩ := eq_t (show (s[0].toNat : Int) = 18 by omega)
  have HG := Lib.hid fun U => rgroup_c (s.extract 4 8) 4 U
  replace HV := Lib.hid (show decM s = if grpB (s.extract 4 8) 4 then (0, ⟨2, 1, s.extract 4 8, 0, false, 0, 0, [], []⟩) else (3, zeroM) from HV.out)
  obtain ⟨g, hg⟩ : ∃ g, s.extract 4 8 = g := ⟨_, rfl⟩
  rw [hg] at HG HV
  generalize grpB g 4 = qb at HG HV
  have B := Lib.hid (Box.start w #[.int .i64 0, .int .i64 0, .string ⟨#[]⟩, .int .i64 0, .bool false, .int .i64 0, .int .i64 0, .slice none 0 0, .slice none 0 0] 27)
  clear hq hb hb0 n17 n34
  go_enter Try.func12, Try.ntmps12
  go_wp2_with fail
  ((with_reducible refine (HR.out _).mono ?_); rintro e w1 ⟨rfl, rfl⟩)
  go_wp2_with fail
  ((with_reducible refine (HG.out _).mono ?_); rintro e w2 ⟨rfl, rfl⟩)
  cases qb
  · replace HV := Lib.hid (show decM s = (3, zeroM) from HV.out)
    go_wp2_with fail
    refine bodyPost_ret (v := .tuple #[.agg #[.int .i64 0, .int .i64 0, .string ⟨#[]⟩, .int .i64 0, .bool false, .int .i64 0, .int .i64 0, .slice none 0 0, .slice none 0 0], .int .i64 3]) (by simp [results, Try.results12, go_sem]) rfl (MsgPost.bad HV.out rfl ?_)
    exact ((Below.refl _ w).alloc (Nat.le_refl _) _).alloc (by simp) _
  · replace HV := Lib.hid (show decM s = (0, ⟨2, 1, g, 0, false, 0, 0, [], []⟩) from HV.out)
    go_wp2_with fail
    refine bodyPost_ret (v := .tuple #[.agg #[.int .i64 2, .int .i64 1, .string g, .int .i64 0, .bool false, .int .i64 0, .int .i64 0, .slice none 0 0, .slice none 0 0], .int .i64 0]) (by simp [results, Try.results12, go_sem]) rfl ?_
    unfold MsgPost
    rw [HV.out]
    refine ⟨_, _, rfl, AddrsG.nil _ _ _, RecsG.nil _ _ _, ?_⟩
    exact ((Below.refl _ w).alloc (Nat.le_refl _) _).alloc (by simp) _

set_option maxHeartbeats 1000000 in
set_option maxRecDepth 100000 in
theorem rdecode_one2 (s : ByteArray) (w : World) (hs : s.size ≤ 281474976710000) (h : 8 ≤ s.size) (hq : sumN s.data.toList = 0) (n17 : byt s 0 ≠ 17) (n34 : byt s 0 ≠ 34) (n18 : byt s 0 ≠ 18) (hb : byt s 0 = 22) :
    Calls Try.prog 12 #[.string s] w (MsgPost (decM s) w) := by
  have HV := Lib.hid (show decM s = oneI s 2 2 by unfold decM; rw [if_neg (by omega), if_neg (by omega), if_neg (by omega), if_neg (by omega), if_pos hb])
  have h' : (8 : Int) ≤ (s.size : Int) := by omega
  have z0 : 0 < s.size := by omega
  have u0 : (0 : Int) < (s.size : Int) := by omega
  have hb0 : s[0].toNat = byt s 0 := byt_get s 0 z0
  have HR := Lib.hid fun U => rsum_c s U (by omega)
  rw [hq, show ((0 : Nat) : Int) = 0 from rfl] at HR
  obtain ⟨a17, b17⟩ := ne_t (show (s[0].toNat : Int) ≠ 17 by omega)
  obtain ⟨a34, b34⟩ := ne_t (show (s[0].toNat : Int) ≠ 34 by omega)
  obtain ⟨a18, b18⟩ := ne_t (show (s[0].toNat : Int) ≠ 18 by omega)
  obtain ⟨a22, b22⟩ := eq_t (show (s[0].toNat : Int) = 22 by omega)
  have HG := Lib.hid fun U => rgroup_c (s.extract 4 8) 4 U
  replace HV := Lib.hid (show decM s = if grpB (s.extract 4 8) 4 then (0, ⟨2, 2, s.extract 4 8, 0, false, 0, 0, [], []⟩) else (3, zeroM) from HV.out)
  obtain ⟨g, hg⟩ : ∃ g, s.extract 4 8 = g := ⟨_, rfl⟩
  rw [hg] at HG HV
  generalize grpB g 4 = qb at HG HV
  have B := Lib.hid (Box.start w #[.int .i64 0, .int .i64 0, .string ⟨#[]⟩, .int .i64 0, .bool false, .int .i64 0, .int .i64 0, .slice none 0 0, .slice none 0 0] 27)
  clear hq hb hb0 n17 n34 n18
  go_enter Try.func12, Try.ntmps12
  go_wp2_with fail
  ((with_reducible refine (HR.out _).mono ?_); rintro e w1 ⟨rfl, rfl⟩)
  go_wp2_with fail
  ((with_reducible refine (HG.out _).mono ?_); rintro e w2 ⟨rfl, rfl⟩)
  cases qb
  · replace HV := Lib.hid (show decM s = (3, zeroM) from HV.out)
    go_wp2_with fail
    refine bodyPost_ret (v := .tuple #[.agg #[.int .i64 0, .int .i64 0, .string ⟨#[]⟩, .int .i64 0, .bool false, .int .i64 0, .int .i64 0, .slice none 0 0, .slice none 0 0], .int .i64 3]) (by simp [results, Try.results12, go_sem]) rfl (MsgPost.bad HV.out rfl ?_)
    exact ((Below.refl _ w).alloc (Nat.le_refl _) _).alloc (by simp) _
  · replace HV := Lib.hid (show decM s = (0, ⟨2, 2, g, 0, false, 0, 0, [], []⟩) from HV.out)
    go_wp2_with fail
    refine bodyPost_ret (v := .tuple #[.agg #[.int .i64 2, .int .i64 2, .string g, .int .i64 0, .bool false, .int .i64 0, .int .i64 0, .slice none 0 0, .slice none 0 0], .int .i64 0]) (by simp [results, Try.results12, go_sem]) rfl ?_
    unfold MsgPost
    rw [HV.out]
    refine ⟨_, _, rfl, AddrsG.nil _ _ _, RecsG.nil _ _ _, ?_⟩
    exact ((Below.refl _ w).alloc (Nat.le_refl _) _).alloc (by simp) _

set_option maxHeartbeats 1000000 in
set_option maxRecDepth 100000 in
theorem rdecode_leave (s : ByteArray) (w : World) (hs : s.size ≤ 281474976710000) (h : 8 ≤ s.size) (hq : sumN s.data.toList = 0) (n17 : byt s 0 ≠ 17) (n34 : byt s 0 ≠ 34) (n18 : byt s 0 ≠ 18) (n22 : byt s 0 ≠ 22) (hb : byt s 0 = 23) :
    Calls Try.prog 12 #[.string s] w (MsgPost (decM s) w) := by
  have HV := Lib.hid (show decM s = oneI s 3 2 by unfold decM; rw [if_neg (by omega), if_neg (by omega), if_neg (by omega), if_neg (by omega), if_neg (by omega), if_pos hb])
  have h' : (8 : Int) ≤ (s.size : Int) := by omega
  have z0 : 0 < s.size := by omega
  have u0 : (0 : Int) < (s.size : Int) := by omega
  have hb0 : s[0].toNat = byt s 0 := byt_get s 0 z0
  have HR := Lib.hid fun U => rsum_c s U (by omega)
  rw [hq, show ((0 : Nat) : Int) = 0 from rfl] at HR
  obtain ⟨a17, b17⟩ := ne_t (show (s[0].toNat : Int) ≠ 17 by omega)
  obtain ⟨a34, b34⟩ := ne_t (show (s[0].toNat : Int) ≠ 34 by omega)
  obtain ⟨a18, b18⟩ := ne_t (show (s[0].toNat : Int) ≠ 18 by omega)
  obtain ⟨a22, b22⟩ := ne_t (show (s[0].toNat : Int) ≠ 22 by omega)
  obtain ⟨a23, b23⟩ := eq_t (show (s[0].toNat : Int) = 23 by omega)
  have HG := Lib.hid fun U => rgroup_c (s.extract 4 8) 4 U
  replace HV := Lib.hid (show decM s = if grpB (s.extract 4 8) 4 then (0, ⟨3, 2, s.extract 4 8, 0, false, 0, 0, [], []⟩) else (3, zeroM) from HV.out)
  obtain ⟨g, hg⟩ : ∃ g, s.extract 4 8 = g := ⟨_, rfl⟩
  rw [hg] at HG HV
  generalize grpB g 4 = qb at HG HV
  have B := Lib.hid (Box.start w #[.int .i64 0, .int .i64 0, .string ⟨#[]⟩, .int .i64 0, .bool false, .int .i64 0, .int .i64 0, .slice none 0 0, .slice none 0 0] 27)
  clear hq hb hb0 n17 n34 n18 n22
  go_enter Try.func12, Try.ntmps12
  go_wp2_with fail
  ((with_reducible refine (HR.out _).mono ?_); rintro e w1 ⟨rfl, rfl⟩)
  go_wp2_with fail
  ((with_reducible refine (HG.out _).mono ?_); rintro e w2 ⟨rfl, rfl⟩)
  cases qb
  · replace HV := Lib.hid (show decM s = (3, zeroM) from HV.out)
    go_wp2_with fail
    refine bodyPost_ret (v := .tuple #[.agg #[.int .i64 0, .int .i64 0, .string ⟨#[]⟩, .int .i64 0, .bool false, .int .i64 0, .int .i64 0, .slice none 0 0, .slice none 0 0], .int .i64 3]) (by simp [results, Try.results12, go_sem]) rfl (MsgPost.bad HV.out rfl ?_)
    exact ((Below.refl _ w).alloc (Nat.le_refl _) _).alloc (by simp) _
  · replace HV := Lib.hid (show decM s = (0, ⟨3, 2, g, 0, false, 0, 0, [], []⟩) from HV.out)
    go_wp2_with fail
    refine bodyPost_ret (v := .tuple #[.agg #[.int .i64 3, .int .i64 2, .string g, .int .i64 0, .bool false, .int .i64 0, .int .i64 0, .slice none 0 0, .slice none 0 0], .int .i64 0]) (by simp [results, Try.results12, go_sem]) rfl ?_
    unfold MsgPost
    rw [HV.out]
    refine ⟨_, _, rfl, AddrsG.nil _ _ _, RecsG.nil _ _ _, ?_⟩
    exact ((Below.refl _ w).alloc (Nat.le_refl _) _).alloc (by simp) _

set_option maxHeartbeats 1000000 in
set_option maxRecDepth 100000 in
theorem rdecode_other (s : ByteArray) (w : World) (hs : s.size ≤ 281474976710000) (h : 8 ≤ s.size) (hq : sumN s.data.toList = 0) (n17 : byt s 0 ≠ 17) (n34 : byt s 0 ≠ 34) (n18 : byt s 0 ≠ 18) (n22 : byt s 0 ≠ 22) (n23 : byt s 0 ≠ 23) :
    Calls Try.prog 12 #[.string s] w (MsgPost (decM s) w) := by
  have HV := Lib.hid (show decM s = (3, zeroM) by unfold decM; rw [if_neg (by omega), if_neg (by omega), if_neg (by omega), if_neg (by omega), if_neg (by omega), if_neg (by omega), if_neg (by omega)])
  have h' : (8 : Int) ≤ (s.size : Int) := by omega
  have z0 : 0 < s.size := by omega
  have u0 : (0 : Int) < (s.size : Int) := by omega
  have hb0 : s[0].toNat = byt s 0 := byt_get s 0 z0
  have HR := Lib.hid fun U => rsum_c s U (by omega)
  rw [hq, show ((0 : Nat) : Int) = 0 from rfl] at HR
  obtain ⟨a17, b17⟩ := ne_t (show (s[0].toNat : Int) ≠ 17 by omega)
  obtain ⟨a18, b18⟩ := ne_t (show (s[0].toNat : Int) ≠ 18 by omega)
  obtain ⟨a22, b22⟩ := ne_t (show (s[0].toNat : Int) ≠ 22 by omega)
  obtain ⟨a23, b23⟩ := ne_t (show (s[0].toNat : Int) ≠ 23 by omega)
  obtain ⟨a34, b34⟩ := ne_t (show (s[0].toNat : Int) ≠ 34 by omega)
  clear hq hb0 n17 n34 n18 n22 n23
  have B := Lib.hid (Box.start w #[.int .i64 0, .int .i64 0, .string ⟨#[]⟩, .int .i64 0, .bool false, .int .i64 0, .int .i64 0, .slice none 0 0, .slice none 0 0] 27)
  go_enter Try.func12, Try.ntmps12
  go_wp2_with fail
  ((with_reducible refine (HR.out _).mono ?_); rintro e w1 ⟨rfl, rfl⟩)
  go_wp2_with fail
  refine bodyPost_ret (v := .tuple #[.agg #[.int .i64 0, .int .i64 0, .string ⟨#[]⟩, .int .i64 0, .bool false, .int .i64 0, .int .i64 0, .slice none 0 0, .slice none 0 0], .int .i64 3]) (by simp [results, Try.results12, go_sem]) rfl (MsgPost.bad HV.out rfl ?_)
  exact ((Below.refl _ w).alloc (Nat.le_refl _) _).alloc (by simp) _

theorem rdecode_c (s : ByteArray) (w : World) (hs : s.size ≤ 281474976710000) :
    Calls Try.prog 12 #[.string s] w (MsgPost (decM s) w) := by
  by_cases h : s.size < 8
  · exact rdecode_cut s w h
  · by_cases hq : sumN s.data.toList = 0
    · by_cases h17 : byt s 0 = 17
      · exact rdecode_query s w hs (by omega) hq h17
      · by_cases h34 : byt s 0 = 34
        · exact rdecode_rep s w hs (by omega) hq h17 h34
        · by_cases h18 : byt s 0 = 18
          · exact rdecode_one1 s w hs (by omega) hq h17 h34 h18
          · by_cases h22 : byt s 0 = 22
            · exact rdecode_one2 s w hs (by omega) hq h17 h34 h18 h22
            · by_cases h23 : byt s 0 = 23
              · exact rdecode_leave s w hs (by omega) hq h17 h34 h18 h22 h23
              · exact rdecode_other s w hs (by omega) hq h17 h34 h18 h22 h23
    · exact rdecode_sum s w hs (by omega) hq

end Go.Proofs.Ytnhgekbimiffjaa
