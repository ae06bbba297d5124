/-
  Reading messages of IPv6, the document's answer: siphonref09.query, Decode.
-/
import Derived.Test.YtnfngmclomjimaaGreatMdK1
import Derived.Test.YtnfngmclomjimaaGreatMdK0
import Derived.Test.YtnfngmclomjimaaGreatIgRd
import Derived.Test.YtnfngmclomjimaaGreatRPseudo
namespace Go.Proofs.YtnfngmclomjimaaGreat
open Go.RowKit
set_option linter.unusedVariables false

theorem rqry_c (s : ByteArray) (w : World) (hs : s.size ≤ 281474976710000) :
    Calls Tryz.prog 17 #[.string s] w (MsgPost (qryD s) w) := by
  by_cases h0 : s.size < 24
  · exact rqry_cut s w h0
  · by_cases hg : s.extract 8 24 = none6
    · by_cases hl : s.size = 24
      · exact rqry_ns s w hs hg hl
      · by_cases hl2 : s.size < 28
        · exact rqry_nl1 s w hs hg (by omega) hl2
        · by_cases h60 : 60 < (numv s 26 2).toNat
          · exact rqry_nl2 s w hs hg (by omega) h60
          · by_cases hc : s.size < 28 + (numv s 26 2).toNat * 16
            · exact rqry_nl3 s w hs hg (by omega) (by omega) hc
            · exact rqry_nl4 s w hs hg (by omega) (by omega) (by omega)
    · by_cases hl : s.size = 24
      · exact rqry_gs s w hs hg hl
      · by_cases hl2 : s.size < 28
        · exact rqry_gl1 s w hs hg (by omega) hl2
        · by_cases h60 : 60 < (numv s 26 2).toNat
          · exact rqry_gl2 s w hs hg (by omega) h60
          · by_cases hc : s.size < 28 + (numv s 26 2).toNat * 16
            · exact rqry_gl3 s w hs hg (by omega) (by omega) hc
            · exact rqry_gl4 s w hs hg (by omega) (by omega) (by omega)

theorem ahead_is9 {src dst : ByteArray} {n : Int} (h1 : src.size = 16) (h2 : dst.size = 16) (n0 : 0 ≤ n) (n1 : n ≤ 65535) : aheadI src dst n = (src ++ dst ++ ⟨(bytesOf n.toNat 4).toArray⟩ ++ ⟨#[0, 0, 0]⟩ ++ ⟨(bytesOf 58 1).toArray⟩, 0) := by
  unfold aheadI
  rw [if_neg (by omega)]
  unfold pseudoSpec
  rw [if_neg (by omega), if_neg (by omega)]
  rfl
theorem ahead_yes9 {src dst : ByteArray} {n : Int} (h1 : src.size = 16) (h2 : dst.size = 16) (n0 : 0 ≤ n) (n1 : n ≤ 65535) : (aheadI src dst n).2 = 0 := by rw [ahead_is9 h1 h2 n0 n1]
theorem ahead_409 {src dst : ByteArray} {n : Int} (h1 : src.size = 16) (h2 : dst.size = 16) (n0 : 0 ≤ n) (n1 : n ≤ 65535) : (aheadI src dst n).1.size = 40 := by
  rw [ahead_is9 h1 h2 n0 n1]
  simp only [ByteArray.size_append, ByteArray.size_mk', List.size_toArray, bytesOf_length]
  have e : (⟨#[0, 0, 0]⟩ : ByteArray).size = 3 := rfl
  simp only [List.length_cons, List.length_nil]
  omega

theorem fix_rep (t : Int × List Rec) : fixD (repQ t) = repQ t := by
  by_cases h : t.1 = 0
  · have e : repQ t = (0, ⟨2, 2, ⟨#[]⟩, 0, false, 0, 0, [], t.2⟩) := if_neg (by simp [h])
    rw [e]
    exact if_neg (by simp)
  · have e : repQ t = (t.1, zeroM) := if_pos h
    rw [e]
    exact if_pos h
theorem decD_arg (src dst s : ByteArray) (h : src.size ≠ 16 ∨ dst.size ≠ 16 ∨ 65535 < s.size) : decD src dst s = (1, zeroM) := by
  have ha : (aheadI src dst s.size).2 = 1 := by
    unfold aheadI
    split
    · rfl
    · unfold pseudoSpec
      rw [if_pos (by omega)]
  unfold decD
  rw [if_pos (by rw [ha]; simp), ha]
theorem ahead_r (src dst s : ByteArray) (h1 : src.size = 16) : aheadI src dst s.size = pseudoSpec src dst s.size 58 := by
  unfold aheadI
  rw [if_neg (by omega)]

set_option maxHeartbeats 2000000 in
set_option maxRecDepth 100000 in
theorem rdec9_arg (src dst s : ByteArray) (w : World) (hs : s.size ≤ 281474976710000) (h : src.size ≠ 16 ∨ dst.size ≠ 16 ∨ 65535 < s.size) :
    Calls Tryz.prog 7 #[.string src, .string dst, .string s] w (MsgPost (decD src dst s) w) := by
  have V := Lib.hid (decD_arg src dst s h)
  have B := Lib.hid (Box.start w #[.int .i64 0, .int .i64 0, .string ⟨#[]⟩, .int .i64 0, .bool false, .int .i64 0, .int .i64 0, .slice none 0 0, .slice none 0 0] 29)
  by_cases h1 : src.size = 16
  · obtain ⟨a1, a2⟩ := eq_t (show (src.size : Int) = 16 by omega)
    by_cases h2 : dst.size = 16
    · obtain ⟨b1, b2⟩ := eq_t (show (dst.size : Int) = 16 by omega)
      have h3 : (65535 : Int) < (s.size : Int) := by omega
      clear h h1 h2
      go_enter Tryz.func7, Tryz.ntmps7
      go_wp2_with fail
      refine bodyPost_ret (v := .tuple #[.agg #[.int .i64 0, .int .i64 0, .string ⟨#[]⟩, .int .i64 0, .bool false, .int .i64 0, .int .i64 0, .slice none 0 0, .slice none 0 0], .int .i64 1]) (by simp [results, Tryz.results7, go_sem]) rfl (MsgPost.bad V.out rfl ?_)
      exact B.out.2
    · obtain ⟨b1, b2⟩ := ne_t (show (dst.size : Int) ≠ 16 by omega)
      clear h h1 h2
      go_enter Tryz.func7, Tryz.ntmps7
      go_wp2_with fail
      refine bodyPost_ret (v := .tuple #[.agg #[.int .i64 0, .int .i64 0, .string ⟨#[]⟩, .int .i64 0, .bool false, .int .i64 0, .int .i64 0, .slice none 0 0, .slice none 0 0], .int .i64 1]) (by simp [results, Tryz.results7, go_sem]) rfl (MsgPost.bad V.out rfl ?_)
      exact B.out.2
  · obtain ⟨a1, a2⟩ := ne_t (show (src.size : Int) ≠ 16 by omega)
    clear h h1
    go_enter Tryz.func7, Tryz.ntmps7
    go_wp2_with fail
    refine bodyPost_ret (v := .tuple #[.agg #[.int .i64 0, .int .i64 0, .string ⟨#[]⟩, .int .i64 0, .bool false, .int .i64 0, .int .i64 0, .slice none 0 0, .slice none 0 0], .int .i64 1]) (by simp [results, Tryz.results7, go_sem]) rfl (MsgPost.bad V.out rfl ?_)
    exact B.out.2

set_option maxHeartbeats 2000000 in
set_option maxRecDepth 100000 in
theorem rdec9_cut (src dst s : ByteArray) (w : World) (s1 : src.size = 16) (s2 : dst.size = 16) (s3 : s.size ≤ 65535) (h8 : s.size < 8) :
    Calls Tryz.prog 7 #[.string src, .string dst, .string s] w (MsgPost (decD src dst s) w) := by
  have V := Lib.hid (show decD src dst s = (2, zeroM) by
    unfold decD
    rw [if_neg (by rw [ahead_yes9 s1 s2 (by omega) (by omega)]; simp), if_pos h8])
  obtain ⟨a1, a2⟩ := eq_t (show (src.size : Int) = 16 by omega)
  obtain ⟨b1, b2⟩ := eq_t (show (dst.size : Int) = 16 by omega)
  have h3 : ¬ (65535 : Int) < (s.size : Int) := by omega
  have h8' : (s.size : Int) < 8 := by omega
  have B := Lib.hid (Box.start w #[.int .i64 0, .int .i64 0, .string ⟨#[]⟩, .int .i64 0, .bool false, .int .i64 0, .int .i64 0, .slice none 0 0, .slice none 0 0] 29)
  clear h8 s1 s2 s3
  go_enter Tryz.func7, Tryz.ntmps7
  go_wp2_with fail
  refine bodyPost_ret (v := .tuple #[.agg #[.int .i64 0, .int .i64 0, .string ⟨#[]⟩, .int .i64 0, .bool false, .int .i64 0, .int .i64 0, .slice none 0 0, .slice none 0 0], .int .i64 2]) (by simp [results, Tryz.results7, go_sem]) rfl (MsgPost.bad V.out rfl ?_)
  exact B.out.2

set_option maxHeartbeats 2000000 in
set_option maxRecDepth 100000 in
theorem rdec9_sum (src dst s : ByteArray) (w : World) (s1 : src.size = 16) (s2 : dst.size = 16) (s3 : s.size ≤ 65535) (h8 : 8 ≤ s.size) (hq : sumN ((aheadI src dst s.size).1 ++ s).data.toList ≠ 0) :
    Calls Tryz.prog 7 #[.string src, .string dst, .string s] w (MsgPost (decD src dst s) w) := by
  have V := Lib.hid (show decD src dst s = (4, zeroM) by
    unfold decD
    rw [if_neg (by rw [ahead_yes9 s1 s2 (by omega) (by omega)]; simp), if_neg (by omega), if_pos hq])
  have HP := Lib.hid fun U => rpseudo_c src dst s.size 58 U
  rw [← ahead_r src dst s s1] at HP
  have hz := ahead_409 s1 s2 (show (0 : Int) ≤ (s.size : Int) by omega) (by omega)
  have he := ahead_yes9 s1 s2 (show (0 : Int) ≤ (s.size : Int) by omega) (by omega)
  obtain ⟨X, hX⟩ : ∃ X, (aheadI src dst s.size).1 ++ s = X := ⟨_, rfl⟩
  have HS := Lib.hid fun U => rsum_c X U (by rw [← hX, ByteArray.size_append]; omega)
  rw [hX] at hq
  obtain ⟨q, hq'⟩ : ∃ q : Int, q = sumN X.data.toList := ⟨_, rfl⟩
  rw [← hq'] at HS
  obtain ⟨d1, d2⟩ := ne_t (show q ≠ 0 by omega)
  obtain ⟨a1, a2⟩ := eq_t (show (src.size : Int) = 16 by omega)
  obtain ⟨b1, b2⟩ := eq_t (show (dst.size : Int) = 16 by omega)
  have h3 : ¬ (65535 : Int) < (s.size : Int) := by omega
  have h8' : ¬ (s.size : Int) < 8 := by omega
  have hn : ¬ (9223372036854775807 < (aheadI src dst s.size).1.size + s.size) := by omega
  generalize (aheadI src dst s.size).1 = A1 at *
  generalize (aheadI src dst s.size).2 = A2 at *
  have B := Lib.hid (Box.start w #[.int .i64 0, .int .i64 0, .string ⟨#[]⟩, .int .i64 0, .bool false, .int .i64 0, .int .i64 0, .slice none 0 0, .slice none 0 0] 29)
  clear hq hq' he hz s1 s2 s3 h8
  go_enter Tryz.func7, Tryz.ntmps7
  go_wp2_with fail
  ((with_reducible refine (HP.out _).mono ?_); rintro e w1 ⟨rfl, h1⟩)
  replace B := Lib.hid (B.out.below h1)
  clear h1
  go_wp2_with fail
  ((with_reducible refine (HS.out _).mono ?_); rintro e w2 ⟨rfl, rfl⟩)
  have c0 := B.out.cell 0 rfl
  have f0 := B.out.free 0
  have c1 := B.out.cell 1 rfl
  have f1 := B.out.free 1
  have c2 := B.out.cell 2 rfl
  have f2 := B.out.free 2
  have c3 := B.out.cell 3 rfl
  have f3 := B.out.free 3
  have c4 := B.out.cell 4 rfl
  have f4 := B.out.free 4
  have c5 := B.out.cell 5 rfl
  have f5 := B.out.free 5
  have c6 := B.out.cell 6 rfl
  have f6 := B.out.free 6
  have c7 := B.out.cell 7 rfl
  have f7 := B.out.free 7
  have c8 := B.out.cell 8 rfl
  have f8 := B.out.free 8
  go_wp2_with fail
  refine bodyPost_ret (v := .tuple #[.agg #[.int .i64 0, .int .i64 0, .string ⟨#[]⟩, .int .i64 0, .bool false, .int .i64 0, .int .i64 0, .slice none 0 0, .slice none 0 0], .int .i64 4]) (by simp [results, Tryz.results7, go_sem, c0, c1, c2, c3, c4, c5, c6, c7, c8]) rfl (MsgPost.bad V.out rfl ?_)
  exact (((((((((B.out.2.setCell (p := ⟨w.heap.size, 0, none⟩) (Nat.le_refl _) _).setCell (p := ⟨w.heap.size, 1, none⟩) (Nat.le_refl _) _).setCell (p := ⟨w.heap.size, 2, none⟩) (Nat.le_refl _) _).setCell (p := ⟨w.heap.size, 3, none⟩) (Nat.le_refl _) _).setCell (p := ⟨w.heap.size, 4, none⟩) (Nat.le_refl _) _).setCell (p := ⟨w.heap.size, 5, none⟩) (Nat.le_refl _) _).setCell (p := ⟨w.heap.size, 6, none⟩) (Nat.le_refl _) _).setCell (p := ⟨w.heap.size, 7, none⟩) (Nat.le_refl _) _).setCell (p := ⟨w.heap.size, 8, none⟩) (Nat.le_refl _) _)

set_option maxHeartbeats 2000000 in
set_option maxRecDepth 100000 in
theorem rdec9_query (src dst s : ByteArray) (w : World) (s1 : src.size = 16) (s2 : dst.size = 16) (s3 : s.size ≤ 65535) (h8 : 8 ≤ s.size) (hq : sumN ((aheadI src dst s.size).1 ++ s).data.toList = 0) (hb : byt s 0 = 130) :
    Calls Tryz.prog 7 #[.string src, .string dst, .string s] w (MsgPost (decD src dst s) w) := by
  have VD := Lib.hid (show decD src dst s = fixD (rdM s) by
    unfold decD
    rw [if_neg (by rw [ahead_yes9 s1 s2 (by omega) (by omega)]; simp), if_neg (by omega), if_neg (by rw [hq]; simp)])
  have HP := Lib.hid fun U => rpseudo_c src dst s.size 58 U
  rw [← ahead_r src dst s s1] at HP
  have hz := ahead_409 s1 s2 (show (0 : Int) ≤ (s.size : Int) by omega) (by omega)
  have he := ahead_yes9 s1 s2 (show (0 : Int) ≤ (s.size : Int) by omega) (by omega)
  obtain ⟨X, hX⟩ : ∃ X, (aheadI src dst s.size).1 ++ s = X := ⟨_, rfl⟩
  have HS := Lib.hid fun U => rsum_c X U (by rw [← hX, ByteArray.size_append]; omega)
  rw [hX] at hq
  rw [hq, show ((0 : Nat) : Int) = 0 from rfl] at HS
  have z0 : 0 < s.size := by omega
  have u0 : (0 : Int) < (s.size : Int) := by omega
  have hb0 : s[0].toNat = byt s 0 := byt_get s 0 z0
  have V := Lib.hid (VD.out.trans (show fixD (rdM s) = fixD (qryD s) by unfold rdM; rw [if_pos hb]))
  obtain ⟨k1, l1⟩ := eq_t (show (s[0].toNat : Int) = 130 by omega)
  have HX := Lib.hid fun U => rqry_c s U (by omega)
  unfold MsgPost at HX
  have hfx : (qryD s).1 ≠ 0 → (qryD s).2 = zeroM := fun h => by
    unfold qryD at h ⊢
    split <;> (try split) <;> (try split) <;> (try split) <;> simp_all
  have hfix : fixD (qryD s) = qryD s := by
    unfold fixD
    split
    · next h => rw [← hfx h]
    · next h => rw [← Decidable.not_not.1 h]
  rw [hfix] at V
  generalize qryD s = t at HX V
  obtain ⟨E, ⟨k, ver, g, mx, qt, rob, ev, ss, rs⟩⟩ := t
  simp only [Msg.val] at HX
  obtain ⟨a1, a2⟩ := eq_t (show (src.size : Int) = 16 by omega)
  obtain ⟨b1, b2⟩ := eq_t (show (dst.size : Int) = 16 by omega)
  have h3 : ¬ (65535 : Int) < (s.size : Int) := by omega
  have h8' : ¬ (s.size : Int) < 8 := by omega
  have hn : ¬ (9223372036854775807 < (aheadI src dst s.size).1.size + s.size) := by omega
  generalize (aheadI src dst s.size).1 = A1 at *
  generalize (aheadI src dst s.size).2 = A2 at *
  have B := Lib.hid (Box.start w #[.int .i64 0, .int .i64 0, .string ⟨#[]⟩, .int .i64 0, .bool false, .int .i64 0, .int .i64 0, .slice none 0 0, .slice none 0 0] 29)
  clear hq hb hb0 he hz s1 s2 s3 h8 hfx hfix VD
  go_enter Tryz.func7, Tryz.ntmps7
  go_wp2_with fail
  ((with_reducible refine (HP.out _).mono ?_); rintro e w1 ⟨rfl, h1⟩)
  replace B := Lib.hid (B.out.below h1)
  clear h1
  go_wp2_with fail
  ((with_reducible refine (HS.out _).mono ?_); rintro e w2 ⟨rfl, rfl⟩)
  go_wp2_with fail
  ((with_reducible refine (HX.out _).mono ?_); rintro e w3 ⟨vs, vr, rfl, hvs, hvr, h2⟩)
  have hlt := B.out.lt
  replace B := Lib.hid (B.out.below h2)
  obtain ⟨p1, cp1, rfl⟩ := hvs.slice
  obtain ⟨p2, cp2, rfl⟩ := hvr.slice
  have HS1 := Lib.hid (hvs.mono hlt id)
  have HR2 := Lib.hid (hvr.mono hlt id)
  clear hvs hvr h2 hlt
  generalize ss.length = n1 at *
  generalize rs.length = n2 at *
  have c0 := B.out.cell 0 rfl
  have f0 := B.out.free 0
  have c1 := B.out.cell 1 rfl
  have f1 := B.out.free 1
  have c2 := B.out.cell 2 rfl
  have f2 := B.out.free 2
  have c3 := B.out.cell 3 rfl
  have f3 := B.out.free 3
  have c4 := B.out.cell 4 rfl
  have f4 := B.out.free 4
  have c5 := B.out.cell 5 rfl
  have f5 := B.out.free 5
  have c6 := B.out.cell 6 rfl
  have f6 := B.out.free 6
  have c7 := B.out.cell 7 rfl
  have f7 := B.out.free 7
  have c8 := B.out.cell 8 rfl
  have f8 := B.out.free 8
  go_wp2_with fail
  refine bodyPost_ret (v := .tuple #[.agg #[.int .i64 k, .int .i64 ver, .string g, .int .i64 mx, .bool qt, .int .i64 rob, .int .i64 ev, .slice p1 n1 cp1, .slice p2 n2 cp2], .int .i64 E]) (by simp [results, Tryz.results7, go_sem, c0, c1, c2, c3, c4, c5, c6, c7, c8]) rfl ?_
  unfold MsgPost
  rw [V.out]
  exact ⟨_, _, rfl, HS1.out.storeN9 w.heap.size (Nat.lt_succ_self _), HR2.out.storeN9 w.heap.size (Nat.lt_succ_self _), (((((((((B.out.2.setCell (p := ⟨w.heap.size, 0, none⟩) (Nat.le_refl _) _).setCell (p := ⟨w.heap.size, 1, none⟩) (Nat.le_refl _) _).setCell (p := ⟨w.heap.size, 2, none⟩) (Nat.le_refl _) _).setCell (p := ⟨w.heap.size, 3, none⟩) (Nat.le_refl _) _).setCell (p := ⟨w.heap.size, 4, none⟩) (Nat.le_refl _) _).setCell (p := ⟨w.heap.size, 5, none⟩) (Nat.le_refl _) _).setCell (p := ⟨w.heap.size, 6, none⟩) (Nat.le_refl _) _).setCell (p := ⟨w.heap.size, 7, none⟩) (Nat.le_refl _) _).setCell (p := ⟨w.heap.size, 8, none⟩) (Nat.le_refl _) _)⟩
set_option maxHeartbeats 2000000 in
set_option maxRecDepth 100000 in
theorem rdec9_rep (src dst s : ByteArray) (w : World) (s1 : src.size = 16) (s2 : dst.size = 16) (s3 : s.size ≤ 65535) (h8 : 8 ≤ s.size) (hq : sumN ((aheadI src dst s.size).1 ++ s).data.toList = 0) (hb : byt s 0 = 143) :
    Calls Tryz.prog 7 #[.string src, .string dst, .string s] w (MsgPost (decD src dst s) w) := by
  have VD := Lib.hid (show decD src dst s = fixD (rdM s) by
    unfold decD
    rw [if_neg (by rw [ahead_yes9 s1 s2 (by omega) (by omega)]; simp), if_neg (by omega), if_neg (by rw [hq]; simp)])
  have HP := Lib.hid fun U => rpseudo_c src dst s.size 58 U
  rw [← ahead_r src dst s s1] at HP
  have hz := ahead_409 s1 s2 (show (0 : Int) ≤ (s.size : Int) by omega) (by omega)
  have he := ahead_yes9 s1 s2 (show (0 : Int) ≤ (s.size : Int) by omega) (by omega)
  obtain ⟨X, hX⟩ : ∃ X, (aheadI src dst s.size).1 ++ s = X := ⟨_, rfl⟩
  have HS := Lib.hid fun U => rsum_c X U (by rw [← hX, ByteArray.size_append]; omega)
  rw [hX] at hq
  rw [hq, show ((0 : Nat) : Int) = 0 from rfl] at HS
  have z0 : 0 < s.size := by omega
  have u0 : (0 : Int) < (s.size : Int) := by omega
  have hb0 : s[0].toNat = byt s 0 := byt_get s 0 z0
  have V0 := Lib.hid (VD.out.trans (show fixD (rdM s) = repD s by
    unfold rdM
    rw [if_neg (by omega), if_neg (by omega), if_neg (by omega), if_pos hb]
    exact fix_rep _))
  obtain ⟨k1, l1⟩ := eq_t (show (s[0].toNat : Int) = 143 by omega)
  obtain ⟨k2, l2⟩ := ne_t (show (s[0].toNat : Int) ≠ 130 by omega)
  have HA6 := Lib.hid fun U => vat_c s 6 2 U (by omega) (by omega) (by omega)
  have HX := Lib.hid fun U => rrecs_c (s.extract 8 s.size) (numv s 6 2) 16 U (by rw [ByteArray.size_extract]; omega) (by have := numv_le2 s 6; omega)
  have u8 : (8 : Int) ≤ (s.size : Int) := by omega
  have V := Lib.hid (show decD src dst s = repQ (recsI (s.extract 8 s.size) (numv s 6 2) 16) from V0.out)
  generalize recsI (s.extract 8 s.size) (numv s 6 2) 16 = t at HX V
  generalize numv s 6 2 = N6 at HX HA6
  obtain ⟨E, rs⟩ := t
  unfold RecsPost at HX
  simp only at HX
  have hE : (E = 0 ∧ (E != 0) = false) ∨ (E ≠ 0 ∧ (E != 0) = true) := by
    by_cases h : E = 0
    · exact .inl ⟨h, by simp [h]⟩
    · exact .inr ⟨h, by simp [h]⟩
  obtain ⟨a1, a2⟩ := eq_t (show (src.size : Int) = 16 by omega)
  obtain ⟨b1, b2⟩ := eq_t (show (dst.size : Int) = 16 by omega)
  have h3 : ¬ (65535 : Int) < (s.size : Int) := by omega
  have h8' : ¬ (s.size : Int) < 8 := by omega
  have hn : ¬ (9223372036854775807 < (aheadI src dst s.size).1.size + s.size) := by omega
  generalize (aheadI src dst s.size).1 = A1 at *
  generalize (aheadI src dst s.size).2 = A2 at *
  have B := Lib.hid (Box.start w #[.int .i64 0, .int .i64 0, .string ⟨#[]⟩, .int .i64 0, .bool false, .int .i64 0, .int .i64 0, .slice none 0 0, .slice none 0 0] 29)
  clear hq hb hb0 he hz s1 s2 s3 h8 VD V0
  go_enter Tryz.func7, Tryz.ntmps7
  go_wp2_with fail
  ((with_reducible refine (HP.out _).mono ?_); rintro e w1 ⟨rfl, h1⟩)
  replace B := Lib.hid (B.out.below h1)
  clear h1
  go_wp2_with fail
  ((with_reducible refine (HS.out _).mono ?_); rintro e w2 ⟨rfl, rfl⟩)
  go_wp2_with fail
  have Bd := Lib.hid (show Box w w1.drew _ _ from ⟨B.out.1, B.out.2.drew⟩)
  go_region_with (first
    | (go_at_call 19; refine (HA6.out _).mono ?_; rintro e w3 ⟨rfl, rfl⟩)
    | (go_at_call 18; refine (HX.out _).mono ?_; rintro e w4 ⟨vr, rfl, hvr, h2⟩; obtain ⟨p2, cp2, rfl⟩ := hvr.slice))
  all_goals
    have hlt := Bd.out.lt
    replace B := Lib.hid (Bd.out.below h2)
    have HR2 := Lib.hid (hvr.mono hlt id)
    clear hvr h2 hlt Bd
    have c0 := B.out.cell 0 rfl
    have f0 := B.out.free 0
    have c1 := B.out.cell 1 rfl
    have f1 := B.out.free 1
    have c2 := B.out.cell 2 rfl
    have f2 := B.out.free 2
    have c3 := B.out.cell 3 rfl
    have f3 := B.out.free 3
    have c4 := B.out.cell 4 rfl
    have f4 := B.out.free 4
    have c5 := B.out.cell 5 rfl
    have f5 := B.out.free 5
    have c6 := B.out.cell 6 rfl
    have f6 := B.out.free 6
    have c7 := B.out.cell 7 rfl
    have f7 := B.out.free 7
    have c8 := B.out.cell 8 rfl
    have f8 := B.out.free 8
    rcases hE with ⟨e0, e1⟩ | ⟨e0, e1⟩
    · subst e0
      have V2 := Lib.hid (V.out.trans (show repQ (0, rs) = (0, ⟨2, 2, ⟨#[]⟩, 0, false, 0, 0, [], rs⟩) from rfl))
      go_wp2_with fail
      refine bodyPost_ret (v := .tuple #[.agg #[.int .i64 2, .int .i64 2, .string ⟨#[]⟩, .int .i64 0, .bool false, .int .i64 0, .int .i64 0, .slice none 0 0, .slice p2 rs.length cp2], .int .i64 0]) (by simp [results, Tryz.results7, go_sem, c0, c1, c2, c3, c4, c5, c6, c7, c8]) rfl ?_
      unfold MsgPost
      rw [V2.out]
      exact ⟨_, _, rfl, AddrsG.nil _ _ _, HR2.out.storeN9 w.heap.size (Nat.lt_succ_self _), (((((((((B.out.2.setCell (p := ⟨w.heap.size, 0, none⟩) (Nat.le_refl _) _).setCell (p := ⟨w.heap.size, 1, none⟩) (Nat.le_refl _) _).setCell (p := ⟨w.heap.size, 2, none⟩) (Nat.le_refl _) _).setCell (p := ⟨w.heap.size, 3, none⟩) (Nat.le_refl _) _).setCell (p := ⟨w.heap.size, 4, none⟩) (Nat.le_refl _) _).setCell (p := ⟨w.heap.size, 5, none⟩) (Nat.le_refl _) _).setCell (p := ⟨w.heap.size, 6, none⟩) (Nat.le_refl _) _).setCell (p := ⟨w.heap.size, 7, none⟩) (Nat.le_refl _) _).setCell (p := ⟨w.heap.size, 8, none⟩) (Nat.le_refl _) _)⟩
    · have V2 := Lib.hid (V.out.trans (show repQ (E, rs) = (E, zeroM) from if_pos e0))
      go_wp2_with fail
      refine bodyPost_ret (v := .tuple #[.agg #[.int .i64 0, .int .i64 0, .string ⟨#[]⟩, .int .i64 0, .bool false, .int .i64 0, .int .i64 0, .slice none 0 0, .slice none 0 0], .int .i64 E]) (by simp [results, Tryz.results7, go_sem, c0, c1, c2, c3, c4, c5, c6, c7, c8]) rfl (MsgPost.bad V2.out rfl ?_)
      exact (((((((((B.out.2.setCell (p := ⟨w.heap.size, 0, none⟩) (Nat.le_refl _) _).setCell (p := ⟨w.heap.size, 1, none⟩) (Nat.le_refl _) _).setCell (p := ⟨w.heap.size, 2, none⟩) (Nat.le_refl _) _).setCell (p := ⟨w.heap.size, 3, none⟩) (Nat.le_refl _) _).setCell (p := ⟨w.heap.size, 4, none⟩) (Nat.le_refl _) _).setCell (p := ⟨w.heap.size, 5, none⟩) (Nat.le_refl _) _).setCell (p := ⟨w.heap.size, 6, none⟩) (Nat.le_refl _) _).setCell (p := ⟨w.heap.size, 7, none⟩) (Nat.le_refl _) _).setCell (p := ⟨w.heap.size, 8, none⟩) (Nat.le_refl _) _)
set_option maxHeartbeats 2000000 in
set_option maxRecDepth 100000 in
theorem rdec9_r1 (src dst s : ByteArray) (w : World) (s1 : src.size = 16) (s2 : dst.size = 16) (s3 : s.size ≤ 65535) (h8 : 8 ≤ s.size) (hq : sumN ((aheadI src dst s.size).1 ++ s).data.toList = 0) (hb : byt s 0 = 131) :
    Calls Tryz.prog 7 #[.string src, .string dst, .string s] w (MsgPost (decD src dst s) w) := by
  have VD := Lib.hid (show decD src dst s = fixD (rdM s) by
    unfold decD
    rw [if_neg (by rw [ahead_yes9 s1 s2 (by omega) (by omega)]; simp), if_neg (by omega), if_neg (by rw [hq]; simp)])
  have HP := Lib.hid fun U => rpseudo_c src dst s.size 58 U
  rw [← ahead_r src dst s s1] at HP
  have hz := ahead_409 s1 s2 (show (0 : Int) ≤ (s.size : Int) by omega) (by omega)
  have he := ahead_yes9 s1 s2 (show (0 : Int) ≤ (s.size : Int) by omega) (by omega)
  obtain ⟨X, hX⟩ : ∃ X, (aheadI src dst s.size).1 ++ s = X := ⟨_, rfl⟩
  have HS := Lib.hid fun U => rsum_c X U (by rw [← hX, ByteArray.size_append]; omega)
  rw [hX] at hq
  rw [hq, show ((0 : Nat) : Int) = 0 from rfl] at HS
  have z0 : 0 < s.size := by omega
  have u0 : (0 : Int) < (s.size : Int) := by omega
  have hb0 : s[0].toNat = byt s 0 := byt_get s 0 z0
  have hfix : fixD (oneD s 2) = oneD s 2 := by
    unfold oneD fixD
    split
    · split <;> (try split) <;> simp_all
    · split <;> (try split) <;> simp_all
  have V0 := Lib.hid (VD.out.trans (show fixD (rdM s) = oneD s 2 by unfold rdM; rw [if_neg (by omega), if_pos hb, hfix]))
  obtain ⟨k1, l1⟩ := eq_t (show (s[0].toNat : Int) = 131 by omega)
  obtain ⟨k2, l2⟩ := ne_t (show (s[0].toNat : Int) ≠ 130 by omega)
  obtain ⟨k3, l3⟩ := ne_t (show (s[0].toNat : Int) ≠ 143 by omega)
  obtain ⟨k4, l4⟩ := ne_t (show (s[0].toNat : Int) ≠ 132 by omega)
  have HG := Lib.hid fun U => rgroup9_c (s.extract 8 24) U
  have hcase : (s.size < 24) ∨ (24 ≤ s.size) := by omega
  obtain ⟨a1, a2⟩ := eq_t (show (src.size : Int) = 16 by omega)
  obtain ⟨b1, b2⟩ := eq_t (show (dst.size : Int) = 16 by omega)
  have h3 : ¬ (65535 : Int) < (s.size : Int) := by omega
  have h8' : ¬ (s.size : Int) < 8 := by omega
  have hn : ¬ (9223372036854775807 < (aheadI src dst s.size).1.size + s.size) := by omega
  generalize (aheadI src dst s.size).1 = A1 at *
  generalize (aheadI src dst s.size).2 = A2 at *
  have B := Lib.hid (Box.start w #[.int .i64 0, .int .i64 0, .string ⟨#[]⟩, .int .i64 0, .bool false, .int .i64 0, .int .i64 0, .slice none 0 0, .slice none 0 0] 29)
  clear hq hb hb0 he hz s1 s2 s3 h8 VD hfix
  rcases hcase with hc | hc
  · have V := Lib.hid (V0.out.trans (show oneD s 2 = (2, zeroM) from if_pos hc))
    have hc' : (s.size : Int) < 24 := by omega
    clear hc V0 HG
    go_enter Tryz.func7, Tryz.ntmps7
    go_wp2_with fail
    ((with_reducible refine (HP.out _).mono ?_); rintro e w1 ⟨rfl, h1⟩)
    replace B := Lib.hid (B.out.below h1)
    clear h1
    go_wp2_with fail
    ((with_reducible refine (HS.out _).mono ?_); rintro e w2 ⟨rfl, rfl⟩)
    have c0 := B.out.cell 0 rfl
    have f0 := B.out.free 0
    have c1 := B.out.cell 1 rfl
    have f1 := B.out.free 1
    have c2 := B.out.cell 2 rfl
    have f2 := B.out.free 2
    have c3 := B.out.cell 3 rfl
    have f3 := B.out.free 3
    have c4 := B.out.cell 4 rfl
    have f4 := B.out.free 4
    have c5 := B.out.cell 5 rfl
    have f5 := B.out.free 5
    have c6 := B.out.cell 6 rfl
    have f6 := B.out.free 6
    have c7 := B.out.cell 7 rfl
    have f7 := B.out.free 7
    have c8 := B.out.cell 8 rfl
    have f8 := B.out.free 8
    go_wp2_with fail
    refine bodyPost_ret (v := .tuple #[.agg #[.int .i64 0, .int .i64 0, .string ⟨#[]⟩, .int .i64 0, .bool false, .int .i64 0, .int .i64 0, .slice none 0 0, .slice none 0 0], .int .i64 2]) (by simp [results, Tryz.results7, go_sem, c0, c1, c2, c3, c4, c5, c6, c7, c8]) rfl (MsgPost.bad V.out rfl ?_)
    exact (((((((((B.out.2.setCell (p := ⟨w.heap.size, 0, none⟩) (Nat.le_refl _) _).setCell (p := ⟨w.heap.size, 1, none⟩) (Nat.le_refl _) _).setCell (p := ⟨w.heap.size, 2, none⟩) (Nat.le_refl _) _).setCell (p := ⟨w.heap.size, 3, none⟩) (Nat.le_refl _) _).setCell (p := ⟨w.heap.size, 4, none⟩) (Nat.le_refl _) _).setCell (p := ⟨w.heap.size, 5, none⟩) (Nat.le_refl _) _).setCell (p := ⟨w.heap.size, 6, none⟩) (Nat.le_refl _) _).setCell (p := ⟨w.heap.size, 7, none⟩) (Nat.le_refl _) _).setCell (p := ⟨w.heap.size, 8, none⟩) (Nat.le_refl _) _)
  · have V1 := Lib.hid (V0.out.trans (show oneD s 2 = if grpB (s.extract 8 24) 16 then (0, ⟨2, 1, s.extract 8 24, 0, false, 0, 0, [], []⟩) else (3, zeroM) from if_neg (by omega)))
    have hc' : (24 : Int) ≤ (s.size : Int) := by omega
    have hc2 : ¬ (s.size : Int) < 24 := by omega
    clear hc V0
    obtain ⟨g, hgg⟩ : ∃ g, s.extract 8 24 = g := ⟨_, rfl⟩
    rw [hgg] at HG V1
    generalize grpB g 16 = gb at *
    cases gb
    all_goals
      go_enter Tryz.func7, Tryz.ntmps7
      go_wp2_with fail
      ((with_reducible refine (HP.out _).mono ?_); rintro e w1 ⟨rfl, h1⟩)
      replace B := Lib.hid (B.out.below h1)
      clear h1
      go_wp2_with fail
      ((with_reducible refine (HS.out _).mono ?_); rintro e w2 ⟨rfl, rfl⟩)
      go_wp2_with fail
      ((with_reducible refine (HG.out _).mono ?_); rintro e w3 ⟨rfl, rfl⟩)
    · have V := Lib.hid (show decD src dst s = (3, zeroM) from V1.out)
      replace B := Lib.hid (B.out.below ((Below.refl _ w1).alloc (Nat.le_refl _) (.cells #[.int .i64 2, .int .i64 1, .string g, .int .i64 0, .bool false, .int .i64 0, .int .i64 0, .slice none 0 0, .slice none 0 0] 29)))
      have c0 := B.out.cell 0 rfl
      have f0 := B.out.free 0
      have c1 := B.out.cell 1 rfl
      have f1 := B.out.free 1
      have c2 := B.out.cell 2 rfl
      have f2 := B.out.free 2
      have c3 := B.out.cell 3 rfl
      have f3 := B.out.free 3
      have c4 := B.out.cell 4 rfl
      have f4 := B.out.free 4
      have c5 := B.out.cell 5 rfl
      have f5 := B.out.free 5
      have c6 := B.out.cell 6 rfl
      have f6 := B.out.free 6
      have c7 := B.out.cell 7 rfl
      have f7 := B.out.free 7
      have c8 := B.out.cell 8 rfl
      have f8 := B.out.free 8
      go_wp2_with fail
      refine bodyPost_ret (v := .tuple #[.agg #[.int .i64 0, .int .i64 0, .string ⟨#[]⟩, .int .i64 0, .bool false, .int .i64 0, .int .i64 0, .slice none 0 0, .slice none 0 0], .int .i64 3]) (by simp [results, Tryz.results7, go_sem, c0, c1, c2, c3, c4, c5, c6, c7, c8]) rfl (MsgPost.bad V.out rfl ?_)
      exact (((((((((B.out.2.setCell (p := ⟨w.heap.size, 0, none⟩) (Nat.le_refl _) _).setCell (p := ⟨w.heap.size, 1, none⟩) (Nat.le_refl _) _).setCell (p := ⟨w.heap.size, 2, none⟩) (Nat.le_refl _) _).setCell (p := ⟨w.heap.size, 3, none⟩) (Nat.le_refl _) _).setCell (p := ⟨w.heap.size, 4, none⟩) (Nat.le_refl _) _).setCell (p := ⟨w.heap.size, 5, none⟩) (Nat.le_refl _) _).setCell (p := ⟨w.heap.size, 6, none⟩) (Nat.le_refl _) _).setCell (p := ⟨w.heap.size, 7, none⟩) (Nat.le_refl _) _).setCell (p := ⟨w.heap.size, 8, none⟩) (Nat.le_refl _) _)
    · have V := Lib.hid (show decD src dst s = (0, ⟨2, 1, g, 0, false, 0, 0, [], []⟩) from V1.out)
      replace B := Lib.hid (B.out.below ((Below.refl _ w1).alloc (Nat.le_refl _) (.cells #[.int .i64 2, .int .i64 1, .string g, .int .i64 0, .bool false, .int .i64 0, .int .i64 0, .slice none 0 0, .slice none 0 0] 29)))
      have c0 := B.out.cell 0 rfl
      have f0 := B.out.free 0
      have c1 := B.out.cell 1 rfl
      have f1 := B.out.free 1
      have c2 := B.out.cell 2 rfl
      have f2 := B.out.free 2
      have c3 := B.out.cell 3 rfl
      have f3 := B.out.free 3
      have c4 := B.out.cell 4 rfl
      have f4 := B.out.free 4
      have c5 := B.out.cell 5 rfl
      have f5 := B.out.free 5
      have c6 := B.out.cell 6 rfl
      have f6 := B.out.free 6
      have c7 := B.out.cell 7 rfl
      have f7 := B.out.free 7
      have c8 := B.out.cell 8 rfl
      have f8 := B.out.free 8
      go_wp2_with fail
      refine bodyPost_ret (v := .tuple #[.agg #[.int .i64 2, .int .i64 1, .string g, .int .i64 0, .bool false, .int .i64 0, .int .i64 0, .slice none 0 0, .slice none 0 0], .int .i64 0]) (by simp [results, Tryz.results7, go_sem, c0, c1, c2, c3, c4, c5, c6, c7, c8]) rfl ?_
      unfold MsgPost
      rw [V.out]
      exact ⟨_, _, rfl, AddrsG.nil _ _ _, RecsG.nil _ _ _, (((((((((B.out.2.setCell (p := ⟨w.heap.size, 0, none⟩) (Nat.le_refl _) _).setCell (p := ⟨w.heap.size, 1, none⟩) (Nat.le_refl _) _).setCell (p := ⟨w.heap.size, 2, none⟩) (Nat.le_refl _) _).setCell (p := ⟨w.heap.size, 3, none⟩) (Nat.le_refl _) _).setCell (p := ⟨w.heap.size, 4, none⟩) (Nat.le_refl _) _).setCell (p := ⟨w.heap.size, 5, none⟩) (Nat.le_refl _) _).setCell (p := ⟨w.heap.size, 6, none⟩) (Nat.le_refl _) _).setCell (p := ⟨w.heap.size, 7, none⟩) (Nat.le_refl _) _).setCell (p := ⟨w.heap.size, 8, none⟩) (Nat.le_refl _) _)⟩
set_option maxHeartbeats 2000000 in
set_option maxRecDepth 100000 in
theorem rdec9_lv (src dst s : ByteArray) (w : World) (s1 : src.size = 16) (s2 : dst.size = 16) (s3 : s.size ≤ 65535) (h8 : 8 ≤ s.size) (hq : sumN ((aheadI src dst s.size).1 ++ s).data.toList = 0) (hb : byt s 0 = 132) :
    Calls Tryz.prog 7 #[.string src, .string dst, .string s] w (MsgPost (decD src dst s) w) := by
  have VD := Lib.hid (show decD src dst s = fixD (rdM s) by
    unfold decD
    rw [if_neg (by rw [ahead_yes9 s1 s2 (by omega) (by omega)]; simp), if_neg (by omega), if_neg (by rw [hq]; simp)])
  have HP := Lib.hid fun U => rpseudo_c src dst s.size 58 U
  rw [← ahead_r src dst s s1] at HP
  have hz := ahead_409 s1 s2 (show (0 : Int) ≤ (s.size : Int) by omega) (by omega)
  have he := ahead_yes9 s1 s2 (show (0 : Int) ≤ (s.size : Int) by omega) (by omega)
  obtain ⟨X, hX⟩ : ∃ X, (aheadI src dst s.size).1 ++ s = X := ⟨_, rfl⟩
  have HS := Lib.hid fun U => rsum_c X U (by rw [← hX, ByteArray.size_append]; omega)
  rw [hX] at hq
  rw [hq, show ((0 : Nat) : Int) = 0 from rfl] at HS
  have z0 : 0 < s.size := by omega
  have u0 : (0 : Int) < (s.size : Int) := by omega
  have hb0 : s[0].toNat = byt s 0 := byt_get s 0 z0
  have hfix : fixD (oneD s 3) = oneD s 3 := by
    unfold oneD fixD
    split
    · split <;> (try split) <;> simp_all
    · split <;> (try split) <;> simp_all
  have V0 := Lib.hid (VD.out.trans (show fixD (rdM s) = oneD s 3 by unfold rdM; rw [if_neg (by omega), if_neg (by omega), if_pos hb, hfix]))
  obtain ⟨k1, l1⟩ := eq_t (show (s[0].toNat : Int) = 132 by omega)
  obtain ⟨k2, l2⟩ := ne_t (show (s[0].toNat : Int) ≠ 130 by omega)
  obtain ⟨k3, l3⟩ := ne_t (show (s[0].toNat : Int) ≠ 143 by omega)
  obtain ⟨k4, l4⟩ := ne_t (show (s[0].toNat : Int) ≠ 131 by omega)
  have HG := Lib.hid fun U => rgroup9_c (s.extract 8 24) U
  have hcase : (s.size < 24) ∨ (24 ≤ s.size) := by omega
  obtain ⟨a1, a2⟩ := eq_t (show (src.size : Int) = 16 by omega)
  obtain ⟨b1, b2⟩ := eq_t (show (dst.size : Int) = 16 by omega)
  have h3 : ¬ (65535 : Int) < (s.size : Int) := by omega
  have h8' : ¬ (s.size : Int) < 8 := by omega
  have hn : ¬ (9223372036854775807 < (aheadI src dst s.size).1.size + s.size) := by omega
  generalize (aheadI src dst s.size).1 = A1 at *
  generalize (aheadI src dst s.size).2 = A2 at *
  have B := Lib.hid (Box.start w #[.int .i64 0, .int .i64 0, .string ⟨#[]⟩, .int .i64 0, .bool false, .int .i64 0, .int .i64 0, .slice none 0 0, .slice none 0 0] 29)
  clear hq hb hb0 he hz s1 s2 s3 h8 VD hfix
  rcases hcase with hc | hc
  · have V := Lib.hid (V0.out.trans (show oneD s 3 = (2, zeroM) from if_pos hc))
    have hc' : (s.size : Int) < 24 := by omega
    clear hc V0 HG
    go_enter Tryz.func7, Tryz.ntmps7
    go_wp2_with fail
    ((with_reducible refine (HP.out _).mono ?_); rintro e w1 ⟨rfl, h1⟩)
    replace B := Lib.hid (B.out.below h1)
    clear h1
    go_wp2_with fail
    ((with_reducible refine (HS.out _).mono ?_); rintro e w2 ⟨rfl, rfl⟩)
    have c0 := B.out.cell 0 rfl
    have f0 := B.out.free 0
    have c1 := B.out.cell 1 rfl
    have f1 := B.out.free 1
    have c2 := B.out.cell 2 rfl
    have f2 := B.out.free 2
    have c3 := B.out.cell 3 rfl
    have f3 := B.out.free 3
    have c4 := B.out.cell 4 rfl
    have f4 := B.out.free 4
    have c5 := B.out.cell 5 rfl
    have f5 := B.out.free 5
    have c6 := B.out.cell 6 rfl
    have f6 := B.out.free 6
    have c7 := B.out.cell 7 rfl
    have f7 := B.out.free 7
    have c8 := B.out.cell 8 rfl
    have f8 := B.out.free 8
    go_wp2_with fail
    refine bodyPost_ret (v := .tuple #[.agg #[.int .i64 0, .int .i64 0, .string ⟨#[]⟩, .int .i64 0, .bool false, .int .i64 0, .int .i64 0, .slice none 0 0, .slice none 0 0], .int .i64 2]) (by simp [results, Tryz.results7, go_sem, c0, c1, c2, c3, c4, c5, c6, c7, c8]) rfl (MsgPost.bad V.out rfl ?_)
    exact (((((((((B.out.2.setCell (p := ⟨w.heap.size, 0, none⟩) (Nat.le_refl _) _).setCell (p := ⟨w.heap.size, 1, none⟩) (Nat.le_refl _) _).setCell (p := ⟨w.heap.size, 2, none⟩) (Nat.le_refl _) _).setCell (p := ⟨w.heap.size, 3, none⟩) (Nat.le_refl _) _).setCell (p := ⟨w.heap.size, 4, none⟩) (Nat.le_refl _) _).setCell (p := ⟨w.heap.size, 5, none⟩) (Nat.le_refl _) _).setCell (p := ⟨w.heap.size, 6, none⟩) (Nat.le_refl _) _).setCell (p := ⟨w.heap.size, 7, none⟩) (Nat.le_refl _) _).setCell (p := ⟨w.heap.size, 8, none⟩) (Nat.le_refl _) _)
  · have V1 := Lib.hid (V0.out.trans (show oneD s 3 = if grpB (s.extract 8 24) 16 then (0, ⟨3, 1, s.extract 8 24, 0, false, 0, 0, [], []⟩) else (3, zeroM) from if_neg (by omega)))
    have hc' : (24 : Int) ≤ (s.size : Int) := by omega
    have hc2 : ¬ (s.size : Int) < 24 := by omega
    clear hc V0
    obtain ⟨g, hgg⟩ : ∃ g, s.extract 8 24 = g := ⟨_, rfl⟩
    rw [hgg] at HG V1
    generalize grpB g 16 = gb at *
    cases gb
    all_goals
      go_enter Tryz.func7, Tryz.ntmps7
      go_wp2_with fail
      ((with_reducible refine (HP.out _).mono ?_); rintro e w1 ⟨rfl, h1⟩)
      replace B := Lib.hid (B.out.below h1)
      clear h1
      go_wp2_with fail
      ((with_reducible refine (HS.out _).mono ?_); rintro e w2 ⟨rfl, rfl⟩)
      go_wp2_with fail
      ((with_reducible refine (HG.out _).mono ?_); rintro e w3 ⟨rfl, rfl⟩)
    · have V := Lib.hid (show decD src dst s = (3, zeroM) from V1.out)
      replace B := Lib.hid (B.out.below ((Below.refl _ w1).alloc (Nat.le_refl _) (.cells #[.int .i64 3, .int .i64 1, .string g, .int .i64 0, .bool false, .int .i64 0, .int .i64 0, .slice none 0 0, .slice none 0 0] 29)))
      have c0 := B.out.cell 0 rfl
      have f0 := B.out.free 0
      have c1 := B.out.cell 1 rfl
      have f1 := B.out.free 1
      have c2 := B.out.cell 2 rfl
      have f2 := B.out.free 2
      have c3 := B.out.cell 3 rfl
      have f3 := B.out.free 3
      have c4 := B.out.cell 4 rfl
      have f4 := B.out.free 4
      have c5 := B.out.cell 5 rfl
      have f5 := B.out.free 5
      have c6 := B.out.cell 6 rfl
      have f6 := B.out.free 6
      have c7 := B.out.cell 7 rfl
      have f7 := B.out.free 7
      have c8 := B.out.cell 8 rfl
      have f8 := B.out.free 8
      go_wp2_with fail
      refine bodyPost_ret (v := .tuple #[.agg #[.int .i64 0, .int .i64 0, .string ⟨#[]⟩, .int .i64 0, .bool false, .int .i64 0, .int .i64 0, .slice none 0 0, .slice none 0 0], .int .i64 3]) (by simp [results, Tryz.results7, go_sem, c0, c1, c2, c3, c4, c5, c6, c7, c8]) rfl (MsgPost.bad V.out rfl ?_)
      exact (((((((((B.out.2.setCell (p := ⟨w.heap.size, 0, none⟩) (Nat.le_refl _) _).setCell (p := ⟨w.heap.size, 1, none⟩) (Nat.le_refl _) _).setCell (p := ⟨w.heap.size, 2, none⟩) (Nat.le_refl _) _).setCell (p := ⟨w.heap.size, 3, none⟩) (Nat.le_refl _) _).setCell (p := ⟨w.heap.size, 4, none⟩) (Nat.le_refl _) _).setCell (p := ⟨w.heap.size, 5, none⟩) (Nat.le_refl _) _).setCell (p := ⟨w.heap.size, 6, none⟩) (Nat.le_refl _) _).setCell (p := ⟨w.heap.size, 7, none⟩) (Nat.le_refl _) _).setCell (p := ⟨w.heap.size, 8, none⟩) (Nat.le_refl _) _)
    · have V := Lib.hid (show decD src dst s = (0, ⟨3, 1, g, 0, false, 0, 0, [], []⟩) from V1.out)
      replace B := Lib.hid (B.out.below ((Below.refl _ w1).alloc (Nat.le_refl _) (.cells #[.int .i64 3, .int .i64 1, .string g, .int .i64 0, .bool false, .int .i64 0, .int .i64 0, .slice none 0 0, .slice none 0 0] 29)))
      have c0 := B.out.cell 0 rfl
      have f0 := B.out.free 0
      have c1 := B.out.cell 1 rfl
      have f1 := B.out.free 1
      have c2 := B.out.cell 2 rfl
      have f2 := B.out.free 2
      have c3 := B.out.cell 3 rfl
      have f3 := B.out.free 3
      have c4 := B.out.cell 4 rfl
      have f4 := B.out.free 4
      have c5 := B.out.cell 5 rfl
      have f5 := B.out.free 5
      have c6 := B.out.cell 6 rfl
      have f6 := B.out.free 6
      have c7 := B.out.cell 7 rfl
      have f7 := B.out.free 7
      have c8 := B.out.cell 8 rfl
      have f8 := B.out.free 8
      go_wp2_with fail
      refine bodyPost_ret (v := .tuple #[.agg #[.int .i64 3, .int .i64 1, .string g, .int .i64 0, .bool false, .int .i64 0, .int .i64 0, .slice none 0 0, .slice none 0 0], .int .i64 0]) (by simp [results, Tryz.results7, go_sem, c0, c1, c2, c3, c4, c5, c6, c7, c8]) rfl ?_
      unfold MsgPost
      rw [V.out]
      exact ⟨_, _, rfl, AddrsG.nil _ _ _, RecsG.nil _ _ _, (((((((((B.out.2.setCell (p := ⟨w.heap.size, 0, none⟩) (Nat.le_refl _) _).setCell (p := ⟨w.heap.size, 1, none⟩) (Nat.le_refl _) _).setCell (p := ⟨w.heap.size, 2, none⟩) (Nat.le_refl _) _).setCell (p := ⟨w.heap.size, 3, none⟩) (Nat.le_refl _) _).setCell (p := ⟨w.heap.size, 4, none⟩) (Nat.le_refl _) _).setCell (p := ⟨w.heap.size, 5, none⟩) (Nat.le_refl _) _).setCell (p := ⟨w.heap.size, 6, none⟩) (Nat.le_refl _) _).setCell (p := ⟨w.heap.size, 7, none⟩) (Nat.le_refl _) _).setCell (p := ⟨w.heap.size, 8, none⟩) (Nat.le_refl _) _)⟩
set_option maxHeartbeats 2000000 in
set_option maxRecDepth 100000 in
theorem rdec9_other (src dst s : ByteArray) (w : World) (s1 : src.size = 16) (s2 : dst.size = 16) (s3 : s.size ≤ 65535) (h8 : 8 ≤ s.size) (hq : sumN ((aheadI src dst s.size).1 ++ s).data.toList = 0) (n1 : byt s 0 ≠ 130) (n2 : byt s 0 ≠ 131) (n3 : byt s 0 ≠ 132) (n4 : byt s 0 ≠ 143) :
    Calls Tryz.prog 7 #[.string src, .string dst, .string s] w (MsgPost (decD src dst s) w) := by
  have VD := Lib.hid (show decD src dst s = fixD (rdM s) by
    unfold decD
    rw [if_neg (by rw [ahead_yes9 s1 s2 (by omega) (by omega)]; simp), if_neg (by omega), if_neg (by rw [hq]; simp)])
  have HP := Lib.hid fun U => rpseudo_c src dst s.size 58 U
  rw [← ahead_r src dst s s1] at HP
  have hz := ahead_409 s1 s2 (show (0 : Int) ≤ (s.size : Int) by omega) (by omega)
  have he := ahead_yes9 s1 s2 (show (0 : Int) ≤ (s.size : Int) by omega) (by omega)
  obtain ⟨X, hX⟩ : ∃ X, (aheadI src dst s.size).1 ++ s = X := ⟨_, rfl⟩
  have HS := Lib.hid fun U => rsum_c X U (by rw [← hX, ByteArray.size_append]; omega)
  rw [hX] at hq
  rw [hq, show ((0 : Nat) : Int) = 0 from rfl] at HS
  have z0 : 0 < s.size := by omega
  have u0 : (0 : Int) < (s.size : Int) := by omega
  have hb0 : s[0].toNat = byt s 0 := byt_get s 0 z0
  have V := Lib.hid (VD.out.trans (show fixD (rdM s) = (3, zeroM) by unfold rdM; rw [if_neg n1, if_neg n2, if_neg n3, if_neg n4]; rfl))
  obtain ⟨k1, l1⟩ := ne_t (show (s[0].toNat : Int) ≠ 130 by omega)
  obtain ⟨k2, l2⟩ := ne_t (show (s[0].toNat : Int) ≠ 131 by omega)
  obtain ⟨k3, l3⟩ := ne_t (show (s[0].toNat : Int) ≠ 132 by omega)
  obtain ⟨k4, l4⟩ := ne_t (show (s[0].toNat : Int) ≠ 143 by omega)
  obtain ⟨a1, a2⟩ := eq_t (show (src.size : Int) = 16 by omega)
  obtain ⟨b1, b2⟩ := eq_t (show (dst.size : Int) = 16 by omega)
  have h3 : ¬ (65535 : Int) < (s.size : Int) := by omega
  have h8' : ¬ (s.size : Int) < 8 := by omega
  have hn : ¬ (9223372036854775807 < (aheadI src dst s.size).1.size + s.size) := by omega
  generalize (aheadI src dst s.size).1 = A1 at *
  generalize (aheadI src dst s.size).2 = A2 at *
  have B := Lib.hid (Box.start w #[.int .i64 0, .int .i64 0, .string ⟨#[]⟩, .int .i64 0, .bool false, .int .i64 0, .int .i64 0, .slice none 0 0, .slice none 0 0] 29)
  clear hq hb0 he hz s1 s2 s3 h8 VD n1 n2 n3 n4
  go_enter Tryz.func7, Tryz.ntmps7
  go_wp2_with fail
  ((with_reducible refine (HP.out _).mono ?_); rintro e w1 ⟨rfl, h1⟩)
  replace B := Lib.hid (B.out.below h1)
  clear h1
  go_wp2_with fail
  ((with_reducible refine (HS.out _).mono ?_); rintro e w2 ⟨rfl, rfl⟩)
  have c0 := B.out.cell 0 rfl
  have f0 := B.out.free 0
  have c1 := B.out.cell 1 rfl
  have f1 := B.out.free 1
  have c2 := B.out.cell 2 rfl
  have f2 := B.out.free 2
  have c3 := B.out.cell 3 rfl
  have f3 := B.out.free 3
  have c4 := B.out.cell 4 rfl
  have f4 := B.out.free 4
  have c5 := B.out.cell 5 rfl
  have f5 := B.out.free 5
  have c6 := B.out.cell 6 rfl
  have f6 := B.out.free 6
  have c7 := B.out.cell 7 rfl
  have f7 := B.out.free 7
  have c8 := B.out.cell 8 rfl
  have f8 := B.out.free 8
  go_wp2_with fail
  refine bodyPost_ret (v := .tuple #[.agg #[.int .i64 0, .int .i64 0, .string ⟨#[]⟩, .int .i64 0, .bool false, .int .i64 0, .int .i64 0, .slice none 0 0, .slice none 0 0], .int .i64 3]) (by simp [results, Tryz.results7, go_sem, c0, c1, c2, c3, c4, c5, c6, c7, c8]) rfl (MsgPost.bad V.out rfl ?_)
  exact (((((((((B.out.2.setCell (p := ⟨w.heap.size, 0, none⟩) (Nat.le_refl _) _).setCell (p := ⟨w.heap.size, 1, none⟩) (Nat.le_refl _) _).setCell (p := ⟨w.heap.size, 2, none⟩) (Nat.le_refl _) _).setCell (p := ⟨w.heap.size, 3, none⟩) (Nat.le_refl _) _).setCell (p := ⟨w.heap.size, 4, none⟩) (Nat.le_refl _) _).setCell (p := ⟨w.heap.size, 5, none⟩) (Nat.le_refl _) _).setCell (p := ⟨w.heap.size, 6, none⟩) (Nat.le_refl _) _).setCell (p := ⟨w.heap.size, 7, none⟩) (Nat.le_refl _) _).setCell (p := ⟨w.heap.size, 8, none⟩) (Nat.le_refl _) _)

theorem rdec9_c (src dst s : ByteArray) (w : World) (hs : s.size ≤ 281474976710000) :
    Calls Tryz.prog 7 #[.string src, .string dst, .string s] w (MsgPost (decD src dst s) w) := by
  by_cases ha : src.size ≠ 16 ∨ dst.size ≠ 16 ∨ 65535 < s.size
  · exact rdec9_arg src dst s w hs ha
  · have s1 : src.size = 16 := by omega
    have s2 : dst.size = 16 := by omega
    have s3 : s.size ≤ 65535 := by omega
    by_cases h8 : s.size < 8
    · exact rdec9_cut src dst s w s1 s2 s3 h8
    · by_cases hq : sumN ((aheadI src dst s.size).1 ++ s).data.toList = 0
      · by_cases n1 : byt s 0 = 130
        · exact rdec9_query src dst s w s1 s2 s3 (by omega) hq n1
        · by_cases n2 : byt s 0 = 131
          · exact rdec9_r1 src dst s w s1 s2 s3 (by omega) hq n2
          · by_cases n3 : byt s 0 = 132
            · exact rdec9_lv src dst s w s1 s2 s3 (by omega) hq n3
            · by_cases n4 : byt s 0 = 143
              · exact rdec9_rep src dst s w s1 s2 s3 (by omega) hq n4
              · exact rdec9_other src dst s w s1 s2 s3 (by omega) hq n1 n2 n3 n4
      · exact rdec9_sum src dst s w s1 s2 s3 (by omega) hq

end Go.Proofs.YtnfngmclomjimaaGreat
