/-
  Group messages of IPv4 there and back: what Encode answers at every message (encM), and that its bytes hold the message.
-/
import Derived.Test.YtfdiaaggmjlkbaaIgUV
import Derived.Test.YtfdiaaggmjlkbaaIgQ
import Derived.Test.YtfdiaaggmjlkbaaSame
namespace Go.Proofs.Ytfdiaaggmjlkbaa
open Go.RowKit
set_option linter.unusedVariables false

def mayM (m : Msg) : Bool :=
  if m.kind = 1 then mayQB m.version m.group m.max m.quiet m.robust m.every m.srcs m.recs.length
  else if m.kind = 2 ∧ m.version = 3 then mayRepB m.group m.max m.quiet m.robust m.every m.srcs.length m.recs
  else if m.kind = 2 ∨ m.kind = 3 then mayOneB m.kind m.version m.group m.max m.quiet m.robust m.every m.srcs.length m.recs.length
  else false
def msgL (m : Msg) : List UInt8 :=
  if m.kind = 1 then qryL m.version m.group m.max m.quiet m.robust m.every m.srcs
  else if m.kind = 2 ∧ m.version = 3 then repL m.recs
  else oneL (oneB m.kind m.version).1.toNat m.group
/-- What Encode answers. -/
def encM (m : Msg) : ByteArray × Int := if mayM m then ((fillSpec ⟨#[]⟩ ⟨(msgL m).toArray⟩ 2).1, 0) else (⟨#[]⟩, 1)

theorem det_parts {q : Bool} {rob ev : Int} {ns : Nat} (h : detB q rob ev ns = false) : q = false ∧ rob = 0 ∧ ev = 0 ∧ ns = 0 := det_parts' h
theorem one_parts {k v : Int} {g : ByteArray} {mx : Int} {q : Bool} {rob ev : Int} {ns nr : Nat} (h : mayOneB k v g mx q rob ev ns nr = true) :
    ∃ c : Nat, oneB k v = ((c : Int), true) ∧ c < 256 ∧ (v = 1 ∨ v = 2) ∧ grpB g 4 = true ∧ nr = 0 ∧ mx = 0 ∧ q = false ∧ rob = 0 ∧ ev = 0 ∧ ns = 0 := by
  unfold mayOneB tellB at h
  simp only [Bool.and_eq_true, Bool.not_eq_true', decide_eq_true_iff] at h
  obtain ⟨⟨h1, h2⟩, ⟨h3, h4⟩, h5⟩ := h
  obtain ⟨d1, d2, d3, d4⟩ := det_parts h2
  have hc : ∃ c : Nat, oneB k v = ((c : Int), true) ∧ c < 256 ∧ (v = 1 ∨ v = 2) := by
    unfold oneB at h3 ⊢
    split at h3
    · next hk => rw [if_pos hk]; exact ⟨18, rfl, by omega, by omega⟩
    · next hk =>
      rw [if_neg hk]
      split at h3
      · next hk2 => rw [if_pos hk2]; exact ⟨22, rfl, by omega, by omega⟩
      · next hk2 =>
        rw [if_neg hk2]
        split at h3
        · next hk3 => rw [if_pos hk3]; exact ⟨23, rfl, by omega, by omega⟩
        · exact absurd h3 (by simp)
  obtain ⟨c, c1, c2, c3⟩ := hc
  exact ⟨c, c1, c2, c3, h4, h5, h1, d1, d2, d3, d4⟩
theorem rep_parts {g : ByteArray} {mx : Int} {q : Bool} {rob ev : Int} {ns : Nat} {L : List Rec} (h : mayRepB g mx q rob ev ns L = true) :
    g = ⟨#[]⟩ ∧ (bodyI L 4).1 = 0 ∧ mx = 0 ∧ q = false ∧ rob = 0 ∧ ev = 0 ∧ ns = 0 := by
  unfold mayRepB tellRB at h
  simp only [Bool.and_eq_true, Bool.not_eq_true', decide_eq_true_iff] at h
  obtain ⟨⟨h1, h2⟩, h3, h4⟩ := h
  obtain ⟨d1, d2, d3, d4⟩ := det_parts h2
  exact ⟨bytes_empty h3, h4, h1, d1, d2, d3, d4⟩

set_option maxHeartbeats 1000000 in
set_option maxRecDepth 100000 in
theorem ienc_no2 (k v : Int) (g : ByteArray) (mx : Int) (q : Bool) (rob ev : Int) (ps : Option Addr) (ns cs : Nat) (pr : Option Addr) (nr cr : Nat) (w : World) (hm : ∀ U, Below w.heap.size w U → Calls Try.prog 11 #[.agg #[.int .i64 k, .int .i64 v, .string g, .int .i64 mx, .bool q, .int .i64 rob, .int .i64 ev, .slice ps ns cs, .slice pr nr cr]] U fun e w' => e = .returned (.bool false) ∧ Below U.heap.size U w') :
    Calls Try.prog 7 #[.agg #[.int .i64 k, .int .i64 v, .string g, .int .i64 mx, .bool q, .int .i64 rob, .int .i64 ev, .slice ps ns cs, .slice pr nr cr]] w fun e w' => e = .returned (.tuple #[.string ⟨#[]⟩, .int .i64 1]) ∧ Below w.heap.size w w' := by
  have HM := Lib.hid hm
  have B0 := Lib.hid (Box.start w #[.int .i64 k, .int .i64 v, .string g, .int .i64 mx, .bool q, .int .i64 rob, .int .i64 ev, .slice ps ns cs, .slice pr nr cr] 26)
  clear hm
  go_enter Try.func7, Try.ntmps7
  go_wp2_with fail
  have D1 := B0.out.2
  ((with_reducible refine (HM.out _ D1).mono ?_); rintro e w1 ⟨rfl, h1⟩)
  have B := Lib.hid (B0.out.below h1)
  clear h1
  go_wp2_with fail
  go_ret2
  exact ⟨rfl, B.out.2⟩

/-- Encode, at every message. -/
theorem ienc_c (m : Msg) (vs vr : Value) (w : World) (hmx : m.max ≤ 9223372036854775807) (hev : m.every ≤ 9223372036854775807) (hl : m.srcs.length ≤ 9223372036854775807) (hr : m.recs.length ≤ 9223372036854775807) (hs : ∀ r ∈ m.recs, r.srcs.length ≤ 9223372036854775807) (ha : AddrsAt w vs m.srcs) (hb : RecsAt w vr m.recs) :
    Calls Try.prog 7 #[m.val vs vr] w fun e w' => e = .returned (.tuple #[.string (encM m).1, .int .i64 (encM m).2]) ∧ Below w.heap.size w w' := by
  obtain ⟨k, v, g, mx, q, rob, ev, ss, L⟩ := m
  simp only [Msg.val] at *
  obtain ⟨p7, c7, rfl⟩ := ha.slice
  obtain ⟨p8, c8, rfl⟩ := hb.slice
  unfold encM mayM msgL
  simp only
  by_cases h1 : k = 1
  · subst h1
    have e1 : (1 : Int) = 1 := rfl
    rw [if_pos e1, if_pos e1]
    rcases hm : mayQB v g mx q rob ev ss L.length with _ | _
    · rw [if_neg (by simp)]
      refine ienc_no2 1 v g mx q rob ev p7 _ c7 p8 _ c8 w fun U k => ?_
      have := may_query v g mx q rob ev (.slice p7 ss.length c7) ss p8 L.length c8 U hmx hev hl (ha.below k)
      rw [hm] at this
      exact this
    · rw [if_pos rfl]
      exact ienc_qry v g mx q rob ev _ ss p8 L.length c8 w hmx hev hl ha hm
  · rw [if_neg h1, if_neg h1]
    by_cases h2 : k = 2 ∧ v = 3
    · obtain ⟨rfl, rfl⟩ := h2
      have e1 : (2 : Int) = 2 ∧ (3 : Int) = 3 := ⟨rfl, rfl⟩
      rw [if_pos e1, if_pos e1]
      rcases hm : mayRepB g mx q rob ev ss.length L with _ | _
      · rw [if_neg (by simp)]
        refine ienc_no2 2 3 g mx q rob ev p7 _ c7 p8 _ c8 w fun U k => ?_
        have := may_rep g mx q rob ev p7 ss.length c7 (.slice p8 L.length c8) L U hr hs (hb.below k)
        rw [hm] at this
        exact this
      · rw [if_pos rfl]
        exact ienc_rep g mx q rob ev p7 _ c7 _ L w hs hb hm
    · rw [if_neg h2, if_neg h2]
      by_cases h3 : k = 2 ∨ k = 3
      · rw [if_pos h3]
        rcases hm : mayOneB k v g mx q rob ev ss.length L.length with _ | _
        · rw [if_neg (by simp)]
          refine ienc_no2 k v g mx q rob ev p7 _ c7 p8 _ c8 w fun U k' => ?_
          have := may_one k v g mx q rob ev p7 ss.length c7 p8 L.length c8 U h2 h3
          rw [hm] at this
          exact this
        · rw [if_pos rfl]
          obtain ⟨c, hc, hc2, hv, hg, -⟩ := one_parts hm
          have hgz : g.size = 4 := by
            unfold grpB at hg
            rw [Bool.and_eq_true, decide_eq_true_iff] at hg
            omega
          rw [hc]
          simp only [Int.toNat_natCast]
          exact ienc_one k v g mx q rob ev p7 _ c7 p8 _ c8 c w h2 h3 hv hm hc hc2 hgz
      · rw [if_neg h3, if_neg (by simp)]
        exact ienc_no2 k v g mx q rob ev p7 _ c7 p8 _ c8 w fun U k' => may_none k v g mx q rob ev p7 _ c7 p8 _ c8 U h1 (by omega) (by omega)

/-- The sum put into bytes whose sum's place is 0. -/
theorem summed (a R : List UInt8) (X : ByteArray) (ha : a.length = 2) (hX : X.data.toList = a ++ bytesOf 0 2 ++ R) :
    ∃ S, (fillSpec ⟨#[]⟩ X 2).1 = S ∧ S.size = 4 + R.length ∧ (∃ q, S.data.toList = a ++ bytesOf q 2 ++ R) ∧ sumN S.data.toList = 0 := by
  have zX : X.size = 4 + R.length := by rw [← vlen, hX]; simp only [List.length_append, bytesOf_length]; omega
  obtain ⟨q, hq⟩ := filled2 a (bytesOf 0 2) R ha (bytesOf_length _ _) X hX
  exact ⟨filled ⟨#[]⟩ X 2, by rw [fill2_spec X (by omega)], by rw [filled_size _ _ _ (by omega), zX], ⟨q, hq⟩, filled2_zero X (by omega)⟩

theorem by1 (M : Nat) (hM : M < 256) : bytesOf M 1 = [UInt8.ofNat M] ∧ (UInt8.ofNat M).toNat = M := ⟨by simp [bytesOf], by rw [UInt8.toNat_ofNat']; omega⟩
theorem byt_at (T : ByteArray) (a b : List UInt8) (i M : Nat) (h : T.data.toList = a ++ bytesOf M 1 ++ b) (ha : a.length = i) (hM : M < 256) : byt T i = M := by
  obtain ⟨e1, e2⟩ := by1 M hM
  unfold byt
  rw [h, e1, List.append_assoc, List.getD, List.getElem?_append_right (by omega), ha, Nat.sub_self]
  exact e2

theorem qgrp_at (T : ByteArray) (a b : List UInt8) (g : ByteArray) (n : Nat) (h : T.data.toList = a ++ grpL g ++ b) (ha : a.length = 4) (hg : qGrpB g n = true) : qGrp T = g := by
  have e : T.extract 4 8 = ⟨(grpL g).toArray⟩ := ext_mid T a (grpL g) b 4 8 h ha (by rw [(grp_len hg).1])
  unfold qGrp
  rw [e]
  unfold grpL
  by_cases hz : g.size = 0
  · rw [if_pos hz, if_pos (by rfl)]
    exact (bytes_empty hz).symm
  · rw [if_neg hz, if_neg, mk_of]
    rw [mk_of]
    rintro rfl
    exact absurd hg (by unfold qGrpB; rw [if_neg hz]; decide)

theorem dec_short (T : ByteArray) (M q : Nat) (g : ByteArray) (h : T.data.toList = bytesOf 17 1 ++ bytesOf M 1 ++ bytesOf q 2 ++ grpL g) (h0 : sumN T.data.toList = 0) (hM : M < 256) (hg : qGrpB g 0 = true) :
    decM T = (0, ⟨1, if M = 0 then 1 else 2, g, M, false, 0, 0, [], []⟩) := by
  obtain ⟨g1, g2, -⟩ := grp_len hg
  have zT : T.size = 8 := by rw [← vlen, h]; simp only [List.length_append, bytesOf_length]; omega
  have b0 := byt0 T 17 (bytesOf M 1 ++ bytesOf q 2 ++ grpL g) (by rw [h]; simp) (by omega)
  have b1 := byt_at T (bytesOf 17 1) (bytesOf q 2 ++ grpL g) 1 M (by rw [h]; simp) (bytesOf_length _ _) hM
  have hq := qgrp_at T (bytesOf 17 1 ++ bytesOf M 1 ++ bytesOf q 2) [] g 0 (by rw [h]; simp) (by simp only [List.length_append, bytesOf_length]) hg
  unfold decM
  rw [if_neg (by omega), if_neg (by rw [h0]; simp), if_pos b0]
  unfold queryI
  rw [if_pos (by omega), hq, if_pos hg, b1]

theorem flag_at : ∀ (q : Bool) (R : Fin 8), flagN q R.val < 256 ∧ decide (flagN q R.val / 8 % 2 = 1) = q ∧ flagN q R.val % 8 = R.val := by decide +kernel

theorem dec_long (T : ByteArray) (M q' : Nat) (g : ByteArray) (q : Bool) (R C : Nat) (mx ev : Int) (ss : List ByteArray) (h : T.data.toList = bytesOf 17 1 ++ bytesOf M 1 ++ bytesOf q' 2 ++ (grpL g ++ bytesOf (flagN q R) 1 ++ bytesOf C 1 ++ bytesOf ss.length 2 ++ flatL ss)) (h0 : sumN T.data.toList = 0) (hM : M < 256) (hR : R < 8) (hC : C < 256) (hm : decI 4 (M : Int) = (mx, 0)) (he : decI 4 (C : Int) = (ev, 0)) (hg : qGrpB g ss.length = true) (hs : srcsB ss 4 = true) :
    decM T = (0, ⟨1, 3, g, mx, q, R, ev, ss, []⟩) := by
  obtain ⟨g1, g2, -⟩ := grp_len hg
  obtain ⟨f1, f2⟩ := srcs_flat ss 4 hs (by omega)
  have hs4 : ∀ x ∈ ss, x.size = 4 := by
    unfold srcsB at hs
    rw [Bool.and_eq_true, List.all_eq_true] at hs
    intro x hx
    have := hs.1 x hx
    rw [decide_eq_true_iff] at this
    omega
  have fl := flat_len ss 4 hs4
  obtain ⟨r1, r2, r3⟩ := flag_at q ⟨R, hR⟩
  simp only at r1 r2 r3
  have zT : T.size = 12 + ss.length * 4 := by rw [← vlen, h]; simp only [List.length_append, bytesOf_length]; omega
  have b0 := byt0 T 17 (bytesOf M 1 ++ bytesOf q' 2 ++ (grpL g ++ bytesOf (flagN q R) 1 ++ bytesOf C 1 ++ bytesOf ss.length 2 ++ flatL ss)) (by rw [h]; simp) (by omega)
  have b1 := byt_at T (bytesOf 17 1) (bytesOf q' 2 ++ (grpL g ++ bytesOf (flagN q R) 1 ++ bytesOf C 1 ++ bytesOf ss.length 2 ++ flatL ss)) 1 M (by rw [h]; simp) (bytesOf_length _ _) hM
  have b8 := byt_at T (bytesOf 17 1 ++ bytesOf M 1 ++ bytesOf q' 2 ++ grpL g) (bytesOf C 1 ++ bytesOf ss.length 2 ++ flatL ss) 8 (flagN q R) (by rw [h]; simp) (by simp only [List.length_append, bytesOf_length]; omega) r1
  have b9 := byt_at T (bytesOf 17 1 ++ bytesOf M 1 ++ bytesOf q' 2 ++ grpL g ++ bytesOf (flagN q R) 1) (bytesOf ss.length 2 ++ flatL ss) 9 C (by rw [h]; simp) (by simp only [List.length_append, bytesOf_length]; omega) hC
  have n10 : numv T 10 2 = (ss.length : Int) := by
    have := numv_mid T (bytesOf 17 1 ++ bytesOf M 1 ++ bytesOf q' 2 ++ grpL g ++ bytesOf (flagN q R) 1 ++ bytesOf C 1) (bytesOf ss.length 2) (flatL ss) 10 2 (by rw [h]; simp) (by simp only [List.length_append, bytesOf_length]; omega) (bytesOf_length _ _) (by omega) (by omega)
    rw [be_nat _ 2 (by omega)] at this
    exact this
  have hq := qgrp_at T (bytesOf 17 1 ++ bytesOf M 1 ++ bytesOf q' 2) (bytesOf (flagN q R) 1 ++ bytesOf C 1 ++ bytesOf ss.length 2 ++ flatL ss) g ss.length (by rw [h]; simp) (by simp only [List.length_append, bytesOf_length]) hg
  have ha := addrs_mid T (bytesOf 17 1 ++ bytesOf M 1 ++ bytesOf q' 2 ++ grpL g ++ bytesOf (flagN q R) 1 ++ bytesOf C 1 ++ bytesOf ss.length 2) [] ss 12 4 (by rw [h]; simp) (by simp only [List.length_append, bytesOf_length]; omega) hs4
  unfold decM
  rw [if_neg (by omega), if_neg (by rw [h0]; simp), if_pos b0]
  unfold queryI
  rw [n10, Int.toNat_natCast, if_neg (by omega), if_neg (by omega), if_neg (by omega), if_neg (by omega), hq, if_pos hg, b1, b8, b9, hm, he, r2, r3, ha]

/-- What Encode wrote, its sum in it, holds the message. -/
theorem back_M (m : Msg) (h : mayM m = true) : ∃ S, encM m = (S, 0) ∧ 8 ≤ S.size ∧ S.size ≤ 40000 ∧ sumN S.data.toList = 0 ∧ decM S = (0, m) := by
  obtain ⟨k, v, g, mx, q, rob, ev, ss, L⟩ := m
  have hE : encM ⟨k, v, g, mx, q, rob, ev, ss, L⟩ = ((fillSpec ⟨#[]⟩ ⟨(msgL ⟨k, v, g, mx, q, rob, ev, ss, L⟩).toArray⟩ 2).1, 0) := if_pos h
  unfold mayM at h
  unfold msgL at hE
  simp only at h hE
  by_cases h1 : k = 1
  · subst h1
    have e1 : (1 : Int) = 1 := rfl
    rw [if_pos e1] at h hE
    obtain ⟨q1, q2, q3⟩ := query_parts h
    obtain rfl : L = [] := List.eq_nil_of_length_eq_zero q1
    obtain ⟨g1, g2, g3⟩ := grp_len q2
    rcases q3 with ⟨v3, rfl, rfl, rfl, rfl, M, rfl, hM, hv⟩ | ⟨rfl, hs, R, M, C, rfl, hR, hM, hC, e1, e2, e3, e4⟩
    · have e : qryL v g (M : Int) false 0 0 [] = qShortL M g := by unfold qryL; rw [if_neg v3, Int.toNat_natCast]
      rw [e] at hE
      obtain ⟨S, s1, s2, ⟨q, s3⟩, s4⟩ := summed (bytesOf 17 1 ++ bytesOf M 1) (grpL g) ⟨(qShortL M g).toArray⟩ (by simp only [List.length_append, bytesOf_length]) (by show qShortL M g = _; unfold qShortL; simp)
      rw [s1] at hE
      refine ⟨S, hE, by omega, by omega, s4, ?_⟩
      rw [dec_short S M q g s3 s4 hM q2, hv]
    · obtain ⟨f1, f2⟩ := srcs_flat ss 4 hs (by omega)
      have e : qryL 3 g mx q (R : Int) ev ss = qLongL M g q R C ss := by unfold qryL; rw [if_pos rfl, e1, e2]; simp only [Int.toNat_natCast]
      rw [e] at hE
      obtain ⟨S, s1, s2, ⟨q', s3⟩, s4⟩ := summed (bytesOf 17 1 ++ bytesOf M 1) (grpL g ++ bytesOf (flagN q R) 1 ++ bytesOf C 1 ++ bytesOf ss.length 2 ++ flatL ss) ⟨(qLongL M g q R C ss).toArray⟩ (by simp only [List.length_append, bytesOf_length]) (by show qLongL M g q R C ss = _; unfold qLongL; simp)
      rw [s1] at hE
      simp only [List.length_append, bytesOf_length] at s2
      refine ⟨S, hE, by omega, by omega, s4, ?_⟩
      rw [dec_long S M q' g q R C mx ev ss s3 s4 hM hR hC e3 e4 q2 hs]
  · rw [if_neg h1] at h hE
    by_cases h2 : k = 2 ∧ v = 3
    · obtain ⟨rfl, rfl⟩ := h2
      have e1 : (2 : Int) = 2 ∧ (3 : Int) = 3 := ⟨rfl, rfl⟩
      rw [if_pos e1] at h hE
      obtain ⟨rfl, hb, rfl, rfl, rfl, rfl, h7⟩ := rep_parts h
      obtain ⟨hL, hr⟩ := body_few hb
      obtain rfl : ss = [] := List.eq_nil_of_length_eq_zero h7
      have hlen := recs_len 4 (by omega) L hr
      obtain ⟨S, s1, s2, ⟨q', s3⟩, s4⟩ := summed (bytesOf 34 1 ++ bytesOf 0 1) (bytesOf 0 2 ++ bytesOf L.length 2 ++ L.flatMap recL) ⟨(repL L).toArray⟩ (by simp only [List.length_append, bytesOf_length]) (by
        show repL L = _
        unfold repL repHead
        rw [show bytesOf 0 4 = bytesOf 0 2 ++ bytesOf 0 2 from by decide]
        simp)
      rw [s1] at hE
      simp only [List.length_append, bytesOf_length] at s2
      refine ⟨S, hE, by omega, by omega, s4, ?_⟩
      exact dec_rep S 0 q' L (by rw [s3]; simp [bytesOf]) s4 hL hr
    · rw [if_neg h2] at h hE
      by_cases h3 : k = 2 ∨ k = 3
      · rw [if_pos h3] at h
        obtain ⟨c, hc, hc2, hv, hg, h8, rfl, rfl, rfl, rfl, h7⟩ := one_parts h
        obtain rfl : ss = [] := List.eq_nil_of_length_eq_zero h7
        obtain rfl : L = [] := List.eq_nil_of_length_eq_zero h8
        have hgz : g.size = 4 := by
          have hg2 := hg
          unfold grpB at hg2
          rw [Bool.and_eq_true, decide_eq_true_iff] at hg2
          omega
        have lg := vlen g
        rw [hc] at hE
        simp only [Int.toNat_natCast] at hE
        obtain ⟨S, s1, s2, ⟨q', s3⟩, s4⟩ := summed (bytesOf c 1 ++ bytesOf 0 1) g.data.toList ⟨(oneL c g).toArray⟩ (by simp only [List.length_append, bytesOf_length]) (by
          show oneL c g = _
          unfold oneL
          simp)
        rw [s1] at hE
        refine ⟨S, hE, by omega, by omega, s4, ?_⟩
        exact dec_one S k v c 0 q' g (by rw [s3]; simp [bytesOf]) s4 hc hg
      · rw [if_neg h3] at h
        exact absurd h (by simp)

theorem encM_no (m : Msg) (h : mayM m = false) : encM m = (⟨#[]⟩, 1) := by
  unfold encM
  rw [h, if_neg (by simp)]

end Go.Proofs.Ytfdiaaggmjlkbaa
