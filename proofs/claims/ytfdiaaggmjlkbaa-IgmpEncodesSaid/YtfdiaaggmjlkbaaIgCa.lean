/-
  Reports of version 3: igmp.tellingMayBe and mayBe, the writer's records, Encode. Contracts over the translated program.
-/
import Derived.Test.YtfdiaaggmjlkbaaIgBt
namespace Go.Proofs.Ytfdiaaggmjlkbaa
open Go.RowKit
set_option linter.unusedVariables false

def tellRB (g : ByteArray) (L : List Rec) : Bool := decide (g.size = 0) && decide ((bodyI L 4).1 = 0)

set_option maxHeartbeats 1000000 in
set_option maxRecDepth 100000 in
theorem tell_rep (g : ByteArray) (mx : Int) (q : Bool) (rob ev : Int) (ps : Option Addr) (ns cs : Nat) (vr : Value) (L : List Rec) (w : World) (hl : L.length ≤ 9223372036854775807) (hs : ∀ r ∈ L, r.srcs.length ≤ 9223372036854775807) (ha : RecsAt w vr L) :
    Calls Try.prog 29 #[.agg #[.int .i64 2, .int .i64 3, .string g, .int .i64 mx, .bool q, .int .i64 rob, .int .i64 ev, .slice ps ns cs, vr]] w fun e w' => e = .returned (.bool (tellRB g L)) ∧ Below w.heap.size w w' := by
  have H1 := Lib.hid fun U h => body_c vr L 4 U hl hs h
  have V := Lib.hid (show tellRB g L = (decide (g.size = 0) && decide ((bodyI L 4).1 = 0)) from rfl)
  have hbt : ((bodyI L 4).1 == 0) = true ∧ decide ((bodyI L 4).1 = 0) = true ∨ ((bodyI L 4).1 == 0) = false ∧ decide ((bodyI L 4).1 = 0) = false := by
    by_cases h : (bodyI L 4).1 = 0
    · exact .inl ⟨by simp [h], by simp [h]⟩
    · exact .inr ⟨by simp [h], by simp [h]⟩
  obtain ⟨p, cp, rfl⟩ := ha.slice
  have HA := Lib.hid ha
  clear ha hl hs
  generalize tellRB g L = tb at *
  generalize L.length = n at *
  generalize hbb : bodyI L 4 = bb at *
  by_cases h : g.size = 0
  · obtain rfl := bytes_empty h
    rw [decide_eq_true h] at V
    clear h
    rcases hbt with ⟨b1, b2⟩ | ⟨b1, b2⟩
    all_goals
      rw [b2] at V
      clear b2
      go_enter Try.func29, Try.ntmps29
      go_wp2_with fail
      have B := Lib.hid (Box.start w #[.int .i64 2, .int .i64 3, .string ⟨#[]⟩, .int .i64 mx, .bool q, .int .i64 rob, .int .i64 ev, .slice ps ns cs, .slice p n cp] 26)
      have A1 := HA.out.below B.out.2
      ((with_reducible refine (H1.out _ A1).mono ?_); rintro e w1 ⟨rfl, h1⟩)
      replace B := Lib.hid (B.out.below h1)
      clear h1 A1
      have c2 := B.out.cell 2 rfl
      go_wp2_with fail
      go_ret
      exact ⟨by rw [V.out]; rfl, B.out.2⟩
  · rw [decide_eq_false h] at V
    have e1 : g.toList.isEmpty = false := toList_ne g h
    clear h hbt
    go_enter Try.func29, Try.ntmps29
    go_wp2_with fail
    have B := Lib.hid (Box.start w #[.int .i64 2, .int .i64 3, .string g, .int .i64 mx, .bool q, .int .i64 rob, .int .i64 ev, .slice ps ns cs, .slice p n cp] 26)
    have A1 := HA.out.below B.out.2
    ((with_reducible refine (H1.out _ A1).mono ?_); rintro e w1 ⟨rfl, h1⟩)
    replace B := Lib.hid (B.out.below h1)
    clear h1 A1
    have c2 := B.out.cell 2 rfl
    go_wp2_with fail
    go_ret
    exact ⟨by rw [V.out]; rfl, B.out.2⟩

def mayRepB (g : ByteArray) (mx : Int) (q : Bool) (rob ev : Int) (ns : Nat) (L : List Rec) : Bool := decide (mx = 0) && !detB q rob ev ns && tellRB g L

set_option maxHeartbeats 1000000 in
set_option maxRecDepth 100000 in
theorem may_rep (g : ByteArray) (mx : Int) (q : Bool) (rob ev : Int) (ps : Option Addr) (ns cs : Nat) (vr : Value) (L : List Rec) (w : World) (hl : L.length ≤ 9223372036854775807) (hs : ∀ r ∈ L, r.srcs.length ≤ 9223372036854775807) (ha : RecsAt w vr L) :
    Calls Try.prog 11 #[.agg #[.int .i64 2, .int .i64 3, .string g, .int .i64 mx, .bool q, .int .i64 rob, .int .i64 ev, .slice ps ns cs, vr]] w fun e w' => e = .returned (.bool (mayRepB g mx q rob ev ns L)) ∧ Below w.heap.size w w' := by
  obtain ⟨p, cp, rfl⟩ := ha.slice
  have H1 := Lib.hid fun n U => isdet_c 2 3 g mx q rob ev ps ns cs p n cp U
  have H2 := Lib.hid fun U h => tell_rep g mx q rob ev ps ns cs (.slice p L.length cp) L U hl hs h
  have V := Lib.hid (show mayRepB g mx q rob ev ns L = (decide (mx = 0) && !detB q rob ev ns && tellRB g L) from rfl)
  have HA := Lib.hid ha
  clear ha hl hs
  generalize detB q rob ev ns = db at *
  generalize tellRB g L = tb at *
  generalize L.length = n at *
  have hmt : ((mx == 0) = true ∧ decide (mx = 0) = true) ∨ ((mx == 0) = false ∧ decide (mx = 0) = false) := by
    by_cases h : mx = 0
    · exact .inl ⟨by simp [h], by simp [h]⟩
    · exact .inr ⟨by simp [h], by simp [h]⟩
  rcases hmt with ⟨m1, m2⟩ | ⟨m1, m2⟩
  all_goals
    rw [m2] at V
    clear m2
  case inl =>
    go_enter Try.func11, Try.ntmps11
    go_wp2_with fail
    ((with_reducible refine (H1.out _ _).mono ?_); rintro e w1 ⟨rfl, h1⟩)
    have B := Lib.hid ((Box.start w #[.int .i64 2, .int .i64 3, .string g, .int .i64 mx, .bool q, .int .i64 rob, .int .i64 ev, .slice ps ns cs, .slice p n cp] 26).below h1)
    clear h1
    have c0 := B.out.cell 0 rfl
    have c1 := B.out.cell 1 rfl
    have c2 := B.out.cell 2 rfl
    have c3 := B.out.cell 3 rfl
    have c4 := B.out.cell 4 rfl
    have c5 := B.out.cell 5 rfl
    have c6 := B.out.cell 6 rfl
    have c7 := B.out.cell 7 rfl
    have c8 := B.out.cell 8 rfl
    cases db
    · go_wp2_with fail
      have A1 := HA.out.below B.out.2
      ((with_reducible refine (H2.out _ A1).mono ?_); rintro e w2 ⟨rfl, h2⟩)
      replace B := Lib.hid (B.out.below h2)
      go_wp2_with fail
      go_ret
      exact ⟨by rw [V.out]; rfl, B.out.2⟩
    · go_wp2_with fail
      go_ret
      exact ⟨by rw [V.out]; rfl, B.out.2⟩
  all_goals
    go_enter Try.func11, Try.ntmps11
    go_wp2_with fail
    go_ret
    exact ⟨by rw [V.out]; rfl, (Below.refl _ w).alloc (Nat.le_refl _) _⟩

def repHead (n : Nat) : List UInt8 := [] ++ bytesOf 34 1 ++ bytesOf 0 1 ++ bytesOf 0 4 ++ bytesOf n 2
def repL (L : List Rec) : List UInt8 := repHead L.length ++ L.flatMap recL
theorem repHead_length (n : Nat) : (repHead n).length = 8 := by
  unfold repHead
  simp only [List.length_append, bytesOf_length, List.length_nil]

set_option maxHeartbeats 2000000 in
set_option maxRecDepth 100000 in
theorem wrecs_c (b : Nat) (k v : Int) (g : ByteArray) (mx : Int) (q : Bool) (rob ev : Int) (ps : Option Addr) (ns cs : Nat) (vr : Value) (L : List Rec) (w00 w : World) (h : Wr.Bld b [] w) (ha : RecsAt w00 vr L) (hD : Below w00.heap.size w00 w) (hb : w00.heap.size ≤ b) (hL : L.length ≤ 30) (hr : ∀ r ∈ L, recB r 4 = true) :
    Calls Try.prog 13 #[.pointer (some ⟨b, 0, none⟩), .agg #[.int .i64 k, .int .i64 v, .string g, .int .i64 mx, .bool q, .int .i64 rob, .int .i64 ev, .slice ps ns cs, vr]] w (WPost b (repL L) w) := by
  have P1 := Lib.hid (put_n 34 1 (by omega) (by omega) (by omega))
  have P2 := Lib.hid (put_n 0 1 (by omega) (by omega) (by omega))
  have P3 := Lib.hid (put_n 0 4 (by omega) (by omega) (by omega))
  have P4 := Lib.hid (put_n L.length 2 (by omega) (by omega) (by omega))
  have Z1 := bytesOf_length 34 1
  have Z2 := bytesOf_length 0 1
  have Z3 := bytesOf_length 0 4
  have Z4 := repHead_length L.length
  have HR := Lib.hid (show repHead L.length = [] ++ bytesOf 34 1 ++ bytesOf 0 1 ++ bytesOf 0 4 ++ bytesOf L.length 2 from rfl)
  have HQ := Lib.hid (show repL L = repHead L.length ++ L.flatMap recL from rfl)
  have HB := Lib.hid h
  have HD := Lib.hid hD
  have HS := Lib.hid hr
  obtain ⟨p, cap, blk, off, rfl, hp, hc⟩ := ha
  have HP := Lib.hid hp
  have HC := Lib.hid hc
  have hL' : (L.length : Int) ≤ 30 := by omega
  clear h hp hc hD hr
  go_enter Try.func13, Try.ntmps13
  go_wp2_with fail
  have Wf := Lib.hid (WF.start (xs := #[.int .i64 k, .int .i64 v, .string g, .int .i64 mx, .bool q, .int .i64 rob, .int .i64 ev, .slice ps ns cs, .slice p L.length cap]) (t := 26) HB.out)
  refine (wnum_c b _ 34 1 _ Wf.out.1 (by simp) (by omega) (by omega)).mono ?_
  rintro e w2 ⟨rfl, b2, h2, o2⟩
  rw [show ((1 : Int)) = ((1 : Nat) : Int) from rfl, show (34 : Int) = ((34 : Nat) : Int) from rfl, P1.out] at b2
  replace Wf := Lib.hid (Wf.out.wrote (by decide) b2 h2 o2)
  clear b2 h2 o2
  go_wp2_with fail
  refine (wnum_c b _ 0 1 w2 Wf.out.1 (by simp only [List.length_append, List.length_nil]; omega) (by omega) (by omega)).mono ?_
  rintro e w3 ⟨rfl, b2, h2, o2⟩
  rw [show ((1 : Int)) = ((1 : Nat) : Int) from rfl, show (0 : Int) = ((0 : Nat) : Int) from rfl, P2.out] at b2
  replace Wf := Lib.hid (Wf.out.wrote (by decide) b2 h2 o2)
  clear b2 h2 o2
  go_wp2_with fail
  refine (wnum_c b _ 0 4 w3 Wf.out.1 (by simp only [List.length_append, List.length_nil]; omega) (by omega) (by omega)).mono ?_
  rintro e w4 ⟨rfl, b2, h2, o2⟩
  rw [show ((4 : Int)) = ((4 : Nat) : Int) from rfl, show (0 : Int) = ((0 : Nat) : Int) from rfl, P3.out] at b2
  replace Wf := Lib.hid (Wf.out.wrote (by decide) b2 h2 o2)
  clear b2 h2 o2
  have c8 := Wf.out.cell 8 rfl
  go_wp2_with fail
  refine (wnum_c b _ L.length 2 w4 Wf.out.1 (by simp only [List.length_append, List.length_nil]; omega) (by omega) (by omega)).mono ?_
  rintro e w5 ⟨rfl, b2, h2, o2⟩
  rw [show ((2 : Int)) = ((2 : Nat) : Int) from rfl, P4.out, ← HR.out] at b2
  replace Wf := Lib.hid (Wf.out.wrote (by decide) b2 h2 o2)
  clear b2 h2 o2 c8
  have c8 := Wf.out.cell 8 rfl
  have B5 := Lib.hid Wf.out.1
  have D5 := Lib.hid Wf.out.2.1
  have O5 := Lib.hid Wf.out.2.2.1
  clear Z1 Z2 Z3
  go_wp2_with fail
  go_loopw [5, 20] (fun _ i wr => ∃ j : Nat, j ≤ L.length ∧ i = .int .i64 j ∧ Hid (Wr.Bld b (repHead L.length ++ (L.take j).flatMap recL) wr) ∧ Hid (Below b w wr) ∧ Hid (Wr.KeptO b w wr)) (fun _ i _ => L.length - (intOf i).toNat)
  case atStart => exact ⟨0, Nat.zero_le _, rfl, Lib.hid (by rw [List.take_zero, List.flatMap_nil, List.append_nil]; exact B5.out), D5, O5⟩
  case round =>
    obtain ⟨j, hj, rfl, hB, hD, hO⟩ := hrel
    by_cases hlt : j < L.length
    · have hne : L ≠ [] := by rintro rfl; simp at hlt
      obtain ⟨rfl, -⟩ := HP.out hne
      obtain ⟨x0, x1, vs, x2, xa⟩ := HC.out j _ (List.getElem?_eq_getElem hlt)
      have hT := Lib.hid (flat_take_rec L j hlt)
      have hrb := HS.out _ (List.getElem_mem hlt)
      have hlen := recs_len 4 (by omega) (L.take j) fun r hr => HS.out r (List.mem_of_mem_take hr)
      have hlk : (L.take j).length ≤ 30 := by rw [List.length_take]; omega
      generalize L[j] = r at x0 x1 x2 xa hT hrb
      have D00 := Lib.hid (HD.out.trans (hD.out.mono hb))
      have y0 := cell_below D00.out x0
      have y1 := cell_below D00.out x1
      have y2 := cell_below D00.out x2
      obtain ⟨q', cq, rfl⟩ := xa.slice
      have XA := Lib.hid xa
      have hlt' : (j : Int) < (L.length : Int) := by omega
      obtain ⟨r1, r2, r3, r4, r5⟩ := rec_len r 4 hrb (by omega)
      have HWr := Lib.hid fun U h1 h2 => wrec_c b (repHead L.length ++ (L.take j).flatMap recL) r (.slice q' r.srcs.length cq) U h1 h2 r2 r3 r4 r5 (by rw [List.length_append]; omega)
      have hbl := hB.out.lt
      clear x0 x1 x2 xa hne hrb r1 r2 r3 r4 r5 hlen hlk
      go_wp2_with fail
      have X1 : Box wr (wr.alloc (.cells #[.int .i64 r.kind, .string r.group, .slice q' r.srcs.length cq] 35)) #[.int .i64 r.kind, .string r.group, .slice q' r.srcs.length cq] 35 := Box.start _ _ _
      have B2 := Lib.hid (hB.out.below X1.2)
      have D2 := Lib.hid (hD.out.trans (X1.2.mono (Nat.le_of_lt hbl)))
      have O2 := Lib.hid (hO.out.trans (Wr.KeptO.of_below X1.2))
      have AW := AddrsW.of_at (b := b) XA.out (HD.out.trans (D2.out.mono hb)) hb
      refine (HWr.out _ B2.out AW).mono ?_
      rintro e w3 ⟨rfl, b3, h3, o3⟩
      have B3 := Lib.hid (show Wr.Bld b (repHead L.length ++ (L.take (j + 1)).flatMap recL) w3 by rw [hT.out, ← List.append_assoc]; exact b3)
      have D3 := Lib.hid (D2.out.trans h3)
      have O3 := Lib.hid (O2.out.trans o3)
      clear b3 h3 o3 AW X1 y0 y1 y2 B2 D2 O2
      go_wp2_with fail
      go_roundw
      case rel => exact ⟨j + 1, by omega, by go_num, B3, D3, O3⟩
      case measure => simp [intOf]; omega
    · obtain rfl : j = L.length := by omega
      have B := hB.out
      rw [List.take_length, ← HQ.out] at B
      have BL := Lib.hid B
      clear B hlt
      go_wp2_with fail
      go_end0
      exact ⟨rfl, BL.out, hD.out, hO.out⟩

theorem body_few {L : List Rec} {Z : Int} (h : (bodyI L Z).1 = 0) : L.length ≤ 30 ∧ ∀ r ∈ L, recB r Z = true := by
  unfold bodyI at h
  split at h
  · simp at h
  · rename_i h1
    split at h
    · rename_i h2
      exact ⟨by omega, List.all_eq_true.1 h2⟩
    · simp at h

set_option maxHeartbeats 1000000 in
set_option maxRecDepth 100000 in
theorem ienc_rep (g : ByteArray) (mx : Int) (q : Bool) (rob ev : Int) (ps : Option Addr) (ns cs : Nat) (vr : Value) (L : List Rec) (w : World) (hs : ∀ r ∈ L, r.srcs.length ≤ 9223372036854775807) (ha : RecsAt w vr L) (hm : mayRepB g mx q rob ev ns L = true) :
    Calls Try.prog 7 #[.agg #[.int .i64 2, .int .i64 3, .string g, .int .i64 mx, .bool q, .int .i64 rob, .int .i64 ev, .slice ps ns cs, vr]] w fun e w' => e = .returned (.tuple #[.string (fillSpec ⟨#[]⟩ ⟨(repL L).toArray⟩ 2).1, .int .i64 0]) ∧ Below w.heap.size w w' := by
  have hm' := hm
  unfold mayRepB at hm'
  rw [Bool.and_eq_true] at hm'
  have hm2 := hm'.2
  unfold tellRB at hm2
  rw [Bool.and_eq_true, decide_eq_true_iff, decide_eq_true_iff] at hm2
  obtain ⟨hL, hr⟩ := body_few hm2.2
  have HM := Lib.hid fun U h => may_rep g mx q rob ev ps ns cs vr L U (by omega) hs h
  rw [hm] at HM
  have HW := Lib.hid fun b U h h1 h2 => wrecs_c b 2 3 g mx q rob ev ps ns cs vr L w U h ha h1 h2 hL hr
  have hlen := recs_len 4 (by omega) L hr
  have hl8 : 8 ≤ (repL L).length ∧ (repL L).length ≤ 40000 := by
    unfold repL
    rw [List.length_append, repHead_length]
    omega
  obtain ⟨p, cp, rfl⟩ := ha.slice
  have HA := Lib.hid ha
  generalize repL L = X at *
  have hne : X ≠ [] := by rintro rfl; simp at hl8
  have HF := Lib.hid fun U => fill_c ⟨#[]⟩ ⟨X.toArray⟩ 2 U (by decide) (by rw [ByteArray.size_mk', List.size_toArray]; omega)
  have HFs := Lib.hid hne
  clear hm hm' hm2 hr hs ha hlen hne
  go_enter Try.func7, Try.ntmps7
  go_wp2_with fail
  have B := Lib.hid (Box.start w #[.int .i64 2, .int .i64 3, .string g, .int .i64 mx, .bool q, .int .i64 rob, .int .i64 ev, .slice ps ns cs, .slice p L.length cp] 26)
  have A1 := HA.out.below B.out.2
  ((with_reducible refine (HM.out _ A1).mono ?_); rintro e w1 ⟨rfl, h1⟩)
  replace B := Lib.hid (B.out.below h1)
  clear h1 A1
  have hlt := B.out.lt
  have hb1 : Below w1.heap.size w1 (w1.alloc (.cells #[.pointer none, .slice none 0 0] 43)) := (Below.refl _ w1).alloc (Nat.le_refl _) _
  have B1 := Lib.hid (B.out.belowP hlt hb1)
  have WB := Lib.hid (Wr.Bld.fresh w1)
  have c0 := B.out.cell 0 rfl
  have c1 := B.out.cell 1 rfl
  have c2 := B.out.cell 2 rfl
  have c3 := B.out.cell 3 rfl
  have c4 := B.out.cell 4 rfl
  have c5 := B.out.cell 5 rfl
  have c6 := B.out.cell 6 rfl
  have c7 := B.out.cell 7 rfl
  have c8 := B.out.cell 8 rfl
  clear hb1
  go_wp2_with fail
  refine (HW.out _ _ WB.out B1.out.2 (Nat.le_of_lt hlt)).mono ?_
  rintro e w2 ⟨rfl, b2, h2, o2⟩
  have B2 := Lib.hid (B1.out.belowP hlt h2)
  have WB2 := Lib.hid b2
  clear b2 h2 o2 c0 c1 c2 c3 c4 c5 c6 c7 c8 WB B1 B
  go_wp2_with fail
  refine (Wr.bstr_some _ X w2 WB2.out HFs.out).mono ?_
  rintro e w3 ⟨rfl, b3, h3⟩
  have B3 := Lib.hid (B2.out.belowP hlt h3)
  go_wp2_with fail
  ((with_reducible refine (HF.out _).mono ?_); rintro e w4 ⟨rfl, h4⟩)
  have B4 := Lib.hid (B3.out.below h4)
  go_wp2_with fail
  go_ret2
  exact ⟨rfl, B4.out.2⟩

end Go.Proofs.Ytfdiaaggmjlkbaa
