/-
  Queries: which ones may be (igmp.isCoded, queryMayBe, mayBe), the writer's details and query, Encode of a query. Contracts over the translated program.
-/
import Derived.Test.YtfdiaaggmjlkbaaIgBde
import Derived.Test.YtfdiaaggmjlkbaaIgDE
import Derived.Test.YtfdiaaggmjlkbaaFill
namespace Go.Proofs.Ytfdiaaggmjlkbaa
open Go.RowKit
set_option linter.unusedVariables false

def codedB (n : Int) : Bool := decide ((encI 4 n).2 = 0) && decide ((decI 4 (encI 4 n).1).1 = n)

theorem enc8_b (n : Int) (w : World) (hn : n ≤ 9223372036854775807) :
    Calls Try.prog 57 #[.int .i64 n] w fun e w' => e = .returned (.tuple #[.int .i64 (encI 4 n).1, .int .i64 (encI 4 n).2]) ∧ Below w.heap.size w w' :=
  (enc8_c n w hn).mono fun _ _ ⟨h, m, hm⟩ => ⟨h, by rw [hm]; exact below_drewN (Below.refl _ _) _⟩

set_option maxHeartbeats 1000000 in
set_option maxRecDepth 100000 in
theorem iscoded_c (n : Int) (w : World) (hn : n ≤ 9223372036854775807) :
    Calls Try.prog 53 #[.int .i64 n] w fun e w' => e = .returned (.bool (codedB n)) ∧ Below w.heap.size w w' := by
  have H1 := Lib.hid fun U => enc8_b n U hn
  have H2 := Lib.hid fun U => dec8_b (encI 4 n).1 U
  have V := Lib.hid (show codedB n = (decide ((encI 4 n).2 = 0) && decide ((decI 4 (encI 4 n).1).1 = n)) from rfl)
  generalize (decI 4 (encI 4 n).1).2 = de at *
  generalize (decI 4 (encI 4 n).1).1 = dv at *
  generalize (encI 4 n).2 = ee at *
  generalize (encI 4 n).1 = ec at *
  generalize codedB n = cb at *
  have ht : ((ee == 0) = true ∧ decide (ee = 0) = true) ∨ ((ee == 0) = false ∧ decide (ee = 0) = false) := by
    by_cases h : ee = 0
    · exact .inl ⟨by simp [h], by simp [h]⟩
    · exact .inr ⟨by simp [h], by simp [h]⟩
  have hd : ((dv == n) = true ∧ decide (dv = n) = true) ∨ ((dv == n) = false ∧ decide (dv = n) = false) := by
    by_cases h : dv = n
    · exact .inl ⟨by simp [h], by simp [h]⟩
    · exact .inr ⟨by simp [h], by simp [h]⟩
  rcases ht with ⟨t1, t2⟩ | ⟨t1, t2⟩ <;> rcases hd with ⟨d1, d2⟩ | ⟨d1, d2⟩
  all_goals
    rw [t2, d2] at V
    clear t2 d2
    go_enter Try.func53, Try.ntmps53
    go_wp2_with fail
    ((with_reducible refine (H1.out _).mono ?_); rintro e w1 ⟨rfl, h1⟩)
    have D1 := Lib.hid h1
    clear h1
    go_wp2_with fail
    ((with_reducible refine (H2.out _).mono ?_); rintro e w2 ⟨rfl, h2⟩)
    have D2 := Lib.hid (D1.out.trans (h2.mono D1.out.size))
    clear h2
    go_wp2_with fail
    go_ret
    exact ⟨by rw [V.out]; rfl, D2.out⟩

/-- Has a query what belongs to its version? -/
def qmayB (v mx : Int) (q : Bool) (rob ev : Int) (srcs : List ByteArray) : Bool :=
  if v = 1 then decide (mx = 0) && !detB q rob ev srcs.length
  else if v = 2 then decide (1 ≤ mx) && decide (mx ≤ 255) && !detB q rob ev srcs.length
  else if v = 3 then codedB mx && codedB ev && decide (0 ≤ rob) && decide (rob ≤ 7) && srcsB srcs 4
  else false

set_option maxHeartbeats 2000000 in
set_option maxRecDepth 100000 in
theorem qmay_c (k v : Int) (g : ByteArray) (mx : Int) (q : Bool) (rob ev : Int) (vs : Value) (ss : List ByteArray) (pr : Option Addr) (nr cr : Nat) (w : World) (hmx : mx ≤ 9223372036854775807) (hev : ev ≤ 9223372036854775807) (hl : ss.length ≤ 9223372036854775807) (ha : AddrsAt w vs ss) :
    Calls Try.prog 27 #[.agg #[.int .i64 k, .int .i64 v, .string g, .int .i64 mx, .bool q, .int .i64 rob, .int .i64 ev, vs, .slice pr nr cr]] w fun e w' => e = .returned (.bool (qmayB v mx q rob ev ss)) ∧ Below w.heap.size w w' := by
  obtain ⟨p, cp, rfl⟩ := ha.slice
  have H1 := Lib.hid fun U => isdet_c k v g mx q rob ev p ss.length cp pr nr cr U
  have H2 := Lib.hid fun U => iscoded_c mx U hmx
  have H3 := Lib.hid fun U => iscoded_c ev U hev
  have H4 := Lib.hid fun U h => srcmay_c (.slice p ss.length cp) ss 4 U hl h
  have HA := Lib.hid ha
  have B0 := Lib.hid (Box.start w #[.int .i64 k, .int .i64 v, .string g, .int .i64 mx, .bool q, .int .i64 rob, .int .i64 ev, .slice p ss.length cp, .slice pr nr cr] 26)
  clear ha hmx hev hl
  have V := Lib.hid (show qmayB v mx q rob ev ss = if v = 1 then decide (mx = 0) && !detB q rob ev ss.length else if v = 2 then decide (1 ≤ mx) && decide (mx ≤ 255) && !detB q rob ev ss.length else if v = 3 then codedB mx && codedB ev && decide (0 ≤ rob) && decide (rob ≤ 7) && srcsB ss 4 else false from rfl)
  generalize qmayB v mx q rob ev ss = out at *
  generalize detB q rob ev ss.length = db at *
  generalize codedB mx = b1 at *
  generalize codedB ev = b2 at *
  generalize srcsB ss 4 = b3 at *
  generalize ss.length = n at *
  have T1 : ∀ x y : Int, x = y → (x == y) = true := fun x y h => by simp [h]
  have T2 : ∀ x y : Int, ¬ x = y → (x == y) = false := fun x y h => by simp [h]
  by_cases v1 : v = 1
  · replace V := Lib.hid (V.out.trans (if_pos v1))
    have a1 := T1 _ _ v1
    have mt : ((mx == 0) = true ∧ decide (mx = 0) = true) ∨ ((mx == 0) = false ∧ decide (mx = 0) = false) := by
      by_cases h : mx = 0
      · exact .inl ⟨by simp [h], by simp [h]⟩
      · exact .inr ⟨by simp [h], by simp [h]⟩
    clear v1 T1 T2
    rcases mt with ⟨m1, m2⟩ | ⟨m1, m2⟩
    · rw [m2] at V
      clear m2
      go_enter Try.func27, Try.ntmps27
      go_wp2_with fail
      ((with_reducible refine (H1.out _).mono ?_); rintro e w1 ⟨rfl, h1⟩)
      go_wp2_with fail
      go_ret
      exact ⟨by rw [V.out]; rfl, (B0.out.below h1).2⟩
    · rw [m2] at V
      clear m2
      go_enter Try.func27, Try.ntmps27
      go_wp2_with fail
      go_ret
      exact ⟨by rw [V.out]; rfl, B0.out.2⟩
  · replace V := Lib.hid (V.out.trans (if_neg v1))
    have a1 := T2 _ _ v1
    by_cases v2 : v = 2
    · replace V := Lib.hid (V.out.trans (if_pos v2))
      have a2 := T1 _ _ v2
      have mt : (decide (1 ≤ mx) = true ∧ decide (mx ≤ 255) = true) ∨ (decide (1 ≤ mx) = true ∧ decide (mx ≤ 255) = false) ∨ decide (1 ≤ mx) = false := by
        by_cases h : 1 ≤ mx
        · by_cases h2 : mx ≤ 255
          · exact .inl ⟨decide_eq_true h, decide_eq_true h2⟩
          · exact .inr (.inl ⟨decide_eq_true h, decide_eq_false h2⟩)
        · exact .inr (.inr (decide_eq_false h))
      clear v1 v2 T1 T2
      rcases mt with ⟨m1, m2⟩ | ⟨m1, m2⟩ | m1
      · rw [m1, m2] at V
        go_enter Try.func27, Try.ntmps27
        go_wp2_with fail
        ((with_reducible refine (H1.out _).mono ?_); rintro e w1 ⟨rfl, h1⟩)
        go_wp2_with fail
        go_ret
        exact ⟨by rw [V.out]; rfl, (B0.out.below h1).2⟩
      · rw [m1, m2] at V
        go_enter Try.func27, Try.ntmps27
        go_wp2_with fail
        go_ret
        exact ⟨by rw [V.out]; rfl, B0.out.2⟩
      · rw [m1] at V
        go_enter Try.func27, Try.ntmps27
        go_wp2_with fail
        go_ret
        exact ⟨by rw [V.out]; simp, B0.out.2⟩
    · replace V := Lib.hid (V.out.trans (if_neg v2))
      have a2 := T2 _ _ v2
      by_cases v3 : v = 3
      · replace V := Lib.hid (V.out.trans (if_pos v3))
        have a3 := T1 _ _ v3
        clear v1 v2 v3 T1 T2
        have rt : (decide (0 ≤ rob) = true ∧ decide (rob ≤ 7) = true) ∨ (decide (0 ≤ rob) = true ∧ decide (rob ≤ 7) = false) ∨ decide (0 ≤ rob) = false := by
          by_cases h : 0 ≤ rob
          · by_cases h2 : rob ≤ 7
            · exact .inl ⟨decide_eq_true h, decide_eq_true h2⟩
            · exact .inr (.inl ⟨decide_eq_true h, decide_eq_false h2⟩)
          · exact .inr (.inr (decide_eq_false h))
        go_enter Try.func27, Try.ntmps27
        go_wp2_with fail
        ((with_reducible refine (H2.out _).mono ?_); rintro e w1 ⟨rfl, h1⟩)
        have B := Lib.hid (B0.out.below h1)
        clear h1
        have x6 := B.out.cell 6 rfl
        cases b1
        · go_wp2_with fail
          go_ret
          exact ⟨by rw [V.out]; rfl, B.out.2⟩
        · go_wp2_with fail
          ((with_reducible refine (H3.out _).mono ?_); rintro e w2 ⟨rfl, h2⟩)
          replace B := Lib.hid (B.out.below h2)
          clear h2 x6
          have x5 := B.out.cell 5 rfl
          have x7 := B.out.cell 7 rfl
          cases b2
          · go_wp2_with fail
            go_ret
            exact ⟨by rw [V.out]; rfl, B.out.2⟩
          · rcases rt with ⟨m1, m2⟩ | ⟨m1, m2⟩ | m1
            · rw [m1, m2] at V
              have A1 := HA.out.below B.out.2
              go_wp2_with fail
              ((with_reducible refine (H4.out _ A1).mono ?_); rintro e w3 ⟨rfl, rfl⟩)
              go_wp2_with fail
              go_ret
              exact ⟨by rw [V.out]; rfl, B.out.2⟩
            · rw [m1, m2] at V
              go_wp2_with fail
              go_ret
              exact ⟨by rw [V.out]; rfl, B.out.2⟩
            · rw [m1] at V
              go_wp2_with fail
              go_ret
              exact ⟨by rw [V.out]; simp, B.out.2⟩
      · replace V := Lib.hid (V.out.trans (if_neg v3))
        have a3 := T2 _ _ v3
        clear v1 v2 v3 T1 T2
        go_enter Try.func27, Try.ntmps27
        go_wp2_with fail
        go_ret
        exact ⟨by rw [V.out]; rfl, B0.out.2⟩

def mayQB (v : Int) (g : ByteArray) (mx : Int) (q : Bool) (rob ev : Int) (ss : List ByteArray) (nr : Nat) : Bool := decide (nr = 0) && qGrpB g ss.length && qmayB v mx q rob ev ss

set_option maxHeartbeats 1000000 in
set_option maxRecDepth 100000 in
theorem may_query (v : Int) (g : ByteArray) (mx : Int) (q : Bool) (rob ev : Int) (vs : Value) (ss : List ByteArray) (pr : Option Addr) (nr cr : Nat) (w : World) (hmx : mx ≤ 9223372036854775807) (hev : ev ≤ 9223372036854775807) (hl : ss.length ≤ 9223372036854775807) (ha : AddrsAt w vs ss) :
    Calls Try.prog 11 #[.agg #[.int .i64 1, .int .i64 v, .string g, .int .i64 mx, .bool q, .int .i64 rob, .int .i64 ev, vs, .slice pr nr cr]] w fun e w' => e = .returned (.bool (mayQB v g mx q rob ev ss nr)) ∧ Below w.heap.size w w' := by
  obtain ⟨p, cp, rfl⟩ := ha.slice
  have H1 := Lib.hid fun U => gmay_c 1 v g mx q rob ev p ss.length cp (.slice pr nr cr) U
  have H2 := Lib.hid fun U h => qmay_c 1 v g mx q rob ev (.slice p ss.length cp) ss pr nr cr U hmx hev hl h
  have HA := Lib.hid ha
  have B0 := Lib.hid (Box.start w #[.int .i64 1, .int .i64 v, .string g, .int .i64 mx, .bool q, .int .i64 rob, .int .i64 ev, .slice p ss.length cp, .slice pr nr cr] 26)
  have V := Lib.hid (show mayQB v g mx q rob ev ss nr = (decide (nr = 0) && qGrpB g ss.length && qmayB v mx q rob ev ss) from rfl)
  have nt : (((nr : Int) == 0) = true ∧ decide (nr = 0) = true) ∨ (((nr : Int) == 0) = false ∧ decide (nr = 0) = false) := by
    by_cases h : nr = 0
    · exact .inl ⟨by simp [h], by simp [h]⟩
    · exact .inr ⟨by simp [h], by simp [h]⟩
  generalize mayQB v g mx q rob ev ss nr = out at *
  generalize qGrpB g ss.length = b1 at *
  generalize qmayB v mx q rob ev ss = b2 at *
  generalize ss.length = n at *
  clear ha hmx hev hl
  rcases nt with ⟨m1, m2⟩ | ⟨m1, m2⟩
  · rw [m2] at V
    clear m2
    go_enter Try.func11, Try.ntmps11
    go_wp2_with fail
    ((with_reducible refine (H1.out _).mono ?_); rintro e w1 ⟨rfl, h1⟩)
    have B := Lib.hid (B0.out.below h1)
    clear h1
    have c0 := B.out.cell 0 rfl
    have c1 := B.out.cell 1 rfl
    have c2 := B.out.cell 2 rfl
    have c3 := B.out.cell 3 rfl
    have c4 := B.out.cell 4 rfl
    have c5 := B.out.cell 5 rfl
    have c6 := B.out.cell 6 rfl
    have c7 := B.out.cell 7 rfl
    have c8 := B.out.cell 8 rfl
    cases b1
    · go_wp2_with fail
      go_ret
      exact ⟨by rw [V.out]; rfl, B.out.2⟩
    · have A1 := HA.out.below B.out.2
      go_wp2_with fail
      ((with_reducible refine (H2.out _ A1).mono ?_); rintro e w2 ⟨rfl, h2⟩)
      replace B := Lib.hid (B.out.below h2)
      go_wp2_with fail
      go_ret
      exact ⟨by rw [V.out]; rfl, B.out.2⟩
  · rw [m2] at V
    clear m2
    go_enter Try.func11, Try.ntmps11
    go_wp2_with fail
    go_ret
    exact ⟨by rw [V.out]; rfl, B0.out.2⟩

theorem coded_parts {n : Int} (h : codedB n = true) : ∃ c : Nat, c < 256 ∧ encI 4 n = ((c : Int), 0) ∧ decI 4 (c : Int) = (n, 0) := by
  unfold codedB at h
  rw [Bool.and_eq_true, decide_eq_true_iff, decide_eq_true_iff] at h
  obtain ⟨h1, h2⟩ := h
  have he : encI 4 n = ((encN 4 n.toNat : Int), 0) := by
    unfold encI at h1 ⊢
    split at h1
    · simp at h1
    · next hn => rw [if_neg hn]
  rw [he] at h2
  simp only at h2
  have hc : encN 4 n.toNat < 256 := by
    by_cases hlt : encN 4 n.toNat < 256
    · exact hlt
    · exfalso
      have hd : decI 4 (encN 4 n.toNat : Int) = (0, 1) := by unfold decI; rw [if_pos (by omega)]
      rw [hd] at h2
      simp only at h2
      subst h2
      exact hlt (by decide)
  refine ⟨encN 4 n.toNat, hc, he, ?_⟩
  have hd : decI 4 (encN 4 n.toNat : Int) = ((decN 4 (encN 4 n.toNat) : Int), 0) := by unfold decI; rw [if_neg (by omega), Int.toNat_natCast]
  rw [hd] at h2 ⊢
  simp only at h2
  rw [h2]

/-- Quiet above Robust. -/
def flagN (q : Bool) (R : Nat) : Nat := if q then R + 8 else R
theorem flag_or : ∀ r : Fin 8, bits .or .i64 (r.val : Int) 8 = ((r.val + 8 : Nat) : Int) := by decide +kernel

set_option maxHeartbeats 2000000 in
set_option maxRecDepth 100000 in
theorem wdet_c (b : Nat) (l : List UInt8) (k v : Int) (g : ByteArray) (mx : Int) (q : Bool) (R : Nat) (ev : Int) (vs : Value) (ss : List ByteArray) (pr : Option Addr) (nr cr : Nat) (C : Nat) (w00 w : World) (h : Wr.Bld b l w) (ha : AddrsAt w00 vs ss) (hD : Below w00.heap.size w00 w) (hb : w00.heap.size ≤ b) (hR : R < 8) (hC : C < 256) (he : encI 4 ev = ((C : Int), 0)) (hev : ev ≤ 9223372036854775807) (hn : ss.length ≤ 60) (hf : (flatL ss).length ≤ 960) (hl : l.length ≤ 1000) :
    Calls Try.prog 33 #[.pointer (some ⟨b, 0, none⟩), .agg #[.int .i64 k, .int .i64 v, .string g, .int .i64 mx, .bool q, .int .i64 (R : Int), .int .i64 ev, vs, .slice pr nr cr]] w (WPost b (l ++ bytesOf (flagN q R) 1 ++ bytesOf C 1 ++ bytesOf ss.length 2 ++ flatL ss) w) := by
  have hF : flagN q R < 256 := by unfold flagN; split <;> omega
  have P1 := Lib.hid (put_n (flagN q R) 1 (by omega) (by omega) (by omega))
  have P2 := Lib.hid (put_n C 1 (by omega) (by omega) (by omega))
  have P3 := Lib.hid (put_n ss.length 2 (by omega) (by omega) (by omega))
  have Z1 := bytesOf_length (flagN q R) 1
  have Z2 := bytesOf_length C 1
  have Z3 := bytesOf_length ss.length 2
  have HB := Lib.hid h
  have HC := Lib.hid fun l' U h h2 => wcode_c b l' ev U h h2 hev (by rw [he]; simp only; omega)
  rw [he] at HC
  simp only at HC
  have HW := Lib.hid fun U (k : Below b w U) => AddrsW.of_at (b := b) ha (hD.trans (k.mono hb)) hb
  obtain ⟨p, cp, rfl⟩ := ha.slice
  have hor := flag_or ⟨R, hR⟩
  simp only at hor
  have FQ : ∀ x, x = q → flagN x R = flagN q R := fun x hx => by rw [hx]
  have Wf0 := Lib.hid (WF.start (xs := #[.int .i64 k, .int .i64 v, .string g, .int .i64 mx, .bool q, .int .i64 (R : Int), .int .i64 ev, .slice p ss.length cp, .slice pr nr cr]) (t := 26) HB.out)
  have hn' : (ss.length : Int) ≤ 60 := by omega
  have hR' : (0 : Int) ≤ (R : Int) ∧ (R : Int) ≤ 7 := by omega
  clear h ha hD he hC
  cases q
  · rw [show flagN false R = R from rfl] at P1 Z1 ⊢
    clear FQ hF
    go_enter Try.func33, Try.ntmps33
    go_wp2_with fail
    refine (wnum_c b _ _ 1 _ Wf0.out.1 (by omega) (by omega) (by omega)).mono ?_
    rintro e w2 ⟨rfl, b2, h2, o2⟩
    rw [show ((1 : Int)) = ((1 : Nat) : Int) from rfl] at b2
    first
      | rw [P1.out] at b2
      | rw [show ((R : Int) + 8) = ((R + 8 : Nat) : Int) from by omega, P1.out] at b2
    have Wf := Lib.hid (Wf0.out.wrote (by decide) b2 h2 o2)
    clear b2 h2 o2
    have c6 := Wf.out.cell 6 rfl
    go_wp2_with fail
    refine (HC.out _ _ Wf.out.1 (by simp only [List.length_append]; omega)).mono ?_
    rintro e w3 ⟨rfl, b2, h2, o2⟩
    rw [show ((1 : Int)) = ((1 : Nat) : Int) from rfl, P2.out] at b2
    replace Wf := Lib.hid (Wf.out.wrote (by decide) b2 h2 o2)
    clear b2 h2 o2 c6
    have c7 := Wf.out.cell 7 rfl
    go_wp2_with fail
    refine (wnum_c b _ ss.length 2 _ Wf.out.1 (by simp only [List.length_append]; omega) (by omega) (by omega)).mono ?_
    rintro e w4 ⟨rfl, b2, h2, o2⟩
    rw [show ((2 : Int)) = ((2 : Nat) : Int) from rfl, P3.out] at b2
    replace Wf := Lib.hid (Wf.out.wrote (by decide) b2 h2 o2)
    clear b2 h2 o2 c7
    have c7 := Wf.out.cell 7 rfl
    have AW := HW.out _ Wf.out.2.1
    go_wp2_with fail
    refine (waddrs_c b _ _ ss _ Wf.out.1 AW (by omega) (by simp only [List.length_append]; omega)).mono ?_
    rintro e w5 ⟨rfl, b2, h2, o2⟩
    replace Wf := Lib.hid (Wf.out.wrote (by decide) b2 h2 o2)
    go_wp2_with fail
    go_end0
    exact ⟨rfl, Wf.out.1, Wf.out.2.1, Wf.out.2.2.1⟩
  · rw [show flagN true R = R + 8 from rfl] at P1 Z1 ⊢
    clear FQ hF
    go_enter Try.func33, Try.ntmps33
    go_wp2_with fail
    refine (wnum_c b _ _ 1 _ Wf0.out.1 (by omega) (by omega) (by omega)).mono ?_
    rintro e w2 ⟨rfl, b2, h2, o2⟩
    rw [show ((1 : Int)) = ((1 : Nat) : Int) from rfl] at b2
    first
      | rw [P1.out] at b2
      | rw [show ((R : Int) + 8) = ((R + 8 : Nat) : Int) from by omega, P1.out] at b2
    have Wf := Lib.hid (Wf0.out.wrote (by decide) b2 h2 o2)
    clear b2 h2 o2
    have c6 := Wf.out.cell 6 rfl
    go_wp2_with fail
    refine (HC.out _ _ Wf.out.1 (by simp only [List.length_append]; omega)).mono ?_
    rintro e w3 ⟨rfl, b2, h2, o2⟩
    rw [show ((1 : Int)) = ((1 : Nat) : Int) from rfl, P2.out] at b2
    replace Wf := Lib.hid (Wf.out.wrote (by decide) b2 h2 o2)
    clear b2 h2 o2 c6
    have c7 := Wf.out.cell 7 rfl
    go_wp2_with fail
    refine (wnum_c b _ ss.length 2 _ Wf.out.1 (by simp only [List.length_append]; omega) (by omega) (by omega)).mono ?_
    rintro e w4 ⟨rfl, b2, h2, o2⟩
    rw [show ((2 : Int)) = ((2 : Nat) : Int) from rfl, P3.out] at b2
    replace Wf := Lib.hid (Wf.out.wrote (by decide) b2 h2 o2)
    clear b2 h2 o2 c7
    have c7 := Wf.out.cell 7 rfl
    have AW := HW.out _ Wf.out.2.1
    go_wp2_with fail
    refine (waddrs_c b _ _ ss _ Wf.out.1 AW (by omega) (by simp only [List.length_append]; omega)).mono ?_
    rintro e w5 ⟨rfl, b2, h2, o2⟩
    replace Wf := Lib.hid (Wf.out.wrote (by decide) b2 h2 o2)
    go_wp2_with fail
    go_end0
    exact ⟨rfl, Wf.out.1, Wf.out.2.1, Wf.out.2.2.1⟩

/-- The group's bytes, or what stands where none is. -/
def grpL (g : ByteArray) : List UInt8 := if g.size = 0 then [0, 0, 0, 0] else g.data.toList
theorem zn4 : (⟨#[0, 0, 0, 0]⟩ : ByteArray).data.toList = [0, 0, 0, 0] := rfl
theorem flat_one (g : ByteArray) : flatL [g] = g.data.toList := by simp [flatL]

set_option maxHeartbeats 2000000 in
set_option maxRecDepth 100000 in
theorem wq_short (b : Nat) (l : List UInt8) (k v : Int) (g : ByteArray) (M : Nat) (q : Bool) (rob ev : Int) (ps : Option Addr) (ns cs : Nat) (pr : Option Addr) (nr cr : Nat) (w : World) (h : Wr.Bld b l w) (hv : v ≠ 3) (hM : M < 256) (hg : g.size ≤ 16) (hl : l.length ≤ 1000) :
    Calls Try.prog 12 #[.pointer (some ⟨b, 0, none⟩), .agg #[.int .i64 k, .int .i64 v, .string g, .int .i64 (M : Int), .bool q, .int .i64 rob, .int .i64 ev, .slice ps ns cs, .slice pr nr cr]] w (WPost b (l ++ bytesOf 17 1 ++ bytesOf M 1 ++ bytesOf 0 2 ++ grpL g) w) := by
  have P1 := Lib.hid (put_n 17 1 (by omega) (by omega) (by omega))
  have P2 := Lib.hid (put_n M 1 (by omega) (by omega) (by omega))
  have P3 := Lib.hid (put_n 0 2 (by omega) (by omega) (by omega))
  have Z1 := bytesOf_length 17 1
  have Z2 := bytesOf_length M 1
  have Z3 := bytesOf_length 0 2
  have ZG := vlen g
  have HB := Lib.hid h
  obtain ⟨n1, n2⟩ := ne_t hv
  have hMi : (0 : Int) ≤ (M : Int) ∧ (M : Int) ≤ 255 := by omega
  have Wf0 := Lib.hid (WF.start (xs := #[.int .i64 k, .int .i64 v, .string g, .int .i64 (M : Int), .bool q, .int .i64 rob, .int .i64 ev, .slice ps ns cs, .slice pr nr cr]) (t := 26) HB.out)
  clear h hv
  go_enter Try.func12, Try.ntmps12
  go_wp2_with fail
  refine (wnum_c b _ 17 1 _ Wf0.out.1 (by omega) (by omega) (by omega)).mono ?_
  rintro e w1 ⟨rfl, b2, h2, o2⟩
  rw [show ((1 : Int)) = ((1 : Nat) : Int) from rfl, show (17 : Int) = ((17 : Nat) : Int) from rfl, P1.out] at b2
  have Wf := Lib.hid (Wf0.out.wrote (by decide) b2 h2 o2)
  clear b2 h2 o2
  have c1 := Wf.out.cell 1 rfl
  have c3 := Wf.out.cell 3 rfl
  go_wp2_with fail
  refine (wnum_c b _ M 1 _ Wf.out.1 (by simp only [List.length_append]; omega) (by omega) (by omega)).mono ?_
  rintro e w2 ⟨rfl, b2, h2, o2⟩
  rw [show ((1 : Int)) = ((1 : Nat) : Int) from rfl, P2.out] at b2
  replace Wf := Lib.hid (Wf.out.wrote (by decide) b2 h2 o2)
  clear b2 h2 o2 c1 c3
  go_wp2_with fail
  refine (wnum_c b _ 0 2 _ Wf.out.1 (by simp only [List.length_append]; omega) (by omega) (by omega)).mono ?_
  rintro e w3 ⟨rfl, b2, h2, o2⟩
  rw [show ((2 : Int)) = ((2 : Nat) : Int) from rfl, show (0 : Int) = ((0 : Nat) : Int) from rfl, P3.out] at b2
  replace Wf := Lib.hid (Wf.out.wrote (by decide) b2 h2 o2)
  clear b2 h2 o2
  have c2 := Wf.out.cell 2 rfl
  by_cases hz : g.size = 0
  · obtain rfl := bytes_empty hz
    go_wp2_with fail
    have Ha := AddrsW.one b w3 ⟨#[0, 0, 0, 0]⟩ Wf.out.1.lt
    replace Wf := Lib.hid (Wf.out.below ((Below.refl _ w3).alloc (Nat.le_refl _) (.cells #[.string ⟨#[0, 0, 0, 0]⟩] 22)))
    refine (waddrs_c b _ _ [⟨#[0, 0, 0, 0]⟩] _ Wf.out.1 Ha (by simp) (by rw [flat_one, zn4]; simp only [List.length_append, List.length_cons, List.length_nil]; omega)).mono ?_
    rintro e w5 ⟨rfl, b2, h2, o2⟩
    rw [flat_one, zn4] at b2
    replace Wf := Lib.hid (Wf.out.wrote (by decide) b2 h2 o2)
    clear b2 h2 o2 c2 Ha
    have c2 := Wf.out.cell 2 rfl
    go_wp2_with fail
    have Ha := AddrsW.one b w5 ⟨#[]⟩ Wf.out.1.lt
    replace Wf := Lib.hid (Wf.out.below ((Below.refl _ w5).alloc (Nat.le_refl _) (.cells #[.string ⟨#[]⟩] 22)))
    refine (waddrs_c b _ _ [⟨#[]⟩] _ Wf.out.1 Ha (by simp) (by simp only [List.length_append, flat_one, List.length_cons, List.length_nil]; omega)).mono ?_
    rintro e w6 ⟨rfl, b2, h2, o2⟩
    rw [flat_one, show (⟨#[]⟩ : ByteArray).data.toList = [] from rfl, List.append_nil] at b2
    replace Wf := Lib.hid (Wf.out.wrote (by decide) b2 h2 o2)
    clear b2 h2 o2 c2 Ha
    have c1 := Wf.out.cell 1 rfl
    go_wp2_with fail
    go_end0
    exact ⟨rfl, Wf.out.1, Wf.out.2.1, Wf.out.2.2.1⟩
  · have e1 : g.toList.isEmpty = false := toList_ne g hz
    have hG : grpL g = g.data.toList := if_neg hz
    clear hz
    go_wp2_with fail
    have Ha := AddrsW.one b w3 g Wf.out.1.lt
    replace Wf := Lib.hid (Wf.out.below ((Below.refl _ w3).alloc (Nat.le_refl _) (.cells #[.string g] 22)))
    refine (waddrs_c b _ _ [g] _ Wf.out.1 Ha (by simp) (by simp only [List.length_append, flat_one]; omega)).mono ?_
    rintro e w5 ⟨rfl, b2, h2, o2⟩
    rw [flat_one, ← hG] at b2
    replace Wf := Lib.hid (Wf.out.wrote (by decide) b2 h2 o2)
    clear b2 h2 o2 c2 Ha
    have c1 := Wf.out.cell 1 rfl
    go_wp2_with fail
    go_end0
    exact ⟨rfl, Wf.out.1, Wf.out.2.1, Wf.out.2.2.1⟩

set_option maxHeartbeats 2000000 in
set_option maxRecDepth 100000 in
theorem wq_long (b : Nat) (l : List UInt8) (k : Int) (g : ByteArray) (mx : Int) (q : Bool) (R : Nat) (ev : Int) (vs : Value) (ss : List ByteArray) (pr : Option Addr) (nr cr : Nat) (M C : Nat) (w00 w : World) (h : Wr.Bld b l w) (ha : AddrsAt w00 vs ss) (hD : Below w00.heap.size w00 w) (hb : w00.heap.size ≤ b) (hR : R < 8) (hM : M < 256) (hC : C < 256) (hm : encI 4 mx = ((M : Int), 0)) (he : encI 4 ev = ((C : Int), 0)) (hmx : mx ≤ 9223372036854775807) (hev : ev ≤ 9223372036854775807) (hn : ss.length ≤ 60) (hf : (flatL ss).length ≤ 960) (hg : g.size ≤ 16) (hl : l.length ≤ 500) :
    Calls Try.prog 12 #[.pointer (some ⟨b, 0, none⟩), .agg #[.int .i64 k, .int .i64 3, .string g, .int .i64 mx, .bool q, .int .i64 (R : Int), .int .i64 ev, vs, .slice pr nr cr]] w (WPost b (l ++ bytesOf 17 1 ++ bytesOf M 1 ++ bytesOf 0 2 ++ grpL g ++ bytesOf (flagN q R) 1 ++ bytesOf C 1 ++ bytesOf ss.length 2 ++ flatL ss) w) := by
  have HM := Lib.hid fun l' U h h2 => wcode_c b l' mx U h h2 hmx (by rw [hm]; simp only; omega)
  rw [hm] at HM
  simp only at HM
  have HDt := Lib.hid fun l' U h (k' : Below b w U) h2 => wdet_c b l' k 3 g mx q R ev vs ss pr nr cr C w00 U h ha (hD.trans (k'.mono hb)) hb hR hC he hev hn hf h2
  obtain ⟨p, cp, rfl⟩ := ha.slice
  have P1 := Lib.hid (put_n 17 1 (by omega) (by omega) (by omega))
  have P2 := Lib.hid (put_n M 1 (by omega) (by omega) (by omega))
  have P3 := Lib.hid (put_n 0 2 (by omega) (by omega) (by omega))
  have Z1 := bytesOf_length 17 1
  have Z2 := bytesOf_length M 1
  have Z3 := bytesOf_length 0 2
  have ZG := vlen g
  have HB := Lib.hid h
  have Wf0 := Lib.hid (WF.start (xs := #[.int .i64 k, .int .i64 3, .string g, .int .i64 mx, .bool q, .int .i64 (R : Int), .int .i64 ev, .slice p ss.length cp, .slice pr nr cr]) (t := 26) HB.out)
  have ZL : (grpL g).length ≤ 16 := by
    unfold grpL
    split
    · simp
    · omega
  generalize ss.length = n at *
  clear h ha hD hm he
  go_enter Try.func12, Try.ntmps12
  go_wp2_with fail
  refine (wnum_c b _ 17 1 _ Wf0.out.1 (by omega) (by omega) (by omega)).mono ?_
  rintro e w1 ⟨rfl, b2, h2, o2⟩
  rw [show ((1 : Int)) = ((1 : Nat) : Int) from rfl, show (17 : Int) = ((17 : Nat) : Int) from rfl, P1.out] at b2
  have Wf := Lib.hid (Wf0.out.wrote (by decide) b2 h2 o2)
  clear b2 h2 o2
  have c1 := Wf.out.cell 1 rfl
  have c3 := Wf.out.cell 3 rfl
  go_wp2_with fail
  refine (HM.out _ _ Wf.out.1 (by simp only [List.length_append]; omega)).mono ?_
  rintro e w2 ⟨rfl, b2, h2, o2⟩
  rw [show ((1 : Int)) = ((1 : Nat) : Int) from rfl, P2.out] at b2
  replace Wf := Lib.hid (Wf.out.wrote (by decide) b2 h2 o2)
  clear b2 h2 o2 c1 c3
  go_wp2_with fail
  refine (wnum_c b _ 0 2 _ Wf.out.1 (by simp only [List.length_append]; omega) (by omega) (by omega)).mono ?_
  rintro e w3 ⟨rfl, b2, h2, o2⟩
  rw [show ((2 : Int)) = ((2 : Nat) : Int) from rfl, show (0 : Int) = ((0 : Nat) : Int) from rfl, P3.out] at b2
  replace Wf := Lib.hid (Wf.out.wrote (by decide) b2 h2 o2)
  clear b2 h2 o2
  have c2 := Wf.out.cell 2 rfl
  by_cases hz : g.size = 0
  · obtain rfl := bytes_empty hz
    go_wp2_with fail
    have Ha := AddrsW.one b w3 ⟨#[0, 0, 0, 0]⟩ Wf.out.1.lt
    replace Wf := Lib.hid (Wf.out.below ((Below.refl _ w3).alloc (Nat.le_refl _) (.cells #[.string ⟨#[0, 0, 0, 0]⟩] 22)))
    refine (waddrs_c b _ _ [⟨#[0, 0, 0, 0]⟩] _ Wf.out.1 Ha (by simp) (by rw [flat_one, zn4]; simp only [List.length_append, List.length_cons, List.length_nil]; omega)).mono ?_
    rintro e w5 ⟨rfl, b2, h2, o2⟩
    rw [flat_one, zn4] at b2
    replace Wf := Lib.hid (Wf.out.wrote (by decide) b2 h2 o2)
    clear b2 h2 o2 c2 Ha
    have c2 := Wf.out.cell 2 rfl
    go_wp2_with fail
    have Ha := AddrsW.one b w5 ⟨#[]⟩ Wf.out.1.lt
    replace Wf := Lib.hid (Wf.out.below ((Below.refl _ w5).alloc (Nat.le_refl _) (.cells #[.string ⟨#[]⟩] 22)))
    refine (waddrs_c b _ _ [⟨#[]⟩] _ Wf.out.1 Ha (by simp) (by simp only [List.length_append, flat_one, List.length_cons, List.length_nil]; omega)).mono ?_
    rintro e w6 ⟨rfl, b2, h2, o2⟩
    rw [flat_one, show (⟨#[]⟩ : ByteArray).data.toList = [] from rfl, List.append_nil] at b2
    replace Wf := Lib.hid (Wf.out.wrote (by decide) b2 h2 o2)
    clear b2 h2 o2 c2 Ha
    have c0 := Wf.out.cell 0 rfl
    have c1 := Wf.out.cell 1 rfl
    have c2 := Wf.out.cell 2 rfl
    have c3 := Wf.out.cell 3 rfl
    have c4 := Wf.out.cell 4 rfl
    have c5 := Wf.out.cell 5 rfl
    have c6 := Wf.out.cell 6 rfl
    have c7 := Wf.out.cell 7 rfl
    have c8 := Wf.out.cell 8 rfl
    go_wp2_with fail
    refine (HDt.out _ _ Wf.out.1 Wf.out.2.1 (by simp only [List.length_append, List.length_cons, List.length_nil]; omega)).mono ?_
    rintro e w9 ⟨rfl, b2, h2, o2⟩
    replace Wf := Lib.hid (Wf.out.wrote (by decide) b2 h2 o2)
    clear b2 h2 o2 c0 c1 c2 c3 c4 c5 c6 c7 c8
    go_wp2_with fail
    go_end0
    exact ⟨rfl, Wf.out.1, Wf.out.2.1, Wf.out.2.2.1⟩
  · have e1 : g.toList.isEmpty = false := toList_ne g hz
    have hG : grpL g = g.data.toList := if_neg hz
    clear hz
    go_wp2_with fail
    have Ha := AddrsW.one b w3 g Wf.out.1.lt
    replace Wf := Lib.hid (Wf.out.below ((Below.refl _ w3).alloc (Nat.le_refl _) (.cells #[.string g] 22)))
    refine (waddrs_c b _ _ [g] _ Wf.out.1 Ha (by simp) (by simp only [List.length_append, flat_one]; omega)).mono ?_
    rintro e w5 ⟨rfl, b2, h2, o2⟩
    rw [flat_one, ← hG] at b2
    replace Wf := Lib.hid (Wf.out.wrote (by decide) b2 h2 o2)
    clear b2 h2 o2 c2 Ha
    have c0 := Wf.out.cell 0 rfl
    have c1 := Wf.out.cell 1 rfl
    have c2 := Wf.out.cell 2 rfl
    have c3 := Wf.out.cell 3 rfl
    have c4 := Wf.out.cell 4 rfl
    have c5 := Wf.out.cell 5 rfl
    have c6 := Wf.out.cell 6 rfl
    have c7 := Wf.out.cell 7 rfl
    have c8 := Wf.out.cell 8 rfl
    go_wp2_with fail
    refine (HDt.out _ _ Wf.out.1 Wf.out.2.1 (by simp only [List.length_append]; omega)).mono ?_
    rintro e w9 ⟨rfl, b2, h2, o2⟩
    replace Wf := Lib.hid (Wf.out.wrote (by decide) b2 h2 o2)
    clear b2 h2 o2 c0 c1 c2 c3 c4 c5 c6 c7 c8
    go_wp2_with fail
    go_end0
    exact ⟨rfl, Wf.out.1, Wf.out.2.1, Wf.out.2.2.1⟩

set_option maxHeartbeats 1000000 in
set_option maxRecDepth 100000 in
theorem ienc_q (v : Int) (g : ByteArray) (mx : Int) (q : Bool) (rob ev : Int) (ps : Option Addr) (ns cs : Nat) (pr : Option Addr) (nr cr : Nat) (X : List UInt8) (w : World) (h8 : 8 ≤ X.length ∧ X.length ≤ 40000)
    (hm : ∀ U, Below w.heap.size w U → Calls Try.prog 11 #[.agg #[.int .i64 1, .int .i64 v, .string g, .int .i64 mx, .bool q, .int .i64 rob, .int .i64 ev, .slice ps ns cs, .slice pr nr cr]] U fun e w' => e = .returned (.bool true) ∧ Below U.heap.size U w')
    (hw : ∀ b U, Wr.Bld b [] U → Below w.heap.size w U → w.heap.size ≤ b → Calls Try.prog 12 #[.pointer (some ⟨b, 0, none⟩), .agg #[.int .i64 1, .int .i64 v, .string g, .int .i64 mx, .bool q, .int .i64 rob, .int .i64 ev, .slice ps ns cs, .slice pr nr cr]] U (WPost b X U)) :
    Calls Try.prog 7 #[.agg #[.int .i64 1, .int .i64 v, .string g, .int .i64 mx, .bool q, .int .i64 rob, .int .i64 ev, .slice ps ns cs, .slice pr nr cr]] w fun e w' => e = .returned (.tuple #[.string (fillSpec ⟨#[]⟩ ⟨X.toArray⟩ 2).1, .int .i64 0]) ∧ Below w.heap.size w w' := by
  have HM := Lib.hid hm
  have HW := Lib.hid hw
  have hne : X ≠ [] := by rintro rfl; simp at h8
  have HF := Lib.hid fun U => fill_c ⟨#[]⟩ ⟨X.toArray⟩ 2 U (by decide) (by rw [ByteArray.size_mk', List.size_toArray]; omega)
  have HFs := Lib.hid hne
  clear hm hw hne
  go_enter Try.func7, Try.ntmps7
  go_wp2_with fail
  have B := Lib.hid (Box.start w #[.int .i64 1, .int .i64 v, .string g, .int .i64 mx, .bool q, .int .i64 rob, .int .i64 ev, .slice ps ns cs, .slice pr nr cr] 26)
  have D1 := B.out.2
  ((with_reducible refine (HM.out _ D1).mono ?_); rintro e w1 ⟨rfl, h1⟩)
  replace B := Lib.hid (B.out.below h1)
  clear h1
  have hlt := B.out.lt
  have hb1 : Below w1.heap.size w1 (w1.alloc (.cells #[.pointer none, .slice none 0 0] 43)) := (Below.refl _ w1).alloc (Nat.le_refl _) _
  have B1 := Lib.hid (B.out.belowP hlt hb1)
  have WB := Lib.hid (Wr.Bld.fresh w1)
  have c0 := B.out.cell 0 rfl
  have c1 := B.out.cell 1 rfl
  have c2 := B.out.cell 2 rfl
  have c3 := B.out.cell 3 rfl
  have c4 := B.out.cell 4 rfl
  have c5 := B.out.cell 5 rfl
  have c6 := B.out.cell 6 rfl
  have c7 := B.out.cell 7 rfl
  have c8 := B.out.cell 8 rfl
  clear hb1
  go_wp2_with fail
  refine (HW.out _ _ WB.out B1.out.2 (Nat.le_of_lt hlt)).mono ?_
  rintro e w2 ⟨rfl, b2, h2, o2⟩
  have B2 := Lib.hid (B1.out.belowP hlt h2)
  have WB2 := Lib.hid b2
  clear b2 h2 o2 c0 c1 c2 c3 c4 c5 c6 c7 c8 WB B1 B
  go_wp2_with fail
  refine (Wr.bstr_some _ X w2 WB2.out HFs.out).mono ?_
  rintro e w3 ⟨rfl, b3, h3⟩
  have B3 := Lib.hid (B2.out.belowP hlt h3)
  go_wp2_with fail
  ((with_reducible refine (HF.out _).mono ?_); rintro e w4 ⟨rfl, h4⟩)
  have B4 := Lib.hid (B3.out.below h4)
  go_wp2_with fail
  go_ret2
  exact ⟨rfl, B4.out.2⟩

def qShortL (M : Nat) (g : ByteArray) : List UInt8 := [] ++ bytesOf 17 1 ++ bytesOf M 1 ++ bytesOf 0 2 ++ grpL g
def qLongL (M : Nat) (g : ByteArray) (q : Bool) (R C : Nat) (ss : List ByteArray) : List UInt8 := [] ++ bytesOf 17 1 ++ bytesOf M 1 ++ bytesOf 0 2 ++ grpL g ++ bytesOf (flagN q R) 1 ++ bytesOf C 1 ++ bytesOf ss.length 2 ++ flatL ss

theorem det_parts' {q : Bool} {rob ev : Int} {ns : Nat} (h : detB q rob ev ns = false) : q = false ∧ rob = 0 ∧ ev = 0 ∧ ns = 0 := by
  unfold detB at h
  simp only [Bool.or_eq_false_iff, decide_eq_false_iff_not, Decidable.not_not] at h
  exact ⟨h.1.1.1, h.1.1.2, h.1.2, h.2⟩

theorem grp_len {g : ByteArray} {n : Nat} (h : qGrpB g n = true) : (grpL g).length = 4 ∧ g.size ≤ 16 ∧ (g.size = 0 → n = 0) := by
  unfold qGrpB at h
  unfold grpL
  have := vlen g
  split at h
  · next hz => rw [if_pos hz]; exact ⟨rfl, by omega, fun _ => by simpa using h⟩
  · next hz =>
    rw [if_neg hz]
    unfold grpB at h
    rw [Bool.and_eq_true, decide_eq_true_iff] at h
    exact ⟨by omega, by omega, fun h' => absurd h' hz⟩

/-- A query that may be: of version 1 or 2, or of version 3. -/
theorem query_parts {v : Int} {g : ByteArray} {mx : Int} {q : Bool} {rob ev : Int} {ss : List ByteArray} {nr : Nat} (h : mayQB v g mx q rob ev ss nr = true) :
    nr = 0 ∧ qGrpB g ss.length = true ∧
    ((v ≠ 3 ∧ q = false ∧ rob = 0 ∧ ev = 0 ∧ ss = [] ∧ ∃ M : Nat, mx = M ∧ M < 256 ∧ v = if M = 0 then 1 else 2) ∨
     (v = 3 ∧ srcsB ss 4 = true ∧ ∃ R M C : Nat, rob = R ∧ R < 8 ∧ M < 256 ∧ C < 256 ∧ encI 4 mx = ((M : Int), 0) ∧ encI 4 ev = ((C : Int), 0) ∧ decI 4 (M : Int) = (mx, 0) ∧ decI 4 (C : Int) = (ev, 0))) := by
  unfold mayQB at h
  rw [Bool.and_eq_true, Bool.and_eq_true, decide_eq_true_iff] at h
  obtain ⟨⟨h1, h2⟩, h3⟩ := h
  refine ⟨h1, h2, ?_⟩
  unfold qmayB at h3
  split at h3
  · next hv =>
    rw [Bool.and_eq_true, decide_eq_true_iff, Bool.not_eq_true'] at h3
    obtain ⟨d1, d2, d3, d4⟩ := det_parts' h3.2
    exact .inl ⟨by omega, d1, d2, d3, List.eq_nil_of_length_eq_zero d4, 0, h3.1, by omega, by simp [hv]⟩
  · split at h3
    · next hv =>
      rw [Bool.and_eq_true, Bool.and_eq_true, decide_eq_true_iff, decide_eq_true_iff, Bool.not_eq_true'] at h3
      obtain ⟨d1, d2, d3, d4⟩ := det_parts' h3.2
      exact .inl ⟨by omega, d1, d2, d3, List.eq_nil_of_length_eq_zero d4, mx.toNat, by omega, by omega, by rw [if_neg (by omega), hv]⟩
    · split at h3
      · next hv =>
        simp only [Bool.and_eq_true, decide_eq_true_iff] at h3
        obtain ⟨⟨⟨⟨m1, m2⟩, m3⟩, m4⟩, m5⟩ := h3
        obtain ⟨M, a1, a2, a3⟩ := coded_parts m1
        obtain ⟨C, b1, b2, b3⟩ := coded_parts m2
        exact .inr ⟨hv, m5, rob.toNat, M, C, by omega, by omega, a1, b1, a2, b2, a3, b3⟩
      · exact absurd h3 (by simp)

/-- What Encode writes of a query, ahead of the sum. -/
def qryL (v : Int) (g : ByteArray) (mx : Int) (q : Bool) (rob ev : Int) (ss : List ByteArray) : List UInt8 :=
  if v = 3 then qLongL (encI 4 mx).1.toNat g q rob.toNat (encI 4 ev).1.toNat ss else qShortL mx.toNat g

set_option maxHeartbeats 1000000 in
set_option maxRecDepth 100000 in
theorem ienc_qry (v : Int) (g : ByteArray) (mx : Int) (q : Bool) (rob ev : Int) (vs : Value) (ss : List ByteArray) (pr : Option Addr) (nr cr : Nat) (w : World) (hmx : mx ≤ 9223372036854775807) (hev : ev ≤ 9223372036854775807) (hl : ss.length ≤ 9223372036854775807) (ha : AddrsAt w vs ss) (hm : mayQB v g mx q rob ev ss nr = true) :
    Calls Try.prog 7 #[.agg #[.int .i64 1, .int .i64 v, .string g, .int .i64 mx, .bool q, .int .i64 rob, .int .i64 ev, vs, .slice pr nr cr]] w fun e w' => e = .returned (.tuple #[.string (fillSpec ⟨#[]⟩ ⟨(qryL v g mx q rob ev ss).toArray⟩ 2).1, .int .i64 0]) ∧ Below w.heap.size w w' := by
  obtain ⟨h1, h2, h3⟩ := query_parts hm
  obtain ⟨g1, g2, g3⟩ := grp_len h2
  obtain ⟨p, cp, rfl⟩ := ha.slice
  have HM : ∀ U, Below w.heap.size w U → Calls Try.prog 11 #[.agg #[.int .i64 1, .int .i64 v, .string g, .int .i64 mx, .bool q, .int .i64 rob, .int .i64 ev, .slice p ss.length cp, .slice pr nr cr]] U fun e w' => e = .returned (.bool true) ∧ Below U.heap.size U w' := fun U k => by
    have := may_query v g mx q rob ev (.slice p ss.length cp) ss pr nr cr U hmx hev hl (ha.below k)
    rw [hm] at this
    exact this
  rcases h3 with ⟨v3, rfl, rfl, rfl, rfl, M, rfl, hM, -⟩ | ⟨rfl, hs, R, M, C, rfl, hR, hM, hC, e1, e2, -, -⟩
  · have e : qryL v g (M : Int) false 0 0 [] = qShortL M g := by unfold qryL; rw [if_neg v3, Int.toNat_natCast]
    rw [e]
    refine ienc_q v g M false 0 0 p _ cp pr nr cr _ w ?_ HM fun b U hb k1 k2 => ?_
    · unfold qShortL
      simp only [List.length_append, bytesOf_length, List.length_nil]; omega
    · exact wq_short b [] 1 v g M false 0 0 p _ cp pr nr cr U hb v3 hM g2 (by simp)
  · obtain ⟨f1, f2⟩ := srcs_flat ss 4 hs (by omega)
    have e : qryL 3 g mx q (R : Int) ev ss = qLongL M g q R C ss := by unfold qryL; rw [if_pos rfl, e1, e2]; simp only [Int.toNat_natCast]
    rw [e]
    refine ienc_q 3 g mx q R ev p _ cp pr nr cr _ w ?_ HM fun b U hb k1 k2 => ?_
    · unfold qLongL
      simp only [List.length_append, bytesOf_length, List.length_nil]; omega
    · exact wq_long b [] 1 g mx q R ev _ ss pr nr cr M C w U hb ha k1 k2 hR hM hC e1 e2 hmx hev f2 f1 g2 (by simp)

end Go.Proofs.Ytfdiaaggmjlkbaa
