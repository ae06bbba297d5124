/-
  Filters: filter.merge with the closure of join. A contract over the translated program.
-/
import Derived.Test.YthpafojeadbjlaaFlB
namespace Go.Proofs.Ythpafojeadbjlaa
open Go.RowKit
set_option linter.unusedVariables false

set_option maxHeartbeats 16000000 in
set_option maxRecDepth 100000 in
theorem mergej_c (c1 c2 c3 c4 : Nat) (pa pb : Option Addr) (ca cb : Nat) (A B : List ByteArray) (st : Bool → Bool → Bool) (w : World) (hA : A.length ≤ 1000000) (hB : B.length ≤ 1000000) (ha : AC w pa ca A) (hb : AC w pb cb B)
    (hst : ∀ i j U, Below w.heap.size w U → Calls Try.prog 73 #[.bool i, .bool j, .pointer (some ⟨c1, 0, none⟩), .pointer (some ⟨c2, 0, none⟩), .pointer (some ⟨c3, 0, none⟩), .pointer (some ⟨c4, 0, none⟩)] U fun e w' => e = .returned (.bool (st i j)) ∧ Below U.heap.size U w') :
    Calls Try.prog 74 #[.slice pa A.length ca, .slice pb B.length cb, .func (.func 73) #[] #[.pointer (some ⟨c1, 0, none⟩), .pointer (some ⟨c2, 0, none⟩), .pointer (some ⟨c3, 0, none⟩), .pointer (some ⟨c4, 0, none⟩)]] w (MPost (mgo st A B) w) := by
  have HS := Lib.hid hst
  obtain ⟨i0, hi, hz0, hz1, hz2⟩ := info_parts infoAd
  have hT := mgo_len st A B
  have hTT : (mgo st A B).length ≤ 2000000 := by omega
  unfold MPost
  generalize hR : mgo st A B = R at hTT ⊢
  have HR := Lib.hid hR
  have HA := Lib.hid ha
  have HB := Lib.hid hb
  clear hst hT hR ha hb
  go_enter Try.func74, Try.ntmps74
  go_wp2_with fail
  go_loopw [0, 1, 7, 8, 9, 10] (fun a b o _ _ _ wr => ∃ (qa qb : Option Addr) (da db na nb : Nat) (la lb acc : List ByteArray), a = .slice qa na da ∧ b = .slice qb nb db ∧ na = la.length ∧ nb = lb.length ∧ na ≤ 1000000 ∧ nb ≤ 1000000 ∧ Hid (AC w qa da la) ∧ Hid (AC w qb db lb) ∧ Hid (acc ++ mgo st la lb = R) ∧ Hid (wr.ownsRow w.heap.size 35 1 o acc.length (acc.map Value.string)) ∧ Hid (Below w.heap.size w wr)) (fun a b _ _ _ _ _ => (match a with | .slice _ n _ => n | _ => 0) + (match b with | .slice _ n _ => n | _ => 0))
  case atStart => exact ⟨pa, pb, ca, cb, _, _, A, B, [], rfl, rfl, rfl, rfl, hA, hB, HA, HB, HR, Lib.hid (World.ownsRow_nil _ _ _ _), Lib.hid (Below.refl _ _)⟩
  case round =>
    clear HA HB HR hA hB
    obtain ⟨qa, qb, da, db, na, nb, la, lb, acc, rfl, rfl, hna, hnb, hla, hlb, HA, HB, HR, OW, K⟩ := hrel
    have hal : Hid (acc.length ≤ 2000000) := Lib.hid (by have h := congrArg List.length HR.out; simp only [List.length_append] at h; omega)
    have HD := Lib.hid fun i j n => HS.out i j (wr.drewN n) (below_drewN K.out n)
    rcases la with _ | ⟨x, ta⟩
    · obtain rfl : na = 0 := by simpa using hna
      clear hna
      rcases lb with _ | ⟨y, tb⟩
      · obtain rfl : nb = 0 := by simpa using hnb
        clear hnb
        have HE := Lib.hid (show acc = R by have h := HR.out; rw [mgo, List.append_nil] at h; exact h)
        clear HR HD HA HB hal
        go_wp2_with fail
        go_ret
        obtain rfl := HE.out
        exact ⟨_, rfl, AddrsG.of_owns OW.out, K.out⟩
      · obtain ⟨b2, o2, qb2, rfl, y2, rb1, rb2, HB1⟩ := HB.out.cons2
        have x2 := cell_below K.out y2
        have HE := Lib.hid (mgo_y st y tb)
        clear y2
        obtain ⟨mb, rfl⟩ : ∃ m, nb = m + 1 := ⟨tb.length, by simpa using hnb⟩
        have hmb := Lib.hid (show mb = tb.length by simpa using hnb)
        have eb0 : (((mb : Int) + 1) == 0) = false := (ne_t (by omega)).1
        have eb1 : decide ((0 : Int) < (mb : Int) + 1) = true := decide_eq_true (by omega)
        have eb2 : decide (0 < mb + 1) = true := decide_eq_true (by omega)
        have eb3 : (0 : Int) < (mb : Int) + 1 := by omega
        clear hnb
        have HDx := Lib.hid (HD.out false true)
        clear HD
        have BN := Lib.hid HB1
        clear HB1
        rcases hs : st false true with _ | _
        · have HR2 := Lib.hid (show acc ++ mgo st [] tb = R by have h := HR.out; rw [HE.out, hs] at h; simpa using h)
          rw [hs] at HDx
          clear hs HE HR
          go_wp2_with fail
          go_quiet (fail)
          go_wp2_with fail
          go_quiet (fail)
          go_wp2_with fail
          go_quiet (fail)
          go_wp2_with fail
          refine (HDx.out _).mono ?_
          rintro e w3 ⟨rfl, h3⟩
          have D3 := Lib.hid (show Below wr.heap.size wr w3 from (below_drewN (Below.refl wr.heap.size wr) _).trans h3)
          have O3 := Lib.hid (iow_below OW.out D3.out)
          have K3 := Lib.hid (K.out.trans (D3.out.mono K.out.size))
          clear h3 D3
          have O9 := O3
          have K9 := K3
          go_wp2_with fail
          go_roundw
          case rel => exact ⟨_, _, _, _, _, _, [], tb, acc, rfl, rfl, (by first | rfl | exact hma.out | (simp only [List.length_cons]; have := hma.out; omega)), (by first | rfl | exact hmb.out | (simp only [List.length_cons]; have := hmb.out; omega)), by omega, by omega, HA, BN, HR2, O9, K9⟩
          case measure => simp; try omega
        · have HR2 := Lib.hid (show (acc ++ [y]) ++ mgo st [] tb = R by have h := HR.out; rw [HE.out, hs] at h; simpa using h)
          rw [hs] at HDx
          clear hs HE HR
          go_wp2_with fail
          go_quiet (fail)
          go_wp2_with fail
          go_quiet (fail)
          go_wp2_with fail
          go_quiet (fail)
          go_wp2_with fail
          refine (HDx.out _).mono ?_
          rintro e w3 ⟨rfl, h3⟩
          have D3 := Lib.hid (show Below wr.heap.size wr w3 from (below_drewN (Below.refl wr.heap.size wr) _).trans h3)
          have O3 := Lib.hid (iow_below OW.out D3.out)
          have K3 := Lib.hid (K.out.trans (D3.out.mono K.out.size))
          clear h3 D3
          go_wp2_with (at_builtin; refine wpList_append_own _ rfl _ _ 26 rfl w.heap.size 35 i0 (.string ⟨#[]⟩) 1 16 Try.underlying26 hi hz0 hz1 hz2 rfl (by decide) _ _ _ rfl (O3.out.alloc _) ⟨w3.heap.size, 0, none⟩ 1 1 [.string y] rfl rfl ?d1 ?d2 ?d3 ?d4 ?d5 ?_)
          case d1 => exact cells1a _ _ _
          case d2 => intro u hu; simp at hu; subst hu; rfl
          case d3 => unfold maxLen; have := hal.out; omega
          case d4 => have := hal.out; omega
          case d5 => have := K3.out.size; simp at this ⊢; omega
          intro v9 w7 hown7 hg7 _
          have O9 := Lib.hid (show w7.ownsRow w.heap.size 35 1 v9 (acc ++ [y]).length ((acc ++ [y]).map Value.string) by rw [List.length_append, List.map_append]; exact hown7)
          have K9 := Lib.hid ((K3.out.alloc K3.out.size _).grown hg7 (by have := K3.out.size; simp at this ⊢; omega) (fun j hj => (O3.out.lt j hj).1))
          clear hown7 hg7
          go_wp2_with fail
          go_roundw
          case rel => exact ⟨_, _, _, _, _, _, [], tb, (acc ++ [y]), rfl, rfl, (by first | rfl | exact hma.out | (simp only [List.length_cons]; have := hma.out; omega)), (by first | rfl | exact hmb.out | (simp only [List.length_cons]; have := hmb.out; omega)), by omega, by omega, HA, BN, HR2, O9, K9⟩
          case measure => simp; try omega
    · rcases lb with _ | ⟨y, tb⟩
      · obtain rfl : nb = 0 := by simpa using hnb
        clear hnb
        obtain ⟨b1, o1, qa2, rfl, y1, ra1, ra2, HA1⟩ := HA.out.cons2
        have x1 := cell_below K.out y1
        have HE := Lib.hid (mgo_x st x ta)
        clear y1
        obtain ⟨ma, rfl⟩ : ∃ m, na = m + 1 := ⟨ta.length, by simpa using hna⟩
        have hma := Lib.hid (show ma = ta.length by simpa using hna)
        have ea0 : (((ma : Int) + 1) == 0) = false := (ne_t (by omega)).1
        have ea1 : decide ((0 : Int) < (ma : Int) + 1) = true := decide_eq_true (by omega)
        have ea2 : decide (0 < ma + 1) = true := decide_eq_true (by omega)
        have ea3 : (0 : Int) < (ma : Int) + 1 := by omega
        clear hna
        have HDx := Lib.hid (HD.out true false)
        clear HD
        have AN := Lib.hid HA1
        clear HA1
        rcases hs : st true false with _ | _
        · have HR2 := Lib.hid (show acc ++ mgo st ta [] = R by have h := HR.out; rw [HE.out, hs] at h; simpa using h)
          rw [hs] at HDx
          clear hs HE HR
          go_wp2_with fail
          go_quiet (fail)
          go_wp2_with fail
          go_quiet (fail)
          go_wp2_with fail
          go_quiet (fail)
          go_wp2_with fail
          refine (HDx.out _).mono ?_
          rintro e w3 ⟨rfl, h3⟩
          have D3 := Lib.hid (show Below wr.heap.size wr w3 from (below_drewN (Below.refl wr.heap.size wr) _).trans h3)
          have O3 := Lib.hid (iow_below OW.out D3.out)
          have K3 := Lib.hid (K.out.trans (D3.out.mono K.out.size))
          clear h3 D3 x1
          have O9 := O3
          have K9 := K3
          go_wp2_with fail
          go_roundw
          case rel => exact ⟨_, _, _, _, _, _, ta, [], acc, rfl, rfl, (by first | rfl | exact hma.out | (simp only [List.length_cons]; have := hma.out; omega)), (by first | rfl | exact hmb.out | (simp only [List.length_cons]; have := hmb.out; omega)), by omega, by omega, AN, HB, HR2, O9, K9⟩
          case measure => simp; try omega
        · have HR2 := Lib.hid (show (acc ++ [x]) ++ mgo st ta [] = R by have h := HR.out; rw [HE.out, hs] at h; simpa using h)
          rw [hs] at HDx
          clear hs HE HR
          go_wp2_with fail
          go_quiet (fail)
          go_wp2_with fail
          go_quiet (fail)
          go_wp2_with fail
          go_quiet (fail)
          go_wp2_with fail
          refine (HDx.out _).mono ?_
          rintro e w3 ⟨rfl, h3⟩
          have D3 := Lib.hid (show Below wr.heap.size wr w3 from (below_drewN (Below.refl wr.heap.size wr) _).trans h3)
          have O3 := Lib.hid (iow_below OW.out D3.out)
          have K3 := Lib.hid (K.out.trans (D3.out.mono K.out.size))
          clear h3 D3 x1
          go_wp2_with (at_builtin; refine wpList_append_own _ rfl _ _ 26 rfl w.heap.size 35 i0 (.string ⟨#[]⟩) 1 16 Try.underlying26 hi hz0 hz1 hz2 rfl (by decide) _ _ _ rfl (O3.out.alloc _) ⟨w3.heap.size, 0, none⟩ 1 1 [.string x] rfl rfl ?d1 ?d2 ?d3 ?d4 ?d5 ?_)
          case d1 => exact cells1a _ _ _
          case d2 => intro u hu; simp at hu; subst hu; rfl
          case d3 => unfold maxLen; have := hal.out; omega
          case d4 => have := hal.out; omega
          case d5 => have := K3.out.size; simp at this ⊢; omega
          intro v9 w7 hown7 hg7 _
          have O9 := Lib.hid (show w7.ownsRow w.heap.size 35 1 v9 (acc ++ [x]).length ((acc ++ [x]).map Value.string) by rw [List.length_append, List.map_append]; exact hown7)
          have K9 := Lib.hid ((K3.out.alloc K3.out.size _).grown hg7 (by have := K3.out.size; simp at this ⊢; omega) (fun j hj => (O3.out.lt j hj).1))
          clear hown7 hg7
          go_wp2_with fail
          go_roundw
          case rel => exact ⟨_, _, _, _, _, _, ta, [], (acc ++ [x]), rfl, rfl, (by first | rfl | exact hma.out | (simp only [List.length_cons]; have := hma.out; omega)), (by first | rfl | exact hmb.out | (simp only [List.length_cons]; have := hmb.out; omega)), by omega, by omega, AN, HB, HR2, O9, K9⟩
          case measure => simp; try omega
      · obtain ⟨b1, o1, qa2, rfl, y1, ra1, ra2, HA1⟩ := HA.out.cons2
        obtain ⟨b2, o2, qb2, rfl, y2, rb1, rb2, HB1⟩ := HB.out.cons2
        have x1 := cell_below K.out y1
        have x2 := cell_below K.out y2
        clear y1 y2
        rcases h1 : sl x y with _ | _
        · rcases h2 : sl y x with _ | _
          · obtain rfl := sl_tri h1 h2
            have k1 := fun t => leq_of (x := x) (y := x) (r := true) (by rw [h1]; rfl) t
            have HE := Lib.hid (mgo_eq st x ta tb)
            clear h1 h2
            obtain ⟨ma, rfl⟩ : ∃ m, na = m + 1 := ⟨ta.length, by simpa using hna⟩
            have hma := Lib.hid (show ma = ta.length by simpa using hna)
            have ea0 : (((ma : Int) + 1) == 0) = false := (ne_t (by omega)).1
            have ea1 : decide ((0 : Int) < (ma : Int) + 1) = true := decide_eq_true (by omega)
            have ea2 : decide (0 < ma + 1) = true := decide_eq_true (by omega)
            have ea3 : (0 : Int) < (ma : Int) + 1 := by omega
            clear hna
            obtain ⟨mb, rfl⟩ : ∃ m, nb = m + 1 := ⟨tb.length, by simpa using hnb⟩
            have hmb := Lib.hid (show mb = tb.length by simpa using hnb)
            have eb0 : (((mb : Int) + 1) == 0) = false := (ne_t (by omega)).1
            have eb1 : decide ((0 : Int) < (mb : Int) + 1) = true := decide_eq_true (by omega)
            have eb2 : decide (0 < mb + 1) = true := decide_eq_true (by omega)
            have eb3 : (0 : Int) < (mb : Int) + 1 := by omega
            clear hnb
            have HDx := Lib.hid (HD.out true true)
            clear HD
            have AN := Lib.hid HA1
            clear HA1
            have BN := Lib.hid HB1
            clear HB1
            rcases hs : st true true with _ | _
            · have HR2 := Lib.hid (show acc ++ mgo st ta tb = R by have h := HR.out; rw [HE.out, hs] at h; simpa using h)
              rw [hs] at HDx
              clear hs HE HR
              go_wp2_with fail
              go_quiet (fail)
              go_wp2_with fail
              go_quiet (fail)
              go_wp2_with fail
              go_quiet (fail)
              go_wp2_with fail
              go_quiet (fail)
              go_wp2_with fail
              refine (HDx.out _).mono ?_
              rintro e w3 ⟨rfl, h3⟩
              have D3 := Lib.hid (show Below wr.heap.size wr w3 from (below_drewN (Below.refl wr.heap.size wr) _).trans h3)
              have O3 := Lib.hid (iow_below OW.out D3.out)
              have K3 := Lib.hid (K.out.trans (D3.out.mono K.out.size))
              clear h3 D3
              have O9 := O3
              have K9 := K3
              go_wp2_with fail
              go_roundw
              case rel => exact ⟨_, _, _, _, _, _, ta, tb, acc, rfl, rfl, (by first | rfl | exact hma.out | (simp only [List.length_cons]; have := hma.out; omega)), (by first | rfl | exact hmb.out | (simp only [List.length_cons]; have := hmb.out; omega)), by omega, by omega, AN, BN, HR2, O9, K9⟩
              case measure => simp; try omega
            · have HR2 := Lib.hid (show (acc ++ [x]) ++ mgo st ta tb = R by have h := HR.out; rw [HE.out, hs] at h; simpa using h)
              rw [hs] at HDx
              clear hs HE HR
              go_wp2_with fail
              go_quiet (fail)
              go_wp2_with fail
              go_quiet (fail)
              go_wp2_with fail
              go_quiet (fail)
              go_wp2_with fail
              go_quiet (fail)
              go_wp2_with fail
              refine (HDx.out _).mono ?_
              rintro e w3 ⟨rfl, h3⟩
              have D3 := Lib.hid (show Below wr.heap.size wr w3 from (below_drewN (Below.refl wr.heap.size wr) _).trans h3)
              have O3 := Lib.hid (iow_below OW.out D3.out)
              have K3 := Lib.hid (K.out.trans (D3.out.mono K.out.size))
              clear h3 D3
              go_wp2_with (at_builtin; refine wpList_append_own _ rfl _ _ 26 rfl w.heap.size 35 i0 (.string ⟨#[]⟩) 1 16 Try.underlying26 hi hz0 hz1 hz2 rfl (by decide) _ _ _ rfl (O3.out.alloc _) ⟨w3.heap.size, 0, none⟩ 1 1 [.string x] rfl rfl ?d1 ?d2 ?d3 ?d4 ?d5 ?_)
              case d1 => exact cells1a _ _ _
              case d2 => intro u hu; simp at hu; subst hu; rfl
              case d3 => unfold maxLen; have := hal.out; omega
              case d4 => have := hal.out; omega
              case d5 => have := K3.out.size; simp at this ⊢; omega
              intro v9 w7 hown7 hg7 _
              have O9 := Lib.hid (show w7.ownsRow w.heap.size 35 1 v9 (acc ++ [x]).length ((acc ++ [x]).map Value.string) by rw [List.length_append, List.map_append]; exact hown7)
              have K9 := Lib.hid ((K3.out.alloc K3.out.size _).grown hg7 (by have := K3.out.size; simp at this ⊢; omega) (fun j hj => (O3.out.lt j hj).1))
              clear hown7 hg7
              go_wp2_with fail
              go_roundw
              case rel => exact ⟨_, _, _, _, _, _, ta, tb, (acc ++ [x]), rfl, rfl, (by first | rfl | exact hma.out | (simp only [List.length_cons]; have := hma.out; omega)), (by first | rfl | exact hmb.out | (simp only [List.length_cons]; have := hmb.out; omega)), by omega, by omega, AN, BN, HR2, O9, K9⟩
              case measure => simp; try omega
          · have k1 := fun t => leq_of (x := x) (y := y) (r := false) (by rw [h2]; rfl) t
            have k2 := fun t => leq_of (x := y) (y := x) (r := true) (by rw [h1]; rfl) t
            have HE := Lib.hid (mgo_gt st x y ta tb h1 h2)
            clear h1 h2
            obtain ⟨ma, rfl⟩ : ∃ m, na = m + 1 := ⟨ta.length, by simpa using hna⟩
            have hma := Lib.hid (show ma = ta.length by simpa using hna)
            have ea0 : (((ma : Int) + 1) == 0) = false := (ne_t (by omega)).1
            have ea1 : decide ((0 : Int) < (ma : Int) + 1) = true := decide_eq_true (by omega)
            have ea2 : decide (0 < ma + 1) = true := decide_eq_true (by omega)
            have ea3 : (0 : Int) < (ma : Int) + 1 := by omega
            clear hna
            obtain ⟨mb, rfl⟩ : ∃ m, nb = m + 1 := ⟨tb.length, by simpa using hnb⟩
            have hmb := Lib.hid (show mb = tb.length by simpa using hnb)
            have eb0 : (((mb : Int) + 1) == 0) = false := (ne_t (by omega)).1
            have eb1 : decide ((0 : Int) < (mb : Int) + 1) = true := decide_eq_true (by omega)
            have eb2 : decide (0 < mb + 1) = true := decide_eq_true (by omega)
            have eb3 : (0 : Int) < (mb : Int) + 1 := by omega
            clear hnb
            have HDx := Lib.hid (HD.out false true)
            clear HD
            have BN := Lib.hid HB1
            clear HB1
            rcases hs : st false true with _ | _
            · have HR2 := Lib.hid (show acc ++ mgo st (x :: ta) tb = R by have h := HR.out; rw [HE.out, hs] at h; simpa using h)
              rw [hs] at HDx
              clear hs HE HR
              go_wp2_with fail
              go_quiet (fail)
              go_wp2_with fail
              go_quiet (fail)
              go_wp2_with fail
              go_quiet (fail)
              go_wp2_with fail
              refine (HDx.out _).mono ?_
              rintro e w3 ⟨rfl, h3⟩
              have D3 := Lib.hid (show Below wr.heap.size wr w3 from (below_drewN (Below.refl wr.heap.size wr) _).trans h3)
              have O3 := Lib.hid (iow_below OW.out D3.out)
              have K3 := Lib.hid (K.out.trans (D3.out.mono K.out.size))
              clear h3 D3
              have O9 := O3
              have K9 := K3
              go_wp2_with fail
              go_roundw
              case rel => exact ⟨_, _, _, _, _, _, (x :: ta), tb, acc, rfl, rfl, (by first | rfl | exact hma.out | (simp only [List.length_cons]; have := hma.out; omega)), (by first | rfl | exact hmb.out | (simp only [List.length_cons]; have := hmb.out; omega)), by omega, by omega, HA, BN, HR2, O9, K9⟩
              case measure => simp; try omega
            · have HR2 := Lib.hid (show (acc ++ [y]) ++ mgo st (x :: ta) tb = R by have h := HR.out; rw [HE.out, hs] at h; simpa using h)
              rw [hs] at HDx
              clear hs HE HR
              go_wp2_with fail
              go_quiet (fail)
              go_wp2_with fail
              go_quiet (fail)
              go_wp2_with fail
              go_quiet (fail)
              go_wp2_with fail
              refine (HDx.out _).mono ?_
              rintro e w3 ⟨rfl, h3⟩
              have D3 := Lib.hid (show Below wr.heap.size wr w3 from (below_drewN (Below.refl wr.heap.size wr) _).trans h3)
              have O3 := Lib.hid (iow_below OW.out D3.out)
              have K3 := Lib.hid (K.out.trans (D3.out.mono K.out.size))
              clear h3 D3
              go_wp2_with (at_builtin; refine wpList_append_own _ rfl _ _ 26 rfl w.heap.size 35 i0 (.string ⟨#[]⟩) 1 16 Try.underlying26 hi hz0 hz1 hz2 rfl (by decide) _ _ _ rfl (O3.out.alloc _) ⟨w3.heap.size, 0, none⟩ 1 1 [.string y] rfl rfl ?d1 ?d2 ?d3 ?d4 ?d5 ?_)
              case d1 => exact cells1a _ _ _
              case d2 => intro u hu; simp at hu; subst hu; rfl
              case d3 => unfold maxLen; have := hal.out; omega
              case d4 => have := hal.out; omega
              case d5 => have := K3.out.size; simp at this ⊢; omega
              intro v9 w7 hown7 hg7 _
              have O9 := Lib.hid (show w7.ownsRow w.heap.size 35 1 v9 (acc ++ [y]).length ((acc ++ [y]).map Value.string) by rw [List.length_append, List.map_append]; exact hown7)
              have K9 := Lib.hid ((K3.out.alloc K3.out.size _).grown hg7 (by have := K3.out.size; simp at this ⊢; omega) (fun j hj => (O3.out.lt j hj).1))
              clear hown7 hg7
              go_wp2_with fail
              go_roundw
              case rel => exact ⟨_, _, _, _, _, _, (x :: ta), tb, (acc ++ [y]), rfl, rfl, (by first | rfl | exact hma.out | (simp only [List.length_cons]; have := hma.out; omega)), (by first | rfl | exact hmb.out | (simp only [List.length_cons]; have := hmb.out; omega)), by omega, by omega, HA, BN, HR2, O9, K9⟩
              case measure => simp; try omega
        · have h2 := sl_asym h1
          have k1 := fun t => leq_of (x := x) (y := y) (r := true) (by rw [h2]; rfl) t
          have k2 := fun t => leq_of (x := y) (y := x) (r := false) (by rw [h1]; rfl) t
          have HE := Lib.hid (mgo_lt st x y ta tb h1)
          clear h1 h2
          obtain ⟨ma, rfl⟩ : ∃ m, na = m + 1 := ⟨ta.length, by simpa using hna⟩
          have hma := Lib.hid (show ma = ta.length by simpa using hna)
          have ea0 : (((ma : Int) + 1) == 0) = false := (ne_t (by omega)).1
          have ea1 : decide ((0 : Int) < (ma : Int) + 1) = true := decide_eq_true (by omega)
          have ea2 : decide (0 < ma + 1) = true := decide_eq_true (by omega)
          have ea3 : (0 : Int) < (ma : Int) + 1 := by omega
          clear hna
          obtain ⟨mb, rfl⟩ : ∃ m, nb = m + 1 := ⟨tb.length, by simpa using hnb⟩
          have hmb := Lib.hid (show mb = tb.length by simpa using hnb)
          have eb0 : (((mb : Int) + 1) == 0) = false := (ne_t (by omega)).1
          have eb1 : decide ((0 : Int) < (mb : Int) + 1) = true := decide_eq_true (by omega)
          have eb2 : decide (0 < mb + 1) = true := decide_eq_true (by omega)
          have eb3 : (0 : Int) < (mb : Int) + 1 := by omega
          clear hnb
          have HDx := Lib.hid (HD.out true false)
          clear HD
          have AN := Lib.hid HA1
          clear HA1
          rcases hs : st true false with _ | _
          · have HR2 := Lib.hid (show acc ++ mgo st ta (y :: tb) = R by have h := HR.out; rw [HE.out, hs] at h; simpa using h)
            rw [hs] at HDx
            clear hs HE HR
            go_wp2_with fail
            go_quiet (fail)
            go_wp2_with fail
            go_quiet (fail)
            go_wp2_with fail
            go_quiet (fail)
            go_wp2_with fail
            refine (HDx.out _).mono ?_
            rintro e w3 ⟨rfl, h3⟩
            have D3 := Lib.hid (show Below wr.heap.size wr w3 from (below_drewN (Below.refl wr.heap.size wr) _).trans h3)
            have O3 := Lib.hid (iow_below OW.out D3.out)
            have K3 := Lib.hid (K.out.trans (D3.out.mono K.out.size))
            clear h3 D3
            have O9 := O3
            have K9 := K3
            go_wp2_with fail
            go_roundw
            case rel => exact ⟨_, _, _, _, _, _, ta, (y :: tb), acc, rfl, rfl, (by first | rfl | exact hma.out | (simp only [List.length_cons]; have := hma.out; omega)), (by first | rfl | exact hmb.out | (simp only [List.length_cons]; have := hmb.out; omega)), by omega, by omega, AN, HB, HR2, O9, K9⟩
            case measure => simp; try omega
          · have HR2 := Lib.hid (show (acc ++ [x]) ++ mgo st ta (y :: tb) = R by have h := HR.out; rw [HE.out, hs] at h; simpa using h)
            rw [hs] at HDx
            clear hs HE HR
            go_wp2_with fail
            go_quiet (fail)
            go_wp2_with fail
            go_quiet (fail)
            go_wp2_with fail
            go_quiet (fail)
            go_wp2_with fail
            refine (HDx.out _).mono ?_
            rintro e w3 ⟨rfl, h3⟩
            have D3 := Lib.hid (show Below wr.heap.size wr w3 from (below_drewN (Below.refl wr.heap.size wr) _).trans h3)
            have O3 := Lib.hid (iow_below OW.out D3.out)
            have K3 := Lib.hid (K.out.trans (D3.out.mono K.out.size))
            clear h3 D3
            go_wp2_with (at_builtin; refine wpList_append_own _ rfl _ _ 26 rfl w.heap.size 35 i0 (.string ⟨#[]⟩) 1 16 Try.underlying26 hi hz0 hz1 hz2 rfl (by decide) _ _ _ rfl (O3.out.alloc _) ⟨w3.heap.size, 0, none⟩ 1 1 [.string x] rfl rfl ?d1 ?d2 ?d3 ?d4 ?d5 ?_)
            case d1 => exact cells1a _ _ _
            case d2 => intro u hu; simp at hu; subst hu; rfl
            case d3 => unfold maxLen; have := hal.out; omega
            case d4 => have := hal.out; omega
            case d5 => have := K3.out.size; simp at this ⊢; omega
            intro v9 w7 hown7 hg7 _
            have O9 := Lib.hid (show w7.ownsRow w.heap.size 35 1 v9 (acc ++ [x]).length ((acc ++ [x]).map Value.string) by rw [List.length_append, List.map_append]; exact hown7)
            have K9 := Lib.hid ((K3.out.alloc K3.out.size _).grown hg7 (by have := K3.out.size; simp at this ⊢; omega) (fun j hj => (O3.out.lt j hj).1))
            clear hown7 hg7
            go_wp2_with fail
            go_roundw
            case rel => exact ⟨_, _, _, _, _, _, ta, (y :: tb), (acc ++ [x]), rfl, rfl, (by first | rfl | exact hma.out | (simp only [List.length_cons]; have := hma.out; omega)), (by first | rfl | exact hmb.out | (simp only [List.length_cons]; have := hmb.out; omega)), by omega, by omega, AN, HB, HR2, O9, K9⟩
            case measure => simp; try omega

end Go.Proofs.Ythpafojeadbjlaa
