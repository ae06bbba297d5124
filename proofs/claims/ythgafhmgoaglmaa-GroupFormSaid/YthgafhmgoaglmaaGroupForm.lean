/-
  'siphonlaw17.GroupForm' returns true, whatever the input, and each argument reads behind the call as it read before. Conditions: none beyond those that the row itself states.
-/
import Derived.Test.YthgafhmgoaglmaaRows
import Derived.Test.YthgafhmgoaglmaaGrU
import Derived.Test.YthgafhmgoaglmaaGrV
import Derived.Test.YthgafhmgoaglmaaGrW
import Derived.Test.YthgafhmgoaglmaaRowTmd
import Derived.Test.YthgafhmgoaglmaaTrodZ
import Derived.WalkKit
import Derived.ProofKit
import Derived.OpenShut
import Derived.ShutString
import Derived.ChangeOld
import Derived.Below
import Derived.Carry
import Derived.SizedLaws
import Derived.Lib.SmallJoins
import Derived.ChangeArms
import Derived.WideShapes
namespace Go.Proofs.Ythgafhmgoaglmaa.groupFormLaw
open Go.ChangeShapes Go.WideShapes Go.ChangeAt Go.RowKit Go.Joins
open Go.ChangeMaps (open_string shut_string)
set_option linter.unusedVariables false

theorem list2 {α : Type} (l : List α) (h : l.length = 2) : ∃ x0 x1 : α, l = [x0, x1] := by
  match l, h with
  | [x0, x1], _ => exact ⟨x0, x1, rfl⟩

theorem list3 {α : Type} (l : List α) (h : l.length = 3) : ∃ x0 x1 x2 : α, l = [x0, x1, x2] := by
  match l, h with
  | [x0, x1, x2], _ => exact ⟨x0, x1, x2, rfl⟩

theorem list4 {α : Type} (l : List α) (h : l.length = 4) : ∃ x0 x1 x2 x3 : α, l = [x0, x1, x2, x3] := by
  match l, h with
  | [x0, x1, x2, x3], _ => exact ⟨x0, x1, x2, x3, rfl⟩

theorem list9 {α : Type} (l : List α) (h : l.length = 9) : ∃ x0 x1 x2 x3 x4 x5 x6 x7 x8 : α, l = [x0, x1, x2, x3, x4, x5, x6, x7, x8] := by
  match l, h with
  | [x0, x1, x2, x3, x4, x5, x6, x7, x8], _ => exact ⟨x0, x1, x2, x3, x4, x5, x6, x7, x8, rfl⟩

set_option maxHeartbeats 8000000 in
set_option maxRecDepth 100000 in
theorem walk (a0_0 : Bool) (a0_1 : Int) (a0_2 : Value) (la0_2 : List Tmd) (a0_3 : Bool) (a0_4 : Int) (a0_5 : ByteArray) (a0_6 : Value) (la0_6 : List ByteArray) (a0_7 : Int) (a0_8 : Int) (a1 : Int) (a2 : Int) (w : World) (la0_1 : -9223372036854775808 ≤ a0_1) (ua0_1 : a0_1 ≤ 9223372036854775807) (ha0_2 : RowsAt 2 cellsTmd w a0_2 la0_2) (qa0_2 : la0_2.length ≤ maxLen) (sa0_2 : ∀ r ∈ la0_2, GoodTmd r) (la0_4 : -9223372036854775808 ≤ a0_4) (ua0_4 : a0_4 ≤ 9223372036854775807) (za0_5 : a0_5.size ≤ 140737488351232) (ha0_6 : AddrsAt w a0_6 la0_6) (qa0_6 : la0_6.length ≤ maxLen) (sa0_6 : ∀ r ∈ la0_6, r.size ≤ maxLen) (la0_7 : -9223372036854775808 ≤ a0_7) (ua0_7 : a0_7 ≤ 9223372036854775807) (la0_8 : -9223372036854775808 ≤ a0_8) (ua0_8 : a0_8 ≤ 9223372036854775807) (la1 : -9223372036854775808 ≤ a1) (ua1 : a1 ≤ 9223372036854775807) (la2 : -9223372036854775808 ≤ a2) (ua2 : a2 ≤ 9223372036854775807) :
    Calls Try.prog 5 #[.agg #[.bool a0_0, .int .i64 a0_1, a0_2, .bool a0_3, .int .i64 a0_4, .string a0_5, a0_6, .int .i64 a0_7, .int .i64 a0_8], .int .i64 a1, .int .i64 a2] w fun e w' => e = .returned (.bool true) ∧ Below w.heap.size w w' := by
  have HROW := Lib.hid (show RowsAt 2 cellsTm w a0_2 la0_2 from ha0_2)
  have HADR := Lib.hid ha0_6
  obtain ⟨p, cap, rfl⟩ := ha0_2.slice
  obtain ⟨rp, rc, rfl⟩ := ha0_6.slice
  obtain ⟨n, hn⟩ : ∃ n, n = la0_2.length := ⟨_, rfl⟩
  obtain ⟨rn, hrn⟩ : ∃ rn, rn = la0_6.length := ⟨_, rfl⟩
  have HNN := Lib.hid hn
  have HRN := Lib.hid hrn
  rw [← hn] at HROW qa0_2 ⊢
  rw [← hrn] at HADR qa0_6 ⊢
  have HSA := Lib.hid (show ∀ x ∈ la0_2, x.1.size ≤ maxLen from fun x hx => (sa0_2 x hx).1)
  have HSR := Lib.hid sa0_6
  have HL := Lib.hid fun U => live17_c U
  have HB0 := Lib.hid ((Below.refl w.heap.size w).alloc (Nat.le_refl _) (.cells #[.bool a0_0, .int .i64 a0_1, .slice p n cap, .bool a0_3, .int .i64 a0_4, .string a0_5, .slice rp rn rc, .int .i64 a0_7, .int .i64 a0_8] 41))
  have HE := Lib.hid (heap_new w (.cells #[.bool a0_0, .int .i64 a0_1, .slice p n cap, .bool a0_3, .int .i64 a0_4, .string a0_5, .slice rp rn rc, .int .i64 a0_7, .int .i64 a0_8] 41))
  have hnb : n ≤ 9223372036854775807 := qa0_2
  have hrb : rn ≤ 9223372036854775807 := qa0_6
  clear ha0_2 sa0_2 qa0_2 hn ha0_6 sa0_6 qa0_6 hrn
  obtain ⟨fw, hfw⟩ : ∃ fw, fw = (decide (n ≤ 100) && decide (rn ≤ 100)) := ⟨_, rfl⟩
  have HFW := Lib.hid (show fw = true → n ≤ 100 ∧ rn ≤ 100 from fun h => by rw [hfw] at h; simpa using h)
  have FW := Lib.hid (fun U => few17_c a0_0 a0_1 p n cap a0_4 a0_5 rp rn rc U)
  rw [← hfw] at FW
  clear hfw
  go_enter Try.func5, Try.ntmps5
  go_upto_region 1 with fail
  have HRW := Lib.hid (HROW.out.below HB0.out)
  have HAW := Lib.hid (HADR.out.below HB0.out)
  generalize w.alloc (.cells #[.bool a0_0, .int .i64 a0_1, .slice p n cap, .bool a0_3, .int .i64 a0_4, .string a0_5, .slice rp rn rc, .int .i64 a0_7, .int .i64 a0_8] 41) = W at HB0 HE HRW HAW ⊢
  have x0 : W.cell? ⟨w.heap.size, 0, none⟩ = some (.bool a0_0) := cell_of_block HE.out rfl
  have x1 : W.cell? ⟨w.heap.size, 1, none⟩ = some (.int .i64 a0_1) := cell_of_block HE.out rfl
  have x2 : W.cell? ⟨w.heap.size, 2, none⟩ = some (.slice p n cap) := cell_of_block HE.out rfl
  have x3 : W.cell? ⟨w.heap.size, 3, none⟩ = some (.bool a0_3) := cell_of_block HE.out rfl
  have x4 : W.cell? ⟨w.heap.size, 4, none⟩ = some (.int .i64 a0_4) := cell_of_block HE.out rfl
  have x5 : W.cell? ⟨w.heap.size, 5, none⟩ = some (.string a0_5) := cell_of_block HE.out rfl
  have x6 : W.cell? ⟨w.heap.size, 6, none⟩ = some (.slice rp rn rc) := cell_of_block HE.out rfl
  have x7 : W.cell? ⟨w.heap.size, 7, none⟩ = some (.int .i64 a0_7) := cell_of_block HE.out rfl
  have x8 : W.cell? ⟨w.heap.size, 8, none⟩ = some (.int .i64 a0_8) := cell_of_block HE.out rfl
  go_wp2_with fail
  ((with_reducible refine (FW.out _).mono ?_); rintro e w2 ⟨rfl, k2⟩)
  have HE2 := Lib.hid (below_block k2 (lt_of_block HE.out) HE.out)
  have HB2 := Lib.hid (gk_call HB0.out k2)
  have HR2 := Lib.hid (HRW.out.below k2)
  have HA2 := Lib.hid (HAW.out.below k2)
  clear x0 x1 x2 x3 x4 x5 x6 x7 x8 k2 FW HRW HAW HE HB0 HROW HADR
  have x0 : w2.cell? ⟨w.heap.size, 0, none⟩ = some (.bool a0_0) := cell_of_block HE2.out rfl
  have x1 : w2.cell? ⟨w.heap.size, 1, none⟩ = some (.int .i64 a0_1) := cell_of_block HE2.out rfl
  have x2 : w2.cell? ⟨w.heap.size, 2, none⟩ = some (.slice p n cap) := cell_of_block HE2.out rfl
  have x3 : w2.cell? ⟨w.heap.size, 3, none⟩ = some (.bool a0_3) := cell_of_block HE2.out rfl
  have x4 : w2.cell? ⟨w.heap.size, 4, none⟩ = some (.int .i64 a0_4) := cell_of_block HE2.out rfl
  have x5 : w2.cell? ⟨w.heap.size, 5, none⟩ = some (.string a0_5) := cell_of_block HE2.out rfl
  have x6 : w2.cell? ⟨w.heap.size, 6, none⟩ = some (.slice rp rn rc) := cell_of_block HE2.out rfl
  have x7 : w2.cell? ⟨w.heap.size, 7, none⟩ = some (.int .i64 a0_7) := cell_of_block HE2.out rfl
  have x8 : w2.cell? ⟨w.heap.size, 8, none⟩ = some (.int .i64 a0_8) := cell_of_block HE2.out rfl
  rcases Bool.eq_false_or_eq_true fw with e | e
  · subst e
    obtain ⟨hn1, hr1⟩ := HFW.out rfl
    have hl1 : la0_2.length ≤ 1000000 := by rw [← HNN.out]; omega
    have hl2 : la0_6.length ≤ 1000000 := by rw [← HRN.out]; omega
    have hl3 : la0_6.length ≤ 9223372036854775807 := by omega
    have AP := Lib.hid (fun U hr ha => applyP_c a0_0 a0_1 (.slice p n cap) la0_2 a0_3 a0_4 a0_5 (.slice rp rn rc) la0_6 a1 a0_7 a0_8 U hl1 hr HSA.out hl2 ha HSR.out)
    obtain ⟨S0, hS0⟩ : ∃ S0 : St, S0 = if a0_3 = true then ⟨a0_0, a0_1, la0_2⟩ else noS := ⟨_, rfl⟩
    have EA : appP ⟨a0_0, a0_1, la0_2⟩ a0_3 a0_4 la0_6 a1 a0_7 a0_8 = appS S0 a0_4 la0_6 a1 a0_7 a0_8 := by rw [hS0]; rfl
    rw [EA] at AP
    have TM := Lib.hid (fun h => app_times (s := S0) (kd := a0_4) (rs := la0_6) (now := a1) (m := a0_7) (l := a0_8) h)
    have BAD := Lib.hid (fun h => app_bad (s := S0) (kd := a0_4) (rs := la0_6) (now := a1) (m := a0_7) (l := a0_8) h)
    have LEN := Lib.hid (fun h => app_len (s := S0) (kd := a0_4) (rs := la0_6) (now := a1) (m := a0_7) (l := a0_8) h)
    have NO := Lib.hid (fun h => app_none (s := S0) (kd := a0_4) (rs := la0_6) (now := a1) (m := a0_7) (l := a0_8) h)
    have OKA := Lib.hid (fun h => app_ok (s := S0) (kd := a0_4) (rs := la0_6) (now := a1) (m := a0_7) (l := a0_8) h)
    clear hS0 EA hn1 hr1
    generalize appS S0 a0_4 la0_6 a1 a0_7 a0_8 = A at AP TM BAD LEN NO OKA
    obtain ⟨⟨sx, sm, sl⟩, ai, ag, al, er⟩ := A
    unfold ApPost at AP
    dsimp only at AP BAD LEN NO OKA
    clear hl1 hl2 hl3
    go_wp2_with fail
    ((with_reducible refine (AP.out _ HR2.out HA2.out).mono ?_); rintro e w4 ⟨vs, va, rfl, r4, a4, k4⟩)
    obtain ⟨ps, cs, rfl⟩ := r4.slice
    obtain ⟨pa, ca, rfl⟩ := a4.slice
    have HE4 := Lib.hid (below_block k4 (lt_of_block HE2.out) HE2.out)
    have HB4 := Lib.hid (gk_call HB2.out k4)
    have HR4 := Lib.hid (show RowsAt 2 cellsTm w4 (.slice ps sl.length cs) sl from r4)
    have HA4 := Lib.hid (show AddrsAt w4 (.slice pa al.length ca) al from a4)
    have HQ4 := Lib.hid (HA2.out.below k4)
    clear x0 x1 x2 x3 x4 x5 x6 x7 x8 k4 r4 a4 AP HE2 HB2 HR2 HA2
    generalize hsn : sl.length = sn at *
    generalize han : al.length = an at *
    go_upto_region 4 with fail
    have X1 := Lib.hid (show ((w4.alloc (.cells #[.bool sx, .int .i64 sm, .slice ps sn cs] 24)).alloc (.cells #[.bool ag, .slice pa an ca] 44)).heap[w4.heap.size]? = _ from heap_old (heap_new w4 (.cells #[.bool sx, .int .i64 sm, .slice ps sn cs] 24)))
    have X2 := Lib.hid (show ((w4.alloc (.cells #[.bool sx, .int .i64 sm, .slice ps sn cs] 24)).alloc (.cells #[.bool ag, .slice pa an ca] 44)).heap[w4.heap.size + 1]? = some (.cells #[.bool ag, .slice pa an ca] 44 (0, 0)) from by simpa using heap_new (w4.alloc (.cells #[.bool sx, .int .i64 sm, .slice ps sn cs] 24)) (.cells #[.bool ag, .slice pa an ca] 44))
    have HE5 := Lib.hid (show ((w4.alloc (.cells #[.bool sx, .int .i64 sm, .slice ps sn cs] 24)).alloc (.cells #[.bool ag, .slice pa an ca] 44)).heap[w.heap.size]? = _ from heap_old (heap_old HE4.out))
    have k5 := ((Below.refl w4.heap.size w4).alloc (Nat.le_refl _) (.cells #[.bool sx, .int .i64 sm, .slice ps sn cs] 24)).alloc (by simp) (.cells #[.bool ag, .slice pa an ca] 44)
    have HB5 := Lib.hid (gk_call HB4.out k5)
    have HR5 := Lib.hid (HR4.out.below k5)
    have HA5 := Lib.hid (HA4.out.below k5)
    have HQ5 := Lib.hid (HQ4.out.below k5)
    clear k5 HR4 HA4 HE4 HB4 HQ4
    generalize (w4.alloc (.cells #[.bool sx, .int .i64 sm, .slice ps sn cs] 24)).alloc (.cells #[.bool ag, .slice pa an ca] 44) = W5 at X1 X2 HE5 HB5 HR5 HA5 HQ5 ⊢
    generalize w4.heap.size = vb at X1 X2 ⊢
    have y0 : W5.cell? ⟨vb, 0, none⟩ = some (.bool sx) := cell_of_block X1.out rfl
    have y1 : W5.cell? ⟨vb, 1, none⟩ = some (.int .i64 sm) := cell_of_block X1.out rfl
    have y2 : W5.cell? ⟨vb, 2, none⟩ = some (.slice ps sn cs) := cell_of_block X1.out rfl
    have z0 : W5.cell? ⟨vb + 1, 0, none⟩ = some (.bool ag) := cell_of_block X2.out rfl
    have z1 : W5.cell? ⟨vb + 1, 1, none⟩ = some (.slice pa an ca) := cell_of_block X2.out rfl
    by_cases her : er = 0
    · subst her
      obtain ⟨hlen, -, -⟩ := LEN.out rfl
      have hok := OKA.out rfl
      cases ai
      · obtain ⟨g1, g2⟩ := NO.out rfl
        subst g1 g2
        have hsn0 : 0 = sn := hsn
        subst hsn0
        clear BAD LEN TM NO OKA hok
        go_wp2_with fail
        ((with_reducible refine (HL.out _).mono ?_); rintro e w8 ⟨rfl, hw8⟩)
        go_wp2_with fail
        go_ret
        exact ⟨rfl, gk_call HB5.out hw8⟩
      · have hl60 : sl.length ≤ 1000000 := by omega
        have CK := Lib.hid (gchk_c sx sm (.slice ps sn cs) sl W5 hl60 HR5.out)
        rw [chk_yes hok] at CK
        have hX := exp_ok (now := a2) hok
        have XP := Lib.hid (fun U hr => gexp_c sx sm (.slice ps sn cs) sl a2 U hl60 hr)
        rw [exp_yes hok] at XP
        unfold StPost at XP
        generalize stE ⟨sx, sm, sl⟩ a2 = X at XP hX
        obtain ⟨bx, bm, bl⟩ := X
        obtain ⟨hok2, hfix⟩ := hX
        have hlb : bl.length ≤ 60 := ((ok_iff _).1 hok2).1
        dsimp only at XP
        have CK2 := Lib.hid (fun U v hr => gchk_c bx bm v bl U (by omega) hr)
        rw [chk_yes hok2] at CK2
        have XP2 := Lib.hid (fun U v hr => gexp_c bx bm v bl a2 U (by omega) hr)
        rw [exp_yes hok2, hfix] at XP2
        unfold StPost at XP2
        dsimp only at XP2
        have SM := Lib.hid (fun U v1 v2 h1 h2 => rsame17_c bx bm v1 v2 bl U (by omega) h1 h2)
        have HANY := Lib.hid (fun h : anyS ⟨bx, bm, bl⟩ = false => any_no h)
        generalize anyS ⟨bx, bm, bl⟩ = there at XP XP2 HANY
        clear BAD LEN TM NO OKA hok hok2 hfix HE5 HA5 HQ5 X2
        go_wp2_with fail
        ((with_reducible refine CK.out.mono ?_); rintro e w6 ⟨rfl, k6⟩)
        have HB6 := Lib.hid (gk_call HB5.out k6)
        have HX6 := Lib.hid (below_block k6 (lt_of_block X1.out) X1.out)
        have HR6 := Lib.hid (HR5.out.below k6)
        clear y0 y1 y2 z0 z1 k6 CK HB5 X1 HR5
        have y0 : w6.cell? ⟨vb, 0, none⟩ = some (.bool sx) := cell_of_block HX6.out rfl
        have y1 : w6.cell? ⟨vb, 1, none⟩ = some (.int .i64 sm) := cell_of_block HX6.out rfl
        have y2 : w6.cell? ⟨vb, 2, none⟩ = some (.slice ps sn cs) := cell_of_block HX6.out rfl
        go_wp2_with fail
        ((with_reducible refine (XP.out _ HR6.out).mono ?_); rintro e w7 ⟨vs7, rfl, r7, k7⟩)
        have r7' := r7
        obtain ⟨q7, c7, rfl⟩ := r7'.slice
        generalize hbn : bl.length = bn at *
        have HB7 := Lib.hid (gk_call HB6.out k7)
        have HR7 := Lib.hid r7
        clear y0 y1 y2 k7 r7 XP HB6 HX6 HR6
        go_upto_region 9 with fail
        have HX8 := Lib.hid (heap_new w7 (.cells #[.bool bx, .int .i64 bm, .slice q7 bn c7] 24))
        have k8 := (Below.refl w7.heap.size w7).alloc (Nat.le_refl _) (.cells #[.bool bx, .int .i64 bm, .slice q7 bn c7] 24)
        have HB8 := Lib.hid (gk_call HB7.out k8)
        have HR8 := Lib.hid (HR7.out.below k8)
        clear k8 HB7 HR7
        generalize w7.alloc (.cells #[.bool bx, .int .i64 bm, .slice q7 bn c7] 24) = W8 at HX8 HB8 HR8 ⊢
        generalize w7.heap.size = xb at HX8 ⊢
        have u0 : W8.cell? ⟨xb, 0, none⟩ = some (.bool bx) := cell_of_block HX8.out rfl
        have u1 : W8.cell? ⟨xb, 1, none⟩ = some (.int .i64 bm) := cell_of_block HX8.out rfl
        have u2 : W8.cell? ⟨xb, 2, none⟩ = some (.slice q7 bn c7) := cell_of_block HX8.out rfl
        cases there
        · obtain ⟨g1, g2⟩ := HANY.out rfl
          subst g1 g2
          have hbn0 : 0 = bn := hbn
          subst hbn0
          go_wp2_with fail
          ((with_reducible refine (HL.out _).mono ?_); rintro e w9 ⟨rfl, hw9⟩)
          go_wp2_with fail
          go_ret
          exact ⟨rfl, gk_call HB8.out hw9⟩
        · go_wp2_with fail
          ((with_reducible refine (XP2.out _ _ HR8.out).mono ?_); rintro e w9 ⟨vs9, rfl, r9, k9⟩)
          have r9' := r9
          obtain ⟨q9, c9, rfl⟩ := r9'.slice
          rw [hbn] at r9
          rw [hbn]
          have HB9 := Lib.hid (gk_call HB8.out k9)
          have HX9 := Lib.hid (below_block k9 (lt_of_block HX8.out) HX8.out)
          have HR9 := Lib.hid (HR8.out.below k9)
          have HT9 := Lib.hid r9
          clear u0 u1 u2 k9 r9 XP2 HB8 HX8 HR8
          go_upto_region 12 with fail
          have HY10 := Lib.hid (heap_new w9 (.cells #[.bool bx, .int .i64 bm, .slice q9 bn c9] 24))
          have HX10 := Lib.hid (show (w9.alloc (.cells #[.bool bx, .int .i64 bm, .slice q9 bn c9] 24)).heap[xb]? = _ from heap_old HX9.out)
          have k10 := (Below.refl w9.heap.size w9).alloc (Nat.le_refl _) (.cells #[.bool bx, .int .i64 bm, .slice q9 bn c9] 24)
          have HB10 := Lib.hid (gk_call HB9.out k10)
          have HR10 := Lib.hid (HR9.out.below k10)
          have HT10 := Lib.hid (HT9.out.below k10)
          clear k10 HB9 HX9 HR9 HT9
          generalize w9.alloc (.cells #[.bool bx, .int .i64 bm, .slice q9 bn c9] 24) = W10 at HY10 HX10 HB10 HR10 HT10 ⊢
          generalize w9.heap.size = yb at HY10 ⊢
          have u0 : W10.cell? ⟨xb, 0, none⟩ = some (.bool bx) := cell_of_block HX10.out rfl
          have u1 : W10.cell? ⟨xb, 1, none⟩ = some (.int .i64 bm) := cell_of_block HX10.out rfl
          have u2 : W10.cell? ⟨xb, 2, none⟩ = some (.slice q7 bn c7) := cell_of_block HX10.out rfl
          go_wp2_with fail
          ((with_reducible refine (CK2.out _ _ HR10.out).mono ?_); rintro e w11 ⟨rfl, k11⟩)
          have HB11 := Lib.hid (gk_call HB10.out k11)
          have HX11 := Lib.hid (below_block k11 (lt_of_block HX10.out) HX10.out)
          have HY11 := Lib.hid (below_block k11 (lt_of_block HY10.out) HY10.out)
          have HR11 := Lib.hid (HR10.out.below k11)
          have HT11 := Lib.hid (HT10.out.below k11)
          clear u0 u1 u2 k11 CK2 HB10 HX10 HY10 HR10 HT10
          have u0 : w11.cell? ⟨xb, 0, none⟩ = some (.bool bx) := cell_of_block HX11.out rfl
          have u1 : w11.cell? ⟨xb, 1, none⟩ = some (.int .i64 bm) := cell_of_block HX11.out rfl
          have u2 : w11.cell? ⟨xb, 2, none⟩ = some (.slice q7 bn c7) := cell_of_block HX11.out rfl
          have v0 : w11.cell? ⟨yb, 0, none⟩ = some (.bool bx) := cell_of_block HY11.out rfl
          have v1 : w11.cell? ⟨yb, 1, none⟩ = some (.int .i64 bm) := cell_of_block HY11.out rfl
          have v2 : w11.cell? ⟨yb, 2, none⟩ = some (.slice q9 bn c9) := cell_of_block HY11.out rfl
          go_wp2_with fail
          ((with_reducible refine (SM.out _ _ _ HR11.out HT11.out).mono ?_); rintro e w12 ⟨rfl, k12⟩)
          have HB12 := Lib.hid (gk_call HB11.out k12)
          clear u0 u1 u2 v0 v1 v2 k12 SM HB11 HX11 HY11 HR11 HT11
          go_wp2_with fail
          ((with_reducible refine (HL.out _).mono ?_); rintro e w13 ⟨rfl, hw13⟩)
          go_wp2_with fail
          go_ret
          exact ⟨rfl, gk_call HB12.out hw13⟩
    · have hai := BAD.out her
      subst hai
      obtain ⟨g1, g2⟩ := NO.out rfl
      subst g1 g2
      have hsn0 : 0 = sn := hsn
      subst hsn0
      obtain ⟨e5, e6⟩ := ne_t her
      clear BAD LEN TM NO OKA her
      go_wp2_with fail
      ((with_reducible refine (HL.out _).mono ?_); rintro e w6 ⟨rfl, hw6⟩)
      go_wp2_with fail
      go_ret
      exact ⟨rfl, gk_call HB5.out hw6⟩
  · subst e
    go_wp2_with fail
    ((with_reducible refine (HL.out _).mono ?_); rintro e w3 ⟨rfl, hw3⟩)
    go_wp2_with fail
    go_ret
    exact ⟨rfl, gk_call HB2.out hw3⟩

theorem own : ownKnob Try.prog.godebug = none := by kernel_rfl
theorem laidOut : laidOutB Try.prog = true := by kernel_rfl

set_option maxHeartbeats 1000000 in
set_option maxRecDepth 100000 in
theorem lifted (os : Os) (started : os.Started) (H : Type) (enc : TypeId × Value → H) :
    ReturnsInHanded {} Try.checked os 5 .any (Rows.groupFormSpec.pre6 enc Try.prog Try.f5 Rows.groupFormRow.domain false) (Rows.groupFormSpec.post enc Try.prog Try.f5 false true false false) := by
  refine returnsInHanded_of_change_sized (C := Try.checked) own started (by kernel_rfl) Try.func5
    (ChangeSpec.witness6 (enc := enc) (C := Try.checked) false ⟨#[], #[.agg #[.bool false, .int .i64 0, .slice none 0 0, .bool false, .int .i64 0, .string ByteArray.empty, .slice none 0 0, .int .i64 0, .int .i64 0], .int .i64 0, .int .i64 0], []⟩ 8 (by kernel_rfl) (by kernel_rfl) (by kernel_rfl) (by kernel_rfl)) ?_
  intro W base args ds gs before hval0 hW hcnd hsz0 hholds
  have hval : ∀ (j : Nat) t v, Try.f5.params[j]? = some t → args[j]? = some v → Value.okWide Try.prog W .any base t v := hval0
  have hsz : (DataW.weightsEach Try.prog (Try.f5.params.toList ++ Rows.groupFormSpec.plain.varTypes Try.prog) (ds ++ gs)).all (· ≤ reachBytes) = true := hsz0
  have hW' := hW
  obtain ⟨p, q, hA0, hV, rfl, hfz, hnd⟩ := hW
  have hA : DataW.TrodAll enc Try.prog W 0 (fun _ => true) true Try.f5.params.toList args.toList ds p := hA0
  rw [Try.params5] at hA hval hsz
  obtain ⟨v0, vs0, d0, ds0, p0, q0, hargs, rfl, rfl, h0, r0⟩ := trodAll_cons hA
  obtain ⟨v1, vs1, d1, ds1, p1, q1, rfl, rfl, rfl, h1, r1⟩ := trodAll_cons r0
  obtain ⟨v2, vs2, d2, ds2, p2, q2, rfl, rfl, rfl, h2, r2⟩ := trodAll_cons r1
  obtain ⟨rfl, rfl, rfl⟩ := trodAll_nil r2
  obtain rfl : args = #[v0, v1, v2] := by cases args; simp_all
  obtain ⟨rfl, rfl⟩ := trodVars_none hV
  have k0 := h0
  have lt0 : ∀ x ∈ p0, x.block < W.heap.size := by obtain ⟨m, hm⟩ := k0; exact DataW.trod_lt m _ _ _ hm
  have k1 := h1
  have lt1 : ∀ x ∈ p1, x.block < W.heap.size := by obtain ⟨m, hm⟩ := k1; exact DataW.trod_lt m _ _ _ hm
  have k2 := h2
  have lt2 : ∀ x ∈ p2, x.block < W.heap.size := by obtain ⟨m, hm⟩ := k2; exact DataW.trod_lt m _ _ _ hm
  obtain ⟨cs0, rfl, hz0⟩ := okWide_struct Try.underlying41 (hval 0 41 v0 rfl rfl)
  obtain ⟨l0⟩ := cs0
  obtain ⟨c0_0, c0_1, c0_2, c0_3, c0_4, c0_5, c0_6, c0_7, c0_8, rfl⟩ := list9 l0 (hz0.trans (by kernel_rfl))
  obtain ⟨fu0, hf0⟩ := h0
  obtain ⟨xs0, m0, -, hx0, -, hn0, hg0⟩ := DataW.trod_struct Try.underlying41 hf0
  obtain ⟨y0_0, y0_1, y0_2, y0_3, rfl⟩ := list4 xs0 hn0
  simp only [Prod.mk.injEq] at hx0
  obtain ⟨rfl, rfl⟩ := hx0
  have g0_0 : DataW.trod enc Try.prog W 0 (fun _ => true) true m0 24 (List.take (Try.prog.cellsOf 24) (List.drop 0 [c0_0, c0_1, c0_2, c0_3, c0_4, c0_5, c0_6, c0_7, c0_8])) = some y0_0 := hg0 0 _ rfl
  rw [show Try.prog.cellsOf 24 = 3 from by kernel_rfl] at g0_0
  replace g0_0 : DataW.trod enc Try.prog W 0 (fun _ => true) true m0 24 [c0_0, c0_1, c0_2] = some y0_0 := g0_0
  have g0_1 : DataW.trod enc Try.prog W 0 (fun _ => true) true m0 4 (List.take (Try.prog.cellsOf 4) (List.drop 3 [c0_0, c0_1, c0_2, c0_3, c0_4, c0_5, c0_6, c0_7, c0_8])) = some y0_1 := hg0 1 _ rfl
  rw [show Try.prog.cellsOf 4 = 1 from by kernel_rfl] at g0_1
  replace g0_1 : DataW.trod enc Try.prog W 0 (fun _ => true) true m0 4 [c0_3] = some y0_1 := g0_1
  have g0_2 : DataW.trod enc Try.prog W 0 (fun _ => true) true m0 37 (List.take (Try.prog.cellsOf 37) (List.drop 4 [c0_0, c0_1, c0_2, c0_3, c0_4, c0_5, c0_6, c0_7, c0_8])) = some y0_2 := hg0 2 _ rfl
  rw [show Try.prog.cellsOf 37 = 3 from by kernel_rfl] at g0_2
  replace g0_2 : DataW.trod enc Try.prog W 0 (fun _ => true) true m0 37 [c0_4, c0_5, c0_6] = some y0_2 := g0_2
  have g0_3 : DataW.trod enc Try.prog W 0 (fun _ => true) true m0 39 (List.take (Try.prog.cellsOf 39) (List.drop 7 [c0_0, c0_1, c0_2, c0_3, c0_4, c0_5, c0_6, c0_7, c0_8])) = some y0_3 := hg0 3 _ rfl
  rw [show Try.prog.cellsOf 39 = 2 from by kernel_rfl] at g0_3
  replace g0_3 : DataW.trod enc Try.prog W 0 (fun _ => true) true m0 39 [c0_7, c0_8] = some y0_3 := g0_3
  clear hg0
  obtain ⟨xs0_0, m0_0, -, hx0_0, -, hn0_0, hg0_0⟩ := DataW.trod_struct Try.underlying24 g0_0
  obtain ⟨y0_0_0, y0_0_1, y0_0_2, rfl⟩ := list3 xs0_0 hn0_0
  subst hx0_0
  have g0_0_0 : DataW.trod enc Try.prog W 0 (fun _ => true) true m0_0 4 (List.take (Try.prog.cellsOf 4) (List.drop 0 [c0_0, c0_1, c0_2])) = some y0_0_0 := hg0_0 0 _ rfl
  rw [show Try.prog.cellsOf 4 = 1 from by kernel_rfl] at g0_0_0
  replace g0_0_0 : DataW.trod enc Try.prog W 0 (fun _ => true) true m0_0 4 [c0_0] = some y0_0_0 := g0_0_0
  have g0_0_1 : DataW.trod enc Try.prog W 0 (fun _ => true) true m0_0 3 (List.take (Try.prog.cellsOf 3) (List.drop 1 [c0_0, c0_1, c0_2])) = some y0_0_1 := hg0_0 1 _ rfl
  rw [show Try.prog.cellsOf 3 = 1 from by kernel_rfl] at g0_0_1
  replace g0_0_1 : DataW.trod enc Try.prog W 0 (fun _ => true) true m0_0 3 [c0_1] = some y0_0_1 := g0_0_1
  have g0_0_2 : DataW.trod enc Try.prog W 0 (fun _ => true) true m0_0 22 (List.take (Try.prog.cellsOf 22) (List.drop 2 [c0_0, c0_1, c0_2])) = some y0_0_2 := hg0_0 2 _ rfl
  rw [show Try.prog.cellsOf 22 = 1 from by kernel_rfl] at g0_0_2
  replace g0_0_2 : DataW.trod enc Try.prog W 0 (fun _ => true) true m0_0 22 [c0_2] = some y0_0_2 := g0_0_2
  clear hg0_0
  obtain ⟨a0_0, e0_0, rfl⟩ := DataW.trod_bool Try.underlying4 g0_0_0
  simp at e0_0
  subst e0_0
  obtain ⟨a0_1, e0_1, rfl, w0_1⟩ := DataW.trod_int Try.underlying3 g0_0_1
  simp at e0_1
  subst e0_1
  obtain ⟨v0_2, L0_2, e0_2, hh0_2, qq0_2, ss0_2⟩ := openTmd g0_0_2
  simp at e0_2
  subst e0_2
  obtain ⟨a0_3, e0_3, rfl⟩ := DataW.trod_bool Try.underlying4 g0_1
  simp at e0_3
  subst e0_3
  obtain ⟨xs0_2, m0_2, -, hx0_2, -, hn0_2, hg0_2⟩ := DataW.trod_struct Try.underlying37 g0_2
  obtain ⟨y0_2_0, y0_2_1, y0_2_2, rfl⟩ := list3 xs0_2 hn0_2
  subst hx0_2
  have g0_2_0 : DataW.trod enc Try.prog W 0 (fun _ => true) true m0_2 3 (List.take (Try.prog.cellsOf 3) (List.drop 0 [c0_4, c0_5, c0_6])) = some y0_2_0 := hg0_2 0 _ rfl
  rw [show Try.prog.cellsOf 3 = 1 from by kernel_rfl] at g0_2_0
  replace g0_2_0 : DataW.trod enc Try.prog W 0 (fun _ => true) true m0_2 3 [c0_4] = some y0_2_0 := g0_2_0
  have g0_2_1 : DataW.trod enc Try.prog W 0 (fun _ => true) true m0_2 25 (List.take (Try.prog.cellsOf 25) (List.drop 1 [c0_4, c0_5, c0_6])) = some y0_2_1 := hg0_2 1 _ rfl
  rw [show Try.prog.cellsOf 25 = 1 from by kernel_rfl] at g0_2_1
  replace g0_2_1 : DataW.trod enc Try.prog W 0 (fun _ => true) true m0_2 25 [c0_5] = some y0_2_1 := g0_2_1
  have g0_2_2 : DataW.trod enc Try.prog W 0 (fun _ => true) true m0_2 35 (List.take (Try.prog.cellsOf 35) (List.drop 2 [c0_4, c0_5, c0_6])) = some y0_2_2 := hg0_2 2 _ rfl
  rw [show Try.prog.cellsOf 35 = 1 from by kernel_rfl] at g0_2_2
  replace g0_2_2 : DataW.trod enc Try.prog W 0 (fun _ => true) true m0_2 35 [c0_6] = some y0_2_2 := g0_2_2
  clear hg0_2
  obtain ⟨a0_4, e0_4, rfl, w0_4⟩ := DataW.trod_int Try.underlying3 g0_2_0
  simp at e0_4
  subst e0_4
  obtain ⟨a0_5, e0_5, rfl, w0_5⟩ := DataW.trod_string Try.underlying25 g0_2_1
  simp at e0_5
  subst e0_5
  obtain ⟨v0_6, L0_6, e0_6, hh0_6, qq0_6, ss0_6⟩ := addrsz_open g0_2_2
  simp at e0_6
  subst e0_6
  obtain ⟨xs0_3, m0_3, -, hx0_3, -, hn0_3, hg0_3⟩ := DataW.trod_struct Try.underlying39 g0_3
  obtain ⟨y0_3_0, y0_3_1, rfl⟩ := list2 xs0_3 hn0_3
  subst hx0_3
  have g0_3_0 : DataW.trod enc Try.prog W 0 (fun _ => true) true m0_3 3 (List.take (Try.prog.cellsOf 3) (List.drop 0 [c0_7, c0_8])) = some y0_3_0 := hg0_3 0 _ rfl
  rw [show Try.prog.cellsOf 3 = 1 from by kernel_rfl] at g0_3_0
  replace g0_3_0 : DataW.trod enc Try.prog W 0 (fun _ => true) true m0_3 3 [c0_7] = some y0_3_0 := g0_3_0
  have g0_3_1 : DataW.trod enc Try.prog W 0 (fun _ => true) true m0_3 3 (List.take (Try.prog.cellsOf 3) (List.drop 1 [c0_7, c0_8])) = some y0_3_1 := hg0_3 1 _ rfl
  rw [show Try.prog.cellsOf 3 = 1 from by kernel_rfl] at g0_3_1
  replace g0_3_1 : DataW.trod enc Try.prog W 0 (fun _ => true) true m0_3 3 [c0_8] = some y0_3_1 := g0_3_1
  clear hg0_3
  obtain ⟨a0_7, e0_7, rfl, w0_7⟩ := DataW.trod_int Try.underlying3 g0_3_0
  simp at e0_7
  subst e0_7
  obtain ⟨a0_8, e0_8, rfl, w0_8⟩ := DataW.trod_int Try.underlying3 g0_3_1
  simp at e0_8
  subst e0_8
  obtain ⟨a1, rfl, rfl, rfl, w1⟩ := open_int Try.underlying3 (hval 1 3 v1 rfl rfl) h1
  obtain ⟨a2, rfl, rfl, rfl, w2⟩ := open_int Try.underlying3 (hval 2 3 v2 rfl rfl) h2
  have ba0_1 := bounds_i64 w0_1
  have ba0_4 := bounds_i64 w0_4
  have za0_5 : a0_5.size ≤ 140737488351232 := by
    have h := List.all_eq_true.1 hsz _ (DataW.weights_mem_each (j := 0) (t := 41) rfl rfl a0_5.data.toList.length (by simp [DataW.weights, DataW.weightsEach, Try.underlying37, Try.underlying24, Try.underlying39, Try.underlying41]))
    simpa [reachBytes] using of_decide_eq_true h
  have ba0_7 := bounds_i64 w0_7
  have ba0_8 := bounds_i64 w0_8
  have ba1 := bounds_i64 w1
  have ba2 := bounds_i64 w2
  clear hA0 hval0
  refine (walk a0_0 a0_1 c0_2 L0_2 a0_3 a0_4 a0_5 c0_6 L0_6 a0_7 a0_8 a1 a2 W ba0_1.1 ba0_1.2 hh0_2 qq0_2 ss0_2 ba0_4.1 ba0_4.2 za0_5 hh0_6 qq0_6 ss0_6 ba0_7.1 ba0_7.2 ba0_8.1 ba0_8.2 ba1.1 ba1.2 ba2.1 ba2.2).mono fun e W' ⟨he, bel⟩ => ?_
  subst he
  exact ⟨_, rfl, _, _, _, [], _, [], hW', trodAll_mk1 (shut_bool Try.underlying4 _), (trodAll_cons_mk (Below.trod laidOut (by kernel_rfl) (of_decide_eq_true (by kernel_rfl)) k0 bel lt0) (trodAll_cons_mk (Below.trod laidOut (by kernel_rfl) (of_decide_eq_true (by kernel_rfl)) k1 bel lt1) (trodAll_cons_mk (Below.trod laidOut (by kernel_rfl) (of_decide_eq_true (by kernel_rfl)) k2 bel lt2) trodAll_mk0))), rfl, bel.frame _, fun h => by cases h⟩

theorem over : Rows.groupFormRow.holds Try.pinned (OpenSpec.ofChange Rows.groupFormSpec) :=
  OpenClaim.holds_of_wide 5 Try.f5 rfl rfl rfl rfl rfl rfl rfl ⟨rfl, rfl, rfl, rfl, rfl⟩ rfl rfl rfl rfl rfl (by kernel_rfl) Try.func5 (by kernel_rfl)
    (of_decide_eq_true (by kernel_rfl)) (by unfold Func.isWrapper; first | (rw [if_pos (by decide +kernel)]; kernel_rfl) | (rw [if_neg (by decide +kernel)]; exact ⟨rfl, rfl⟩))
    (fun os started H enc _ => lifted os started H enc)

/-- The statement. -/
theorem proved : Rows.GroupFormSaid := over
#print axioms proved
end Go.Proofs.Ythgafhmgoaglmaa.groupFormLaw
