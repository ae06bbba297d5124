/-
  'siphonlaw17.GroupApplies' returns true, whatever the input, and each argument reads behind the call as it read before. Conditions: none beyond those that the row itself states.
-/
import Derived.Test.YtceilgeefegbmaaRows
import Derived.Test.YtceilgeefegbmaaGpL
import Derived.Test.YtceilgeefegbmaaGpKM
import Derived.Test.YtceilgeefegbmaaGrU
import Derived.Test.YtceilgeefegbmaaGrV
import Derived.Test.YtceilgeefegbmaaGrZ
import Derived.Test.YtceilgeefegbmaaRowTmd
import Derived.Test.YtceilgeefegbmaaTrodZ
import Derived.WalkKit
import Derived.ProofKit
import Derived.OpenShut
import Derived.ShutString
import Derived.ChangeOld
import Derived.Below
import Derived.Carry
import Derived.SizedLaws
import Derived.Lib.SmallJoins
import Derived.ChangeArms
import Derived.WideShapes
namespace Go.Proofs.Ytceilgeefegbmaa.groupAppliesLaw
open Go.ChangeShapes Go.WideShapes Go.ChangeAt Go.RowKit Go.Joins
open Go.ChangeMaps (open_string shut_string)
set_option linter.unusedVariables false

theorem list2 {α : Type} (l : List α) (h : l.length = 2) : ∃ x0 x1 : α, l = [x0, x1] := by
  match l, h with
  | [x0, x1], _ => exact ⟨x0, x1, rfl⟩

theorem list3 {α : Type} (l : List α) (h : l.length = 3) : ∃ x0 x1 x2 : α, l = [x0, x1, x2] := by
  match l, h with
  | [x0, x1, x2], _ => exact ⟨x0, x1, x2, rfl⟩

theorem list4 {α : Type} (l : List α) (h : l.length = 4) : ∃ x0 x1 x2 x3 : α, l = [x0, x1, x2, x3] := by
  match l, h with
  | [x0, x1, x2, x3], _ => exact ⟨x0, x1, x2, x3, rfl⟩

theorem list9 {α : Type} (l : List α) (h : l.length = 9) : ∃ x0 x1 x2 x3 x4 x5 x6 x7 x8 : α, l = [x0, x1, x2, x3, x4, x5, x6, x7, x8] := by
  match l, h with
  | [x0, x1, x2, x3, x4, x5, x6, x7, x8], _ => exact ⟨x0, x1, x2, x3, x4, x5, x6, x7, x8, rfl⟩

set_option maxHeartbeats 8000000 in
set_option maxRecDepth 100000 in
theorem walk (a0_0 : Bool) (a0_1 : Int) (a0_2 : Value) (la0_2 : List Tmd) (a0_3 : Bool) (a0_4 : Int) (a0_5 : ByteArray) (a0_6 : Value) (la0_6 : List ByteArray) (a0_7 : Int) (a0_8 : Int) (a1 : Int) (w : World) (la0_1 : -9223372036854775808 ≤ a0_1) (ua0_1 : a0_1 ≤ 9223372036854775807) (ha0_2 : RowsAt 2 cellsTmd w a0_2 la0_2) (qa0_2 : la0_2.length ≤ maxLen) (sa0_2 : ∀ r ∈ la0_2, GoodTmd r) (la0_4 : -9223372036854775808 ≤ a0_4) (ua0_4 : a0_4 ≤ 9223372036854775807) (za0_5 : a0_5.size ≤ 140737488351232) (ha0_6 : AddrsAt w a0_6 la0_6) (qa0_6 : la0_6.length ≤ maxLen) (sa0_6 : ∀ r ∈ la0_6, r.size ≤ maxLen) (la0_7 : -9223372036854775808 ≤ a0_7) (ua0_7 : a0_7 ≤ 9223372036854775807) (la0_8 : -9223372036854775808 ≤ a0_8) (ua0_8 : a0_8 ≤ 9223372036854775807) (la1 : -9223372036854775808 ≤ a1) (ua1 : a1 ≤ 9223372036854775807) :
    Calls Try.prog 4 #[.agg #[.bool a0_0, .int .i64 a0_1, a0_2, .bool a0_3, .int .i64 a0_4, .string a0_5, a0_6, .int .i64 a0_7, .int .i64 a0_8], .int .i64 a1] w fun e w' => e = .returned (.bool true) ∧ Below w.heap.size w w' := by
  have HROW := Lib.hid (show RowsAt 2 cellsTm w a0_2 la0_2 from ha0_2)
  have HADR := Lib.hid ha0_6
  obtain ⟨p, cap, rfl⟩ := ha0_2.slice
  obtain ⟨rp, rc, rfl⟩ := ha0_6.slice
  obtain ⟨n, hn⟩ : ∃ n, n = la0_2.length := ⟨_, rfl⟩
  obtain ⟨rn, hrn⟩ : ∃ rn, rn = la0_6.length := ⟨_, rfl⟩
  have HNN := Lib.hid hn
  have HRN := Lib.hid hrn
  rw [← hn] at HROW qa0_2 ⊢
  rw [← hrn] at HADR qa0_6 ⊢
  have HSA := Lib.hid (show ∀ x ∈ la0_2, x.1.size ≤ maxLen from fun x hx => (sa0_2 x hx).1)
  have HSR := Lib.hid sa0_6
  have HL := Lib.hid fun U => live17_c U
  have KW := Lib.hid ((Below.refl w.heap.size w).alloc (Nat.le_refl _) (.cells #[.bool a0_0, .int .i64 a0_1, .slice p n cap, .bool a0_3, .int .i64 a0_4, .string a0_5, .slice rp rn rc, .int .i64 a0_7, .int .i64 a0_8] 41))
  have B_e := Lib.hid (heap_new w (.cells #[.bool a0_0, .int .i64 a0_1, .slice p n cap, .bool a0_3, .int .i64 a0_4, .string a0_5, .slice rp rn rc, .int .i64 a0_7, .int .i64 a0_8] 41))
  have hnb : n ≤ 9223372036854775807 := qa0_2
  have hrb : rn ≤ 9223372036854775807 := qa0_6
  clear ha0_2 sa0_2 qa0_2 hn ha0_6 sa0_6 qa0_6 hrn
  obtain ⟨fw, hfw⟩ : ∃ fw, fw = (decide (n ≤ 100) && decide (rn ≤ 100)) := ⟨_, rfl⟩
  have HFW := Lib.hid (show fw = true → n ≤ 100 ∧ rn ≤ 100 from fun h => by rw [hfw] at h; simpa using h)
  have FW := Lib.hid (fun U => few17_c a0_0 a0_1 p n cap a0_4 a0_5 rp rn rc U)
  rw [← hfw] at FW
  clear hfw
  go_enter Try.func4, Try.ntmps4
  go_upto_region 1 with fail
  have HR := Lib.hid (HROW.out.below KW.out)
  have HA := Lib.hid (HADR.out.below KW.out)
  clear HROW HADR
  generalize w.alloc (.cells #[.bool a0_0, .int .i64 a0_1, .slice p n cap, .bool a0_3, .int .i64 a0_4, .string a0_5, .slice rp rn rc, .int .i64 a0_7, .int .i64 a0_8] 41) = W at KW B_e HR HA ⊢
  have c_e0 : W.cell? ⟨w.heap.size, 0, none⟩ = some (.bool a0_0) := cell_of_block B_e.out rfl
  have c_e1 : W.cell? ⟨w.heap.size, 1, none⟩ = some (.int .i64 a0_1) := cell_of_block B_e.out rfl
  have c_e2 : W.cell? ⟨w.heap.size, 2, none⟩ = some (.slice p n cap) := cell_of_block B_e.out rfl
  have c_e3 : W.cell? ⟨w.heap.size, 3, none⟩ = some (.bool a0_3) := cell_of_block B_e.out rfl
  have c_e4 : W.cell? ⟨w.heap.size, 4, none⟩ = some (.int .i64 a0_4) := cell_of_block B_e.out rfl
  have c_e5 : W.cell? ⟨w.heap.size, 5, none⟩ = some (.string a0_5) := cell_of_block B_e.out rfl
  have c_e6 : W.cell? ⟨w.heap.size, 6, none⟩ = some (.slice rp rn rc) := cell_of_block B_e.out rfl
  have c_e7 : W.cell? ⟨w.heap.size, 7, none⟩ = some (.int .i64 a0_7) := cell_of_block B_e.out rfl
  have c_e8 : W.cell? ⟨w.heap.size, 8, none⟩ = some (.int .i64 a0_8) := cell_of_block B_e.out rfl
  have CN := Lib.hid (FW.out W)
  go_wp2_with fail
  ((with_reducible refine CN.out.mono ?_); rintro e v1 ⟨rfl, kb9⟩)
  clear c_e0 c_e1 c_e2 c_e3 c_e4 c_e5 c_e6 c_e7 c_e8
  replace B_e := Lib.hid (below_block kb9 (lt_of_block B_e.out) B_e.out)
  replace HR := Lib.hid (HR.out.below kb9)
  replace HA := Lib.hid (HA.out.below kb9)
  replace KW := Lib.hid (KW.out.trans (kb9.mono KW.out.size))
  clear CN kb9
  rcases Bool.eq_false_or_eq_true fw with e | e
  · subst e
    obtain ⟨hn1, hr1⟩ := HFW.out rfl
    have hl0 : la0_2.length ≤ 100 := by rw [← HNN.out]; omega
    have hr0 : la0_6.length ≤ 100 := by rw [← HRN.out]; omega
    have hl1 : la0_2.length ≤ 1000000 := by omega
    have hr2 : la0_6.length ≤ 1000000 := by omega
    have hlX : la0_2.length ≤ 9223372036854775807 := by omega
    have CP := Lib.hid (fun U hr => copied17_c a0_0 a0_1 (.slice p n cap) la0_2 U hl0 hr)
    have AP := Lib.hid (fun U v hr ha => applyP_c a0_0 a0_1 v la0_2 a0_3 a0_4 a0_5 (.slice rp rn rc) la0_6 a1 a0_7 a0_8 U hl1 hr HSA.out hr2 ha HSR.out)
    have RA := Lib.hid (fun U hr ha => app17_c a0_0 a0_1 (.slice p n cap) la0_2 a0_3 a0_4 a0_5 (.slice rp rn rc) la0_6 a1 a0_7 a0_8 U hl0 hr0 hr ha)
    rw [← app_same] at RA
    have SM := Lib.hid (fun U v1 v2 h1 h2 => rsame17_c a0_0 a0_1 v1 v2 la0_2 U hlX h1 h2)
    obtain ⟨S0, hS0⟩ : ∃ S0 : St, S0 = if a0_3 = true then ⟨a0_0, a0_1, la0_2⟩ else noS := ⟨_, rfl⟩
    have EA : appP ⟨a0_0, a0_1, la0_2⟩ a0_3 a0_4 la0_6 a1 a0_7 a0_8 = appS S0 a0_4 la0_6 a1 a0_7 a0_8 := by rw [hS0]; rfl
    have LEN := (fun h => app_len (s := S0) (kd := a0_4) (rs := la0_6) (now := a1) (m := a0_7) (l := a0_8) h)
    have BAD : (appS S0 a0_4 la0_6 a1 a0_7 a0_8).er ≠ 0 → (appS S0 a0_4 la0_6 a1 a0_7 a0_8).st.src.length ≤ 60 ∧ (appS S0 a0_4 la0_6 a1 a0_7 a0_8).al.length ≤ 120 := fun h => app_small h
    rw [EA] at AP RA
    have SZ : (appS S0 a0_4 la0_6 a1 a0_7 a0_8).st.src.length ≤ 60 ∧ (appS S0 a0_4 la0_6 a1 a0_7 a0_8).al.length ≤ 120 := by
      by_cases h : (appS S0 a0_4 la0_6 a1 a0_7 a0_8).er = 0
      · exact ⟨(LEN h).1, (LEN h).2.1⟩
      · exact BAD h
    clear hS0 EA LEN BAD hn1 hr1
    generalize appS S0 a0_4 la0_6 a1 a0_7 a0_8 = A at AP RA SZ
    obtain ⟨⟨sx, sm, sl⟩, ai, ag, al, er⟩ := A
    unfold ApPost at AP RA
    dsimp only at AP RA SZ
    have SX := Lib.hid (fun U v1 v2 h1 h2 => rsame17_c sx sm v1 v2 sl U (by omega) h1 h2)
    have SK := Lib.hid (fun U v1 v2 h1 h2 => sameask17_c ag v1 v2 al U (by omega) h1 h2)
    clear hl0 hr0 hl1 hr2 hlX SZ
    have c_e0 : v1.cell? ⟨w.heap.size, 0, none⟩ = some (.bool a0_0) := cell_of_block B_e.out rfl
    have c_e1 : v1.cell? ⟨w.heap.size, 1, none⟩ = some (.int .i64 a0_1) := cell_of_block B_e.out rfl
    have c_e2 : v1.cell? ⟨w.heap.size, 2, none⟩ = some (.slice p n cap) := cell_of_block B_e.out rfl
    have c_e3 : v1.cell? ⟨w.heap.size, 3, none⟩ = some (.bool a0_3) := cell_of_block B_e.out rfl
    have c_e4 : v1.cell? ⟨w.heap.size, 4, none⟩ = some (.int .i64 a0_4) := cell_of_block B_e.out rfl
    have c_e5 : v1.cell? ⟨w.heap.size, 5, none⟩ = some (.string a0_5) := cell_of_block B_e.out rfl
    have c_e6 : v1.cell? ⟨w.heap.size, 6, none⟩ = some (.slice rp rn rc) := cell_of_block B_e.out rfl
    have c_e7 : v1.cell? ⟨w.heap.size, 7, none⟩ = some (.int .i64 a0_7) := cell_of_block B_e.out rfl
    have c_e8 : v1.cell? ⟨w.heap.size, 8, none⟩ = some (.int .i64 a0_8) := cell_of_block B_e.out rfl
    have CN := Lib.hid (CP.out v1 HR.out)
    go_wp2_with fail
    ((with_reducible refine CN.out.mono ?_); rintro e9 v2 ⟨vo, rfl, r9, kb9⟩)
    clear c_e0 c_e1 c_e2 c_e3 c_e4 c_e5 c_e6 c_e7 c_e8
    replace B_e := Lib.hid (below_block kb9 (lt_of_block B_e.out) B_e.out)
    replace HR := Lib.hid (HR.out.below kb9)
    replace HA := Lib.hid (HA.out.below kb9)
    replace KW := Lib.hid (KW.out.trans (kb9.mono KW.out.size))
    obtain ⟨oq, on, oc, rfl⟩ := rows_slice3 r9
    have HQ := Lib.hid r9
    clear CN kb9 r9 CP
    go_upto_region 4 with fail
    have kA : Below v2.heap.size v2 (v2.alloc (.cells #[.bool a0_0, .int .i64 a0_1, .slice oq on oc] 24)) := (Below.refl _ _).alloc (Nat.le_refl _) _
    have ge_o := Lib.hid (show w.heap.size ≤ v2.heap.size from KW.out.size)
    have ne_e_o := Lib.hid (Nat.ne_of_lt (lt_of_block B_e.out))
    replace B_e := Lib.hid (below_block kA (lt_of_block B_e.out) B_e.out)
    replace HR := Lib.hid (HR.out.below kA)
    replace HA := Lib.hid (HA.out.below kA)
    replace HQ := Lib.hid (HQ.out.below kA)
    replace KW := Lib.hid (KW.out.trans (kA.mono KW.out.size))
    have B_o := Lib.hid (heap_new v2 (.cells #[.bool a0_0, .int .i64 a0_1, .slice oq on oc] 24))
    clear kA
    generalize v2.alloc (.cells #[.bool a0_0, .int .i64 a0_1, .slice oq on oc] 24) = v3 at B_e B_o HR HA HQ KW ⊢
    generalize v2.heap.size = ob at B_o ge_o ne_e_o ⊢
    have c_e0 : v3.cell? ⟨w.heap.size, 0, none⟩ = some (.bool a0_0) := cell_of_block B_e.out rfl
    have c_e1 : v3.cell? ⟨w.heap.size, 1, none⟩ = some (.int .i64 a0_1) := cell_of_block B_e.out rfl
    have c_e2 : v3.cell? ⟨w.heap.size, 2, none⟩ = some (.slice p n cap) := cell_of_block B_e.out rfl
    have c_e3 : v3.cell? ⟨w.heap.size, 3, none⟩ = some (.bool a0_3) := cell_of_block B_e.out rfl
    have c_e4 : v3.cell? ⟨w.heap.size, 4, none⟩ = some (.int .i64 a0_4) := cell_of_block B_e.out rfl
    have c_e5 : v3.cell? ⟨w.heap.size, 5, none⟩ = some (.string a0_5) := cell_of_block B_e.out rfl
    have c_e6 : v3.cell? ⟨w.heap.size, 6, none⟩ = some (.slice rp rn rc) := cell_of_block B_e.out rfl
    have c_e7 : v3.cell? ⟨w.heap.size, 7, none⟩ = some (.int .i64 a0_7) := cell_of_block B_e.out rfl
    have c_e8 : v3.cell? ⟨w.heap.size, 8, none⟩ = some (.int .i64 a0_8) := cell_of_block B_e.out rfl
    have c_o0 : v3.cell? ⟨ob, 0, none⟩ = some (.bool a0_0) := cell_of_block B_o.out rfl
    have c_o1 : v3.cell? ⟨ob, 1, none⟩ = some (.int .i64 a0_1) := cell_of_block B_o.out rfl
    have c_o2 : v3.cell? ⟨ob, 2, none⟩ = some (.slice oq on oc) := cell_of_block B_o.out rfl
    have CN := Lib.hid (AP.out v3 _ HQ.out HA.out)
    go_wp2_with fail
    ((with_reducible refine CN.out.mono ?_); rintro e9 v4 ⟨vs, va, rfl, r9, a9, kb9⟩)
    clear c_e0 c_e1 c_e2 c_e3 c_e4 c_e5 c_e6 c_e7 c_e8 c_o0 c_o1 c_o2
    replace B_e := Lib.hid (below_block kb9 (lt_of_block B_e.out) B_e.out)
    replace B_o := Lib.hid (below_block kb9 (lt_of_block B_o.out) B_o.out)
    replace HR := Lib.hid (HR.out.below kb9)
    replace HA := Lib.hid (HA.out.below kb9)
    replace HQ := Lib.hid (HQ.out.below kb9)
    replace KW := Lib.hid (KW.out.trans (kb9.mono KW.out.size))
    obtain ⟨q1, n1, c1, rfl⟩ := rows_slice3 r9
    obtain ⟨p1, m1, d1, rfl⟩ := addrs_slice3 a9
    have HU := Lib.hid r9
    have HK := Lib.hid a9
    clear CN kb9 r9 a9
    go_upto_region 5 with fail
    have kA : Below v4.heap.size v4 ((v4.alloc (.cells #[.bool sx, .int .i64 sm, .slice q1 n1 c1] 24)).alloc (.cells #[.bool ag, .slice p1 m1 d1] 44)) := ((Below.refl _ _).alloc (Nat.le_refl _) _).alloc (by simp) _
    have ge_u := Lib.hid (show w.heap.size ≤ v4.heap.size from KW.out.size)
    have ge_k := Lib.hid (show w.heap.size ≤ v4.heap.size + 1 from Nat.le_succ_of_le KW.out.size)
    have ne_u_k := Lib.hid (show v4.heap.size ≠ v4.heap.size + 1 from by omega)
    have ne_e_u := Lib.hid (Nat.ne_of_lt (lt_of_block B_e.out))
    have ne_e_k := Lib.hid (show w.heap.size ≠ v4.heap.size + 1 from Nat.ne_of_lt (Nat.lt_succ_of_lt (lt_of_block B_e.out)))
    have ne_o_u := Lib.hid (Nat.ne_of_lt (lt_of_block B_o.out))
    have ne_o_k := Lib.hid (show ob ≠ v4.heap.size + 1 from Nat.ne_of_lt (Nat.lt_succ_of_lt (lt_of_block B_o.out)))
    replace B_e := Lib.hid (below_block kA (lt_of_block B_e.out) B_e.out)
    replace B_o := Lib.hid (below_block kA (lt_of_block B_o.out) B_o.out)
    replace HR := Lib.hid (HR.out.below kA)
    replace HA := Lib.hid (HA.out.below kA)
    replace HQ := Lib.hid (HQ.out.below kA)
    replace HU := Lib.hid (HU.out.below kA)
    replace HK := Lib.hid (HK.out.below kA)
    replace KW := Lib.hid (KW.out.trans (kA.mono KW.out.size))
    have B_u := Lib.hid (show ((v4.alloc (.cells #[.bool sx, .int .i64 sm, .slice q1 n1 c1] 24)).alloc (.cells #[.bool ag, .slice p1 m1 d1] 44)).heap[v4.heap.size]? = some (.cells #[.bool sx, .int .i64 sm, .slice q1 n1 c1] 24) from heap_old (heap_new v4 (.cells #[.bool sx, .int .i64 sm, .slice q1 n1 c1] 24)))
    have B_k := Lib.hid (show ((v4.alloc (.cells #[.bool sx, .int .i64 sm, .slice q1 n1 c1] 24)).alloc (.cells #[.bool ag, .slice p1 m1 d1] 44)).heap[v4.heap.size + 1]? = some (.cells #[.bool ag, .slice p1 m1 d1] 44) from by simpa using heap_new (v4.alloc (.cells #[.bool sx, .int .i64 sm, .slice q1 n1 c1] 24)) (.cells #[.bool ag, .slice p1 m1 d1] 44))
    clear kA
    generalize (v4.alloc (.cells #[.bool sx, .int .i64 sm, .slice q1 n1 c1] 24)).alloc (.cells #[.bool ag, .slice p1 m1 d1] 44) = v5 at B_e B_o B_u B_k HR HA HQ HU HK KW ⊢
    generalize v4.heap.size + 1 = kb at B_k ge_k ne_u_k ne_e_k ne_o_k ⊢
    generalize v4.heap.size = ub at B_u ge_u ne_u_k ne_e_u ne_o_u ⊢
    have c_e0 : v5.cell? ⟨w.heap.size, 0, none⟩ = some (.bool a0_0) := cell_of_block B_e.out rfl
    have c_e1 : v5.cell? ⟨w.heap.size, 1, none⟩ = some (.int .i64 a0_1) := cell_of_block B_e.out rfl
    have c_e2 : v5.cell? ⟨w.heap.size, 2, none⟩ = some (.slice p n cap) := cell_of_block B_e.out rfl
    have c_e3 : v5.cell? ⟨w.heap.size, 3, none⟩ = some (.bool a0_3) := cell_of_block B_e.out rfl
    have c_e4 : v5.cell? ⟨w.heap.size, 4, none⟩ = some (.int .i64 a0_4) := cell_of_block B_e.out rfl
    have c_e5 : v5.cell? ⟨w.heap.size, 5, none⟩ = some (.string a0_5) := cell_of_block B_e.out rfl
    have c_e6 : v5.cell? ⟨w.heap.size, 6, none⟩ = some (.slice rp rn rc) := cell_of_block B_e.out rfl
    have c_e7 : v5.cell? ⟨w.heap.size, 7, none⟩ = some (.int .i64 a0_7) := cell_of_block B_e.out rfl
    have c_e8 : v5.cell? ⟨w.heap.size, 8, none⟩ = some (.int .i64 a0_8) := cell_of_block B_e.out rfl
    have c_o0 : v5.cell? ⟨ob, 0, none⟩ = some (.bool a0_0) := cell_of_block B_o.out rfl
    have c_o1 : v5.cell? ⟨ob, 1, none⟩ = some (.int .i64 a0_1) := cell_of_block B_o.out rfl
    have c_o2 : v5.cell? ⟨ob, 2, none⟩ = some (.slice oq on oc) := cell_of_block B_o.out rfl
    have CN := Lib.hid (RA.out v5 HR.out HA.out)
    go_wp2_with fail
    ((with_reducible refine CN.out.mono ?_); rintro e9 v6 ⟨vs, va, rfl, r9, a9, kb9⟩)
    clear c_e0 c_e1 c_e2 c_e3 c_e4 c_e5 c_e6 c_e7 c_e8 c_o0 c_o1 c_o2
    replace B_e := Lib.hid (below_block kb9 (lt_of_block B_e.out) B_e.out)
    replace B_o := Lib.hid (below_block kb9 (lt_of_block B_o.out) B_o.out)
    replace B_u := Lib.hid (below_block kb9 (lt_of_block B_u.out) B_u.out)
    replace B_k := Lib.hid (below_block kb9 (lt_of_block B_k.out) B_k.out)
    replace HR := Lib.hid (HR.out.below kb9)
    replace HA := Lib.hid (HA.out.below kb9)
    replace HQ := Lib.hid (HQ.out.below kb9)
    replace HU := Lib.hid (HU.out.below kb9)
    replace HK := Lib.hid (HK.out.below kb9)
    replace KW := Lib.hid (KW.out.trans (kb9.mono KW.out.size))
    obtain ⟨q2, n2, c2, rfl⟩ := rows_slice3 r9
    obtain ⟨p2, m2, d2, rfl⟩ := addrs_slice3 a9
    have HT := Lib.hid r9
    have HJ := Lib.hid a9
    clear CN kb9 r9 a9
    go_upto_region 6 with fail
    have kA : Below v6.heap.size v6 ((v6.alloc (.cells #[.bool sx, .int .i64 sm, .slice q2 n2 c2] 24)).alloc (.cells #[.bool ag, .slice p2 m2 d2] 47)) := ((Below.refl _ _).alloc (Nat.le_refl _) _).alloc (by simp) _
    have ge_t := Lib.hid (show w.heap.size ≤ v6.heap.size from KW.out.size)
    have ge_j := Lib.hid (show w.heap.size ≤ v6.heap.size + 1 from Nat.le_succ_of_le KW.out.size)
    have ne_t_j := Lib.hid (show v6.heap.size ≠ v6.heap.size + 1 from by omega)
    have ne_e_t := Lib.hid (Nat.ne_of_lt (lt_of_block B_e.out))
    have ne_e_j := Lib.hid (show w.heap.size ≠ v6.heap.size + 1 from Nat.ne_of_lt (Nat.lt_succ_of_lt (lt_of_block B_e.out)))
    have ne_o_t := Lib.hid (Nat.ne_of_lt (lt_of_block B_o.out))
    have ne_o_j := Lib.hid (show ob ≠ v6.heap.size + 1 from Nat.ne_of_lt (Nat.lt_succ_of_lt (lt_of_block B_o.out)))
    have ne_u_t := Lib.hid (Nat.ne_of_lt (lt_of_block B_u.out))
    have ne_u_j := Lib.hid (show ub ≠ v6.heap.size + 1 from Nat.ne_of_lt (Nat.lt_succ_of_lt (lt_of_block B_u.out)))
    have ne_k_t := Lib.hid (Nat.ne_of_lt (lt_of_block B_k.out))
    have ne_k_j := Lib.hid (show kb ≠ v6.heap.size + 1 from Nat.ne_of_lt (Nat.lt_succ_of_lt (lt_of_block B_k.out)))
    replace B_e := Lib.hid (below_block kA (lt_of_block B_e.out) B_e.out)
    replace B_o := Lib.hid (below_block kA (lt_of_block B_o.out) B_o.out)
    replace B_u := Lib.hid (below_block kA (lt_of_block B_u.out) B_u.out)
    replace B_k := Lib.hid (below_block kA (lt_of_block B_k.out) B_k.out)
    replace HR := Lib.hid (HR.out.below kA)
    replace HA := Lib.hid (HA.out.below kA)
    replace HQ := Lib.hid (HQ.out.below kA)
    replace HU := Lib.hid (HU.out.below kA)
    replace HK := Lib.hid (HK.out.below kA)
    replace HT := Lib.hid (HT.out.below kA)
    replace HJ := Lib.hid (HJ.out.below kA)
    replace KW := Lib.hid (KW.out.trans (kA.mono KW.out.size))
    have B_t := Lib.hid (show ((v6.alloc (.cells #[.bool sx, .int .i64 sm, .slice q2 n2 c2] 24)).alloc (.cells #[.bool ag, .slice p2 m2 d2] 47)).heap[v6.heap.size]? = some (.cells #[.bool sx, .int .i64 sm, .slice q2 n2 c2] 24) from heap_old (heap_new v6 (.cells #[.bool sx, .int .i64 sm, .slice q2 n2 c2] 24)))
    have B_j := Lib.hid (show ((v6.alloc (.cells #[.bool sx, .int .i64 sm, .slice q2 n2 c2] 24)).alloc (.cells #[.bool ag, .slice p2 m2 d2] 47)).heap[v6.heap.size + 1]? = some (.cells #[.bool ag, .slice p2 m2 d2] 47) from by simpa using heap_new (v6.alloc (.cells #[.bool sx, .int .i64 sm, .slice q2 n2 c2] 24)) (.cells #[.bool ag, .slice p2 m2 d2] 47))
    clear kA
    generalize (v6.alloc (.cells #[.bool sx, .int .i64 sm, .slice q2 n2 c2] 24)).alloc (.cells #[.bool ag, .slice p2 m2 d2] 47) = v7 at B_e B_o B_u B_k B_t B_j HR HA HQ HU HK HT HJ KW ⊢
    generalize v6.heap.size + 1 = jb at B_j ge_j ne_t_j ne_e_j ne_o_j ne_u_j ne_k_j ⊢
    generalize v6.heap.size = tb at B_t ge_t ne_t_j ne_e_t ne_o_t ne_u_t ne_k_t ⊢
    have c_e0 : v7.cell? ⟨w.heap.size, 0, none⟩ = some (.bool a0_0) := cell_of_block B_e.out rfl
    have c_e1 : v7.cell? ⟨w.heap.size, 1, none⟩ = some (.int .i64 a0_1) := cell_of_block B_e.out rfl
    have c_e2 : v7.cell? ⟨w.heap.size, 2, none⟩ = some (.slice p n cap) := cell_of_block B_e.out rfl
    have c_e3 : v7.cell? ⟨w.heap.size, 3, none⟩ = some (.bool a0_3) := cell_of_block B_e.out rfl
    have c_e4 : v7.cell? ⟨w.heap.size, 4, none⟩ = some (.int .i64 a0_4) := cell_of_block B_e.out rfl
    have c_e5 : v7.cell? ⟨w.heap.size, 5, none⟩ = some (.string a0_5) := cell_of_block B_e.out rfl
    have c_e6 : v7.cell? ⟨w.heap.size, 6, none⟩ = some (.slice rp rn rc) := cell_of_block B_e.out rfl
    have c_e7 : v7.cell? ⟨w.heap.size, 7, none⟩ = some (.int .i64 a0_7) := cell_of_block B_e.out rfl
    have c_e8 : v7.cell? ⟨w.heap.size, 8, none⟩ = some (.int .i64 a0_8) := cell_of_block B_e.out rfl
    have c_o0 : v7.cell? ⟨ob, 0, none⟩ = some (.bool a0_0) := cell_of_block B_o.out rfl
    have c_o1 : v7.cell? ⟨ob, 1, none⟩ = some (.int .i64 a0_1) := cell_of_block B_o.out rfl
    have c_o2 : v7.cell? ⟨ob, 2, none⟩ = some (.slice oq on oc) := cell_of_block B_o.out rfl
    have CN := Lib.hid (SM.out v7 _ _ HQ.out HR.out)
    go_wp2_with fail
    ((with_reducible refine CN.out.mono ?_); rintro e9 v8 ⟨rfl, kb9⟩)
    clear c_e0 c_e1 c_e2 c_e3 c_e4 c_e5 c_e6 c_e7 c_e8 c_o0 c_o1 c_o2
    replace B_e := Lib.hid (below_block kb9 (lt_of_block B_e.out) B_e.out)
    replace B_o := Lib.hid (below_block kb9 (lt_of_block B_o.out) B_o.out)
    replace B_u := Lib.hid (below_block kb9 (lt_of_block B_u.out) B_u.out)
    replace B_k := Lib.hid (below_block kb9 (lt_of_block B_k.out) B_k.out)
    replace B_t := Lib.hid (below_block kb9 (lt_of_block B_t.out) B_t.out)
    replace B_j := Lib.hid (below_block kb9 (lt_of_block B_j.out) B_j.out)
    replace HR := Lib.hid (HR.out.below kb9)
    replace HA := Lib.hid (HA.out.below kb9)
    replace HQ := Lib.hid (HQ.out.below kb9)
    replace HU := Lib.hid (HU.out.below kb9)
    replace HK := Lib.hid (HK.out.below kb9)
    replace HT := Lib.hid (HT.out.below kb9)
    replace HJ := Lib.hid (HJ.out.below kb9)
    replace KW := Lib.hid (KW.out.trans (kb9.mono KW.out.size))
    clear CN kb9
    have c_u0 : v8.cell? ⟨ub, 0, none⟩ = some (.bool sx) := cell_of_block B_u.out rfl
    have c_u1 : v8.cell? ⟨ub, 1, none⟩ = some (.int .i64 sm) := cell_of_block B_u.out rfl
    have c_u2 : v8.cell? ⟨ub, 2, none⟩ = some (.slice q1 n1 c1) := cell_of_block B_u.out rfl
    have c_t0 : v8.cell? ⟨tb, 0, none⟩ = some (.bool sx) := cell_of_block B_t.out rfl
    have c_t1 : v8.cell? ⟨tb, 1, none⟩ = some (.int .i64 sm) := cell_of_block B_t.out rfl
    have c_t2 : v8.cell? ⟨tb, 2, none⟩ = some (.slice q2 n2 c2) := cell_of_block B_t.out rfl
    have c_k0 : v8.cell? ⟨kb, 0, none⟩ = some (.bool ag) := cell_of_block B_k.out rfl
    have c_k1 : v8.cell? ⟨kb, 1, none⟩ = some (.slice p1 m1 d1) := cell_of_block B_k.out rfl
    have c_j0 : v8.cell? ⟨jb, 0, none⟩ = some (.bool ag) := cell_of_block B_j.out rfl
    have c_j1 : v8.cell? ⟨jb, 1, none⟩ = some (.slice p2 m2 d2) := cell_of_block B_j.out rfl
    have CN := Lib.hid (SX.out v8 _ _ HU.out HT.out)
    have er1 : decide (er = er) = true := decide_eq_true rfl
    have er2 : decide (ai = ai) = true := decide_eq_true rfl
    go_wp2_with fail
    ((with_reducible refine CN.out.mono ?_); rintro e9 v9 ⟨rfl, kb9⟩)
    clear c_u0 c_u1 c_u2 c_t0 c_t1 c_t2 c_k0 c_k1 c_j0 c_j1
    replace B_e := Lib.hid (below_block kb9 (lt_of_block B_e.out) B_e.out)
    replace B_o := Lib.hid (below_block kb9 (lt_of_block B_o.out) B_o.out)
    replace B_u := Lib.hid (below_block kb9 (lt_of_block B_u.out) B_u.out)
    replace B_k := Lib.hid (below_block kb9 (lt_of_block B_k.out) B_k.out)
    replace B_t := Lib.hid (below_block kb9 (lt_of_block B_t.out) B_t.out)
    replace B_j := Lib.hid (below_block kb9 (lt_of_block B_j.out) B_j.out)
    replace HR := Lib.hid (HR.out.below kb9)
    replace HA := Lib.hid (HA.out.below kb9)
    replace HQ := Lib.hid (HQ.out.below kb9)
    replace HU := Lib.hid (HU.out.below kb9)
    replace HK := Lib.hid (HK.out.below kb9)
    replace HT := Lib.hid (HT.out.below kb9)
    replace HJ := Lib.hid (HJ.out.below kb9)
    replace KW := Lib.hid (KW.out.trans (kb9.mono KW.out.size))
    clear CN kb9
    have c_k0 : v9.cell? ⟨kb, 0, none⟩ = some (.bool ag) := cell_of_block B_k.out rfl
    have c_k1 : v9.cell? ⟨kb, 1, none⟩ = some (.slice p1 m1 d1) := cell_of_block B_k.out rfl
    have c_j0 : v9.cell? ⟨jb, 0, none⟩ = some (.bool ag) := cell_of_block B_j.out rfl
    have c_j1 : v9.cell? ⟨jb, 1, none⟩ = some (.slice p2 m2 d2) := cell_of_block B_j.out rfl
    have CN := Lib.hid (SK.out v9 _ _ HJ.out HK.out)
    go_wp2_with fail
    ((with_reducible refine CN.out.mono ?_); rintro e9 v10 ⟨rfl, kb9⟩)
    clear c_k0 c_k1 c_j0 c_j1
    replace B_e := Lib.hid (below_block kb9 (lt_of_block B_e.out) B_e.out)
    replace B_o := Lib.hid (below_block kb9 (lt_of_block B_o.out) B_o.out)
    replace B_u := Lib.hid (below_block kb9 (lt_of_block B_u.out) B_u.out)
    replace B_k := Lib.hid (below_block kb9 (lt_of_block B_k.out) B_k.out)
    replace B_t := Lib.hid (below_block kb9 (lt_of_block B_t.out) B_t.out)
    replace B_j := Lib.hid (below_block kb9 (lt_of_block B_j.out) B_j.out)
    replace HR := Lib.hid (HR.out.below kb9)
    replace HA := Lib.hid (HA.out.below kb9)
    replace HQ := Lib.hid (HQ.out.below kb9)
    replace HU := Lib.hid (HU.out.below kb9)
    replace HK := Lib.hid (HK.out.below kb9)
    replace HT := Lib.hid (HT.out.below kb9)
    replace HJ := Lib.hid (HJ.out.below kb9)
    replace KW := Lib.hid (KW.out.trans (kb9.mono KW.out.size))
    clear CN kb9
    go_wp2_with fail
    ((with_reducible refine (HL.out _).mono ?_); rintro e9 w8 ⟨rfl, hz⟩)
    go_wp2_with fail
    go_ret
    exact ⟨rfl, gk_call KW.out hz⟩
  · subst e
    go_wp2_with fail
    ((with_reducible refine (HL.out _).mono ?_); rintro e9 w8 ⟨rfl, hz⟩)
    go_wp2_with fail
    go_ret
    exact ⟨rfl, gk_call KW.out hz⟩

theorem own : ownKnob Try.prog.godebug = none := by kernel_rfl
theorem laidOut : laidOutB Try.prog = true := by kernel_rfl

set_option maxHeartbeats 1000000 in
set_option maxRecDepth 100000 in
theorem lifted (os : Os) (started : os.Started) (H : Type) (enc : TypeId × Value → H) :
    ReturnsInHanded {} Try.checked os 4 .any (Rows.groupAppliesSpec.pre6 enc Try.prog Try.f4 Rows.groupAppliesRow.domain false) (Rows.groupAppliesSpec.post enc Try.prog Try.f4 false true false false) := by
  refine returnsInHanded_of_change_sized (C := Try.checked) own started (by kernel_rfl) Try.func4
    (ChangeSpec.witness6 (enc := enc) (C := Try.checked) false ⟨#[], #[.agg #[.bool false, .int .i64 0, .slice none 0 0, .bool false, .int .i64 0, .string ByteArray.empty, .slice none 0 0, .int .i64 0, .int .i64 0], .int .i64 0], []⟩ 8 (by kernel_rfl) (by kernel_rfl) (by kernel_rfl) (by kernel_rfl)) ?_
  intro W base args ds gs before hval0 hW hcnd hsz0 hholds
  have hval : ∀ (j : Nat) t v, Try.f4.params[j]? = some t → args[j]? = some v → Value.okWide Try.prog W .any base t v := hval0
  have hsz : (DataW.weightsEach Try.prog (Try.f4.params.toList ++ Rows.groupAppliesSpec.plain.varTypes Try.prog) (ds ++ gs)).all (· ≤ reachBytes) = true := hsz0
  have hW' := hW
  obtain ⟨p, q, hA0, hV, rfl, hfz, hnd⟩ := hW
  have hA : DataW.TrodAll enc Try.prog W 0 (fun _ => true) true Try.f4.params.toList args.toList ds p := hA0
  rw [Try.params4] at hA hval hsz
  obtain ⟨v0, vs0, d0, ds0, p0, q0, hargs, rfl, rfl, h0, r0⟩ := trodAll_cons hA
  obtain ⟨v1, vs1, d1, ds1, p1, q1, rfl, rfl, rfl, h1, r1⟩ := trodAll_cons r0
  obtain ⟨rfl, rfl, rfl⟩ := trodAll_nil r1
  obtain rfl : args = #[v0, v1] := by cases args; simp_all
  obtain ⟨rfl, rfl⟩ := trodVars_none hV
  have k0 := h0
  have lt0 : ∀ x ∈ p0, x.block < W.heap.size := by obtain ⟨m, hm⟩ := k0; exact DataW.trod_lt m _ _ _ hm
  have k1 := h1
  have lt1 : ∀ x ∈ p1, x.block < W.heap.size := by obtain ⟨m, hm⟩ := k1; exact DataW.trod_lt m _ _ _ hm
  obtain ⟨cs0, rfl, hz0⟩ := okWide_struct Try.underlying41 (hval 0 41 v0 rfl rfl)
  obtain ⟨l0⟩ := cs0
  obtain ⟨c0_0, c0_1, c0_2, c0_3, c0_4, c0_5, c0_6, c0_7, c0_8, rfl⟩ := list9 l0 (hz0.trans (by kernel_rfl))
  obtain ⟨fu0, hf0⟩ := h0
  obtain ⟨xs0, m0, -, hx0, -, hn0, hg0⟩ := DataW.trod_struct Try.underlying41 hf0
  obtain ⟨y0_0, y0_1, y0_2, y0_3, rfl⟩ := list4 xs0 hn0
  simp only [Prod.mk.injEq] at hx0
  obtain ⟨rfl, rfl⟩ := hx0
  have g0_0 : DataW.trod enc Try.prog W 0 (fun _ => true) true m0 24 (List.take (Try.prog.cellsOf 24) (List.drop 0 [c0_0, c0_1, c0_2, c0_3, c0_4, c0_5, c0_6, c0_7, c0_8])) = some y0_0 := hg0 0 _ rfl
  rw [show Try.prog.cellsOf 24 = 3 from by kernel_rfl] at g0_0
  replace g0_0 : DataW.trod enc Try.prog W 0 (fun _ => true) true m0 24 [c0_0, c0_1, c0_2] = some y0_0 := g0_0
  have g0_1 : DataW.trod enc Try.prog W 0 (fun _ => true) true m0 4 (List.take (Try.prog.cellsOf 4) (List.drop 3 [c0_0, c0_1, c0_2, c0_3, c0_4, c0_5, c0_6, c0_7, c0_8])) = some y0_1 := hg0 1 _ rfl
  rw [show Try.prog.cellsOf 4 = 1 from by kernel_rfl] at g0_1
  replace g0_1 : DataW.trod enc Try.prog W 0 (fun _ => true) true m0 4 [c0_3] = some y0_1 := g0_1
  have g0_2 : DataW.trod enc Try.prog W 0 (fun _ => true) true m0 37 (List.take (Try.prog.cellsOf 37) (List.drop 4 [c0_0, c0_1, c0_2, c0_3, c0_4, c0_5, c0_6, c0_7, c0_8])) = some y0_2 := hg0 2 _ rfl
  rw [show Try.prog.cellsOf 37 = 3 from by kernel_rfl] at g0_2
  replace g0_2 : DataW.trod enc Try.prog W 0 (fun _ => true) true m0 37 [c0_4, c0_5, c0_6] = some y0_2 := g0_2
  have g0_3 : DataW.trod enc Try.prog W 0 (fun _ => true) true m0 39 (List.take (Try.prog.cellsOf 39) (List.drop 7 [c0_0, c0_1, c0_2, c0_3, c0_4, c0_5, c0_6, c0_7, c0_8])) = some y0_3 := hg0 3 _ rfl
  rw [show Try.prog.cellsOf 39 = 2 from by kernel_rfl] at g0_3
  replace g0_3 : DataW.trod enc Try.prog W 0 (fun _ => true) true m0 39 [c0_7, c0_8] = some y0_3 := g0_3
  clear hg0
  obtain ⟨xs0_0, m0_0, -, hx0_0, -, hn0_0, hg0_0⟩ := DataW.trod_struct Try.underlying24 g0_0
  obtain ⟨y0_0_0, y0_0_1, y0_0_2, rfl⟩ := list3 xs0_0 hn0_0
  subst hx0_0
  have g0_0_0 : DataW.trod enc Try.prog W 0 (fun _ => true) true m0_0 4 (List.take (Try.prog.cellsOf 4) (List.drop 0 [c0_0, c0_1, c0_2])) = some y0_0_0 := hg0_0 0 _ rfl
  rw [show Try.prog.cellsOf 4 = 1 from by kernel_rfl] at g0_0_0
  replace g0_0_0 : DataW.trod enc Try.prog W 0 (fun _ => true) true m0_0 4 [c0_0] = some y0_0_0 := g0_0_0
  have g0_0_1 : DataW.trod enc Try.prog W 0 (fun _ => true) true m0_0 3 (List.take (Try.prog.cellsOf 3) (List.drop 1 [c0_0, c0_1, c0_2])) = some y0_0_1 := hg0_0 1 _ rfl
  rw [show Try.prog.cellsOf 3 = 1 from by kernel_rfl] at g0_0_1
  replace g0_0_1 : DataW.trod enc Try.prog W 0 (fun _ => true) true m0_0 3 [c0_1] = some y0_0_1 := g0_0_1
  have g0_0_2 : DataW.trod enc Try.prog W 0 (fun _ => true) true m0_0 22 (List.take (Try.prog.cellsOf 22) (List.drop 2 [c0_0, c0_1, c0_2])) = some y0_0_2 := hg0_0 2 _ rfl
  rw [show Try.prog.cellsOf 22 = 1 from by kernel_rfl] at g0_0_2
  replace g0_0_2 : DataW.trod enc Try.prog W 0 (fun _ => true) true m0_0 22 [c0_2] = some y0_0_2 := g0_0_2
  clear hg0_0
  obtain ⟨a0_0, e0_0, rfl⟩ := DataW.trod_bool Try.underlying4 g0_0_0
  simp at e0_0
  subst e0_0
  obtain ⟨a0_1, e0_1, rfl, w0_1⟩ := DataW.trod_int Try.underlying3 g0_0_1
  simp at e0_1
  subst e0_1
  obtain ⟨v0_2, L0_2, e0_2, hh0_2, qq0_2, ss0_2⟩ := openTmd g0_0_2
  simp at e0_2
  subst e0_2
  obtain ⟨a0_3, e0_3, rfl⟩ := DataW.trod_bool Try.underlying4 g0_1
  simp at e0_3
  subst e0_3
  obtain ⟨xs0_2, m0_2, -, hx0_2, -, hn0_2, hg0_2⟩ := DataW.trod_struct Try.underlying37 g0_2
  obtain ⟨y0_2_0, y0_2_1, y0_2_2, rfl⟩ := list3 xs0_2 hn0_2
  subst hx0_2
  have g0_2_0 : DataW.trod enc Try.prog W 0 (fun _ => true) true m0_2 3 (List.take (Try.prog.cellsOf 3) (List.drop 0 [c0_4, c0_5, c0_6])) = some y0_2_0 := hg0_2 0 _ rfl
  rw [show Try.prog.cellsOf 3 = 1 from by kernel_rfl] at g0_2_0
  replace g0_2_0 : DataW.trod enc Try.prog W 0 (fun _ => true) true m0_2 3 [c0_4] = some y0_2_0 := g0_2_0
  have g0_2_1 : DataW.trod enc Try.prog W 0 (fun _ => true) true m0_2 25 (List.take (Try.prog.cellsOf 25) (List.drop 1 [c0_4, c0_5, c0_6])) = some y0_2_1 := hg0_2 1 _ rfl
  rw [show Try.prog.cellsOf 25 = 1 from by kernel_rfl] at g0_2_1
  replace g0_2_1 : DataW.trod enc Try.prog W 0 (fun _ => true) true m0_2 25 [c0_5] = some y0_2_1 := g0_2_1
  have g0_2_2 : DataW.trod enc Try.prog W 0 (fun _ => true) true m0_2 35 (List.take (Try.prog.cellsOf 35) (List.drop 2 [c0_4, c0_5, c0_6])) = some y0_2_2 := hg0_2 2 _ rfl
  rw [show Try.prog.cellsOf 35 = 1 from by kernel_rfl] at g0_2_2
  replace g0_2_2 : DataW.trod enc Try.prog W 0 (fun _ => true) true m0_2 35 [c0_6] = some y0_2_2 := g0_2_2
  clear hg0_2
  obtain ⟨a0_4, e0_4, rfl, w0_4⟩ := DataW.trod_int Try.underlying3 g0_2_0
  simp at e0_4
  subst e0_4
  obtain ⟨a0_5, e0_5, rfl, w0_5⟩ := DataW.trod_string Try.underlying25 g0_2_1
  simp at e0_5
  subst e0_5
  obtain ⟨v0_6, L0_6, e0_6, hh0_6, qq0_6, ss0_6⟩ := addrsz_open g0_2_2
  simp at e0_6
  subst e0_6
  obtain ⟨xs0_3, m0_3, -, hx0_3, -, hn0_3, hg0_3⟩ := DataW.trod_struct Try.underlying39 g0_3
  obtain ⟨y0_3_0, y0_3_1, rfl⟩ := list2 xs0_3 hn0_3
  subst hx0_3
  have g0_3_0 : DataW.trod enc Try.prog W 0 (fun _ => true) true m0_3 3 (List.take (Try.prog.cellsOf 3) (List.drop 0 [c0_7, c0_8])) = some y0_3_0 := hg0_3 0 _ rfl
  rw [show Try.prog.cellsOf 3 = 1 from by kernel_rfl] at g0_3_0
  replace g0_3_0 : DataW.trod enc Try.prog W 0 (fun _ => true) true m0_3 3 [c0_7] = some y0_3_0 := g0_3_0
  have g0_3_1 : DataW.trod enc Try.prog W 0 (fun _ => true) true m0_3 3 (List.take (Try.prog.cellsOf 3) (List.drop 1 [c0_7, c0_8])) = some y0_3_1 := hg0_3 1 _ rfl
  rw [show Try.prog.cellsOf 3 = 1 from by kernel_rfl] at g0_3_1
  replace g0_3_1 : DataW.trod enc Try.prog W 0 (fun _ => true) true m0_3 3 [c0_8] = some y0_3_1 := g0_3_1
  clear hg0_3
  obtain ⟨a0_7, e0_7, rfl, w0_7⟩ := DataW.trod_int Try.underlying3 g0_3_0
  simp at e0_7
  subst e0_7
  obtain ⟨a0_8, e0_8, rfl, w0_8⟩ := DataW.trod_int Try.underlying3 g0_3_1
  simp at e0_8
  subst e0_8
  obtain ⟨a1, rfl, rfl, rfl, w1⟩ := open_int Try.underlying3 (hval 1 3 v1 rfl rfl) h1
  have ba0_1 := bounds_i64 w0_1
  have ba0_4 := bounds_i64 w0_4
  have za0_5 : a0_5.size ≤ 140737488351232 := by
    have h := List.all_eq_true.1 hsz _ (DataW.weights_mem_each (j := 0) (t := 41) rfl rfl a0_5.data.toList.length (by simp [DataW.weights, DataW.weightsEach, Try.underlying37, Try.underlying24, Try.underlying39, Try.underlying41]))
    simpa [reachBytes] using of_decide_eq_true h
  have ba0_7 := bounds_i64 w0_7
  have ba0_8 := bounds_i64 w0_8
  have ba1 := bounds_i64 w1
  clear hA0 hval0
  refine (walk a0_0 a0_1 c0_2 L0_2 a0_3 a0_4 a0_5 c0_6 L0_6 a0_7 a0_8 a1 W ba0_1.1 ba0_1.2 hh0_2 qq0_2 ss0_2 ba0_4.1 ba0_4.2 za0_5 hh0_6 qq0_6 ss0_6 ba0_7.1 ba0_7.2 ba0_8.1 ba0_8.2 ba1.1 ba1.2).mono fun e W' ⟨he, bel⟩ => ?_
  subst he
  exact ⟨_, rfl, _, _, _, [], _, [], hW', trodAll_mk1 (shut_bool Try.underlying4 _), (trodAll_cons_mk (Below.trod laidOut (by kernel_rfl) (of_decide_eq_true (by kernel_rfl)) k0 bel lt0) (trodAll_cons_mk (Below.trod laidOut (by kernel_rfl) (of_decide_eq_true (by kernel_rfl)) k1 bel lt1) trodAll_mk0)), rfl, bel.frame _, fun h => by cases h⟩

theorem over : Rows.groupAppliesRow.holds Try.pinned (OpenSpec.ofChange Rows.groupAppliesSpec) :=
  OpenClaim.holds_of_wide 4 Try.f4 rfl rfl rfl rfl rfl rfl rfl ⟨rfl, rfl, rfl, rfl, rfl⟩ rfl rfl rfl rfl rfl (by kernel_rfl) Try.func4 (by kernel_rfl)
    (of_decide_eq_true (by kernel_rfl)) (by unfold Func.isWrapper; first | (rw [if_pos (by decide +kernel)]; kernel_rfl) | (rw [if_neg (by decide +kernel)]; exact ⟨rfl, rfl⟩))
    (fun os started H enc _ => lifted os started H enc)

/-- The statement. -/
theorem proved : Rows.GroupAppliesSaid := over
#print axioms proved
end Go.Proofs.Ytceilgeefegbmaa.groupAppliesLaw
