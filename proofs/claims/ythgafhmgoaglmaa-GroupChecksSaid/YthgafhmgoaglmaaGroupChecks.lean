/-
  'siphonlaw17.GroupChecks' returns true, whatever the input, and each argument reads behind the call as it read before. Conditions: none beyond those that the row itself states.
-/
import Derived.Test.YthgafhmgoaglmaaRows
import Derived.Test.YthgafhmgoaglmaaGrZ
import Derived.Test.YthgafhmgoaglmaaGrBB
import Derived.Test.YthgafhmgoaglmaaRowTmd
import Derived.WalkKit
import Derived.ProofKit
import Derived.OpenShut
import Derived.ShutString
import Derived.ChangeOld
import Derived.Below
import Derived.Carry
import Derived.SizedLaws
import Derived.Lib.SmallJoins
import Derived.ChangeArms
import Derived.WideShapes
namespace Go.Proofs.Ythgafhmgoaglmaa.groupChecksLaw
open Go.ChangeShapes Go.WideShapes Go.ChangeAt Go.RowKit Go.Joins
open Go.ChangeMaps (open_string shut_string)
set_option linter.unusedVariables false

theorem list3 {α : Type} (l : List α) (h : l.length = 3) : ∃ x0 x1 x2 : α, l = [x0, x1, x2] := by
  match l, h with
  | [x0, x1, x2], _ => exact ⟨x0, x1, x2, rfl⟩

set_option maxHeartbeats 8000000 in
set_option maxRecDepth 100000 in
theorem walk (a0_0 : Bool) (a0_1 : Int) (a0_2 : Value) (la0_2 : List Tmd) (a1 : Int) (a2 : ByteArray) (w : World) (la0_1 : -9223372036854775808 ≤ a0_1) (ua0_1 : a0_1 ≤ 9223372036854775807) (ha0_2 : RowsAt 2 cellsTmd w a0_2 la0_2) (qa0_2 : la0_2.length ≤ maxLen) (sa0_2 : ∀ r ∈ la0_2, GoodTmd r) (la1 : -9223372036854775808 ≤ a1) (ua1 : a1 ≤ 9223372036854775807) (za2 : a2.size ≤ 140737488351232) :
    Calls Try.prog 3 #[.agg #[.bool a0_0, .int .i64 a0_1, a0_2], .int .i64 a1, .string a2] w fun e w' => e = .returned (.bool true) ∧ Below w.heap.size w w' := by
  have HR := Lib.hid (show RowsAt 2 cellsTm w a0_2 la0_2 from ha0_2)
  obtain ⟨p, cap, rfl⟩ := ha0_2.slice
  obtain ⟨n, hn⟩ : ∃ n, n = la0_2.length := ⟨_, rfl⟩
  have HNN := Lib.hid hn
  rw [← hn] at HR qa0_2 ⊢
  have HL := Lib.hid fun U => live17_c U
  have HB := Lib.hid ((Below.refl w.heap.size w).alloc (Nat.le_refl _) (.cells #[.bool a0_0, .int .i64 a0_1, .slice p n cap] 24))
  have HEs := Lib.hid (heap_new w (.cells #[.bool a0_0, .int .i64 a0_1, .slice p n cap] 24))
  replace HR := Lib.hid (HR.out.below HB.out)
  have hnb : n ≤ 9223372036854775807 := qa0_2
  clear ha0_2 sa0_2 qa0_2 hn
  go_enter Try.func3, Try.ntmps3
  go_upto_region 1 with fail
  generalize w.alloc (.cells #[.bool a0_0, .int .i64 a0_1, .slice p n cap] 24) = W at HB HEs HR ⊢
  have s0 : W.cell? ⟨w.heap.size, 0, none⟩ = some (.bool a0_0) := cell_of_block HEs.out rfl
  have s1 : W.cell? ⟨w.heap.size, 1, none⟩ = some (.int .i64 a0_1) := cell_of_block HEs.out rfl
  have s2 : W.cell? ⟨w.heap.size, 2, none⟩ = some (.slice p n cap) := cell_of_block HEs.out rfl
  by_cases c1 : 100 < n
  · have d1 : decide (100 < (n : Int)) = true := decide_eq_true (by omega)
    clear c1
    go_wp2_with fail
    ((with_reducible refine (HL.out _).mono ?_); rintro e w2 ⟨rfl, hz⟩)
    go_wp2_with fail
    go_ret
    exact ⟨rfl, gk_call HB.out hz⟩
  · have d1 : decide (100 < (n : Int)) = false := decide_eq_false (by omega)
    have hl0 : la0_2.length ≤ 100 := by rw [← HNN.out]; omega
    have hl1 : la0_2.length ≤ 1000000 := by omega
    have hlX : la0_2.length ≤ 9223372036854775807 := by omega
    have hlf : (expS ⟨a0_0, a0_1, la0_2⟩ a1).1.src.length ≤ 9223372036854775807 := Nat.le_trans (exp_len ⟨a0_0, a0_1, la0_2⟩ a1) hlX
    have CP := Lib.hid (copied17_c a0_0 a0_1 (.slice p n cap) la0_2 W hl0 HR.out)
    have CK := Lib.hid (fun U v hr => gchk_c a0_0 a0_1 v la0_2 U hl1 hr)
    have RK := Lib.hid (fun U v hr => rchk17_c a0_0 a0_1 v la0_2 U hl1 hr)
    have XP := Lib.hid (fun U v hr => gexp_c a0_0 a0_1 v la0_2 a1 U hl1 hr)
    have RX := Lib.hid (fun U v hr => rexp17_c a0_0 a0_1 v la0_2 a1 U hl1 hr)
    have AD := Lib.hid (fun U v hr => gadm_c a0_0 a0_1 v la0_2 a2 a1 U hl1 hr)
    have RA := Lib.hid (fun U v hr => radm17_c a0_0 a0_1 v la0_2 a2 a1 U hl1 hr)
    have SM := Lib.hid (fun U v1 v2 h1 h2 => rsame17_c a0_0 a0_1 v1 v2 la0_2 U hlX h1 h2)
    have SX := Lib.hid (fun U v1 v2 h1 h2 => rsame17_c (expS ⟨a0_0, a0_1, la0_2⟩ a1).1.ex (expS ⟨a0_0, a0_1, la0_2⟩ a1).1.tm v1 v2 (expS ⟨a0_0, a0_1, la0_2⟩ a1).1.src U hlf h1 h2)
    generalize chkS ⟨a0_0, a0_1, la0_2⟩ = cv at CK RK
    generalize admS ⟨a0_0, a0_1, la0_2⟩ a2 a1 = av at AD RA
    clear hlf
    generalize expS ⟨a0_0, a0_1, la0_2⟩ a1 = X at XP RX SX
    obtain ⟨⟨fe, ft, fl⟩, is⟩ := X
    unfold StPost at XP RX
    dsimp only at XP RX SX
    clear c1 hl0 hl1 hlX
    go_wp2_with fail
    ((with_reducible refine CP.out.mono ?_); rintro e w2 ⟨vo, rfl, r2, k2⟩)
    have r2' := r2
    obtain ⟨po, co, rfl⟩ := r2'.slice
    rw [← HNN.out] at r2 ⊢
    have HQ := Lib.hid r2
    clear r2 CP
    clear s0 s1 s2
    replace HB := Lib.hid (gk_call HB.out k2)
    replace HEs := Lib.hid (below_block k2 (lt_of_block HEs.out) HEs.out)
    replace HR := Lib.hid (HR.out.below k2)
    clear k2
    go_upto_region 4 with fail
    have HEo := Lib.hid (heap_new w2 (.cells #[.bool a0_0, .int .i64 a0_1, .slice po n co] 24))
    replace HEs := Lib.hid (show (w2.alloc (.cells #[.bool a0_0, .int .i64 a0_1, .slice po n co] 24)).heap[w.heap.size]? = _ from heap_old HEs.out)
    have kk := (Below.refl w2.heap.size w2).alloc (Nat.le_refl _) (.cells #[.bool a0_0, .int .i64 a0_1, .slice po n co] 24)
    replace HB := Lib.hid (gk_call HB.out kk)
    replace HR := Lib.hid (HR.out.below kk)
    replace HQ := Lib.hid (HQ.out.below kk)
    clear kk
    generalize w2.alloc (.cells #[.bool a0_0, .int .i64 a0_1, .slice po n co] 24) = W3 at HB HEs HEo HR HQ ⊢
    generalize w2.heap.size = ob at HEo ⊢
    have s0 : W3.cell? ⟨w.heap.size, 0, none⟩ = some (.bool a0_0) := cell_of_block HEs.out rfl
    have s1 : W3.cell? ⟨w.heap.size, 1, none⟩ = some (.int .i64 a0_1) := cell_of_block HEs.out rfl
    have s2 : W3.cell? ⟨w.heap.size, 2, none⟩ = some (.slice p n cap) := cell_of_block HEs.out rfl
    have o0 : W3.cell? ⟨ob, 0, none⟩ = some (.bool a0_0) := cell_of_block HEo.out rfl
    have o1 : W3.cell? ⟨ob, 1, none⟩ = some (.int .i64 a0_1) := cell_of_block HEo.out rfl
    have o2 : W3.cell? ⟨ob, 2, none⟩ = some (.slice po n co) := cell_of_block HEo.out rfl
    go_wp2_with fail
    ((with_reducible refine (CK.out _ _ HQ.out).mono ?_); rintro e w4 ⟨rfl, k4⟩)
    clear s0 s1 s2 o0 o1 o2
    replace HB := Lib.hid (gk_call HB.out k4)
    replace HEs := Lib.hid (below_block k4 (lt_of_block HEs.out) HEs.out)
    replace HEo := Lib.hid (below_block k4 (lt_of_block HEo.out) HEo.out)
    replace HR := Lib.hid (HR.out.below k4)
    replace HQ := Lib.hid (HQ.out.below k4)
    clear k4
    have s0 : w4.cell? ⟨w.heap.size, 0, none⟩ = some (.bool a0_0) := cell_of_block HEs.out rfl
    have s1 : w4.cell? ⟨w.heap.size, 1, none⟩ = some (.int .i64 a0_1) := cell_of_block HEs.out rfl
    have s2 : w4.cell? ⟨w.heap.size, 2, none⟩ = some (.slice p n cap) := cell_of_block HEs.out rfl
    have o0 : w4.cell? ⟨ob, 0, none⟩ = some (.bool a0_0) := cell_of_block HEo.out rfl
    have o1 : w4.cell? ⟨ob, 1, none⟩ = some (.int .i64 a0_1) := cell_of_block HEo.out rfl
    have o2 : w4.cell? ⟨ob, 2, none⟩ = some (.slice po n co) := cell_of_block HEo.out rfl
    go_wp2_with fail
    ((with_reducible refine (XP.out _ _ HQ.out).mono ?_); rintro e w5 ⟨v5, rfl, r5, k5⟩)
    have r5' := r5
    obtain ⟨q5, c5, rfl⟩ := r5'.slice
    obtain ⟨fn, hfn⟩ : ∃ fn, fn = fl.length := ⟨_, rfl⟩
    have HFN := Lib.hid hfn
    rw [← hfn] at r5 ⊢
    clear hfn
    have HX := Lib.hid r5
    clear r5 XP CK
    clear s0 s1 s2 o0 o1 o2
    replace HB := Lib.hid (gk_call HB.out k5)
    replace HEs := Lib.hid (below_block k5 (lt_of_block HEs.out) HEs.out)
    replace HEo := Lib.hid (below_block k5 (lt_of_block HEo.out) HEo.out)
    replace HR := Lib.hid (HR.out.below k5)
    replace HQ := Lib.hid (HQ.out.below k5)
    clear k5
    go_upto_region 6 with fail
    have HEu := Lib.hid (heap_new w5 (.cells #[.bool fe, .int .i64 ft, .slice q5 fn c5] 24))
    replace HEs := Lib.hid (show (w5.alloc (.cells #[.bool fe, .int .i64 ft, .slice q5 fn c5] 24)).heap[w.heap.size]? = _ from heap_old HEs.out)
    replace HEo := Lib.hid (show (w5.alloc (.cells #[.bool fe, .int .i64 ft, .slice q5 fn c5] 24)).heap[ob]? = _ from heap_old HEo.out)
    have kk := (Below.refl w5.heap.size w5).alloc (Nat.le_refl _) (.cells #[.bool fe, .int .i64 ft, .slice q5 fn c5] 24)
    replace HB := Lib.hid (gk_call HB.out kk)
    replace HR := Lib.hid (HR.out.below kk)
    replace HQ := Lib.hid (HQ.out.below kk)
    replace HX := Lib.hid (HX.out.below kk)
    clear kk
    generalize w5.alloc (.cells #[.bool fe, .int .i64 ft, .slice q5 fn c5] 24) = W6 at HB HEs HEo HEu HR HQ HX ⊢
    generalize w5.heap.size = xb at HEu ⊢
    have s0 : W6.cell? ⟨w.heap.size, 0, none⟩ = some (.bool a0_0) := cell_of_block HEs.out rfl
    have s1 : W6.cell? ⟨w.heap.size, 1, none⟩ = some (.int .i64 a0_1) := cell_of_block HEs.out rfl
    have s2 : W6.cell? ⟨w.heap.size, 2, none⟩ = some (.slice p n cap) := cell_of_block HEs.out rfl
    have o0 : W6.cell? ⟨ob, 0, none⟩ = some (.bool a0_0) := cell_of_block HEo.out rfl
    have o1 : W6.cell? ⟨ob, 1, none⟩ = some (.int .i64 a0_1) := cell_of_block HEo.out rfl
    have o2 : W6.cell? ⟨ob, 2, none⟩ = some (.slice po n co) := cell_of_block HEo.out rfl
    have u0 : W6.cell? ⟨xb, 0, none⟩ = some (.bool fe) := cell_of_block HEu.out rfl
    have u1 : W6.cell? ⟨xb, 1, none⟩ = some (.int .i64 ft) := cell_of_block HEu.out rfl
    have u2 : W6.cell? ⟨xb, 2, none⟩ = some (.slice q5 fn c5) := cell_of_block HEu.out rfl
    go_wp2_with fail
    ((with_reducible refine (AD.out _ _ HQ.out).mono ?_); rintro e w7 ⟨rfl, k7⟩)
    clear AD
    clear s0 s1 s2 o0 o1 o2 u0 u1 u2
    replace HB := Lib.hid (gk_call HB.out k7)
    replace HEs := Lib.hid (below_block k7 (lt_of_block HEs.out) HEs.out)
    replace HEo := Lib.hid (below_block k7 (lt_of_block HEo.out) HEo.out)
    replace HEu := Lib.hid (below_block k7 (lt_of_block HEu.out) HEu.out)
    replace HR := Lib.hid (HR.out.below k7)
    replace HQ := Lib.hid (HQ.out.below k7)
    replace HX := Lib.hid (HX.out.below k7)
    clear k7
    have s0 : w7.cell? ⟨w.heap.size, 0, none⟩ = some (.bool a0_0) := cell_of_block HEs.out rfl
    have s1 : w7.cell? ⟨w.heap.size, 1, none⟩ = some (.int .i64 a0_1) := cell_of_block HEs.out rfl
    have s2 : w7.cell? ⟨w.heap.size, 2, none⟩ = some (.slice p n cap) := cell_of_block HEs.out rfl
    have o0 : w7.cell? ⟨ob, 0, none⟩ = some (.bool a0_0) := cell_of_block HEo.out rfl
    have o1 : w7.cell? ⟨ob, 1, none⟩ = some (.int .i64 a0_1) := cell_of_block HEo.out rfl
    have o2 : w7.cell? ⟨ob, 2, none⟩ = some (.slice po n co) := cell_of_block HEo.out rfl
    have u0 : w7.cell? ⟨xb, 0, none⟩ = some (.bool fe) := cell_of_block HEu.out rfl
    have u1 : w7.cell? ⟨xb, 1, none⟩ = some (.int .i64 ft) := cell_of_block HEu.out rfl
    have u2 : w7.cell? ⟨xb, 2, none⟩ = some (.slice q5 fn c5) := cell_of_block HEu.out rfl
    go_wp2_with fail
    ((with_reducible refine (RX.out _ _ HR.out).mono ?_); rintro e w8 ⟨v8, rfl, r8, k8⟩)
    have r8' := r8
    obtain ⟨q8, c8, rfl⟩ := r8'.slice
    rw [← HFN.out] at r8 ⊢
    have HY := Lib.hid r8
    clear r8 RX
    clear s0 s1 s2 o0 o1 o2 u0 u1 u2
    replace HB := Lib.hid (gk_call HB.out k8)
    replace HEs := Lib.hid (below_block k8 (lt_of_block HEs.out) HEs.out)
    replace HEo := Lib.hid (below_block k8 (lt_of_block HEo.out) HEo.out)
    replace HEu := Lib.hid (below_block k8 (lt_of_block HEu.out) HEu.out)
    replace HR := Lib.hid (HR.out.below k8)
    replace HQ := Lib.hid (HQ.out.below k8)
    replace HX := Lib.hid (HX.out.below k8)
    clear k8
    go_upto_region 8 with fail
    have HEv := Lib.hid (heap_new w8 (.cells #[.bool fe, .int .i64 ft, .slice q8 fn c8] 24))
    replace HEs := Lib.hid (show (w8.alloc (.cells #[.bool fe, .int .i64 ft, .slice q8 fn c8] 24)).heap[w.heap.size]? = _ from heap_old HEs.out)
    replace HEo := Lib.hid (show (w8.alloc (.cells #[.bool fe, .int .i64 ft, .slice q8 fn c8] 24)).heap[ob]? = _ from heap_old HEo.out)
    replace HEu := Lib.hid (show (w8.alloc (.cells #[.bool fe, .int .i64 ft, .slice q8 fn c8] 24)).heap[xb]? = _ from heap_old HEu.out)
    have kk := (Below.refl w8.heap.size w8).alloc (Nat.le_refl _) (.cells #[.bool fe, .int .i64 ft, .slice q8 fn c8] 24)
    replace HB := Lib.hid (gk_call HB.out kk)
    replace HR := Lib.hid (HR.out.below kk)
    replace HQ := Lib.hid (HQ.out.below kk)
    replace HX := Lib.hid (HX.out.below kk)
    replace HY := Lib.hid (HY.out.below kk)
    clear kk
    generalize w8.alloc (.cells #[.bool fe, .int .i64 ft, .slice q8 fn c8] 24) = W9 at HB HEs HEo HEu HEv HR HQ HX HY ⊢
    generalize w8.heap.size = yb at HEv ⊢
    have s0 : W9.cell? ⟨w.heap.size, 0, none⟩ = some (.bool a0_0) := cell_of_block HEs.out rfl
    have s1 : W9.cell? ⟨w.heap.size, 1, none⟩ = some (.int .i64 a0_1) := cell_of_block HEs.out rfl
    have s2 : W9.cell? ⟨w.heap.size, 2, none⟩ = some (.slice p n cap) := cell_of_block HEs.out rfl
    have o0 : W9.cell? ⟨ob, 0, none⟩ = some (.bool a0_0) := cell_of_block HEo.out rfl
    have o1 : W9.cell? ⟨ob, 1, none⟩ = some (.int .i64 a0_1) := cell_of_block HEo.out rfl
    have o2 : W9.cell? ⟨ob, 2, none⟩ = some (.slice po n co) := cell_of_block HEo.out rfl
    have u0 : W9.cell? ⟨xb, 0, none⟩ = some (.bool fe) := cell_of_block HEu.out rfl
    have u1 : W9.cell? ⟨xb, 1, none⟩ = some (.int .i64 ft) := cell_of_block HEu.out rfl
    have u2 : W9.cell? ⟨xb, 2, none⟩ = some (.slice q5 fn c5) := cell_of_block HEu.out rfl
    have v0 : W9.cell? ⟨yb, 0, none⟩ = some (.bool fe) := cell_of_block HEv.out rfl
    have v1 : W9.cell? ⟨yb, 1, none⟩ = some (.int .i64 ft) := cell_of_block HEv.out rfl
    have v2 : W9.cell? ⟨yb, 2, none⟩ = some (.slice q8 fn c8) := cell_of_block HEv.out rfl
    go_wp2_with fail
    ((with_reducible refine (SM.out _ _ _ HQ.out HR.out).mono ?_); rintro e w10 ⟨rfl, k10⟩)
    clear SM
    clear s0 s1 s2 o0 o1 o2 u0 u1 u2 v0 v1 v2
    replace HB := Lib.hid (gk_call HB.out k10)
    replace HEs := Lib.hid (below_block k10 (lt_of_block HEs.out) HEs.out)
    replace HEo := Lib.hid (below_block k10 (lt_of_block HEo.out) HEo.out)
    replace HEu := Lib.hid (below_block k10 (lt_of_block HEu.out) HEu.out)
    replace HEv := Lib.hid (below_block k10 (lt_of_block HEv.out) HEv.out)
    replace HR := Lib.hid (HR.out.below k10)
    replace HQ := Lib.hid (HQ.out.below k10)
    replace HX := Lib.hid (HX.out.below k10)
    replace HY := Lib.hid (HY.out.below k10)
    clear k10
    have s0 : w10.cell? ⟨w.heap.size, 0, none⟩ = some (.bool a0_0) := cell_of_block HEs.out rfl
    have s1 : w10.cell? ⟨w.heap.size, 1, none⟩ = some (.int .i64 a0_1) := cell_of_block HEs.out rfl
    have s2 : w10.cell? ⟨w.heap.size, 2, none⟩ = some (.slice p n cap) := cell_of_block HEs.out rfl
    have o0 : w10.cell? ⟨ob, 0, none⟩ = some (.bool a0_0) := cell_of_block HEo.out rfl
    have o1 : w10.cell? ⟨ob, 1, none⟩ = some (.int .i64 a0_1) := cell_of_block HEo.out rfl
    have o2 : w10.cell? ⟨ob, 2, none⟩ = some (.slice po n co) := cell_of_block HEo.out rfl
    have u0 : w10.cell? ⟨xb, 0, none⟩ = some (.bool fe) := cell_of_block HEu.out rfl
    have u1 : w10.cell? ⟨xb, 1, none⟩ = some (.int .i64 ft) := cell_of_block HEu.out rfl
    have u2 : w10.cell? ⟨xb, 2, none⟩ = some (.slice q5 fn c5) := cell_of_block HEu.out rfl
    have v0 : w10.cell? ⟨yb, 0, none⟩ = some (.bool fe) := cell_of_block HEv.out rfl
    have v1 : w10.cell? ⟨yb, 1, none⟩ = some (.int .i64 ft) := cell_of_block HEv.out rfl
    have v2 : w10.cell? ⟨yb, 2, none⟩ = some (.slice q8 fn c8) := cell_of_block HEv.out rfl
    obtain ⟨e5, e6⟩ := eq_t (rfl : cv = cv)
    go_wp2_with fail
    ((with_reducible refine (RK.out _ _ HR.out).mono ?_); rintro e w11 ⟨rfl, k11⟩)
    clear RK
    clear s0 s1 s2 o0 o1 o2 u0 u1 u2 v0 v1 v2
    replace HB := Lib.hid (gk_call HB.out k11)
    replace HEs := Lib.hid (below_block k11 (lt_of_block HEs.out) HEs.out)
    replace HEo := Lib.hid (below_block k11 (lt_of_block HEo.out) HEo.out)
    replace HEu := Lib.hid (below_block k11 (lt_of_block HEu.out) HEu.out)
    replace HEv := Lib.hid (below_block k11 (lt_of_block HEv.out) HEv.out)
    replace HR := Lib.hid (HR.out.below k11)
    replace HQ := Lib.hid (HQ.out.below k11)
    replace HX := Lib.hid (HX.out.below k11)
    replace HY := Lib.hid (HY.out.below k11)
    clear k11
    have s0 : w11.cell? ⟨w.heap.size, 0, none⟩ = some (.bool a0_0) := cell_of_block HEs.out rfl
    have s1 : w11.cell? ⟨w.heap.size, 1, none⟩ = some (.int .i64 a0_1) := cell_of_block HEs.out rfl
    have s2 : w11.cell? ⟨w.heap.size, 2, none⟩ = some (.slice p n cap) := cell_of_block HEs.out rfl
    have o0 : w11.cell? ⟨ob, 0, none⟩ = some (.bool a0_0) := cell_of_block HEo.out rfl
    have o1 : w11.cell? ⟨ob, 1, none⟩ = some (.int .i64 a0_1) := cell_of_block HEo.out rfl
    have o2 : w11.cell? ⟨ob, 2, none⟩ = some (.slice po n co) := cell_of_block HEo.out rfl
    have u0 : w11.cell? ⟨xb, 0, none⟩ = some (.bool fe) := cell_of_block HEu.out rfl
    have u1 : w11.cell? ⟨xb, 1, none⟩ = some (.int .i64 ft) := cell_of_block HEu.out rfl
    have u2 : w11.cell? ⟨xb, 2, none⟩ = some (.slice q5 fn c5) := cell_of_block HEu.out rfl
    have v0 : w11.cell? ⟨yb, 0, none⟩ = some (.bool fe) := cell_of_block HEv.out rfl
    have v1 : w11.cell? ⟨yb, 1, none⟩ = some (.int .i64 ft) := cell_of_block HEv.out rfl
    have v2 : w11.cell? ⟨yb, 2, none⟩ = some (.slice q8 fn c8) := cell_of_block HEv.out rfl
    go_wp2_with fail
    ((with_reducible refine (SX.out _ _ _ HX.out HY.out).mono ?_); rintro e w12 ⟨rfl, k12⟩)
    clear SX
    clear s0 s1 s2 o0 o1 o2 u0 u1 u2 v0 v1 v2
    replace HB := Lib.hid (gk_call HB.out k12)
    replace HEs := Lib.hid (below_block k12 (lt_of_block HEs.out) HEs.out)
    replace HEo := Lib.hid (below_block k12 (lt_of_block HEo.out) HEo.out)
    replace HEu := Lib.hid (below_block k12 (lt_of_block HEu.out) HEu.out)
    replace HEv := Lib.hid (below_block k12 (lt_of_block HEv.out) HEv.out)
    replace HR := Lib.hid (HR.out.below k12)
    replace HQ := Lib.hid (HQ.out.below k12)
    replace HX := Lib.hid (HX.out.below k12)
    replace HY := Lib.hid (HY.out.below k12)
    clear k12
    have s0 : w12.cell? ⟨w.heap.size, 0, none⟩ = some (.bool a0_0) := cell_of_block HEs.out rfl
    have s1 : w12.cell? ⟨w.heap.size, 1, none⟩ = some (.int .i64 a0_1) := cell_of_block HEs.out rfl
    have s2 : w12.cell? ⟨w.heap.size, 2, none⟩ = some (.slice p n cap) := cell_of_block HEs.out rfl
    have o0 : w12.cell? ⟨ob, 0, none⟩ = some (.bool a0_0) := cell_of_block HEo.out rfl
    have o1 : w12.cell? ⟨ob, 1, none⟩ = some (.int .i64 a0_1) := cell_of_block HEo.out rfl
    have o2 : w12.cell? ⟨ob, 2, none⟩ = some (.slice po n co) := cell_of_block HEo.out rfl
    have u0 : w12.cell? ⟨xb, 0, none⟩ = some (.bool fe) := cell_of_block HEu.out rfl
    have u1 : w12.cell? ⟨xb, 1, none⟩ = some (.int .i64 ft) := cell_of_block HEu.out rfl
    have u2 : w12.cell? ⟨xb, 2, none⟩ = some (.slice q5 fn c5) := cell_of_block HEu.out rfl
    have v0 : w12.cell? ⟨yb, 0, none⟩ = some (.bool fe) := cell_of_block HEv.out rfl
    have v1 : w12.cell? ⟨yb, 1, none⟩ = some (.int .i64 ft) := cell_of_block HEv.out rfl
    have v2 : w12.cell? ⟨yb, 2, none⟩ = some (.slice q8 fn c8) := cell_of_block HEv.out rfl
    go_wp2_with fail
    ((with_reducible refine (RA.out _ _ HR.out).mono ?_); rintro e w13 ⟨rfl, k13⟩)
    clear RA
    clear s0 s1 s2 o0 o1 o2 u0 u1 u2 v0 v1 v2
    replace HB := Lib.hid (gk_call HB.out k13)
    replace HEs := Lib.hid (below_block k13 (lt_of_block HEs.out) HEs.out)
    replace HEo := Lib.hid (below_block k13 (lt_of_block HEo.out) HEo.out)
    replace HEu := Lib.hid (below_block k13 (lt_of_block HEu.out) HEu.out)
    replace HEv := Lib.hid (below_block k13 (lt_of_block HEv.out) HEv.out)
    replace HR := Lib.hid (HR.out.below k13)
    replace HQ := Lib.hid (HQ.out.below k13)
    replace HX := Lib.hid (HX.out.below k13)
    replace HY := Lib.hid (HY.out.below k13)
    clear k13
    go_wp2_with fail
    ((with_reducible refine (HL.out _).mono ?_); rintro e w14 ⟨rfl, hz⟩)
    go_wp2_with fail
    go_ret
    exact ⟨rfl, gk_call HB.out hz⟩

theorem own : ownKnob Try.prog.godebug = none := by kernel_rfl
theorem laidOut : laidOutB Try.prog = true := by kernel_rfl

set_option maxHeartbeats 1000000 in
set_option maxRecDepth 100000 in
theorem lifted (os : Os) (started : os.Started) (H : Type) (enc : TypeId × Value → H) :
    ReturnsInHanded {} Try.checked os 3 .any (Rows.groupChecksSpec.pre6 enc Try.prog Try.f3 Rows.groupChecksRow.domain false) (Rows.groupChecksSpec.post enc Try.prog Try.f3 false true false false) := by
  refine returnsInHanded_of_change_sized (C := Try.checked) own started (by kernel_rfl) Try.func3
    (ChangeSpec.witness6 (enc := enc) (C := Try.checked) false ⟨#[], #[.agg #[.bool false, .int .i64 0, .slice none 0 0], .int .i64 0, .string ByteArray.empty], []⟩ 8 (by kernel_rfl) (by kernel_rfl) (by kernel_rfl) (by kernel_rfl)) ?_
  intro W base args ds gs before hval0 hW hcnd hsz0 hholds
  have hval : ∀ (j : Nat) t v, Try.f3.params[j]? = some t → args[j]? = some v → Value.okWide Try.prog W .any base t v := hval0
  have hsz : (DataW.weightsEach Try.prog (Try.f3.params.toList ++ Rows.groupChecksSpec.plain.varTypes Try.prog) (ds ++ gs)).all (· ≤ reachBytes) = true := hsz0
  have hW' := hW
  obtain ⟨p, q, hA0, hV, rfl, hfz, hnd⟩ := hW
  have hA : DataW.TrodAll enc Try.prog W 0 (fun _ => true) true Try.f3.params.toList args.toList ds p := hA0
  rw [Try.params3] at hA hval hsz
  obtain ⟨v0, vs0, d0, ds0, p0, q0, hargs, rfl, rfl, h0, r0⟩ := trodAll_cons hA
  obtain ⟨v1, vs1, d1, ds1, p1, q1, rfl, rfl, rfl, h1, r1⟩ := trodAll_cons r0
  obtain ⟨v2, vs2, d2, ds2, p2, q2, rfl, rfl, rfl, h2, r2⟩ := trodAll_cons r1
  obtain ⟨rfl, rfl, rfl⟩ := trodAll_nil r2
  obtain rfl : args = #[v0, v1, v2] := by cases args; simp_all
  obtain ⟨rfl, rfl⟩ := trodVars_none hV
  have k0 := h0
  have lt0 : ∀ x ∈ p0, x.block < W.heap.size := by obtain ⟨m, hm⟩ := k0; exact DataW.trod_lt m _ _ _ hm
  have k1 := h1
  have lt1 : ∀ x ∈ p1, x.block < W.heap.size := by obtain ⟨m, hm⟩ := k1; exact DataW.trod_lt m _ _ _ hm
  have k2 := h2
  have lt2 : ∀ x ∈ p2, x.block < W.heap.size := by obtain ⟨m, hm⟩ := k2; exact DataW.trod_lt m _ _ _ hm
  obtain ⟨cs0, rfl, hz0⟩ := okWide_struct Try.underlying24 (hval 0 24 v0 rfl rfl)
  obtain ⟨l0⟩ := cs0
  obtain ⟨c0_0, c0_1, c0_2, rfl⟩ := list3 l0 (hz0.trans (by kernel_rfl))
  obtain ⟨fu0, hf0⟩ := h0
  obtain ⟨xs0, m0, -, hx0, -, hn0, hg0⟩ := DataW.trod_struct Try.underlying24 hf0
  obtain ⟨y0_0, y0_1, y0_2, rfl⟩ := list3 xs0 hn0
  simp only [Prod.mk.injEq] at hx0
  obtain ⟨rfl, rfl⟩ := hx0
  have g0_0 : DataW.trod enc Try.prog W 0 (fun _ => true) true m0 4 (List.take (Try.prog.cellsOf 4) (List.drop 0 [c0_0, c0_1, c0_2])) = some y0_0 := hg0 0 _ rfl
  rw [show Try.prog.cellsOf 4 = 1 from by kernel_rfl] at g0_0
  replace g0_0 : DataW.trod enc Try.prog W 0 (fun _ => true) true m0 4 [c0_0] = some y0_0 := g0_0
  have g0_1 : DataW.trod enc Try.prog W 0 (fun _ => true) true m0 3 (List.take (Try.prog.cellsOf 3) (List.drop 1 [c0_0, c0_1, c0_2])) = some y0_1 := hg0 1 _ rfl
  rw [show Try.prog.cellsOf 3 = 1 from by kernel_rfl] at g0_1
  replace g0_1 : DataW.trod enc Try.prog W 0 (fun _ => true) true m0 3 [c0_1] = some y0_1 := g0_1
  have g0_2 : DataW.trod enc Try.prog W 0 (fun _ => true) true m0 22 (List.take (Try.prog.cellsOf 22) (List.drop 2 [c0_0, c0_1, c0_2])) = some y0_2 := hg0 2 _ rfl
  rw [show Try.prog.cellsOf 22 = 1 from by kernel_rfl] at g0_2
  replace g0_2 : DataW.trod enc Try.prog W 0 (fun _ => true) true m0 22 [c0_2] = some y0_2 := g0_2
  clear hg0
  obtain ⟨a0_0, e0_0, rfl⟩ := DataW.trod_bool Try.underlying4 g0_0
  simp at e0_0
  subst e0_0
  obtain ⟨a0_1, e0_1, rfl, w0_1⟩ := DataW.trod_int Try.underlying3 g0_1
  simp at e0_1
  subst e0_1
  obtain ⟨v0_2, L0_2, e0_2, hh0_2, qq0_2, ss0_2⟩ := openTmd g0_2
  simp at e0_2
  subst e0_2
  obtain ⟨a1, rfl, rfl, rfl, w1⟩ := open_int Try.underlying3 (hval 1 3 v1 rfl rfl) h1
  obtain ⟨a2, rfl, rfl, rfl, w2⟩ := open_string Try.underlying25 (hval 2 25 v2 rfl rfl) h2
  have ba0_1 := bounds_i64 w0_1
  have ba1 := bounds_i64 w1
  have za2 : a2.size ≤ 140737488351232 := by
    have h := sized_string hsz (j := 2) (t := 25) rfl rfl
    simpa [reachBytes] using h
  clear hA0 hval0
  refine (walk a0_0 a0_1 c0_2 L0_2 a1 a2 W ba0_1.1 ba0_1.2 hh0_2 qq0_2 ss0_2 ba1.1 ba1.2 za2).mono fun e W' ⟨he, bel⟩ => ?_
  subst he
  exact ⟨_, rfl, _, _, _, [], _, [], hW', trodAll_mk1 (shut_bool Try.underlying4 _), (trodAll_cons_mk (Below.trod laidOut (by kernel_rfl) (of_decide_eq_true (by kernel_rfl)) k0 bel lt0) (trodAll_cons_mk (Below.trod laidOut (by kernel_rfl) (of_decide_eq_true (by kernel_rfl)) k1 bel lt1) (trodAll_cons_mk (Below.trod laidOut (by kernel_rfl) (of_decide_eq_true (by kernel_rfl)) k2 bel lt2) trodAll_mk0))), rfl, bel.frame _, fun h => by cases h⟩

theorem over : Rows.groupChecksRow.holds Try.pinned (OpenSpec.ofChange Rows.groupChecksSpec) :=
  OpenClaim.holds_of_wide 3 Try.f3 rfl rfl rfl rfl rfl rfl rfl ⟨rfl, rfl, rfl, rfl, rfl⟩ rfl rfl rfl rfl rfl (by kernel_rfl) Try.func3 (by kernel_rfl)
    (of_decide_eq_true (by kernel_rfl)) (by unfold Func.isWrapper; first | (rw [if_pos (by decide +kernel)]; kernel_rfl) | (rw [if_neg (by decide +kernel)]; exact ⟨rfl, rfl⟩))
    (fun os started H enc _ => lifted os started H enc)

/-- The statement. -/
theorem proved : Rows.GroupChecksSaid := over
#print axioms proved
end Go.Proofs.Ythgafhmgoaglmaa.groupChecksLaw
