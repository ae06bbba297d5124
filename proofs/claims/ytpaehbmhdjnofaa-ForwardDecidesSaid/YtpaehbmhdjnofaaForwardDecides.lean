/-
  'siphonlaw22.ForwardDecides' returns true, whatever the input, and each argument reads behind the call as it read before. Conditions: none beyond those that the row itself states.
-/
import Derived.Test.YtpaehbmhdjnofaaRows
import Derived.Test.YtpaehbmhdjnofaaFwN
import Derived.WalkKit
import Derived.ProofKit
import Derived.OpenShut
import Derived.ShutString
import Derived.ChangeOld
import Derived.Below
import Derived.Carry
import Derived.SizedLaws
import Derived.Lib.SmallJoins
import Derived.ChangeArms
import Derived.WideShapes
namespace Go.Proofs.Ytpaehbmhdjnofaa.forwardDecidesLaw
open Go.ChangeShapes Go.WideShapes Go.ChangeAt Go.RowKit Go.Joins
open Go.ChangeMaps (open_string shut_string)
set_option linter.unusedVariables false

theorem list10 {α : Type} (l : List α) (h : l.length = 10) : ∃ x0 x1 x2 x3 x4 x5 x6 x7 x8 x9 : α, l = [x0, x1, x2, x3, x4, x5, x6, x7, x8, x9] := by
  match l, h with
  | [x0, x1, x2, x3, x4, x5, x6, x7, x8, x9], _ => exact ⟨x0, x1, x2, x3, x4, x5, x6, x7, x8, x9, rfl⟩

set_option maxHeartbeats 16000000 in
set_option maxRecDepth 100000 in
theorem walk (a0_0 : Int) (a0_1 : Value) (la0_1 : List Int) (a0_2 : Value) (la0_2 : List Int) (a0_3 : Value) (la0_3 : List Int) (a0_4 : Value) (la0_4 : List Int) (a0_5 : Bool) (a0_6 : Bool) (a0_7 : Bool) (a0_8 : Bool) (a0_9 : Bool) (w : World) (la0_0 : -9223372036854775808 ≤ a0_0) (ua0_0 : a0_0 ≤ 9223372036854775807) (ha0_1 : IntsAt w a0_1 la0_1) (qa0_1 : la0_1.length ≤ maxLen) (sa0_1 : I64 la0_1) (ha0_2 : IntsAt w a0_2 la0_2) (qa0_2 : la0_2.length ≤ maxLen) (sa0_2 : I64 la0_2) (ha0_3 : IntsAt w a0_3 la0_3) (qa0_3 : la0_3.length ≤ maxLen) (sa0_3 : I64 la0_3) (ha0_4 : IntsAt w a0_4 la0_4) (qa0_4 : la0_4.length ≤ maxLen) (sa0_4 : I64 la0_4) :
    Calls Try.prog 3 #[.agg #[.int .i64 a0_0, a0_1, a0_2, a0_3, a0_4, .bool a0_5, .bool a0_6, .bool a0_7, .bool a0_8, .bool a0_9]] w fun e w' => e = .returned (.bool true) ∧ Below w.heap.size w w' := by
  have HM := Lib.hid ha0_1
  have HO := Lib.hid ha0_2
  have HR := Lib.hid ha0_3
  have HN := Lib.hid ha0_4
  have IM := Lib.hid sa0_1
  have IO := Lib.hid sa0_2
  have IR := Lib.hid sa0_3
  have IN_ := Lib.hid sa0_4
  obtain ⟨pm, cm, rfl⟩ := ha0_1.slice
  obtain ⟨po, co, rfl⟩ := ha0_2.slice
  obtain ⟨pr, cr, rfl⟩ := ha0_3.slice
  obtain ⟨pw, cw, rfl⟩ := ha0_4.slice
  obtain ⟨nm, hnm⟩ : ∃ nm, nm = la0_1.length := ⟨_, rfl⟩
  obtain ⟨no, hno⟩ : ∃ no, no = la0_2.length := ⟨_, rfl⟩
  obtain ⟨nr, hnr⟩ : ∃ nr, nr = la0_3.length := ⟨_, rfl⟩
  obtain ⟨nw, hnw⟩ : ∃ nw, nw = la0_4.length := ⟨_, rfl⟩
  rw [← hnm] at HM qa0_1 ⊢
  rw [← hno] at HO qa0_2 ⊢
  rw [← hnr] at HR qa0_3 ⊢
  rw [← hnw] at HN qa0_4 ⊢
  have LN := Lib.hid (And.intro hnm (And.intro hno (And.intro hnr hnw)))
  clear ha0_1 ha0_2 ha0_3 ha0_4 sa0_1 sa0_2 sa0_3 sa0_4 hnm hno hnr hnw
  have HL := Lib.hid fun U => live22_c U
  have TC := Lib.hid fun U => told22_c a0_0 pm po pr pw nm no nr nw cm co cr cw a0_5 a0_6 a0_7 a0_8 a0_9 U
  have FC := Lib.hid fun U => few22_c a0_0 pm po pr pw nm no nr nw cm co cr cw a0_5 a0_6 a0_7 a0_8 a0_9 U
  have CK := Lib.hid (show fewB nm no nr nw = true → ∀ U, Below w.heap.size w U → CasOk U (.slice pm nm cm) (.slice po no co) (.slice pr nr cr) (.slice pw nw cw) la0_1 la0_2 la0_3 la0_4 from fun hf U k => by
    obtain ⟨f1, f2, f3, f4⟩ := (fewB_iff _ _ _ _).1 hf
    obtain ⟨e1, e2, e3, e4⟩ := LN.out
    exact ⟨HM.out.below k, HO.out.below k, HR.out.below k, HN.out.below k, by omega, by omega, by omega, by omega, IM.out, IO.out, IR.out, IN_.out⟩)
  have FL := Lib.hid (show fewB nm no nr nw = true → la0_1.length ≤ 40 ∧ la0_2.length ≤ 40 ∧ la0_3.length ≤ 40 ∧ la0_4.length ≤ 40 from fun hf => by
    obtain ⟨f1, f2, f3, f4⟩ := (fewB_iff _ _ _ _).1 hf
    obtain ⟨e1, e2, e3, e4⟩ := LN.out
    omega)
  generalize fewB nm no nr nw = fw at FC CK FL
  have HB := Lib.hid (heap_new w (.cells #[.int .i64 a0_0, .slice pm nm cm, .slice po no co, .slice pr nr cr, .slice pw nw cw, .bool a0_5, .bool a0_6, .bool a0_7, .bool a0_8, .bool a0_9] 24))
  have K0 := Lib.hid (show Below w.heap.size w (w.alloc (.cells #[.int .i64 a0_0, .slice pm nm cm, .slice po no co, .slice pr nr cr, .slice pw nw cw, .bool a0_5, .bool a0_6, .bool a0_7, .bool a0_8, .bool a0_9] 24)) from (Below.refl _ _).alloc (Nat.le_refl _) _)
  clear HM HO HR HN LN
  go_enter Try.func3, Try.ntmps3
  go_upto_region 1 with fail
  generalize w.alloc (.cells #[.int .i64 a0_0, .slice pm nm cm, .slice po no co, .slice pr nr cr, .slice pw nw cw, .bool a0_5, .bool a0_6, .bool a0_7, .bool a0_8, .bool a0_9] 24) = W at HB K0 ⊢
  have x0 : W.cell? ⟨w.heap.size, 0, none⟩ = some (.int .i64 a0_0) := cell_of_block HB.out rfl
  have x1 : W.cell? ⟨w.heap.size, 1, none⟩ = some (.slice pm nm cm) := cell_of_block HB.out rfl
  have x2 : W.cell? ⟨w.heap.size, 2, none⟩ = some (.slice po no co) := cell_of_block HB.out rfl
  have x3 : W.cell? ⟨w.heap.size, 3, none⟩ = some (.slice pr nr cr) := cell_of_block HB.out rfl
  have x4 : W.cell? ⟨w.heap.size, 4, none⟩ = some (.slice pw nw cw) := cell_of_block HB.out rfl
  have x5 : W.cell? ⟨w.heap.size, 5, none⟩ = some (.bool a0_5) := cell_of_block HB.out rfl
  have x6 : W.cell? ⟨w.heap.size, 6, none⟩ = some (.bool a0_6) := cell_of_block HB.out rfl
  have x7 : W.cell? ⟨w.heap.size, 7, none⟩ = some (.bool a0_7) := cell_of_block HB.out rfl
  have x8 : W.cell? ⟨w.heap.size, 8, none⟩ = some (.bool a0_8) := cell_of_block HB.out rfl
  have x9 : W.cell? ⟨w.heap.size, 9, none⟩ = some (.bool a0_9) := cell_of_block HB.out rfl
  go_wp2_with fail
  ((with_reducible refine (FC.out _).mono ?_); rintro e w1 ⟨rfl, k1⟩)
  have K1 := Lib.hid (k_call K0.out k1)
  have HB1 := Lib.hid (below_block k1 (lt_of_block HB.out) HB.out)
  clear k1 FC K0 HB x0 x1 x2 x3 x4 x5 x6 x7 x8 x9
  rcases Bool.eq_false_or_eq_true fw with rfl | rfl
  rotate_left
  · clear CK FL TC
    go_wp2_with fail
    ((with_reducible refine (HL.out _).mono ?_); rintro e w2 ⟨rfl, k2⟩)
    have K2 := Lib.hid (k_call K1.out k2)
    clear k2 K1 HB1
    go_wp2_with fail
    go_ret
    exact ⟨rfl, K2.out⟩
  have C0 := Lib.hid (CK.out rfl)
  have FL0 := Lib.hid (FL.out rfl)
  clear CK FL
  have x0 : w1.cell? ⟨w.heap.size, 0, none⟩ = some (.int .i64 a0_0) := cell_of_block HB1.out rfl
  have x1 : w1.cell? ⟨w.heap.size, 1, none⟩ = some (.slice pm nm cm) := cell_of_block HB1.out rfl
  have x2 : w1.cell? ⟨w.heap.size, 2, none⟩ = some (.slice po no co) := cell_of_block HB1.out rfl
  have x3 : w1.cell? ⟨w.heap.size, 3, none⟩ = some (.slice pr nr cr) := cell_of_block HB1.out rfl
  have x4 : w1.cell? ⟨w.heap.size, 4, none⟩ = some (.slice pw nw cw) := cell_of_block HB1.out rfl
  have x5 : w1.cell? ⟨w.heap.size, 5, none⟩ = some (.bool a0_5) := cell_of_block HB1.out rfl
  have x6 : w1.cell? ⟨w.heap.size, 6, none⟩ = some (.bool a0_6) := cell_of_block HB1.out rfl
  have x7 : w1.cell? ⟨w.heap.size, 7, none⟩ = some (.bool a0_7) := cell_of_block HB1.out rfl
  have x8 : w1.cell? ⟨w.heap.size, 8, none⟩ = some (.bool a0_8) := cell_of_block HB1.out rfl
  have x9 : w1.cell? ⟨w.heap.size, 9, none⟩ = some (.bool a0_9) := cell_of_block HB1.out rfl
  go_wp2_with fail
  ((with_reducible refine (TC.out _).mono ?_); rintro e w2 ⟨rfl, k⟩)
  have K2 := Lib.hid (k_call K1.out k)
  have HB2 := Lib.hid (below_block k (lt_of_block HB1.out) HB1.out)
  clear k K1 HB1 x0 x1 x2 x3 x4 x5 x6 x7 x8 x9
  have QC := Lib.hid (flood_c a0_0 _ _ _ _ a0_5 a0_6 a0_7 a0_8 a0_9 la0_1 la0_2 la0_3 la0_4 w2 (C0.out _ K2.out) la0_0 ua0_0)
  unfold IPost at QC
  go_wp2_with fail
  ((with_reducible refine (QC.out).mono ?_); rintro e w3 ⟨uA, rfl, iA, k⟩)
  have K3 := Lib.hid (k_call K2.out k)
  have HB3 := Lib.hid (below_block k (lt_of_block HB2.out) HB2.out)
  clear k K2 HB2 QC
  have IA := Lib.hid iA
  clear iA
  have x0 : w3.cell? ⟨w.heap.size, 0, none⟩ = some (.int .i64 a0_0) := cell_of_block HB3.out rfl
  have x1 : w3.cell? ⟨w.heap.size, 1, none⟩ = some (.slice pm nm cm) := cell_of_block HB3.out rfl
  have x2 : w3.cell? ⟨w.heap.size, 2, none⟩ = some (.slice po no co) := cell_of_block HB3.out rfl
  have x3 : w3.cell? ⟨w.heap.size, 3, none⟩ = some (.slice pr nr cr) := cell_of_block HB3.out rfl
  have x4 : w3.cell? ⟨w.heap.size, 4, none⟩ = some (.slice pw nw cw) := cell_of_block HB3.out rfl
  have x5 : w3.cell? ⟨w.heap.size, 5, none⟩ = some (.bool a0_5) := cell_of_block HB3.out rfl
  have x6 : w3.cell? ⟨w.heap.size, 6, none⟩ = some (.bool a0_6) := cell_of_block HB3.out rfl
  have x7 : w3.cell? ⟨w.heap.size, 7, none⟩ = some (.bool a0_7) := cell_of_block HB3.out rfl
  have x8 : w3.cell? ⟨w.heap.size, 8, none⟩ = some (.bool a0_8) := cell_of_block HB3.out rfl
  have x9 : w3.cell? ⟨w.heap.size, 9, none⟩ = some (.bool a0_9) := cell_of_block HB3.out rfl
  go_wp2_with fail
  ((with_reducible refine (TC.out _).mono ?_); rintro e w4 ⟨rfl, k⟩)
  have K4 := Lib.hid (k_call K3.out k)
  have HB4 := Lib.hid (below_block k (lt_of_block HB3.out) HB3.out)
  replace IA := Lib.hid (IA.out.below k)
  clear k K3 HB3 x0 x1 x2 x3 x4 x5 x6 x7 x8 x9
  have QC := Lib.hid (decide_c a0_0 _ _ _ _ a0_5 a0_6 a0_7 a0_8 a0_9 la0_1 la0_2 la0_3 la0_4 w4 (C0.out _ K4.out) la0_0 ua0_0)
  unfold IPost at QC
  go_wp2_with fail
  ((with_reducible refine (QC.out).mono ?_); rintro e w5 ⟨uB, rfl, iB, k⟩)
  have K5 := Lib.hid (k_call K4.out k)
  have HB5 := Lib.hid (below_block k (lt_of_block HB4.out) HB4.out)
  replace IA := Lib.hid (IA.out.below k)
  clear k K4 HB4 QC
  have IB := Lib.hid iB
  clear iB
  have x0 : w5.cell? ⟨w.heap.size, 0, none⟩ = some (.int .i64 a0_0) := cell_of_block HB5.out rfl
  have x1 : w5.cell? ⟨w.heap.size, 1, none⟩ = some (.slice pm nm cm) := cell_of_block HB5.out rfl
  have x2 : w5.cell? ⟨w.heap.size, 2, none⟩ = some (.slice po no co) := cell_of_block HB5.out rfl
  have x3 : w5.cell? ⟨w.heap.size, 3, none⟩ = some (.slice pr nr cr) := cell_of_block HB5.out rfl
  have x4 : w5.cell? ⟨w.heap.size, 4, none⟩ = some (.slice pw nw cw) := cell_of_block HB5.out rfl
  have x5 : w5.cell? ⟨w.heap.size, 5, none⟩ = some (.bool a0_5) := cell_of_block HB5.out rfl
  have x6 : w5.cell? ⟨w.heap.size, 6, none⟩ = some (.bool a0_6) := cell_of_block HB5.out rfl
  have x7 : w5.cell? ⟨w.heap.size, 7, none⟩ = some (.bool a0_7) := cell_of_block HB5.out rfl
  have x8 : w5.cell? ⟨w.heap.size, 8, none⟩ = some (.bool a0_8) := cell_of_block HB5.out rfl
  have x9 : w5.cell? ⟨w.heap.size, 9, none⟩ = some (.bool a0_9) := cell_of_block HB5.out rfl
  have QC := Lib.hid (rflood_c a0_0 _ _ _ _ a0_5 a0_6 a0_7 a0_8 a0_9 la0_1 la0_2 la0_3 la0_4 w5 (C0.out _ K5.out) la0_0 ua0_0)
  unfold IPost at QC
  go_wp2_with fail
  ((with_reducible refine (QC.out).mono ?_); rintro e w6 ⟨uC, rfl, iC, k⟩)
  have K6 := Lib.hid (k_call K5.out k)
  have HB6 := Lib.hid (below_block k (lt_of_block HB5.out) HB5.out)
  replace IA := Lib.hid (IA.out.below k)
  replace IB := Lib.hid (IB.out.below k)
  clear k K5 HB5 QC x0 x1 x2 x3 x4 x5 x6 x7 x8 x9
  have SC := Lib.hid (sameI_c _ _ _ w6 (by have := flo_len ⟨a0_0, la0_1, la0_2, la0_3, la0_4, a0_5, a0_6, a0_7, a0_8, a0_9⟩; have := FL0.out; show (floL ⟨a0_0, la0_1, la0_2, la0_3, la0_4, a0_5, a0_6, a0_7, a0_8, a0_9⟩).length ≤ _; have h3 : (floL ⟨a0_0, la0_1, la0_2, la0_3, la0_4, a0_5, a0_6, a0_7, a0_8, a0_9⟩).length ≤ la0_1.length := flo_len ⟨a0_0, la0_1, la0_2, la0_3, la0_4, a0_5, a0_6, a0_7, a0_8, a0_9⟩; omega) IA.out iC)
  clear iC IA
  go_wp2_with fail
  ((with_reducible refine SC.out.mono ?_); rintro e w10 ⟨rfl, q1, rfl⟩)
  have K10 := Lib.hid (below_drewN K6.out q1)
  have HB10 := Lib.hid (show (w6.drewN q1).heap[w.heap.size]? = _ from HB6.out)
  replace IB := Lib.hid (show IntsAt (w6.drewN q1) _ _ from IB.out)
  clear SC K6 HB6
  generalize w6.drewN q1 = w10 at K10 HB10 IB ⊢
  have x0 : w10.cell? ⟨w.heap.size, 0, none⟩ = some (.int .i64 a0_0) := cell_of_block HB10.out rfl
  have x1 : w10.cell? ⟨w.heap.size, 1, none⟩ = some (.slice pm nm cm) := cell_of_block HB10.out rfl
  have x2 : w10.cell? ⟨w.heap.size, 2, none⟩ = some (.slice po no co) := cell_of_block HB10.out rfl
  have x3 : w10.cell? ⟨w.heap.size, 3, none⟩ = some (.slice pr nr cr) := cell_of_block HB10.out rfl
  have x4 : w10.cell? ⟨w.heap.size, 4, none⟩ = some (.slice pw nw cw) := cell_of_block HB10.out rfl
  have x5 : w10.cell? ⟨w.heap.size, 5, none⟩ = some (.bool a0_5) := cell_of_block HB10.out rfl
  have x6 : w10.cell? ⟨w.heap.size, 6, none⟩ = some (.bool a0_6) := cell_of_block HB10.out rfl
  have x7 : w10.cell? ⟨w.heap.size, 7, none⟩ = some (.bool a0_7) := cell_of_block HB10.out rfl
  have x8 : w10.cell? ⟨w.heap.size, 8, none⟩ = some (.bool a0_8) := cell_of_block HB10.out rfl
  have x9 : w10.cell? ⟨w.heap.size, 9, none⟩ = some (.bool a0_9) := cell_of_block HB10.out rfl
  have QC := Lib.hid (rdecide_c a0_0 _ _ _ _ a0_5 a0_6 a0_7 a0_8 a0_9 la0_1 la0_2 la0_3 la0_4 w10 (C0.out _ K10.out) la0_0 ua0_0)
  unfold IPost at QC
  go_wp2_with fail
  ((with_reducible refine (QC.out).mono ?_); rintro e w11 ⟨uD, rfl, iD, k⟩)
  have K11 := Lib.hid (k_call K10.out k)
  have HB11 := Lib.hid (below_block k (lt_of_block HB10.out) HB10.out)
  replace IB := Lib.hid (IB.out.below k)
  clear k K10 HB10 QC x0 x1 x2 x3 x4 x5 x6 x7 x8 x9
  have SC := Lib.hid (sameI_c _ _ _ w11 (by have h3 : (decL ⟨a0_0, la0_1, la0_2, la0_3, la0_4, a0_5, a0_6, a0_7, a0_8, a0_9⟩).length ≤ la0_1.length := decL_len ⟨a0_0, la0_1, la0_2, la0_3, la0_4, a0_5, a0_6, a0_7, a0_8, a0_9⟩; have := FL0.out; omega) IB.out iD)
  clear iD IB
  go_wp2_with fail
  ((with_reducible refine SC.out.mono ?_); rintro e w12 ⟨rfl, q2, rfl⟩)
  have K12 := Lib.hid (below_drewN K11.out q2)
  clear SC K11 HB11
  generalize w11.drewN q2 = w12 at K12 ⊢
  go_wp2_with fail
  ((with_reducible refine (HL.out _).mono ?_); rintro e w13 ⟨rfl, k13⟩)
  go_wp2_with fail
  go_ret
  exact ⟨rfl, k_call K12.out k13⟩

theorem own : ownKnob Try.prog.godebug = none := by kernel_rfl
theorem laidOut : laidOutB Try.prog = true := by kernel_rfl

set_option maxHeartbeats 1000000 in
set_option maxRecDepth 100000 in
theorem lifted (os : Os) (started : os.Started) (H : Type) (enc : TypeId × Value → H) :
    ReturnsInHanded {} Try.checked os 3 .any (Rows.forwardDecidesSpec.pre6 enc Try.prog Try.f3 Rows.forwardDecidesRow.domain false) (Rows.forwardDecidesSpec.post enc Try.prog Try.f3 false true false false) := by
  refine returnsInHanded_of_change_sized (C := Try.checked) own started (by kernel_rfl) Try.func3
    (ChangeSpec.witness6 (enc := enc) (C := Try.checked) false ⟨#[], #[.agg #[.int .i64 0, .slice none 0 0, .slice none 0 0, .slice none 0 0, .slice none 0 0, .bool false, .bool false, .bool false, .bool false, .bool false]], []⟩ 8 (by kernel_rfl) (by kernel_rfl) (by kernel_rfl) (by kernel_rfl)) ?_
  intro W base args ds gs before hval0 hW hcnd hsz0 hholds
  have hval : ∀ (j : Nat) t v, Try.f3.params[j]? = some t → args[j]? = some v → Value.okWide Try.prog W .any base t v := hval0
  have hsz : (DataW.weightsEach Try.prog (Try.f3.params.toList ++ Rows.forwardDecidesSpec.plain.varTypes Try.prog) (ds ++ gs)).all (· ≤ reachBytes) = true := hsz0
  have hW' := hW
  obtain ⟨p, q, hA0, hV, rfl, hfz, hnd⟩ := hW
  have hA : DataW.TrodAll enc Try.prog W 0 (fun _ => true) true Try.f3.params.toList args.toList ds p := hA0
  rw [Try.params3] at hA hval hsz
  obtain ⟨v0, vs0, d0, ds0, p0, q0, hargs, rfl, rfl, h0, r0⟩ := trodAll_cons hA
  obtain ⟨rfl, rfl, rfl⟩ := trodAll_nil r0
  obtain rfl : args = #[v0] := by cases args; simp_all
  obtain ⟨rfl, rfl⟩ := trodVars_none hV
  have k0 := h0
  have lt0 : ∀ x ∈ p0, x.block < W.heap.size := by obtain ⟨m, hm⟩ := k0; exact DataW.trod_lt m _ _ _ hm
  obtain ⟨cs0, rfl, hz0⟩ := okWide_struct Try.underlying24 (hval 0 24 v0 rfl rfl)
  obtain ⟨l0⟩ := cs0
  obtain ⟨c0_0, c0_1, c0_2, c0_3, c0_4, c0_5, c0_6, c0_7, c0_8, c0_9, rfl⟩ := list10 l0 (hz0.trans (by kernel_rfl))
  obtain ⟨fu0, hf0⟩ := h0
  obtain ⟨xs0, m0, -, hx0, -, hn0, hg0⟩ := DataW.trod_struct Try.underlying24 hf0
  obtain ⟨y0_0, y0_1, y0_2, y0_3, y0_4, y0_5, y0_6, y0_7, y0_8, y0_9, rfl⟩ := list10 xs0 hn0
  simp only [Prod.mk.injEq] at hx0
  obtain ⟨rfl, rfl⟩ := hx0
  have g0_0 : DataW.trod enc Try.prog W 0 (fun _ => true) true m0 3 (List.take (Try.prog.cellsOf 3) (List.drop 0 [c0_0, c0_1, c0_2, c0_3, c0_4, c0_5, c0_6, c0_7, c0_8, c0_9])) = some y0_0 := hg0 0 _ rfl
  rw [show Try.prog.cellsOf 3 = 1 from by kernel_rfl] at g0_0
  replace g0_0 : DataW.trod enc Try.prog W 0 (fun _ => true) true m0 3 [c0_0] = some y0_0 := g0_0
  have g0_1 : DataW.trod enc Try.prog W 0 (fun _ => true) true m0 22 (List.take (Try.prog.cellsOf 22) (List.drop 1 [c0_0, c0_1, c0_2, c0_3, c0_4, c0_5, c0_6, c0_7, c0_8, c0_9])) = some y0_1 := hg0 1 _ rfl
  rw [show Try.prog.cellsOf 22 = 1 from by kernel_rfl] at g0_1
  replace g0_1 : DataW.trod enc Try.prog W 0 (fun _ => true) true m0 22 [c0_1] = some y0_1 := g0_1
  have g0_2 : DataW.trod enc Try.prog W 0 (fun _ => true) true m0 22 (List.take (Try.prog.cellsOf 22) (List.drop 2 [c0_0, c0_1, c0_2, c0_3, c0_4, c0_5, c0_6, c0_7, c0_8, c0_9])) = some y0_2 := hg0 2 _ rfl
  rw [show Try.prog.cellsOf 22 = 1 from by kernel_rfl] at g0_2
  replace g0_2 : DataW.trod enc Try.prog W 0 (fun _ => true) true m0 22 [c0_2] = some y0_2 := g0_2
  have g0_3 : DataW.trod enc Try.prog W 0 (fun _ => true) true m0 22 (List.take (Try.prog.cellsOf 22) (List.drop 3 [c0_0, c0_1, c0_2, c0_3, c0_4, c0_5, c0_6, c0_7, c0_8, c0_9])) = some y0_3 := hg0 3 _ rfl
  rw [show Try.prog.cellsOf 22 = 1 from by kernel_rfl] at g0_3
  replace g0_3 : DataW.trod enc Try.prog W 0 (fun _ => true) true m0 22 [c0_3] = some y0_3 := g0_3
  have g0_4 : DataW.trod enc Try.prog W 0 (fun _ => true) true m0 22 (List.take (Try.prog.cellsOf 22) (List.drop 4 [c0_0, c0_1, c0_2, c0_3, c0_4, c0_5, c0_6, c0_7, c0_8, c0_9])) = some y0_4 := hg0 4 _ rfl
  rw [show Try.prog.cellsOf 22 = 1 from by kernel_rfl] at g0_4
  replace g0_4 : DataW.trod enc Try.prog W 0 (fun _ => true) true m0 22 [c0_4] = some y0_4 := g0_4
  have g0_5 : DataW.trod enc Try.prog W 0 (fun _ => true) true m0 4 (List.take (Try.prog.cellsOf 4) (List.drop 5 [c0_0, c0_1, c0_2, c0_3, c0_4, c0_5, c0_6, c0_7, c0_8, c0_9])) = some y0_5 := hg0 5 _ rfl
  rw [show Try.prog.cellsOf 4 = 1 from by kernel_rfl] at g0_5
  replace g0_5 : DataW.trod enc Try.prog W 0 (fun _ => true) true m0 4 [c0_5] = some y0_5 := g0_5
  have g0_6 : DataW.trod enc Try.prog W 0 (fun _ => true) true m0 4 (List.take (Try.prog.cellsOf 4) (List.drop 6 [c0_0, c0_1, c0_2, c0_3, c0_4, c0_5, c0_6, c0_7, c0_8, c0_9])) = some y0_6 := hg0 6 _ rfl
  rw [show Try.prog.cellsOf 4 = 1 from by kernel_rfl] at g0_6
  replace g0_6 : DataW.trod enc Try.prog W 0 (fun _ => true) true m0 4 [c0_6] = some y0_6 := g0_6
  have g0_7 : DataW.trod enc Try.prog W 0 (fun _ => true) true m0 4 (List.take (Try.prog.cellsOf 4) (List.drop 7 [c0_0, c0_1, c0_2, c0_3, c0_4, c0_5, c0_6, c0_7, c0_8, c0_9])) = some y0_7 := hg0 7 _ rfl
  rw [show Try.prog.cellsOf 4 = 1 from by kernel_rfl] at g0_7
  replace g0_7 : DataW.trod enc Try.prog W 0 (fun _ => true) true m0 4 [c0_7] = some y0_7 := g0_7
  have g0_8 : DataW.trod enc Try.prog W 0 (fun _ => true) true m0 4 (List.take (Try.prog.cellsOf 4) (List.drop 8 [c0_0, c0_1, c0_2, c0_3, c0_4, c0_5, c0_6, c0_7, c0_8, c0_9])) = some y0_8 := hg0 8 _ rfl
  rw [show Try.prog.cellsOf 4 = 1 from by kernel_rfl] at g0_8
  replace g0_8 : DataW.trod enc Try.prog W 0 (fun _ => true) true m0 4 [c0_8] = some y0_8 := g0_8
  have g0_9 : DataW.trod enc Try.prog W 0 (fun _ => true) true m0 4 (List.take (Try.prog.cellsOf 4) (List.drop 9 [c0_0, c0_1, c0_2, c0_3, c0_4, c0_5, c0_6, c0_7, c0_8, c0_9])) = some y0_9 := hg0 9 _ rfl
  rw [show Try.prog.cellsOf 4 = 1 from by kernel_rfl] at g0_9
  replace g0_9 : DataW.trod enc Try.prog W 0 (fun _ => true) true m0 4 [c0_9] = some y0_9 := g0_9
  clear hg0
  obtain ⟨a0_0, e0_0, rfl, w0_0⟩ := DataW.trod_int Try.underlying3 g0_0
  simp at e0_0
  subst e0_0
  obtain ⟨v0_1, L0_1, e0_1, hh0_1, qq0_1, ss0_1⟩ := ints_open g0_1
  simp at e0_1
  subst e0_1
  obtain ⟨v0_2, L0_2, e0_2, hh0_2, qq0_2, ss0_2⟩ := ints_open g0_2
  simp at e0_2
  subst e0_2
  obtain ⟨v0_3, L0_3, e0_3, hh0_3, qq0_3, ss0_3⟩ := ints_open g0_3
  simp at e0_3
  subst e0_3
  obtain ⟨v0_4, L0_4, e0_4, hh0_4, qq0_4, ss0_4⟩ := ints_open g0_4
  simp at e0_4
  subst e0_4
  obtain ⟨a0_5, e0_5, rfl⟩ := DataW.trod_bool Try.underlying4 g0_5
  simp at e0_5
  subst e0_5
  obtain ⟨a0_6, e0_6, rfl⟩ := DataW.trod_bool Try.underlying4 g0_6
  simp at e0_6
  subst e0_6
  obtain ⟨a0_7, e0_7, rfl⟩ := DataW.trod_bool Try.underlying4 g0_7
  simp at e0_7
  subst e0_7
  obtain ⟨a0_8, e0_8, rfl⟩ := DataW.trod_bool Try.underlying4 g0_8
  simp at e0_8
  subst e0_8
  obtain ⟨a0_9, e0_9, rfl⟩ := DataW.trod_bool Try.underlying4 g0_9
  simp at e0_9
  subst e0_9
  have ba0_0 := bounds_i64 w0_0
  clear hA0 hval0
  refine (walk a0_0 c0_1 L0_1 c0_2 L0_2 c0_3 L0_3 c0_4 L0_4 a0_5 a0_6 a0_7 a0_8 a0_9 W ba0_0.1 ba0_0.2 hh0_1 qq0_1 ss0_1 hh0_2 qq0_2 ss0_2 hh0_3 qq0_3 ss0_3 hh0_4 qq0_4 ss0_4).mono fun e W' ⟨he, bel⟩ => ?_
  subst he
  exact ⟨_, rfl, _, _, _, [], _, [], hW', trodAll_mk1 (shut_bool Try.underlying4 _), (trodAll_cons_mk (Below.trod laidOut (by kernel_rfl) (of_decide_eq_true (by kernel_rfl)) k0 bel lt0) trodAll_mk0), rfl, bel.frame _, fun h => by cases h⟩

theorem over : Rows.forwardDecidesRow.holds Try.pinned (OpenSpec.ofChange Rows.forwardDecidesSpec) :=
  OpenClaim.holds_of_wide 3 Try.f3 rfl rfl rfl rfl rfl rfl rfl ⟨rfl, rfl, rfl, rfl, rfl⟩ rfl rfl rfl rfl rfl (by kernel_rfl) Try.func3 (by kernel_rfl)
    (of_decide_eq_true (by kernel_rfl)) (by unfold Func.isWrapper; first | (rw [if_pos (by decide +kernel)]; kernel_rfl) | (rw [if_neg (by decide +kernel)]; exact ⟨rfl, rfl⟩))
    (fun os started H enc _ => lifted os started H enc)

/-- The statement. -/
theorem proved : Rows.ForwardDecidesSaid := over
#print axioms proved
end Go.Proofs.Ytpaehbmhdjnofaa.forwardDecidesLaw
