/-
  'siphonlaw22.ForwardAll' returns true, whatever the input, and each argument reads behind the call as it read before. Conditions: none beyond those that the row itself states.
-/
import Derived.Test.YtpaehbmhdjnofaaRows
import Derived.Test.YtpaehbmhdjnofaaFwM
import Derived.WalkKit
import Derived.ProofKit
import Derived.OpenShut
import Derived.ShutString
import Derived.ChangeOld
import Derived.Below
import Derived.Carry
import Derived.SizedLaws
import Derived.Lib.SmallJoins
import Derived.ChangeArms
import Derived.WideShapes
namespace Go.Proofs.Ytpaehbmhdjnofaa.forwardAllLaw
open Go.ChangeShapes Go.WideShapes Go.ChangeAt Go.RowKit Go.Joins
open Go.ChangeMaps (open_string shut_string)
set_option linter.unusedVariables false

theorem list10 {α : Type} (l : List α) (h : l.length = 10) : ∃ x0 x1 x2 x3 x4 x5 x6 x7 x8 x9 : α, l = [x0, x1, x2, x3, x4, x5, x6, x7, x8, x9] := by
  match l, h with
  | [x0, x1, x2, x3, x4, x5, x6, x7, x8, x9], _ => exact ⟨x0, x1, x2, x3, x4, x5, x6, x7, x8, x9, rfl⟩

set_option linter.unusedSimpArgs false
set_option maxHeartbeats 16000000 in
set_option maxRecDepth 100000 in
theorem walk (a0_0 : Int) (a0_1 : Value) (la0_1 : List Int) (a0_2 : Value) (la0_2 : List Int) (a0_3 : Value) (la0_3 : List Int) (a0_4 : Value) (la0_4 : List Int) (a0_5 : Bool) (a0_6 : Bool) (a0_7 : Bool) (a0_8 : Bool) (a0_9 : Bool) (w : World) (la0_0 : -9223372036854775808 ≤ a0_0) (ua0_0 : a0_0 ≤ 9223372036854775807) (ha0_1 : IntsAt w a0_1 la0_1) (qa0_1 : la0_1.length ≤ maxLen) (sa0_1 : I64 la0_1) (ha0_2 : IntsAt w a0_2 la0_2) (qa0_2 : la0_2.length ≤ maxLen) (sa0_2 : I64 la0_2) (ha0_3 : IntsAt w a0_3 la0_3) (qa0_3 : la0_3.length ≤ maxLen) (sa0_3 : I64 la0_3) (ha0_4 : IntsAt w a0_4 la0_4) (qa0_4 : la0_4.length ≤ maxLen) (sa0_4 : I64 la0_4) :
    Calls Try.prog 7 #[.agg #[.int .i64 a0_0, a0_1, a0_2, a0_3, a0_4, .bool a0_5, .bool a0_6, .bool a0_7, .bool a0_8, .bool a0_9]] w fun e w' => e = .returned (.bool true) ∧ Below w.heap.size w w' := by
  have HM := Lib.hid ha0_1
  have HO := Lib.hid ha0_2
  have HR := Lib.hid ha0_3
  have HN := Lib.hid ha0_4
  have IM := Lib.hid sa0_1
  have IO := Lib.hid sa0_2
  have IR := Lib.hid sa0_3
  have IN_ := Lib.hid sa0_4
  obtain ⟨pm, cm, rfl⟩ := ha0_1.slice
  obtain ⟨po, co, rfl⟩ := ha0_2.slice
  obtain ⟨pr, cr, rfl⟩ := ha0_3.slice
  obtain ⟨pw, cw, rfl⟩ := ha0_4.slice
  obtain ⟨nm, hnm⟩ : ∃ nm, nm = la0_1.length := ⟨_, rfl⟩
  obtain ⟨no, hno⟩ : ∃ no, no = la0_2.length := ⟨_, rfl⟩
  obtain ⟨nr, hnr⟩ : ∃ nr, nr = la0_3.length := ⟨_, rfl⟩
  obtain ⟨nw, hnw⟩ : ∃ nw, nw = la0_4.length := ⟨_, rfl⟩
  rw [← hnm] at HM qa0_1 ⊢
  rw [← hno] at HO qa0_2 ⊢
  rw [← hnr] at HR qa0_3 ⊢
  rw [← hnw] at HN qa0_4 ⊢
  have LN := Lib.hid (And.intro hnm (And.intro hno (And.intro hnr hnw)))
  clear ha0_1 ha0_2 ha0_3 ha0_4 sa0_1 sa0_2 sa0_3 sa0_4 hnm hno hnr hnw
  have HL := Lib.hid fun U => live22_c U
  have TC := Lib.hid fun U => told22_c a0_0 pm po pr pw nm no nr nw cm co cr cw a0_5 a0_6 a0_7 a0_8 a0_9 U
  have FC := Lib.hid fun U => few22_c a0_0 pm po pr pw nm no nr nw cm co cr cw a0_5 a0_6 a0_7 a0_8 a0_9 U
  have CK := Lib.hid (show fewB nm no nr nw = true → ∀ U, Below w.heap.size w U → CasOk U (.slice pm nm cm) (.slice po no co) (.slice pr nr cr) (.slice pw nw cw) la0_1 la0_2 la0_3 la0_4 from fun hf U k => by
    obtain ⟨f1, f2, f3, f4⟩ := (fewB_iff _ _ _ _).1 hf
    obtain ⟨e1, e2, e3, e4⟩ := LN.out
    exact ⟨HM.out.below k, HO.out.below k, HR.out.below k, HN.out.below k, by omega, by omega, by omega, by omega, IM.out, IO.out, IR.out, IN_.out⟩)
  have FL := Lib.hid (show fewB nm no nr nw = true → la0_1.length ≤ 40 ∧ la0_2.length ≤ 40 ∧ la0_3.length ≤ 40 ∧ la0_4.length ≤ 40 from fun hf => by
    obtain ⟨f1, f2, f3, f4⟩ := (fewB_iff _ _ _ _).1 hf
    obtain ⟨e1, e2, e3, e4⟩ := LN.out
    omega)
  generalize fewB nm no nr nw = fw at FC CK FL
  have HB := Lib.hid (heap_new w (.cells #[.int .i64 a0_0, .slice pm nm cm, .slice po no co, .slice pr nr cr, .slice pw nw cw, .bool a0_5, .bool a0_6, .bool a0_7, .bool a0_8, .bool a0_9] 24))
  have K0 := Lib.hid (show Below w.heap.size w (w.alloc (.cells #[.int .i64 a0_0, .slice pm nm cm, .slice po no co, .slice pr nr cr, .slice pw nw cw, .bool a0_5, .bool a0_6, .bool a0_7, .bool a0_8, .bool a0_9] 24)) from (Below.refl _ _).alloc (Nat.le_refl _) _)
  clear HM HO HR HN LN
  go_enter Try.func7, Try.ntmps7
  go_upto_region 1 with fail
  generalize w.alloc (.cells #[.int .i64 a0_0, .slice pm nm cm, .slice po no co, .slice pr nr cr, .slice pw nw cw, .bool a0_5, .bool a0_6, .bool a0_7, .bool a0_8, .bool a0_9] 24) = W at HB K0 ⊢
  have x0 : W.cell? ⟨w.heap.size, 0, none⟩ = some (.int .i64 a0_0) := cell_of_block HB.out rfl
  have x1 : W.cell? ⟨w.heap.size, 1, none⟩ = some (.slice pm nm cm) := cell_of_block HB.out rfl
  have x2 : W.cell? ⟨w.heap.size, 2, none⟩ = some (.slice po no co) := cell_of_block HB.out rfl
  have x3 : W.cell? ⟨w.heap.size, 3, none⟩ = some (.slice pr nr cr) := cell_of_block HB.out rfl
  have x4 : W.cell? ⟨w.heap.size, 4, none⟩ = some (.slice pw nw cw) := cell_of_block HB.out rfl
  have x5 : W.cell? ⟨w.heap.size, 5, none⟩ = some (.bool a0_5) := cell_of_block HB.out rfl
  have x6 : W.cell? ⟨w.heap.size, 6, none⟩ = some (.bool a0_6) := cell_of_block HB.out rfl
  have x7 : W.cell? ⟨w.heap.size, 7, none⟩ = some (.bool a0_7) := cell_of_block HB.out rfl
  have x8 : W.cell? ⟨w.heap.size, 8, none⟩ = some (.bool a0_8) := cell_of_block HB.out rfl
  have x9 : W.cell? ⟨w.heap.size, 9, none⟩ = some (.bool a0_9) := cell_of_block HB.out rfl
  go_wp2_with fail
  ((with_reducible refine (FC.out _).mono ?_); rintro e w1 ⟨rfl, k1⟩)
  have K1 := Lib.hid (k_call K0.out k1)
  have HB1 := Lib.hid (below_block k1 (lt_of_block HB.out) HB.out)
  clear k1 FC K0 HB x0 x1 x2 x3 x4 x5 x6 x7 x8 x9
  rcases Bool.eq_false_or_eq_true fw with rfl | rfl
  rotate_left
  · clear CK FL TC
    go_wp2_with fail
    ((with_reducible refine (HL.out _).mono ?_); rintro e w2 ⟨rfl, k2⟩)
    have K2 := Lib.hid (k_call K1.out k2)
    clear k2 K1 HB1
    go_wp2_with fail
    go_ret
    exact ⟨rfl, K2.out⟩
  have C0 := Lib.hid (CK.out rfl)
  have FL0 := Lib.hid (FL.out rfl)
  clear CK FL
  have x0 : w1.cell? ⟨w.heap.size, 0, none⟩ = some (.int .i64 a0_0) := cell_of_block HB1.out rfl
  have x1 : w1.cell? ⟨w.heap.size, 1, none⟩ = some (.slice pm nm cm) := cell_of_block HB1.out rfl
  have x2 : w1.cell? ⟨w.heap.size, 2, none⟩ = some (.slice po no co) := cell_of_block HB1.out rfl
  have x3 : w1.cell? ⟨w.heap.size, 3, none⟩ = some (.slice pr nr cr) := cell_of_block HB1.out rfl
  have x4 : w1.cell? ⟨w.heap.size, 4, none⟩ = some (.slice pw nw cw) := cell_of_block HB1.out rfl
  have x5 : w1.cell? ⟨w.heap.size, 5, none⟩ = some (.bool a0_5) := cell_of_block HB1.out rfl
  have x6 : w1.cell? ⟨w.heap.size, 6, none⟩ = some (.bool a0_6) := cell_of_block HB1.out rfl
  have x7 : w1.cell? ⟨w.heap.size, 7, none⟩ = some (.bool a0_7) := cell_of_block HB1.out rfl
  have x8 : w1.cell? ⟨w.heap.size, 8, none⟩ = some (.bool a0_8) := cell_of_block HB1.out rfl
  have x9 : w1.cell? ⟨w.heap.size, 9, none⟩ = some (.bool a0_9) := cell_of_block HB1.out rfl
  go_wp2_with fail
  ((with_reducible refine (TC.out _).mono ?_); rintro e w2 ⟨rfl, k⟩)
  have K2 := Lib.hid (k_call K1.out k)
  have HB2 := Lib.hid (below_block k (lt_of_block HB1.out) HB1.out)
  clear k K1 HB1 x0 x1 x2 x3 x4 x5 x6 x7 x8 x9
  have QC := Lib.hid (flood_c a0_0 _ _ _ _ a0_5 a0_6 a0_7 a0_8 a0_9 la0_1 la0_2 la0_3 la0_4 w2 (C0.out _ K2.out) la0_0 ua0_0)
  unfold IPost at QC
  go_wp2_with fail
  ((with_reducible refine (QC.out).mono ?_); rintro e w3 ⟨uA, rfl, iA, k⟩)
  have K3 := Lib.hid (k_call K2.out k)
  have HB3 := Lib.hid (below_block k (lt_of_block HB2.out) HB2.out)
  clear k K2 HB2 QC
  have IA := Lib.hid iA
  clear iA
  have x0 : w3.cell? ⟨w.heap.size, 0, none⟩ = some (.int .i64 a0_0) := cell_of_block HB3.out rfl
  have x1 : w3.cell? ⟨w.heap.size, 1, none⟩ = some (.slice pm nm cm) := cell_of_block HB3.out rfl
  have x2 : w3.cell? ⟨w.heap.size, 2, none⟩ = some (.slice po no co) := cell_of_block HB3.out rfl
  have x3 : w3.cell? ⟨w.heap.size, 3, none⟩ = some (.slice pr nr cr) := cell_of_block HB3.out rfl
  have x4 : w3.cell? ⟨w.heap.size, 4, none⟩ = some (.slice pw nw cw) := cell_of_block HB3.out rfl
  have x5 : w3.cell? ⟨w.heap.size, 5, none⟩ = some (.bool a0_5) := cell_of_block HB3.out rfl
  have x6 : w3.cell? ⟨w.heap.size, 6, none⟩ = some (.bool a0_6) := cell_of_block HB3.out rfl
  have x7 : w3.cell? ⟨w.heap.size, 7, none⟩ = some (.bool a0_7) := cell_of_block HB3.out rfl
  have x8 : w3.cell? ⟨w.heap.size, 8, none⟩ = some (.bool a0_8) := cell_of_block HB3.out rfl
  have x9 : w3.cell? ⟨w.heap.size, 9, none⟩ = some (.bool a0_9) := cell_of_block HB3.out rfl
  go_wp2_with fail
  ((with_reducible refine (TC.out _).mono ?_); rintro e w4 ⟨rfl, k⟩)
  have K4 := Lib.hid (k_call K3.out k)
  have HB4 := Lib.hid (below_block k (lt_of_block HB3.out) HB3.out)
  replace IA := Lib.hid (IA.out.below k)
  clear k K3 HB3 x0 x1 x2 x3 x4 x5 x6 x7 x8 x9
  have BX := Lib.hid (fun U (k : Below w4.heap.size w4 U) => below_block k (lt_of_block HB4.out) HB4.out)
  have CC := Lib.hid (fun U (k : Below w4.heap.size w4 U) => C0.out U (K4.out.trans (k.mono K4.out.size)))
  have IAA := Lib.hid (fun U (k : Below w4.heap.size w4 U) => IA.out.below k)
  have k := Lib.hid (Below.refl w4.heap.size w4)
  clear IA
  go_upto_region 5 with fail
  have Hd := Lib.hid (heap_new w4 (.cells #[.int .i64 a0_0, .slice pm nm cm, .slice po no co, .slice pr nr cr, .slice pw nw cw, .bool a0_5, .bool a0_6, .bool a0_7, .bool a0_8, .bool a0_9] 28))
  have gd9 := Lib.hid k.out.size
  replace k := Lib.hid (k.out.alloc k.out.size (.cells #[.int .i64 a0_0, .slice pm nm cm, .slice po no co, .slice pr nr cr, .slice pw nw cw, .bool a0_5, .bool a0_6, .bool a0_7, .bool a0_8, .bool a0_9] 28))
  generalize w4.alloc (.cells #[.int .i64 a0_0, .slice pm nm cm, .slice po no co, .slice pr nr cr, .slice pw nw cw, .bool a0_5, .bool a0_6, .bool a0_7, .bool a0_8, .bool a0_9] 28) = U1 at Hd k ⊢
  obtain ⟨db, hdb⟩ : ∃ b, b = w4.heap.size := ⟨_, rfl⟩
  have gd := Lib.hid (show w4.heap.size ≤ db by rw [hdb]; exact gd9.out)
  rw [← hdb] at Hd  ⊢
  clear hdb gd9
  have z6 := cell_of_block (j := 6) (v := .bool a0_6) Hd.out rfl
  have f4 := free_of_block (j := 6) Hd.out
  go_upto_region 6 with fail
  clear z6 f4
  have Hd9 := Lib.hid (show (U1.setCell ⟨db, 6, none⟩ (.bool true)).heap[db]? = some (.cells #[.int .i64 a0_0, .slice pm nm cm, .slice po no co, .slice pr nr cr, .slice pw nw cw, .bool a0_5, .bool true, .bool a0_7, .bool a0_8, .bool a0_9] 28 (0, 0)) from heap_store (j := 6) (v := .bool true) Hd.out)
  replace k := Lib.hid (k.out.setCell (p := ⟨db, 6, none⟩) gd.out (.bool true))
  replace Hd := Hd9
  clear Hd9
  generalize U1.setCell ⟨db, 6, none⟩ (.bool true) = U2 at Hd k ⊢
  have z0 := cell_of_block (j := 0) (v := .int .i64 a0_0) Hd.out rfl
  have z1 := cell_of_block (j := 1) (v := .slice pm nm cm) Hd.out rfl
  have z2 := cell_of_block (j := 2) (v := .slice po no co) Hd.out rfl
  have z3 := cell_of_block (j := 3) (v := .slice pr nr cr) Hd.out rfl
  have z4 := cell_of_block (j := 4) (v := .slice pw nw cw) Hd.out rfl
  have z5 := cell_of_block (j := 5) (v := .bool a0_5) Hd.out rfl
  have z6 := cell_of_block (j := 6) (v := .bool true) Hd.out rfl
  have z7 := cell_of_block (j := 7) (v := .bool a0_7) Hd.out rfl
  have z8 := cell_of_block (j := 8) (v := .bool a0_8) Hd.out rfl
  have z9 := cell_of_block (j := 9) (v := .bool a0_9) Hd.out rfl
  have QC := decide_c a0_0 _ _ _ _ a0_5 true a0_7 a0_8 a0_9 la0_1 la0_2 la0_3 la0_4 U2 (CC.out _ k.out) la0_0 ua0_0
  rw [show decL ⟨a0_0, la0_1, la0_2, la0_3, la0_4, a0_5, true, a0_7, a0_8, a0_9⟩ = floL ⟨a0_0, la0_1, la0_2, la0_3, la0_4, a0_5, a0_6, a0_7, a0_8, a0_9⟩ from decL_over ⟨a0_0, la0_1, la0_2, la0_3, la0_4, a0_5, a0_6, a0_7, a0_8, a0_9⟩] at QC
  unfold IPost at QC
  replace QC := Lib.hid QC
  go_wp2_with fail
  ((with_reducible refine QC.out.mono ?_); rintro e w5 ⟨uB, rfl, iB, kB⟩)
  have K5 := Lib.hid (k_call (K4.out.trans (k.out.mono K4.out.size)) kB)
  have HB5 := Lib.hid (below_block kB (lt_of_block (BX.out _ k.out)) (BX.out _ k.out))
  have IA := Lib.hid ((IAA.out _ k.out).below kB)
  have IB := Lib.hid iB
  clear QC iB kB Hd z0 z1 z2 z3 z4 z5 z6 z7 z8 z9 k BX CC IAA gd K4 HB4
  have x0 : w5.cell? ⟨w.heap.size, 0, none⟩ = some (.int .i64 a0_0) := cell_of_block HB5.out rfl
  have x1 : w5.cell? ⟨w.heap.size, 1, none⟩ = some (.slice pm nm cm) := cell_of_block HB5.out rfl
  have x2 : w5.cell? ⟨w.heap.size, 2, none⟩ = some (.slice po no co) := cell_of_block HB5.out rfl
  have x3 : w5.cell? ⟨w.heap.size, 3, none⟩ = some (.slice pr nr cr) := cell_of_block HB5.out rfl
  have x4 : w5.cell? ⟨w.heap.size, 4, none⟩ = some (.slice pw nw cw) := cell_of_block HB5.out rfl
  have x5 : w5.cell? ⟨w.heap.size, 5, none⟩ = some (.bool a0_5) := cell_of_block HB5.out rfl
  have x6 : w5.cell? ⟨w.heap.size, 6, none⟩ = some (.bool a0_6) := cell_of_block HB5.out rfl
  have x7 : w5.cell? ⟨w.heap.size, 7, none⟩ = some (.bool a0_7) := cell_of_block HB5.out rfl
  have x8 : w5.cell? ⟨w.heap.size, 8, none⟩ = some (.bool a0_8) := cell_of_block HB5.out rfl
  have x9 : w5.cell? ⟨w.heap.size, 9, none⟩ = some (.bool a0_9) := cell_of_block HB5.out rfl
  go_wp2_with fail
  ((with_reducible refine (TC.out _).mono ?_); rintro e w6 ⟨rfl, k⟩)
  have K6 := Lib.hid (k_call K5.out k)
  have HB6 := Lib.hid (below_block k (lt_of_block HB5.out) HB5.out)
  replace IA := Lib.hid (IA.out.below k)
  replace IB := Lib.hid (IB.out.below k)
  clear k K5 HB5 x0 x1 x2 x3 x4 x5 x6 x7 x8 x9
  have BX := Lib.hid (fun U (k : Below w6.heap.size w6 U) => below_block k (lt_of_block HB6.out) HB6.out)
  have CC := Lib.hid (fun U (k : Below w6.heap.size w6 U) => C0.out U (K6.out.trans (k.mono K6.out.size)))
  have IAA := Lib.hid (fun U (k : Below w6.heap.size w6 U) => And.intro (IA.out.below k) (IB.out.below k))
  have k := Lib.hid (Below.refl w6.heap.size w6)
  clear IA IB
  go_upto_region 8 with fail
  have He := Lib.hid (heap_new w6 (.cells #[.int .i64 a0_0, .slice pm nm cm, .slice po no co, .slice pr nr cr, .slice pw nw cw, .bool a0_5, .bool a0_6, .bool a0_7, .bool a0_8, .bool a0_9] 28))
  have ge9 := Lib.hid k.out.size
  replace k := Lib.hid (k.out.alloc k.out.size (.cells #[.int .i64 a0_0, .slice pm nm cm, .slice po no co, .slice pr nr cr, .slice pw nw cw, .bool a0_5, .bool a0_6, .bool a0_7, .bool a0_8, .bool a0_9] 28))
  generalize w6.alloc (.cells #[.int .i64 a0_0, .slice pm nm cm, .slice po no co, .slice pr nr cr, .slice pw nw cw, .bool a0_5, .bool a0_6, .bool a0_7, .bool a0_8, .bool a0_9] 28) = U1 at He k ⊢
  obtain ⟨eb, heb⟩ : ∃ b, b = w6.heap.size := ⟨_, rfl⟩
  have ge := Lib.hid (show w6.heap.size ≤ eb by rw [heb]; exact ge9.out)
  rw [← heb] at He  ⊢
  clear heb ge9
  have z2 := cell_of_block (j := 2) (v := .slice po no co) He.out rfl
  have f4 := free_of_block (j := 2) He.out
  go_upto_region 9 with fail
  clear z2 f4
  have He9 := Lib.hid (show (U1.setCell ⟨eb, 2, none⟩ (.slice none 0 0)).heap[eb]? = some (.cells #[.int .i64 a0_0, .slice pm nm cm, .slice none 0 0, .slice pr nr cr, .slice pw nw cw, .bool a0_5, .bool a0_6, .bool a0_7, .bool a0_8, .bool a0_9] 28 (0, 0)) from heap_store (j := 2) (v := .slice none 0 0) He.out)
  replace k := Lib.hid (k.out.setCell (p := ⟨eb, 2, none⟩) ge.out (.slice none 0 0))
  replace He := He9
  clear He9
  generalize U1.setCell ⟨eb, 2, none⟩ (.slice none 0 0) = U2 at He k ⊢
  have y2 := cell_of_block (j := 2) (v := .slice po no co) (BX.out _ k.out) rfl
  have L2 := Lib.hid (show la0_2.length ≤ 40 from FL0.out.2.1)
  have ON := Lib.hid (show ∃ b off, no = la0_2.length ∧ (la0_2 ≠ [] → po = some ⟨b, off, none⟩) ∧ ∀ j x, la0_2[j]? = some x → w6.cell? ⟨b, off + j, none⟩ = some (.int .i64 x) from by
    obtain ⟨p1, c1, b, off, hv, hp, hc⟩ := (CC.out _ (Below.refl w6.heap.size w6)).o
    cases hv
    exact ⟨b, off, rfl, hp, hc⟩)
  obtain ⟨b, off, hno, hpo, hco⟩ := ON.out
  have HNO := Lib.hid hno
  have HPO := Lib.hid hpo
  have HCO := Lib.hid hco
  have hn40 : no ≤ 40 := by rw [hno]; exact L2.out
  have hw1 : IntKind.i64.wrap ((no : Int) - 1) = (no : Int) - 1 := IntWalk.i64_in _ (by omega)
  have hw2 : wrap64 ((no : Int) - 1) = (no : Int) - 1 := by unfold wrap64; omega
  clear hno hpo hco ON
  obtain ⟨i0, hi0, hz0, hz1, hz2⟩ := info_parts info_FI
  go_wp2_with fail
  clear hw1 hw2 y2
  go_loopw [7] (fun i wr => ∃ (j nl c : Nat) (q : Option Addr) (t : Int), j ≤ no ∧ i = .int .i64 t ∧ Hid (t = (j : Int) - 1) ∧ Hid (wr.heap[eb]? = some (.cells #[.int .i64 a0_0, .slice pm nm cm, .slice q nl c, .slice pr nr cr, .slice pw nw cw, .bool a0_5, .bool a0_6, .bool a0_7, .bool a0_8, .bool a0_9] 28 (0, 0))) ∧ Hid (wr.ownsRow (eb + 1) 3 1 (.slice q nl c) nl ((revD (la0_2.drop j)).map (Value.int .i64))) ∧ Hid (Below w6.heap.size w6 wr)) (fun i _ => (intOf i + 1).toNat)
  case atStart => exact ⟨no, 0, 0, none, _, Nat.le_refl _, rfl, Lib.hid rfl, He, Lib.hid (by rw [HNO.out, List.drop_length]; exact World.ownsRow_nil _ _ _ _), k⟩
  case round =>
    clear He k
    obtain ⟨j, nl, c, q, t, hj, rfl, HT, HE, HO, k⟩ := hrel
    rcases j with _ | j
    · have ht : t = -1 := by have := HT.out; omega
      subst ht
      have O9 := Lib.hid (show wr.ownsRow (eb + 1) 3 1 (.slice q nl c) nl ((revD la0_2).map (Value.int .i64)) from by have h := HO.out; rw [List.drop_zero] at h; exact h)
      have hnl := Lib.hid (show nl = (revD la0_2).length from by have h := O9.out.1; simpa using h.symm)
      have I9 := Lib.hid (IntsAt.of_owns O9.out)
      have C9 := Lib.hid (CC.out _ k.out)
      have IX := Lib.hid (IAA.out _ k.out)
      have KW := Lib.hid (K6.out.trans (k.out.mono K6.out.size))
      have CE := Lib.hid (show CasOk wr (.slice pm nm cm) (.slice q nl c) (.slice pr nr cr) (.slice pw nw cw) la0_1 (revD la0_2) la0_3 la0_4 from ⟨C9.out.m, I9.out, C9.out.r, C9.out.n, C9.out.lm, by have := L2.out; rw [revD_len]; omega, C9.out.lr, C9.out.ln, C9.out.im, C9.out.io.of_mem (fun x hx => revD_mem hx), C9.out.ir, C9.out.iN⟩)
      have E1 := floL_opn ⟨a0_0, la0_1, la0_2, la0_3, la0_4, a0_5, a0_6, a0_7, a0_8, a0_9⟩ (revD la0_2) (fun x => revD_has la0_2 x)
      have E2 := decL_opn ⟨a0_0, la0_1, la0_2, la0_3, la0_4, a0_5, a0_6, a0_7, a0_8, a0_9⟩ (revD la0_2) (fun x => revD_has la0_2 x)
      have CF := Lib.hid (fun U (k : Below wr.heap.size wr U) => flood_c a0_0 _ _ _ _ a0_5 a0_6 a0_7 a0_8 a0_9 la0_1 (revD la0_2) la0_3 la0_4 U (CE.out.below k) la0_0 ua0_0)
      have CD := Lib.hid (fun U (k : Below wr.heap.size wr U) => decide_c a0_0 _ _ _ _ a0_5 a0_6 a0_7 a0_8 a0_9 la0_1 (revD la0_2) la0_3 la0_4 U (CE.out.below k) la0_0 ua0_0)
      rw [E1] at CF
      rw [E2] at CD
      unfold IPost at CF CD
      have CC2 := Lib.hid (fun U (k : Below wr.heap.size wr U) => decide_c a0_0 _ _ _ _ a0_5 a0_6 a0_7 a0_8 a0_9 la0_1 la0_2 la0_3 la0_4 U (C9.out.below k) la0_0 ua0_0)
      unfold IPost at CC2
      have LF := Lib.hid (show (floL ⟨a0_0, la0_1, la0_2, la0_3, la0_4, a0_5, a0_6, a0_7, a0_8, a0_9⟩).length ≤ 40 from Nat.le_trans (flo_len ⟨a0_0, la0_1, la0_2, la0_3, la0_4, a0_5, a0_6, a0_7, a0_8, a0_9⟩) FL0.out.1)
      have LD := Lib.hid (show (decL ⟨a0_0, la0_1, la0_2, la0_3, la0_4, a0_5, a0_6, a0_7, a0_8, a0_9⟩).length ≤ 40 from Nat.le_trans (decL_len ⟨a0_0, la0_1, la0_2, la0_3, la0_4, a0_5, a0_6, a0_7, a0_8, a0_9⟩) FL0.out.1)
      have HBX := Lib.hid (BX.out _ k.out)
      clear E1 E2 HO O9 I9 CE CC IAA BX C0 FL0 hj k
      generalize floL ⟨a0_0, la0_1, la0_2, la0_3, la0_4, a0_5, a0_6, a0_7, a0_8, a0_9⟩ = DF at CF IX LF
      generalize decL ⟨a0_0, la0_1, la0_2, la0_3, la0_4, a0_5, a0_6, a0_7, a0_8, a0_9⟩ = DD at CD CC2 LD
      obtain ⟨wl, hwl⟩ : ∃ wl, wl = wr := ⟨_, rfl⟩
      rw [← hwl] at HE CF CD CC2 IX KW HBX ⊢
      clear hwl
      have z0 := cell_of_block (j := 0) (v := .int .i64 a0_0) HE.out rfl
      have z1 := cell_of_block (j := 1) (v := .slice pm nm cm) HE.out rfl
      have z2 := cell_of_block (j := 2) (v := .slice q nl c) HE.out rfl
      have z3 := cell_of_block (j := 3) (v := .slice pr nr cr) HE.out rfl
      have z4 := cell_of_block (j := 4) (v := .slice pw nw cw) HE.out rfl
      have z5 := cell_of_block (j := 5) (v := .bool a0_5) HE.out rfl
      have z6 := cell_of_block (j := 6) (v := .bool a0_6) HE.out rfl
      have z7 := cell_of_block (j := 7) (v := .bool a0_7) HE.out rfl
      have z8 := cell_of_block (j := 8) (v := .bool a0_8) HE.out rfl
      have z9 := cell_of_block (j := 9) (v := .bool a0_9) HE.out rfl
      go_wp2_with fail
      ((with_reducible refine (CF.out wl (Below.refl _ _)).mono ?_); rintro e v1 ⟨uX, rfl, iX, kX⟩)
      have IXX := Lib.hid iX
      have HE1 := Lib.hid (below_block kX (lt_of_block HE.out) HE.out)
      have kk1 := Lib.hid kX
      clear iX kX CF z0 z1 z2 z3 z4 z5 z6 z7 z8 z9
      have z0 := cell_of_block (j := 0) (v := .int .i64 a0_0) HE1.out rfl
      have z1 := cell_of_block (j := 1) (v := .slice pm nm cm) HE1.out rfl
      have z2 := cell_of_block (j := 2) (v := .slice q nl c) HE1.out rfl
      have z3 := cell_of_block (j := 3) (v := .slice pr nr cr) HE1.out rfl
      have z4 := cell_of_block (j := 4) (v := .slice pw nw cw) HE1.out rfl
      have z5 := cell_of_block (j := 5) (v := .bool a0_5) HE1.out rfl
      have z6 := cell_of_block (j := 6) (v := .bool a0_6) HE1.out rfl
      have z7 := cell_of_block (j := 7) (v := .bool a0_7) HE1.out rfl
      have z8 := cell_of_block (j := 8) (v := .bool a0_8) HE1.out rfl
      have z9 := cell_of_block (j := 9) (v := .bool a0_9) HE1.out rfl
      go_wp2_with fail
      ((with_reducible refine (CD.out v1 kk1.out).mono ?_); rintro e v2 ⟨uY, rfl, iY, kY⟩)
      have IYY := Lib.hid iY
      replace IXX := Lib.hid (IXX.out.below kY)
      have kk2 := Lib.hid (kk1.out.trans (kY.mono kk1.out.size))
      have HBX2 := Lib.hid (below_block kk2.out (lt_of_block HBX.out) HBX.out)
      clear iY kY CD kk1 HE1 z0 z1 z2 z3 z4 z5 z6 z7 z8 z9
      have z0 := cell_of_block (j := 0) (v := .int .i64 a0_0) HBX2.out rfl
      have z1 := cell_of_block (j := 1) (v := .slice pm nm cm) HBX2.out rfl
      have z2 := cell_of_block (j := 2) (v := .slice po no co) HBX2.out rfl
      have z3 := cell_of_block (j := 3) (v := .slice pr nr cr) HBX2.out rfl
      have z4 := cell_of_block (j := 4) (v := .slice pw nw cw) HBX2.out rfl
      have z5 := cell_of_block (j := 5) (v := .bool a0_5) HBX2.out rfl
      have z6 := cell_of_block (j := 6) (v := .bool a0_6) HBX2.out rfl
      have z7 := cell_of_block (j := 7) (v := .bool a0_7) HBX2.out rfl
      have z8 := cell_of_block (j := 8) (v := .bool a0_8) HBX2.out rfl
      have z9 := cell_of_block (j := 9) (v := .bool a0_9) HBX2.out rfl
      go_wp2_with fail
      ((with_reducible refine (TC.out _).mono ?_); rintro e v3 ⟨rfl, k3⟩)
      replace IXX := Lib.hid (IXX.out.below k3)
      replace IYY := Lib.hid (IYY.out.below k3)
      have kk3 := Lib.hid (kk2.out.trans (k3.mono kk2.out.size))
      clear k3 kk2 TC HBX2 z0 z1 z2 z3 z4 z5 z6 z7 z8 z9
      go_wp2_with fail
      ((with_reducible refine (CC2.out _ kk3.out).mono ?_); rintro e v4 ⟨uZ, rfl, iZ, k4⟩)
      have IZZ := Lib.hid iZ
      replace IXX := Lib.hid (IXX.out.below k4)
      replace IYY := Lib.hid (IYY.out.below k4)
      have kk4 := Lib.hid (kk3.out.trans (k4.mono kk3.out.size))
      have IA4 := Lib.hid (IX.out.1.below kk4.out)
      have IB4 := Lib.hid (IX.out.2.below kk4.out)
      have K4 := Lib.hid (KW.out.trans (kk4.out.mono KW.out.size))
      clear iZ k4 kk3 CC2 IX kk4 KW HBX HE
      have S1 := Lib.hid (fun q => sameI_c _ _ DF (v4.drewN q) (by have := LF.out; omega) (IA4.out.below (below_drewN (Below.refl _ v4) q)) (IB4.out.below (below_drewN (Below.refl _ v4) q)))
      have S2 := Lib.hid (fun q => sameI_c _ _ DF (v4.drewN q) (by have := LF.out; omega) (IA4.out.below (below_drewN (Below.refl _ v4) q)) (IXX.out.below (below_drewN (Below.refl _ v4) q)))
      have S3 := Lib.hid (fun q => sameI_c _ _ DD (v4.drewN q) (by have := LD.out; omega) (IYY.out.below (below_drewN (Below.refl _ v4) q)) (IZZ.out.below (below_drewN (Below.refl _ v4) q)))
      have S10 := Lib.hid (sameI_c _ _ DF v4 (by have := LF.out; omega) IA4.out IB4.out)
      have SQ : ∀ a b, (v4.drewN a).drewN b = v4.drewN (a + b) := fun a b => World.drewN_drewN v4 a b
      go_wp2_with fail
      ((with_reducible refine S10.out.mono ?_); rintro e v5 ⟨rfl, q5, rfl⟩)
      go_wp2_with fail
      ((with_reducible refine (S2.out q5).mono ?_); rintro e v6 ⟨rfl, q6, rfl⟩)
      rw [SQ]
      go_wp2_with fail
      ((with_reducible refine (S3.out _).mono ?_); rintro e v7 ⟨rfl, q7, rfl⟩)
      rw [SQ]
      have K7 := Lib.hid (below_drewN K4.out (q5 + q6 + q7))
      generalize v4.drewN (q5 + q6 + q7) = v7 at K7 ⊢
      clear S1 S2 S3 S10 SQ IA4 IB4 IXX IYY IZZ K4
      go_wp2_with fail
      ((with_reducible refine (HL.out _).mono ?_); rintro e v8 ⟨rfl, k8⟩)
      go_wp2_with fail
      go_ret
      exact ⟨rfl, k_call K7.out k8⟩
    · obtain rfl : t = (j : Int) := by have := HT.out; omega
      obtain ⟨x, hx⟩ : ∃ x, la0_2[j]? = some x := ⟨_, List.getElem?_eq_getElem (by rw [← HNO.out]; omega)⟩
      have hne : la0_2 ≠ [] := by rintro rfl; simp at hx
      obtain rfl := HPO.out hne
      have x0 : wr.cell? ⟨b, off + j, none⟩ = some (.int .i64 x) := icell_below k.out (HCO.out j x hx)
      have HTK := Lib.hid (revD_take hx)
      have hnl := Lib.hid (show nl ≤ 80 from by
        have h := HO.out.1
        rw [List.length_map, revD_len, List.length_drop] at h
        have := HNO.out
        omega)
      have d1 : decide ((0 : Int) ≤ (j : Int)) = true := decide_eq_true (by omega)
      have d5 : (0 : Int) ≤ (j : Int) := by omega
      have d6 : (j : Int) < (no : Int) := by omega
      have z2 := cell_of_block (j := 2) (v := .slice q nl c) HE.out rfl
      have hb2 := BX.out _ k.out
      have y2 := cell_of_block (j := 2) (v := .slice (some ⟨b, off, none⟩) no co) hb2 rfl
      have fr0 := free_of_block (j := 2) HE.out
      have HBk := Lib.hid hb2
      clear hx hne hb2
      go_upto_region 12 with fail
      have OA := Lib.hid (show ((wr.alloc (.cells #[.int .i64 x, .int .i64 x] 3)).drew).ownsRow (eb + 1) 3 1 (.slice q nl c) nl ((revD (la0_2.drop (j + 1))).map (Value.int .i64)) from HO.out.alloc _)
      have CA := Lib.hid (show ∀ i u, [Value.int .i64 x, .int .i64 x][i]? = some u → ((wr.alloc (.cells #[.int .i64 x, .int .i64 x] 3)).drew).cell? ((⟨wr.heap.size, 0, none⟩ : Addr).add i) = some u from int_fresh wr [.int .i64 x, .int .i64 x] 3)
      have n1 := Lib.hid (show nl + 2 ≤ maxLen by have := hnl.out; unfold maxLen; omega)
      have n2 := Lib.hid (show (nl + 2) * 8 ≤ 140737488355328 by have := hnl.out; omega)
      have hsz1 := Lib.hid (show eb + 1 ≤ ((wr.alloc (.cells #[.int .i64 x, .int .i64 x] 3)).drew).heap.size by have := lt_of_block HE.out; show eb + 1 ≤ (wr.alloc _).heap.size; simp; omega)
      have oc := Lib.hid (show ∀ u ∈ [Value.int .i64 x, .int .i64 x], u.oneCell' = true from by intro u hu; simp at hu; rcases hu with rfl | rfl <;> rfl)
      have EA := Lib.hid (show ((wr.alloc (.cells #[.int .i64 x, .int .i64 x] 3)).drew).heap[eb]? = _ from heap_old HE.out)
      have KA := Lib.hid (show Below w6.heap.size w6 ((wr.alloc (.cells #[.int .i64 x, .int .i64 x] 3)).drew) from (k.out.alloc k.out.size (.cells #[.int .i64 x, .int .i64 x] 3)).drew)
      have hel : eb < wr.heap.size := lt_of_block HE.out
      have hbl : b < wr.heap.size := icell_lt x0
      have hwl : w.heap.size < wr.heap.size := lt_of_block HBk.out
      clear HO HT
      go_region_law (refine step_append_lies _ rfl _ _ 22 rfl (eb + 1) 3 i0 (.int .i64 0) 1 8 Try.underlying22 hi0 hz0 hz1 hz2 rfl (by decide) (.slice q nl c) nl ((revD (la0_2.drop (j + 1))).map (Value.int .i64)) rfl OA.out ⟨wr.heap.size, 0, none⟩ 2 2 [.int .i64 x, .int .i64 x] rfl rfl CA.out oc.out (by decide) n1.out n2.out hsz1.out _ rfl ?_; intro g7 c7 w7 hown7 hg7 hat7 hlt7; have E7 := Lib.hid (f_keeps OA.out hg7 EA.out (by decide)); have O7 := Lib.hid hown7; have K7 := Lib.hid (KA.out.grown hg7 (Nat.le_trans KA.out.size (Nat.le_refl _)) (fun i hi => by have := (OA.out.lt i hi).1; have := ge.out; omega)); have z7 := cell_of_block (j := 2) E7.out rfl; have fr := (fun i : Nat => free_of_block (j := i) E7.out); clear hown7 hg7 hat7 hlt7)
      all_goals
        have O8 := Lib.hid (f_set (c := eb) (j := 2) (u := .slice (some ⟨g7, 0, none⟩) (nl + 2) c7) O7.out E7.out (by decide))
        have E8 := Lib.hid (heap_store (j := 2) (v := .slice (some ⟨g7, 0, none⟩) (nl + 2) c7) E7.out)
        have K8 := Lib.hid (K7.out.setCell (p := ⟨eb, 2, none⟩) ge.out (.slice (some ⟨g7, 0, none⟩) (nl + 2) c7))
        have hw1 : IntKind.i64.wrap ((j : Int) - 1) = (j : Int) - 1 := IntWalk.i64_in _ (by omega)
        have hw2 : wrap64 ((j : Int) - 1) = (j : Int) - 1 := by unfold wrap64; omega
        clear z7 fr z2 y2 x0 fr0
        go_wp2_with fail
        go_roundw
        case rel => exact ⟨j, nl + 2, c7, _, _, by omega, rfl, Lib.hid rfl, E8, Lib.hid (by rw [HTK.out, List.map_append]; exact O8.out), K8⟩
        case measure => first | (simp [intOf]; done) | (simp [intOf]; omega)

theorem own : ownKnob Try.prog.godebug = none := by kernel_rfl
theorem laidOut : laidOutB Try.prog = true := by kernel_rfl

set_option maxHeartbeats 1000000 in
set_option maxRecDepth 100000 in
theorem lifted (os : Os) (started : os.Started) (H : Type) (enc : TypeId × Value → H) :
    ReturnsInHanded {} Try.checked os 7 .any (Rows.forwardAllSpec.pre6 enc Try.prog Try.f7 Rows.forwardAllRow.domain false) (Rows.forwardAllSpec.post enc Try.prog Try.f7 false true false false) := by
  refine returnsInHanded_of_change_sized (C := Try.checked) own started (by kernel_rfl) Try.func7
    (ChangeSpec.witness6 (enc := enc) (C := Try.checked) false ⟨#[], #[.agg #[.int .i64 0, .slice none 0 0, .slice none 0 0, .slice none 0 0, .slice none 0 0, .bool false, .bool false, .bool false, .bool false, .bool false]], []⟩ 8 (by kernel_rfl) (by kernel_rfl) (by kernel_rfl) (by kernel_rfl)) ?_
  intro W base args ds gs before hval0 hW hcnd hsz0 hholds
  have hval : ∀ (j : Nat) t v, Try.f7.params[j]? = some t → args[j]? = some v → Value.okWide Try.prog W .any base t v := hval0
  have hsz : (DataW.weightsEach Try.prog (Try.f7.params.toList ++ Rows.forwardAllSpec.plain.varTypes Try.prog) (ds ++ gs)).all (· ≤ reachBytes) = true := hsz0
  have hW' := hW
  obtain ⟨p, q, hA0, hV, rfl, hfz, hnd⟩ := hW
  have hA : DataW.TrodAll enc Try.prog W 0 (fun _ => true) true Try.f7.params.toList args.toList ds p := hA0
  rw [Try.params7] at hA hval hsz
  obtain ⟨v0, vs0, d0, ds0, p0, q0, hargs, rfl, rfl, h0, r0⟩ := trodAll_cons hA
  obtain ⟨rfl, rfl, rfl⟩ := trodAll_nil r0
  obtain rfl : args = #[v0] := by cases args; simp_all
  obtain ⟨rfl, rfl⟩ := trodVars_none hV
  have k0 := h0
  have lt0 : ∀ x ∈ p0, x.block < W.heap.size := by obtain ⟨m, hm⟩ := k0; exact DataW.trod_lt m _ _ _ hm
  obtain ⟨cs0, rfl, hz0⟩ := okWide_struct Try.underlying24 (hval 0 24 v0 rfl rfl)
  obtain ⟨l0⟩ := cs0
  obtain ⟨c0_0, c0_1, c0_2, c0_3, c0_4, c0_5, c0_6, c0_7, c0_8, c0_9, rfl⟩ := list10 l0 (hz0.trans (by kernel_rfl))
  obtain ⟨fu0, hf0⟩ := h0
  obtain ⟨xs0, m0, -, hx0, -, hn0, hg0⟩ := DataW.trod_struct Try.underlying24 hf0
  obtain ⟨y0_0, y0_1, y0_2, y0_3, y0_4, y0_5, y0_6, y0_7, y0_8, y0_9, rfl⟩ := list10 xs0 hn0
  simp only [Prod.mk.injEq] at hx0
  obtain ⟨rfl, rfl⟩ := hx0
  have g0_0 : DataW.trod enc Try.prog W 0 (fun _ => true) true m0 3 (List.take (Try.prog.cellsOf 3) (List.drop 0 [c0_0, c0_1, c0_2, c0_3, c0_4, c0_5, c0_6, c0_7, c0_8, c0_9])) = some y0_0 := hg0 0 _ rfl
  rw [show Try.prog.cellsOf 3 = 1 from by kernel_rfl] at g0_0
  replace g0_0 : DataW.trod enc Try.prog W 0 (fun _ => true) true m0 3 [c0_0] = some y0_0 := g0_0
  have g0_1 : DataW.trod enc Try.prog W 0 (fun _ => true) true m0 22 (List.take (Try.prog.cellsOf 22) (List.drop 1 [c0_0, c0_1, c0_2, c0_3, c0_4, c0_5, c0_6, c0_7, c0_8, c0_9])) = some y0_1 := hg0 1 _ rfl
  rw [show Try.prog.cellsOf 22 = 1 from by kernel_rfl] at g0_1
  replace g0_1 : DataW.trod enc Try.prog W 0 (fun _ => true) true m0 22 [c0_1] = some y0_1 := g0_1
  have g0_2 : DataW.trod enc Try.prog W 0 (fun _ => true) true m0 22 (List.take (Try.prog.cellsOf 22) (List.drop 2 [c0_0, c0_1, c0_2, c0_3, c0_4, c0_5, c0_6, c0_7, c0_8, c0_9])) = some y0_2 := hg0 2 _ rfl
  rw [show Try.prog.cellsOf 22 = 1 from by kernel_rfl] at g0_2
  replace g0_2 : DataW.trod enc Try.prog W 0 (fun _ => true) true m0 22 [c0_2] = some y0_2 := g0_2
  have g0_3 : DataW.trod enc Try.prog W 0 (fun _ => true) true m0 22 (List.take (Try.prog.cellsOf 22) (List.drop 3 [c0_0, c0_1, c0_2, c0_3, c0_4, c0_5, c0_6, c0_7, c0_8, c0_9])) = some y0_3 := hg0 3 _ rfl
  rw [show Try.prog.cellsOf 22 = 1 from by kernel_rfl] at g0_3
  replace g0_3 : DataW.trod enc Try.prog W 0 (fun _ => true) true m0 22 [c0_3] = some y0_3 := g0_3
  have g0_4 : DataW.trod enc Try.prog W 0 (fun _ => true) true m0 22 (List.take (Try.prog.cellsOf 22) (List.drop 4 [c0_0, c0_1, c0_2, c0_3, c0_4, c0_5, c0_6, c0_7, c0_8, c0_9])) = some y0_4 := hg0 4 _ rfl
  rw [show Try.prog.cellsOf 22 = 1 from by kernel_rfl] at g0_4
  replace g0_4 : DataW.trod enc Try.prog W 0 (fun _ => true) true m0 22 [c0_4] = some y0_4 := g0_4
  have g0_5 : DataW.trod enc Try.prog W 0 (fun _ => true) true m0 4 (List.take (Try.prog.cellsOf 4) (List.drop 5 [c0_0, c0_1, c0_2, c0_3, c0_4, c0_5, c0_6, c0_7, c0_8, c0_9])) = some y0_5 := hg0 5 _ rfl
  rw [show Try.prog.cellsOf 4 = 1 from by kernel_rfl] at g0_5
  replace g0_5 : DataW.trod enc Try.prog W 0 (fun _ => true) true m0 4 [c0_5] = some y0_5 := g0_5
  have g0_6 : DataW.trod enc Try.prog W 0 (fun _ => true) true m0 4 (List.take (Try.prog.cellsOf 4) (List.drop 6 [c0_0, c0_1, c0_2, c0_3, c0_4, c0_5, c0_6, c0_7, c0_8, c0_9])) = some y0_6 := hg0 6 _ rfl
  rw [show Try.prog.cellsOf 4 = 1 from by kernel_rfl] at g0_6
  replace g0_6 : DataW.trod enc Try.prog W 0 (fun _ => true) true m0 4 [c0_6] = some y0_6 := g0_6
  have g0_7 : DataW.trod enc Try.prog W 0 (fun _ => true) true m0 4 (List.take (Try.prog.cellsOf 4) (List.drop 7 [c0_0, c0_1, c0_2, c0_3, c0_4, c0_5, c0_6, c0_7, c0_8, c0_9])) = some y0_7 := hg0 7 _ rfl
  rw [show Try.prog.cellsOf 4 = 1 from by kernel_rfl] at g0_7
  replace g0_7 : DataW.trod enc Try.prog W 0 (fun _ => true) true m0 4 [c0_7] = some y0_7 := g0_7
  have g0_8 : DataW.trod enc Try.prog W 0 (fun _ => true) true m0 4 (List.take (Try.prog.cellsOf 4) (List.drop 8 [c0_0, c0_1, c0_2, c0_3, c0_4, c0_5, c0_6, c0_7, c0_8, c0_9])) = some y0_8 := hg0 8 _ rfl
  rw [show Try.prog.cellsOf 4 = 1 from by kernel_rfl] at g0_8
  replace g0_8 : DataW.trod enc Try.prog W 0 (fun _ => true) true m0 4 [c0_8] = some y0_8 := g0_8
  have g0_9 : DataW.trod enc Try.prog W 0 (fun _ => true) true m0 4 (List.take (Try.prog.cellsOf 4) (List.drop 9 [c0_0, c0_1, c0_2, c0_3, c0_4, c0_5, c0_6, c0_7, c0_8, c0_9])) = some y0_9 := hg0 9 _ rfl
  rw [show Try.prog.cellsOf 4 = 1 from by kernel_rfl] at g0_9
  replace g0_9 : DataW.trod enc Try.prog W 0 (fun _ => true) true m0 4 [c0_9] = some y0_9 := g0_9
  clear hg0
  obtain ⟨a0_0, e0_0, rfl, w0_0⟩ := DataW.trod_int Try.underlying3 g0_0
  simp at e0_0
  subst e0_0
  obtain ⟨v0_1, L0_1, e0_1, hh0_1, qq0_1, ss0_1⟩ := ints_open g0_1
  simp at e0_1
  subst e0_1
  obtain ⟨v0_2, L0_2, e0_2, hh0_2, qq0_2, ss0_2⟩ := ints_open g0_2
  simp at e0_2
  subst e0_2
  obtain ⟨v0_3, L0_3, e0_3, hh0_3, qq0_3, ss0_3⟩ := ints_open g0_3
  simp at e0_3
  subst e0_3
  obtain ⟨v0_4, L0_4, e0_4, hh0_4, qq0_4, ss0_4⟩ := ints_open g0_4
  simp at e0_4
  subst e0_4
  obtain ⟨a0_5, e0_5, rfl⟩ := DataW.trod_bool Try.underlying4 g0_5
  simp at e0_5
  subst e0_5
  obtain ⟨a0_6, e0_6, rfl⟩ := DataW.trod_bool Try.underlying4 g0_6
  simp at e0_6
  subst e0_6
  obtain ⟨a0_7, e0_7, rfl⟩ := DataW.trod_bool Try.underlying4 g0_7
  simp at e0_7
  subst e0_7
  obtain ⟨a0_8, e0_8, rfl⟩ := DataW.trod_bool Try.underlying4 g0_8
  simp at e0_8
  subst e0_8
  obtain ⟨a0_9, e0_9, rfl⟩ := DataW.trod_bool Try.underlying4 g0_9
  simp at e0_9
  subst e0_9
  have ba0_0 := bounds_i64 w0_0
  clear hA0 hval0
  refine (walk a0_0 c0_1 L0_1 c0_2 L0_2 c0_3 L0_3 c0_4 L0_4 a0_5 a0_6 a0_7 a0_8 a0_9 W ba0_0.1 ba0_0.2 hh0_1 qq0_1 ss0_1 hh0_2 qq0_2 ss0_2 hh0_3 qq0_3 ss0_3 hh0_4 qq0_4 ss0_4).mono fun e W' ⟨he, bel⟩ => ?_
  subst he
  exact ⟨_, rfl, _, _, _, [], _, [], hW', trodAll_mk1 (shut_bool Try.underlying4 _), (trodAll_cons_mk (Below.trod laidOut (by kernel_rfl) (of_decide_eq_true (by kernel_rfl)) k0 bel lt0) trodAll_mk0), rfl, bel.frame _, fun h => by cases h⟩

theorem over : Rows.forwardAllRow.holds Try.pinned (OpenSpec.ofChange Rows.forwardAllSpec) :=
  OpenClaim.holds_of_wide 7 Try.f7 rfl rfl rfl rfl rfl rfl rfl ⟨rfl, rfl, rfl, rfl, rfl⟩ rfl rfl rfl rfl rfl (by kernel_rfl) Try.func7 (by kernel_rfl)
    (of_decide_eq_true (by kernel_rfl)) (by unfold Func.isWrapper; first | (rw [if_pos (by decide +kernel)]; kernel_rfl) | (rw [if_neg (by decide +kernel)]; exact ⟨rfl, rfl⟩))
    (fun os started H enc _ => lifted os started H enc)

/-- The statement. -/
theorem proved : Rows.ForwardAllSaid := over
#print axioms proved
end Go.Proofs.Ytpaehbmhdjnofaa.forwardAllLaw
