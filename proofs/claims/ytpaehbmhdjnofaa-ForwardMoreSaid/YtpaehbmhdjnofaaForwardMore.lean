/-
  'siphonlaw22.ForwardMore' returns true, whatever the input, and each argument reads behind the call as it read before. Conditions: none beyond those that the row itself states.
-/
import Derived.Test.YtpaehbmhdjnofaaRows
import Derived.Test.YtpaehbmhdjnofaaFwM
import Derived.WalkKit
import Derived.ProofKit
import Derived.OpenShut
import Derived.ShutString
import Derived.ChangeOld
import Derived.Below
import Derived.Carry
import Derived.SizedLaws
import Derived.Lib.SmallJoins
import Derived.ChangeArms
import Derived.WideShapes
namespace Go.Proofs.Ytpaehbmhdjnofaa.forwardMoreLaw
open Go.ChangeShapes Go.WideShapes Go.ChangeAt Go.RowKit Go.Joins
open Go.ChangeMaps (open_string shut_string)
set_option linter.unusedVariables false

theorem list10 {α : Type} (l : List α) (h : l.length = 10) : ∃ x0 x1 x2 x3 x4 x5 x6 x7 x8 x9 : α, l = [x0, x1, x2, x3, x4, x5, x6, x7, x8, x9] := by
  match l, h with
  | [x0, x1, x2, x3, x4, x5, x6, x7, x8, x9], _ => exact ⟨x0, x1, x2, x3, x4, x5, x6, x7, x8, x9, rfl⟩

set_option linter.unusedSimpArgs false
set_option maxHeartbeats 16000000 in
set_option maxRecDepth 100000 in
theorem walk (a0_0 : Int) (a0_1 : Value) (la0_1 : List Int) (a0_2 : Value) (la0_2 : List Int) (a0_3 : Value) (la0_3 : List Int) (a0_4 : Value) (la0_4 : List Int) (a0_5 : Bool) (a0_6 : Bool) (a0_7 : Bool) (a0_8 : Bool) (a0_9 : Bool) (a1 : Int) (w : World) (la0_0 : -9223372036854775808 ≤ a0_0) (ua0_0 : a0_0 ≤ 9223372036854775807) (ha0_1 : IntsAt w a0_1 la0_1) (qa0_1 : la0_1.length ≤ maxLen) (sa0_1 : I64 la0_1) (ha0_2 : IntsAt w a0_2 la0_2) (qa0_2 : la0_2.length ≤ maxLen) (sa0_2 : I64 la0_2) (ha0_3 : IntsAt w a0_3 la0_3) (qa0_3 : la0_3.length ≤ maxLen) (sa0_3 : I64 la0_3) (ha0_4 : IntsAt w a0_4 la0_4) (qa0_4 : la0_4.length ≤ maxLen) (sa0_4 : I64 la0_4) (la1 : -9223372036854775808 ≤ a1) (ua1 : a1 ≤ 9223372036854775807) :
    Calls Try.prog 6 #[.agg #[.int .i64 a0_0, a0_1, a0_2, a0_3, a0_4, .bool a0_5, .bool a0_6, .bool a0_7, .bool a0_8, .bool a0_9], .int .i64 a1] w fun e w' => e = .returned (.bool true) ∧ Below w.heap.size w w' := by
  have HM := Lib.hid ha0_1
  have HO := Lib.hid ha0_2
  have HR := Lib.hid ha0_3
  have HN := Lib.hid ha0_4
  have IM := Lib.hid sa0_1
  have IO := Lib.hid sa0_2
  have IR := Lib.hid sa0_3
  have IN_ := Lib.hid sa0_4
  obtain ⟨pm, cm, rfl⟩ := ha0_1.slice
  obtain ⟨po, co, rfl⟩ := ha0_2.slice
  obtain ⟨pr, cr, rfl⟩ := ha0_3.slice
  obtain ⟨pw, cw, rfl⟩ := ha0_4.slice
  obtain ⟨nm, hnm⟩ : ∃ nm, nm = la0_1.length := ⟨_, rfl⟩
  obtain ⟨no, hno⟩ : ∃ no, no = la0_2.length := ⟨_, rfl⟩
  obtain ⟨nr, hnr⟩ : ∃ nr, nr = la0_3.length := ⟨_, rfl⟩
  obtain ⟨nw, hnw⟩ : ∃ nw, nw = la0_4.length := ⟨_, rfl⟩
  rw [← hnm] at HM qa0_1 ⊢
  rw [← hno] at HO qa0_2 ⊢
  rw [← hnr] at HR qa0_3 ⊢
  rw [← hnw] at HN qa0_4 ⊢
  have LN := Lib.hid (And.intro hnm (And.intro hno (And.intro hnr hnw)))
  clear ha0_1 ha0_2 ha0_3 ha0_4 sa0_1 sa0_2 sa0_3 sa0_4 hnm hno hnr hnw
  have HL := Lib.hid fun U => live22_c U
  have TC := Lib.hid fun U => told22_c a0_0 pm po pr pw nm no nr nw cm co cr cw a0_5 a0_6 a0_7 a0_8 a0_9 U
  have FC := Lib.hid fun U => few22_c a0_0 pm po pr pw nm no nr nw cm co cr cw a0_5 a0_6 a0_7 a0_8 a0_9 U
  have CK := Lib.hid (show fewB nm no nr nw = true → ∀ U, Below w.heap.size w U → CasOk U (.slice pm nm cm) (.slice po no co) (.slice pr nr cr) (.slice pw nw cw) la0_1 la0_2 la0_3 la0_4 from fun hf U k => by
    obtain ⟨f1, f2, f3, f4⟩ := (fewB_iff _ _ _ _).1 hf
    obtain ⟨e1, e2, e3, e4⟩ := LN.out
    exact ⟨HM.out.below k, HO.out.below k, HR.out.below k, HN.out.below k, by omega, by omega, by omega, by omega, IM.out, IO.out, IR.out, IN_.out⟩)
  have FL := Lib.hid (show fewB nm no nr nw = true → la0_1.length ≤ 40 ∧ la0_2.length ≤ 40 ∧ la0_3.length ≤ 40 ∧ la0_4.length ≤ 40 from fun hf => by
    obtain ⟨f1, f2, f3, f4⟩ := (fewB_iff _ _ _ _).1 hf
    obtain ⟨e1, e2, e3, e4⟩ := LN.out
    omega)
  generalize fewB nm no nr nw = fw at FC CK FL
  have HB := Lib.hid (heap_new w (.cells #[.int .i64 a0_0, .slice pm nm cm, .slice po no co, .slice pr nr cr, .slice pw nw cw, .bool a0_5, .bool a0_6, .bool a0_7, .bool a0_8, .bool a0_9] 24))
  have K0 := Lib.hid (show Below w.heap.size w (w.alloc (.cells #[.int .i64 a0_0, .slice pm nm cm, .slice po no co, .slice pr nr cr, .slice pw nw cw, .bool a0_5, .bool a0_6, .bool a0_7, .bool a0_8, .bool a0_9] 24)) from (Below.refl _ _).alloc (Nat.le_refl _) _)
  clear HM HO HR HN LN
  go_enter Try.func6, Try.ntmps6
  go_upto_region 1 with fail
  generalize w.alloc (.cells #[.int .i64 a0_0, .slice pm nm cm, .slice po no co, .slice pr nr cr, .slice pw nw cw, .bool a0_5, .bool a0_6, .bool a0_7, .bool a0_8, .bool a0_9] 24) = W at HB K0 ⊢
  have x0 : W.cell? ⟨w.heap.size, 0, none⟩ = some (.int .i64 a0_0) := cell_of_block HB.out rfl
  have x1 : W.cell? ⟨w.heap.size, 1, none⟩ = some (.slice pm nm cm) := cell_of_block HB.out rfl
  have x2 : W.cell? ⟨w.heap.size, 2, none⟩ = some (.slice po no co) := cell_of_block HB.out rfl
  have x3 : W.cell? ⟨w.heap.size, 3, none⟩ = some (.slice pr nr cr) := cell_of_block HB.out rfl
  have x4 : W.cell? ⟨w.heap.size, 4, none⟩ = some (.slice pw nw cw) := cell_of_block HB.out rfl
  have x5 : W.cell? ⟨w.heap.size, 5, none⟩ = some (.bool a0_5) := cell_of_block HB.out rfl
  have x6 : W.cell? ⟨w.heap.size, 6, none⟩ = some (.bool a0_6) := cell_of_block HB.out rfl
  have x7 : W.cell? ⟨w.heap.size, 7, none⟩ = some (.bool a0_7) := cell_of_block HB.out rfl
  have x8 : W.cell? ⟨w.heap.size, 8, none⟩ = some (.bool a0_8) := cell_of_block HB.out rfl
  have x9 : W.cell? ⟨w.heap.size, 9, none⟩ = some (.bool a0_9) := cell_of_block HB.out rfl
  go_wp2_with fail
  ((with_reducible refine (FC.out _).mono ?_); rintro e w1 ⟨rfl, k1⟩)
  have K1 := Lib.hid (k_call K0.out k1)
  have HB1 := Lib.hid (below_block k1 (lt_of_block HB.out) HB.out)
  clear k1 FC K0 HB x0 x1 x2 x3 x4 x5 x6 x7 x8 x9
  rcases Bool.eq_false_or_eq_true fw with rfl | rfl
  rotate_left
  · clear CK FL TC
    go_wp2_with fail
    ((with_reducible refine (HL.out _).mono ?_); rintro e w2 ⟨rfl, k2⟩)
    have K2 := Lib.hid (k_call K1.out k2)
    clear k2 K1 HB1
    go_wp2_with fail
    go_ret
    exact ⟨rfl, K2.out⟩
  have C0 := Lib.hid (CK.out rfl)
  have FL0 := Lib.hid (FL.out rfl)
  clear CK FL
  have x0 : w1.cell? ⟨w.heap.size, 0, none⟩ = some (.int .i64 a0_0) := cell_of_block HB1.out rfl
  have x1 : w1.cell? ⟨w.heap.size, 1, none⟩ = some (.slice pm nm cm) := cell_of_block HB1.out rfl
  have x2 : w1.cell? ⟨w.heap.size, 2, none⟩ = some (.slice po no co) := cell_of_block HB1.out rfl
  have x3 : w1.cell? ⟨w.heap.size, 3, none⟩ = some (.slice pr nr cr) := cell_of_block HB1.out rfl
  have x4 : w1.cell? ⟨w.heap.size, 4, none⟩ = some (.slice pw nw cw) := cell_of_block HB1.out rfl
  have x5 : w1.cell? ⟨w.heap.size, 5, none⟩ = some (.bool a0_5) := cell_of_block HB1.out rfl
  have x6 : w1.cell? ⟨w.heap.size, 6, none⟩ = some (.bool a0_6) := cell_of_block HB1.out rfl
  have x7 : w1.cell? ⟨w.heap.size, 7, none⟩ = some (.bool a0_7) := cell_of_block HB1.out rfl
  have x8 : w1.cell? ⟨w.heap.size, 8, none⟩ = some (.bool a0_8) := cell_of_block HB1.out rfl
  have x9 : w1.cell? ⟨w.heap.size, 9, none⟩ = some (.bool a0_9) := cell_of_block HB1.out rfl
  go_wp2_with fail
  ((with_reducible refine (TC.out _).mono ?_); rintro e w2 ⟨rfl, k⟩)
  have K2 := Lib.hid (k_call K1.out k)
  have HB2 := Lib.hid (below_block k (lt_of_block HB1.out) HB1.out)
  clear k K1 HB1 x0 x1 x2 x3 x4 x5 x6 x7 x8 x9
  have QC := Lib.hid (decide_c a0_0 _ _ _ _ a0_5 a0_6 a0_7 a0_8 a0_9 la0_1 la0_2 la0_3 la0_4 w2 (C0.out _ K2.out) la0_0 ua0_0)
  unfold IPost at QC
  go_wp2_with fail
  ((with_reducible refine (QC.out).mono ?_); rintro e w3 ⟨uA, rfl, iA, k⟩)
  have K3 := Lib.hid (k_call K2.out k)
  have HB3 := Lib.hid (below_block k (lt_of_block HB2.out) HB2.out)
  clear k K2 HB2 QC
  have IA := Lib.hid iA
  clear iA
  have x0 : w3.cell? ⟨w.heap.size, 0, none⟩ = some (.int .i64 a0_0) := cell_of_block HB3.out rfl
  have x1 : w3.cell? ⟨w.heap.size, 1, none⟩ = some (.slice pm nm cm) := cell_of_block HB3.out rfl
  have x2 : w3.cell? ⟨w.heap.size, 2, none⟩ = some (.slice po no co) := cell_of_block HB3.out rfl
  have x3 : w3.cell? ⟨w.heap.size, 3, none⟩ = some (.slice pr nr cr) := cell_of_block HB3.out rfl
  have x4 : w3.cell? ⟨w.heap.size, 4, none⟩ = some (.slice pw nw cw) := cell_of_block HB3.out rfl
  have x5 : w3.cell? ⟨w.heap.size, 5, none⟩ = some (.bool a0_5) := cell_of_block HB3.out rfl
  have x6 : w3.cell? ⟨w.heap.size, 6, none⟩ = some (.bool a0_6) := cell_of_block HB3.out rfl
  have x7 : w3.cell? ⟨w.heap.size, 7, none⟩ = some (.bool a0_7) := cell_of_block HB3.out rfl
  have x8 : w3.cell? ⟨w.heap.size, 8, none⟩ = some (.bool a0_8) := cell_of_block HB3.out rfl
  have x9 : w3.cell? ⟨w.heap.size, 9, none⟩ = some (.bool a0_9) := cell_of_block HB3.out rfl
  go_wp2_with fail
  ((with_reducible refine (TC.out _).mono ?_); rintro e w4 ⟨rfl, k⟩)
  have K4 := Lib.hid (k_call K3.out k)
  have HB4 := Lib.hid (below_block k (lt_of_block HB3.out) HB3.out)
  replace IA := Lib.hid (IA.out.below k)
  clear k K3 HB3 x0 x1 x2 x3 x4 x5 x6 x7 x8 x9
  have BX := Lib.hid (fun U (k : Below w4.heap.size w4 U) => below_block k (lt_of_block HB4.out) HB4.out)
  have CC := Lib.hid (fun U (k : Below w4.heap.size w4 U) => C0.out U (K4.out.trans (k.mono K4.out.size)))
  have IAA := Lib.hid (fun U (k : Below w4.heap.size w4 U) => IA.out.below k)
  have k := Lib.hid (Below.refl w4.heap.size w4)
  clear C0 IA
  have L3 := Lib.hid FL0.out.2.2.1
  have L4 := Lib.hid FL0.out.2.2.2
  go_upto_region 5 with fail
  have Hd := Lib.hid (heap_new w4 (.cells #[.int .i64 a0_0, .slice pm nm cm, .slice po no co, .slice pr nr cr, .slice pw nw cw, .bool a0_5, .bool a0_6, .bool a0_7, .bool a0_8, .bool a0_9] 28))
  have gd9 := Lib.hid k.out.size
  replace k := Lib.hid (k.out.alloc k.out.size (.cells #[.int .i64 a0_0, .slice pm nm cm, .slice po no co, .slice pr nr cr, .slice pw nw cw, .bool a0_5, .bool a0_6, .bool a0_7, .bool a0_8, .bool a0_9] 28))
  generalize w4.alloc (.cells #[.int .i64 a0_0, .slice pm nm cm, .slice po no co, .slice pr nr cr, .slice pw nw cw, .bool a0_5, .bool a0_6, .bool a0_7, .bool a0_8, .bool a0_9] 28) = U1 at Hd k ⊢
  obtain ⟨db, hdb⟩ : ∃ b, b = w4.heap.size := ⟨_, rfl⟩
  have gd := Lib.hid (show w4.heap.size ≤ db by rw [hdb]; exact gd9.out)
  rw [← hdb] at Hd  ⊢
  clear hdb gd9
  have z4 := cell_of_block (j := 4) (v := .slice pw nw cw) Hd.out rfl
  have f4 := free_of_block (j := 4) Hd.out
  go_upto_region 6 with fail
  clear z4 f4
  have Hd9 := Lib.hid (show (U1.setCell ⟨db, 4, none⟩ (.slice none 0 0)).heap[db]? = some (.cells #[.int .i64 a0_0, .slice pm nm cm, .slice po no co, .slice pr nr cr, .slice none 0 0, .bool a0_5, .bool a0_6, .bool a0_7, .bool a0_8, .bool a0_9] 28 (0, 0)) from heap_store (j := 4) (v := .slice none 0 0) Hd.out)
  replace k := Lib.hid (k.out.setCell (p := ⟨db, 4, none⟩) gd.out (.slice none 0 0))
  replace Hd := Hd9
  clear Hd9
  generalize U1.setCell ⟨db, 4, none⟩ (.slice none 0 0) = U2 at Hd k ⊢
  have z4 := cell_of_block (j := 4) (v := .slice none 0 0) Hd.out rfl
  have f4 := free_of_block (j := 4) Hd.out
  have y4 := cell_of_block (j := 4) (v := .slice pw nw cw) (BX.out _ k.out) rfl
  have CU := Lib.hid (CC.out _ k.out).n
  have HS := Lib.hid (lt_of_block Hd.out)
  go_wp2_with (at_builtin; refine wpList_append_ints rfl _ _ rfl (db + 1) _ 0 [] rfl (World.ownsRow_nil _ _ _ _) _ la0_4 rfl CU.out ?a2 ?a3 ?a4 ?_)
  case a2 => have := L4.out; unfold maxLen; omega
  case a3 => have := L4.out; omega
  case a4 => have := HS.out; omega
  intro v1 U3 hown7 hg7
  (try simp only [Nat.zero_add] at hown7)
  obtain ⟨qO1, cO1, rfl⟩ := fi_slice hown7
  have O1 := Lib.hid (show U3.ownsRow (db + 1) 3 1 (.slice qO1 la0_4.length cO1) la0_4.length (la0_4.map (Value.int .i64)) by simpa using hown7)
  have kg : Below U2.heap.size U2 U3 := ⟨hg7.os, hg7.tape, hg7.output, hg7.size, fun i hi => hg7.block i hi (by simp [Value.ownBlock])⟩
  replace Hd := Lib.hid (below_block kg (lt_of_block Hd.out) Hd.out)
  replace k := Lib.hid (k.out.trans (kg.mono k.out.size))
  clear hown7 hg7 kg z4 f4 y4 CU
  have z4 := cell_of_block (j := 4) (v := .slice none 0 0) Hd.out rfl
  have f4 := free_of_block (j := 4) Hd.out
  go_upto_region 7 with fail
  clear z4 f4
  have Hd9 := Lib.hid (show (U3.setCell ⟨db, 4, none⟩ (.slice qO1 la0_4.length cO1)).heap[db]? = some (.cells #[.int .i64 a0_0, .slice pm nm cm, .slice po no co, .slice pr nr cr, .slice qO1 la0_4.length cO1, .bool a0_5, .bool a0_6, .bool a0_7, .bool a0_8, .bool a0_9] 28 (0, 0)) from heap_store (j := 4) (v := .slice qO1 la0_4.length cO1) Hd.out)
  replace O1 := Lib.hid (iowns_store (c := db) (j := 4) (u := .slice qO1 la0_4.length cO1) O1.out (by omega))
  replace k := Lib.hid (k.out.setCell (p := ⟨db, 4, none⟩) gd.out (.slice qO1 la0_4.length cO1))
  replace Hd := Hd9
  clear Hd9
  generalize U3.setCell ⟨db, 4, none⟩ (.slice qO1 la0_4.length cO1) = U4 at Hd k O1 ⊢
  obtain ⟨i0, hi0, hz0, hz1, hz2⟩ := info_parts info_FI
  have z4 := cell_of_block (j := 4) (v := .slice qO1 la0_4.length cO1) Hd.out rfl
  have f4 := free_of_block (j := 4) Hd.out
  have NEW := Lib.hid (int_fresh U4 [.int .i64 a1] 3)
  have oc := Lib.hid (one_i64 a1)
  have n11 := Lib.hid (show la0_4.length + 1 ≤ maxLen by have := L4.out; unfold maxLen; omega)
  have n22 := Lib.hid (show (la0_4.length + 1) * 8 ≤ 140737488355328 by have := L4.out; omega)
  have HO5 := Lib.hid (O1.out.alloc (.cells #[.int .i64 a1] 3))
  have kA : Below U4.heap.size U4 (U4.alloc (.cells #[.int .i64 a1] 3)) := (Below.refl _ _).alloc (Nat.le_refl _) _
  have n33 := Lib.hid (show (db + 1) ≤ (U4.alloc (.cells #[.int .i64 a1] 3)).heap.size by have := lt_of_block Hd.out; have := kA.size; omega)
  go_wp2_with (at_builtin; refine wpList_append_own _ rfl _ _ 22 rfl (db + 1) 3 i0 (.int .i64 0) 1 8 Try.underlying22 hi0 hz0 hz1 hz2 rfl (by decide) _ _ _ rfl HO5.out ⟨U4.heap.size, 0, none⟩ 1 1 [.int .i64 a1] rfl rfl NEW.out oc.out n11.out n22.out n33.out ?_)
  intro v1 U5 hown7 hg7 hkp
  obtain ⟨qO2, cO2, rfl⟩ := fi_slice hown7
  have O2 := Lib.hid (show U5.ownsRow (db + 1) 3 1 (.slice qO2 (la0_4.length + 1) cO2) (la0_4.length + 1) ((la0_4 ++ [a1]).map (Value.int .i64)) by rw [List.map_append]; exact hown7)
  have hfar := Lib.hid (fun j hj => (HO5.out.lt j hj).1)
  replace Hd := Lib.hid ((hg7.block db (Nat.lt_of_lt_of_le (lt_of_block Hd.out) kA.size) (fun e => by have := hfar.out _ e.symm; omega)).trans (below_block kA (lt_of_block Hd.out) Hd.out))
  replace k := Lib.hid ((k.out.trans (kA.mono k.out.size)).grown hg7 (Nat.le_trans k.out.size kA.size) (fun j hj => by have := hfar.out j hj; have := gd.out; omega))
  clear hown7 hg7 hkp kA HO5 NEW hfar z4 f4 O1
  have z4 := cell_of_block (j := 4) (v := .slice qO1 la0_4.length cO1) Hd.out rfl
  have f4 := free_of_block (j := 4) Hd.out
  go_upto_region 8 with fail
  clear z4 f4
  have Hd9 := Lib.hid (show (U5.setCell ⟨db, 4, none⟩ (.slice qO2 (la0_4.length + 1) cO2)).heap[db]? = some (.cells #[.int .i64 a0_0, .slice pm nm cm, .slice po no co, .slice pr nr cr, .slice qO2 (la0_4.length + 1) cO2, .bool a0_5, .bool a0_6, .bool a0_7, .bool a0_8, .bool a0_9] 28 (0, 0)) from heap_store (j := 4) (v := .slice qO2 (la0_4.length + 1) cO2) Hd.out)
  replace O2 := Lib.hid (iowns_store (c := db) (j := 4) (u := .slice qO2 (la0_4.length + 1) cO2) O2.out (by omega))
  replace k := Lib.hid (k.out.setCell (p := ⟨db, 4, none⟩) gd.out (.slice qO2 (la0_4.length + 1) cO2))
  replace Hd := Hd9
  clear Hd9
  generalize U5.setCell ⟨db, 4, none⟩ (.slice qO2 (la0_4.length + 1) cO2) = U6 at Hd k O2 ⊢
  have z3 := cell_of_block (j := 3) (v := .slice pr nr cr) Hd.out rfl
  have f4 := free_of_block (j := 3) Hd.out
  go_upto_region 9 with fail
  clear z3 f4
  have Hd9 := Lib.hid (show (U6.setCell ⟨db, 3, none⟩ (.slice none 0 0)).heap[db]? = some (.cells #[.int .i64 a0_0, .slice pm nm cm, .slice po no co, .slice none 0 0, .slice qO2 (la0_4.length + 1) cO2, .bool a0_5, .bool a0_6, .bool a0_7, .bool a0_8, .bool a0_9] 28 (0, 0)) from heap_store (j := 3) (v := .slice none 0 0) Hd.out)
  replace O2 := Lib.hid (iowns_store (c := db) (j := 3) (u := .slice none 0 0) O2.out (by omega))
  replace k := Lib.hid (k.out.setCell (p := ⟨db, 3, none⟩) gd.out (.slice none 0 0))
  replace Hd := Hd9
  clear Hd9
  generalize U6.setCell ⟨db, 3, none⟩ (.slice none 0 0) = U7 at Hd k O2 ⊢
  have z3 := cell_of_block (j := 3) (v := .slice none 0 0) Hd.out rfl
  have f4 := free_of_block (j := 3) Hd.out
  have y4 := cell_of_block (j := 3) (v := .slice pr nr cr) (BX.out _ k.out) rfl
  have CU := Lib.hid (CC.out _ k.out).r
  have HS := Lib.hid (lt_of_block Hd.out)
  obtain ⟨b3, hb3⟩ : ∃ b, b = U7.heap.size := ⟨_, rfl⟩
  have Bb3 := Lib.hid hb3
  clear hb3
  go_wp2_with (at_builtin; refine wpList_append_ints rfl _ _ rfl b3 _ 0 [] rfl (World.ownsRow_nil _ _ _ _) _ la0_3 rfl CU.out ?a2 ?a3 ?a4 ?_)
  case a2 => have := L3.out; unfold maxLen; omega
  case a3 => have := L3.out; omega
  case a4 => have := HS.out; have := Bb3.out; omega
  intro v1 U8 hown7 hg7
  (try simp only [Nat.zero_add] at hown7)
  obtain ⟨qO3, cO3, rfl⟩ := fi_slice hown7
  have O3 := Lib.hid (show U8.ownsRow b3 3 1 (.slice qO3 la0_3.length cO3) la0_3.length (la0_3.map (Value.int .i64)) by simpa using hown7)
  have kg : Below U7.heap.size U7 U8 := ⟨hg7.os, hg7.tape, hg7.output, hg7.size, fun i hi => hg7.block i hi (by simp [Value.ownBlock])⟩
  replace Hd := Lib.hid (below_block kg (lt_of_block Hd.out) Hd.out)
  have GO2O3 := Lib.hid (fun g (hg : Value.ownBlock _ = some g) => (O2.out.lt g hg).2)
  replace O2 := Lib.hid (iowns_below O2.out kg)
  have SBX := Lib.hid (show b3 ≤ U8.heap.size by rw [Bb3.out]; exact kg.size)
  replace k := Lib.hid (k.out.trans (kg.mono k.out.size))
  clear hown7 hg7 kg z3 f4 y4 CU
  have z3 := cell_of_block (j := 3) (v := .slice none 0 0) Hd.out rfl
  have f4 := free_of_block (j := 3) Hd.out
  go_upto_region 10 with fail
  clear z3 f4
  have B3d := Lib.hid (show db < b3 by rw [Bb3.out]; exact HS.out)
  have SB3 := Lib.hid (show b3 ≤ U8.heap.size from SBX.out)
  have Hd9 := Lib.hid (show (U8.setCell ⟨db, 3, none⟩ (.slice qO3 la0_3.length cO3)).heap[db]? = some (.cells #[.int .i64 a0_0, .slice pm nm cm, .slice po no co, .slice qO3 la0_3.length cO3, .slice qO2 (la0_4.length + 1) cO2, .bool a0_5, .bool a0_6, .bool a0_7, .bool a0_8, .bool a0_9] 28 (0, 0)) from heap_store (j := 3) (v := .slice qO3 la0_3.length cO3) Hd.out)
  replace O2 := Lib.hid (iowns_store (c := db) (j := 3) (u := .slice qO3 la0_3.length cO3) O2.out (by omega))
  replace O3 := Lib.hid (iowns_store (c := db) (j := 3) (u := .slice qO3 la0_3.length cO3) O3.out (by have := B3d.out; omega))
  replace SB3 := Lib.hid (show b3 ≤ (U8.setCell ⟨db, 3, none⟩ (.slice qO3 la0_3.length cO3)).heap.size by have := SB3.out; simpa [World.setCell] using this)
  replace k := Lib.hid (k.out.setCell (p := ⟨db, 3, none⟩) gd.out (.slice qO3 la0_3.length cO3))
  replace Hd := Hd9
  clear Hd9
  generalize U8.setCell ⟨db, 3, none⟩ (.slice qO3 la0_3.length cO3) = U9 at Hd k O2 O3 SB3 ⊢
  have z0 := cell_of_block (j := 0) (v := .int .i64 a0_0) Hd.out rfl
  have z1 := cell_of_block (j := 1) (v := .slice pm nm cm) Hd.out rfl
  have z2 := cell_of_block (j := 2) (v := .slice po no co) Hd.out rfl
  have z3 := cell_of_block (j := 3) (v := .slice qO3 la0_3.length cO3) Hd.out rfl
  have z4 := cell_of_block (j := 4) (v := .slice qO2 (la0_4.length + 1) cO2) Hd.out rfl
  have z5 := cell_of_block (j := 5) (v := .bool a0_5) Hd.out rfl
  have z6 := cell_of_block (j := 6) (v := .bool a0_6) Hd.out rfl
  have z7 := cell_of_block (j := 7) (v := .bool a0_7) Hd.out rfl
  have z8 := cell_of_block (j := 8) (v := .bool a0_8) Hd.out rfl
  have z9 := cell_of_block (j := 9) (v := .bool a0_9) Hd.out rfl
  go_upto_region 11 with fail
  clear z0 z1 z2 z3 z4 z5 z6 z7 z8 z9
  have He := Lib.hid (heap_new U9 (.cells #[.int .i64 a0_0, .slice pm nm cm, .slice po no co, .slice qO3 la0_3.length cO3, .slice qO2 (la0_4.length + 1) cO2, .bool a0_5, .bool a0_6, .bool a0_7, .bool a0_8, .bool a0_9] 28))
  have nede : db ≠ U9.heap.size := Nat.ne_of_lt (lt_of_block Hd.out)
  replace Hd := Lib.hid (heap_old (p := (.cells #[.int .i64 a0_0, .slice pm nm cm, .slice po no co, .slice qO3 la0_3.length cO3, .slice qO2 (la0_4.length + 1) cO2, .bool a0_5, .bool a0_6, .bool a0_7, .bool a0_8, .bool a0_9] 28)) Hd.out)
  have GO2e := Lib.hid (fun g (hg : Value.ownBlock _ = some g) => (O2.out.lt g hg).2)
  replace O2 := Lib.hid (O2.out.alloc (.cells #[.int .i64 a0_0, .slice pm nm cm, .slice po no co, .slice qO3 la0_3.length cO3, .slice qO2 (la0_4.length + 1) cO2, .bool a0_5, .bool a0_6, .bool a0_7, .bool a0_8, .bool a0_9] 28))
  have GO3e := Lib.hid (fun g (hg : Value.ownBlock _ = some g) => (O3.out.lt g hg).2)
  replace O3 := Lib.hid (O3.out.alloc (.cells #[.int .i64 a0_0, .slice pm nm cm, .slice po no co, .slice qO3 la0_3.length cO3, .slice qO2 (la0_4.length + 1) cO2, .bool a0_5, .bool a0_6, .bool a0_7, .bool a0_8, .bool a0_9] 28))
  replace SB3 := Lib.hid (show b3 ≤ (U9.alloc (.cells #[.int .i64 a0_0, .slice pm nm cm, .slice po no co, .slice qO3 la0_3.length cO3, .slice qO2 (la0_4.length + 1) cO2, .bool a0_5, .bool a0_6, .bool a0_7, .bool a0_8, .bool a0_9] 28)).heap.size by have := SB3.out; simp; omega)
  have ge9 := Lib.hid k.out.size
  replace k := Lib.hid (k.out.alloc k.out.size (.cells #[.int .i64 a0_0, .slice pm nm cm, .slice po no co, .slice qO3 la0_3.length cO3, .slice qO2 (la0_4.length + 1) cO2, .bool a0_5, .bool a0_6, .bool a0_7, .bool a0_8, .bool a0_9] 28))
  generalize U9.alloc (.cells #[.int .i64 a0_0, .slice pm nm cm, .slice po no co, .slice qO3 la0_3.length cO3, .slice qO2 (la0_4.length + 1) cO2, .bool a0_5, .bool a0_6, .bool a0_7, .bool a0_8, .bool a0_9] 28) = U10 at Hd He k O2 O3 SB3 ⊢
  obtain ⟨eb, heb⟩ : ∃ b, b = U9.heap.size := ⟨_, rfl⟩
  have ge := Lib.hid (show w4.heap.size ≤ eb by rw [heb]; exact ge9.out)
  rw [← heb] at He nede GO2e GO3e ⊢
  clear heb ge9
  have z3 := cell_of_block (j := 3) (v := .slice qO3 la0_3.length cO3) He.out rfl
  have f4 := free_of_block (j := 3) He.out
  have NEW := Lib.hid (int_fresh U10 [.int .i64 a1] 3)
  have oc := Lib.hid (one_i64 a1)
  have n11 := Lib.hid (show la0_3.length + 1 ≤ maxLen by have := L3.out; unfold maxLen; omega)
  have n22 := Lib.hid (show (la0_3.length + 1) * 8 ≤ 140737488355328 by have := L3.out; omega)
  have HO5 := Lib.hid (O3.out.alloc (.cells #[.int .i64 a1] 3))
  have kA : Below U10.heap.size U10 (U10.alloc (.cells #[.int .i64 a1] 3)) := (Below.refl _ _).alloc (Nat.le_refl _) _
  have n33 := Lib.hid (show b3 ≤ (U10.alloc (.cells #[.int .i64 a1] 3)).heap.size by have := lt_of_block Hd.out; have := kA.size; have := SB3.out; omega)
  go_wp2_with (at_builtin; refine wpList_append_keep _ rfl _ _ 22 rfl b3 3 i0 (.int .i64 0) 8 Try.underlying22 hi0 hz0 hz1 hz2 rfl _ _ _ rfl HO5.out ⟨U10.heap.size, 0, none⟩ 1 (.int .i64 a1) rfl NEW.out oc.out n11.out n22.out n33.out ?_)
  intro v1 U11 hown7 hg7 hkp
  obtain ⟨qO4, cO4, rfl⟩ := fi_slice hown7
  have O4 := Lib.hid (show U11.ownsRow b3 3 1 (.slice qO4 (la0_3.length + 1) cO4) (la0_3.length + 1) ((la0_3 ++ [a1]).map (Value.int .i64)) by rw [List.map_append]; exact hown7)
  have hfar := Lib.hid (fun j hj => (HO5.out.lt j hj).1)
  have I3 := Lib.hid (IntsAt.of_keep HO5.out hkp)
  replace Hd := Lib.hid ((hg7.block db (Nat.lt_of_lt_of_le (lt_of_block Hd.out) kA.size) (fun e => by have := hfar.out _ e.symm; have := B3d.out; omega)).trans (below_block kA (lt_of_block Hd.out) Hd.out))
  replace He := Lib.hid ((hg7.block eb (Nat.lt_of_lt_of_le (lt_of_block He.out) kA.size) (fun e => by have := GO3e.out _ e.symm; omega)).trans (below_block kA (lt_of_block He.out) He.out))
  replace O2 := Lib.hid ((iowns_below O2.out kA).kept hg7 (own_apart hfar.out GO2O3.out (by have := Bb3.out; omega)))
  replace k := Lib.hid ((k.out.trans (kA.mono k.out.size)).grown hg7 (Nat.le_trans k.out.size kA.size) (fun j hj => by have := hfar.out j hj; have := gd.out; have := B3d.out; omega))
  clear hown7 hg7 hkp kA HO5 NEW hfar z3 f4 O3
  have z3 := cell_of_block (j := 3) (v := .slice qO3 la0_3.length cO3) He.out rfl
  have f4 := free_of_block (j := 3) He.out
  go_upto_region 12 with fail
  clear z3 f4
  replace SB3 := Lib.hid (show True from trivial)
  have He9 := Lib.hid (show (U11.setCell ⟨eb, 3, none⟩ (.slice qO4 (la0_3.length + 1) cO4)).heap[eb]? = some (.cells #[.int .i64 a0_0, .slice pm nm cm, .slice po no co, .slice qO4 (la0_3.length + 1) cO4, .slice qO2 (la0_4.length + 1) cO2, .bool a0_5, .bool a0_6, .bool a0_7, .bool a0_8, .bool a0_9] 28 (0, 0)) from heap_store (j := 3) (v := .slice qO4 (la0_3.length + 1) cO4) He.out)
  replace Hd := Lib.hid (heap_store_other (c := eb) (j := 3) (v := .slice qO4 (la0_3.length + 1) cO4) Hd.out nede)
  have I4 := Lib.hid (show IntsAt (U11.setCell ⟨eb, 3, none⟩ (.slice qO4 (la0_3.length + 1) cO4)) (.slice qO4 (la0_3.length + 1) cO4) (la0_3 ++ [a1]) from by
    have h := IntsAt.of_owns O4.out
    refine IntsAt.store_far h fun g hg e => ?_
    subst e
    exact own_not_box O4.out hg He.out (by decide))
  have I2 := Lib.hid (show IntsAt (U11.setCell ⟨eb, 3, none⟩ (.slice qO4 (la0_3.length + 1) cO4)) (.slice qO2 (la0_4.length + 1) cO2) (la0_4 ++ [a1]) from by
    have h := IntsAt.of_owns O2.out
    refine IntsAt.store_far h fun g hg e => ?_
    subst e
    exact own_not_box O2.out hg He.out (by decide))
  replace I3 := Lib.hid (show IntsAt (U11.setCell ⟨eb, 3, none⟩ (.slice qO4 (la0_3.length + 1) cO4)) (.slice qO3 la0_3.length cO3) la0_3 from I3.out.store_far (fun g hg => Nat.ne_of_lt (GO3e.out g hg)))
  replace k := Lib.hid (k.out.setCell (p := ⟨eb, 3, none⟩) ge.out (.slice qO4 (la0_3.length + 1) cO4))
  replace He := He9
  clear He9 O2 O4
  generalize U11.setCell ⟨eb, 3, none⟩ (.slice qO4 (la0_3.length + 1) cO4) = V0 at Hd He I2 I3 I4 k ⊢
  have KW := Lib.hid (K4.out.trans (k.out.mono K4.out.size))
  have C1 := Lib.hid (CC.out _ k.out)
  have IA1 := Lib.hid (IAA.out _ k.out)
  clear k CC IAA BX gd ge nede
  have z0 := cell_of_block (j := 0) (v := .int .i64 a0_0) Hd.out rfl
  have z1 := cell_of_block (j := 1) (v := .slice pm nm cm) Hd.out rfl
  have z2 := cell_of_block (j := 2) (v := .slice po no co) Hd.out rfl
  have z3 := cell_of_block (j := 3) (v := .slice qO3 la0_3.length cO3) Hd.out rfl
  have z4 := cell_of_block (j := 4) (v := .slice qO2 (la0_4.length + 1) cO2) Hd.out rfl
  have z5 := cell_of_block (j := 5) (v := .bool a0_5) Hd.out rfl
  have z6 := cell_of_block (j := 6) (v := .bool a0_6) Hd.out rfl
  have z7 := cell_of_block (j := 7) (v := .bool a0_7) Hd.out rfl
  have z8 := cell_of_block (j := 8) (v := .bool a0_8) Hd.out rfl
  have z9 := cell_of_block (j := 9) (v := .bool a0_9) Hd.out rfl
  have QC := Lib.hid (decide_c a0_0 _ _ _ _ a0_5 a0_6 a0_7 a0_8 a0_9 la0_1 la0_2 la0_3 (la0_4 ++ [a1]) V0 ⟨C1.out.m, C1.out.o, I3.out, I2.out, C1.out.lm, C1.out.lo, C1.out.lr, by have := L4.out; simp; omega, C1.out.im, C1.out.io, C1.out.ir, C1.out.iN.snoc la1 ua1⟩ la0_0 ua0_0)
  unfold IPost at QC
  go_wp2_with fail
  ((with_reducible refine QC.out.mono ?_); rintro e V1 ⟨uB, rfl, iB, kB⟩)
  have IB := Lib.hid iB
  replace IA1 := Lib.hid (IA1.out.below kB)
  replace C1 := Lib.hid (C1.out.below kB)
  replace I2 := Lib.hid (I2.out.below kB)
  replace I4 := Lib.hid (I4.out.below kB)
  replace He := Lib.hid (below_block kB (lt_of_block He.out) He.out)
  replace KW := Lib.hid (k_call KW.out kB)
  clear QC iB kB Hd I3 z0 z1 z2 z3 z4 z5 z6 z7 z8 z9
  have z0 := cell_of_block (j := 0) (v := .int .i64 a0_0) He.out rfl
  have z1 := cell_of_block (j := 1) (v := .slice pm nm cm) He.out rfl
  have z2 := cell_of_block (j := 2) (v := .slice po no co) He.out rfl
  have z3 := cell_of_block (j := 3) (v := .slice qO4 (la0_3.length + 1) cO4) He.out rfl
  have z4 := cell_of_block (j := 4) (v := .slice qO2 (la0_4.length + 1) cO2) He.out rfl
  have z5 := cell_of_block (j := 5) (v := .bool a0_5) He.out rfl
  have z6 := cell_of_block (j := 6) (v := .bool a0_6) He.out rfl
  have z7 := cell_of_block (j := 7) (v := .bool a0_7) He.out rfl
  have z8 := cell_of_block (j := 8) (v := .bool a0_8) He.out rfl
  have z9 := cell_of_block (j := 9) (v := .bool a0_9) He.out rfl
  have QC := Lib.hid (decide_c a0_0 _ _ _ _ a0_5 a0_6 a0_7 a0_8 a0_9 la0_1 la0_2 (la0_3 ++ [a1]) (la0_4 ++ [a1]) V1 ⟨C1.out.m, C1.out.o, I4.out, I2.out, C1.out.lm, C1.out.lo, by have := L3.out; simp; omega, by have := L4.out; simp; omega, C1.out.im, C1.out.io, C1.out.ir.snoc la1 ua1, C1.out.iN.snoc la1 ua1⟩ la0_0 ua0_0)
  unfold IPost at QC
  go_wp2_with fail
  ((with_reducible refine QC.out.mono ?_); rintro e V2 ⟨uF, rfl, iF, kF⟩)
  have IF := Lib.hid iF
  replace IA1 := Lib.hid (IA1.out.below kF)
  replace IB := Lib.hid (IB.out.below kF)
  replace KW := Lib.hid (k_call KW.out kF)
  clear QC iF kF He I2 I4 C1 z0 z1 z2 z3 z4 z5 z6 z7 z8 z9
  have hr : ∀ y, hasB la0_3 y = true → hasB (la0_3 ++ [a1]) y = true := fun y hy => by rw [hasB_snoc1, hy]; rfl
  have hn : ∀ y, hasB la0_4 y = true → hasB (la0_4 ++ [a1]) y = true := fun y hy => by rw [hasB_snoc1, hy]; rfl
  have hr1 : ∀ y, y ≠ a1 → hasB (la0_3 ++ [a1]) y = hasB la0_3 y := fun y hy => by rw [hasB_snoc1, decide_eq_false hy, Bool.or_false]
  have hn1 : ∀ y, y ≠ a1 → hasB (la0_4 ++ [a1]) y = hasB la0_4 y := fun y hy => by rw [hasB_snoc1, decide_eq_false hy, Bool.or_false]
  have M1 := Lib.hid (show ∀ x, hasB (decL ⟨a0_0, la0_1, la0_2, la0_3, la0_4, a0_5, a0_6, a0_7, a0_8, a0_9⟩) x = true → hasB (decL ⟨a0_0, la0_1, la0_2, la0_3, la0_4 ++ [a1], a0_5, a0_6, a0_7, a0_8, a0_9⟩) x = true from fun x hx => decL_more ⟨a0_0, la0_1, la0_2, la0_3, la0_4, a0_5, a0_6, a0_7, a0_8, a0_9⟩ x la0_3 (la0_4 ++ [a1]) (fun y hy => hy) hn hx)
  have M2 := Lib.hid (show ∀ x, hasB (decL ⟨a0_0, la0_1, la0_2, la0_3, la0_4, a0_5, a0_6, a0_7, a0_8, a0_9⟩) x = true → hasB (decL ⟨a0_0, la0_1, la0_2, la0_3 ++ [a1], la0_4 ++ [a1], a0_5, a0_6, a0_7, a0_8, a0_9⟩) x = true from fun x hx => decL_more ⟨a0_0, la0_1, la0_2, la0_3, la0_4, a0_5, a0_6, a0_7, a0_8, a0_9⟩ x (la0_3 ++ [a1]) (la0_4 ++ [a1]) hr hn hx)
  have ML := Lib.hid (show (decL ⟨a0_0, la0_1, la0_2, la0_3 ++ [a1], la0_4 ++ [a1], a0_5, a0_6, a0_7, a0_8, a0_9⟩).length ≤ (decL ⟨a0_0, la0_1, la0_2, la0_3, la0_4, a0_5, a0_6, a0_7, a0_8, a0_9⟩).length + 1 ∧ (decL ⟨a0_0, la0_1, la0_2, la0_3, la0_4 ++ [a1], a0_5, a0_6, a0_7, a0_8, a0_9⟩).length ≤ (decL ⟨a0_0, la0_1, la0_2, la0_3 ++ [a1], la0_4 ++ [a1], a0_5, a0_6, a0_7, a0_8, a0_9⟩).length from decL_grows ⟨a0_0, la0_1, la0_2, la0_3, la0_4, a0_5, a0_6, a0_7, a0_8, a0_9⟩ a1 (la0_3 ++ [a1]) hr (la0_4 ++ [a1]) hn hr1 hn1)
  have LA := Lib.hid (show (decL ⟨a0_0, la0_1, la0_2, la0_3, la0_4, a0_5, a0_6, a0_7, a0_8, a0_9⟩).length ≤ 40 from Nat.le_trans (decL_len ⟨a0_0, la0_1, la0_2, la0_3, la0_4, a0_5, a0_6, a0_7, a0_8, a0_9⟩) FL0.out.1)
  clear hr hn hr1 hn1 FL0
  generalize decL ⟨a0_0, la0_1, la0_2, la0_3, la0_4, a0_5, a0_6, a0_7, a0_8, a0_9⟩ = DA at IA1 M1 M2 ML LA
  generalize decL ⟨a0_0, la0_1, la0_2, la0_3, la0_4 ++ [a1], a0_5, a0_6, a0_7, a0_8, a0_9⟩ = DB at IB M1 ML
  generalize decL ⟨a0_0, la0_1, la0_2, la0_3 ++ [a1], la0_4 ++ [a1], a0_5, a0_6, a0_7, a0_8, a0_9⟩ = DE at IF M2 ML
  obtain ⟨pA, cA, bA, oA, rfl, hpA, hcA⟩ := IA1.out
  have HPA := Lib.hid hpA
  have HCA := Lib.hid hcA
  obtain ⟨pB, cB, rfl⟩ := IB.out.slice
  obtain ⟨pF, cF, rfl⟩ := IF.out.slice
  obtain ⟨na, hna⟩ : ∃ n, n = DA.length := ⟨_, rfl⟩
  obtain ⟨nb, hnb⟩ : ∃ n, n = DB.length := ⟨_, rfl⟩
  obtain ⟨nf, hnf⟩ : ∃ n, n = DE.length := ⟨_, rfl⟩
  rw [← hna] at LA ML IA1
  rw [← hnb] at IB ML
  rw [← hnf] at IF ML
  rw [← hna, ← hnb, ← hnf]
  have HNA := Lib.hid hna
  have HNB := Lib.hid hnb
  have HNF := Lib.hid hnf
  have b0 := LA.out
  have b1 := ML.out.1
  have b2 := ML.out.2
  clear hpA hcA hna hnb hnf IA1
  go_wp2_with fail
  go_loopw [10] (fun i wr => ∃ k : Nat, k ≤ na ∧ i = .int .i64 k ∧ wr = V2) (fun i _ => na - (intOf i).toNat)
  case atStart => first | exact ⟨0, Nat.zero_le _, rfl, rfl⟩ | exact ⟨0, Nat.zero_le _, rfl, trivial⟩
  case round =>
    obtain ⟨k, hk, rfl, h9⟩ := hrel
    subst h9
    by_cases hlt : k < na
    · obtain ⟨x, hx⟩ : ∃ x, DA[k]? = some x := ⟨_, List.getElem?_eq_getElem (by rw [← HNA.out]; exact hlt)⟩
      have hne : DA ≠ [] := by rintro rfl; simp at hx
      obtain rfl := HPA.out hne
      have x0 := HCA.out k x hx
      have hm : hasB DA x = true := (hasB_iff _ _).2 (List.mem_of_getElem? hx)
      have R1 := rhas_c (.slice pB nb cB) DB x wr (by have := HNB.out; omega) IB.out
      rw [M1.out x hm] at R1
      replace R1 := Lib.hid R1
      have R2 := rhas_c (.slice pF nf cF) DE x wr (by have := HNF.out; omega) IF.out
      rw [M2.out x hm] at R2
      replace R2 := Lib.hid R2
      have d1 : decide (k < na) = true := decide_eq_true hlt
      have d2 : decide ((k : Int) < (na : Int)) = true := decide_eq_true (by omega)
      have d4 : decide (0 ≤ (k : Int)) = true := decide_eq_true (by omega)
      have d5 : (0 : Int) ≤ (k : Int) := by omega
      have d6 : (k : Int) < (na : Int) := by omega
      clear hx hne hm
      go_wp2_with fail
      ((with_reducible refine R1.out.mono ?_); rintro e w9 ⟨rfl, h9⟩; subst h9)
      go_wp2_with fail
      ((with_reducible refine R2.out.mono ?_); rintro e w9 ⟨rfl, h9⟩; subst h9)
      go_wp2_with fail
      go_roundw
      case rel => first | exact ⟨k + 1, by omega, by go_num, rfl⟩ | exact ⟨k + 1, by omega, by go_num, trivial⟩
      case measure => simp [intOf]; omega
    · obtain rfl : k = na := by omega
      have d1 : decide (k < k) = false := decide_eq_false (by omega)
      have d3 : decide ((nf : Int) ≤ (k : Int) + 1) = true := decide_eq_true (by omega)
      have d4 : decide ((nb : Int) ≤ (nf : Int)) = true := decide_eq_true (by omega)
      clear hlt
      go_wp2_with fail
      ((with_reducible refine (HL.out _).mono ?_); rintro e w13 ⟨rfl, k13⟩)
      go_wp2_with fail
      go_ret
      exact ⟨rfl, k_call KW.out k13⟩

theorem own : ownKnob Try.prog.godebug = none := by kernel_rfl
theorem laidOut : laidOutB Try.prog = true := by kernel_rfl

set_option maxHeartbeats 1000000 in
set_option maxRecDepth 100000 in
theorem lifted (os : Os) (started : os.Started) (H : Type) (enc : TypeId × Value → H) :
    ReturnsInHanded {} Try.checked os 6 .any (Rows.forwardMoreSpec.pre6 enc Try.prog Try.f6 Rows.forwardMoreRow.domain false) (Rows.forwardMoreSpec.post enc Try.prog Try.f6 false true false false) := by
  refine returnsInHanded_of_change_sized (C := Try.checked) own started (by kernel_rfl) Try.func6
    (ChangeSpec.witness6 (enc := enc) (C := Try.checked) false ⟨#[], #[.agg #[.int .i64 0, .slice none 0 0, .slice none 0 0, .slice none 0 0, .slice none 0 0, .bool false, .bool false, .bool false, .bool false, .bool false], .int .i64 0], []⟩ 8 (by kernel_rfl) (by kernel_rfl) (by kernel_rfl) (by kernel_rfl)) ?_
  intro W base args ds gs before hval0 hW hcnd hsz0 hholds
  have hval : ∀ (j : Nat) t v, Try.f6.params[j]? = some t → args[j]? = some v → Value.okWide Try.prog W .any base t v := hval0
  have hsz : (DataW.weightsEach Try.prog (Try.f6.params.toList ++ Rows.forwardMoreSpec.plain.varTypes Try.prog) (ds ++ gs)).all (· ≤ reachBytes) = true := hsz0
  have hW' := hW
  obtain ⟨p, q, hA0, hV, rfl, hfz, hnd⟩ := hW
  have hA : DataW.TrodAll enc Try.prog W 0 (fun _ => true) true Try.f6.params.toList args.toList ds p := hA0
  rw [Try.params6] at hA hval hsz
  obtain ⟨v0, vs0, d0, ds0, p0, q0, hargs, rfl, rfl, h0, r0⟩ := trodAll_cons hA
  obtain ⟨v1, vs1, d1, ds1, p1, q1, rfl, rfl, rfl, h1, r1⟩ := trodAll_cons r0
  obtain ⟨rfl, rfl, rfl⟩ := trodAll_nil r1
  obtain rfl : args = #[v0, v1] := by cases args; simp_all
  obtain ⟨rfl, rfl⟩ := trodVars_none hV
  have k0 := h0
  have lt0 : ∀ x ∈ p0, x.block < W.heap.size := by obtain ⟨m, hm⟩ := k0; exact DataW.trod_lt m _ _ _ hm
  have k1 := h1
  have lt1 : ∀ x ∈ p1, x.block < W.heap.size := by obtain ⟨m, hm⟩ := k1; exact DataW.trod_lt m _ _ _ hm
  obtain ⟨cs0, rfl, hz0⟩ := okWide_struct Try.underlying24 (hval 0 24 v0 rfl rfl)
  obtain ⟨l0⟩ := cs0
  obtain ⟨c0_0, c0_1, c0_2, c0_3, c0_4, c0_5, c0_6, c0_7, c0_8, c0_9, rfl⟩ := list10 l0 (hz0.trans (by kernel_rfl))
  obtain ⟨fu0, hf0⟩ := h0
  obtain ⟨xs0, m0, -, hx0, -, hn0, hg0⟩ := DataW.trod_struct Try.underlying24 hf0
  obtain ⟨y0_0, y0_1, y0_2, y0_3, y0_4, y0_5, y0_6, y0_7, y0_8, y0_9, rfl⟩ := list10 xs0 hn0
  simp only [Prod.mk.injEq] at hx0
  obtain ⟨rfl, rfl⟩ := hx0
  have g0_0 : DataW.trod enc Try.prog W 0 (fun _ => true) true m0 3 (List.take (Try.prog.cellsOf 3) (List.drop 0 [c0_0, c0_1, c0_2, c0_3, c0_4, c0_5, c0_6, c0_7, c0_8, c0_9])) = some y0_0 := hg0 0 _ rfl
  rw [show Try.prog.cellsOf 3 = 1 from by kernel_rfl] at g0_0
  replace g0_0 : DataW.trod enc Try.prog W 0 (fun _ => true) true m0 3 [c0_0] = some y0_0 := g0_0
  have g0_1 : DataW.trod enc Try.prog W 0 (fun _ => true) true m0 22 (List.take (Try.prog.cellsOf 22) (List.drop 1 [c0_0, c0_1, c0_2, c0_3, c0_4, c0_5, c0_6, c0_7, c0_8, c0_9])) = some y0_1 := hg0 1 _ rfl
  rw [show Try.prog.cellsOf 22 = 1 from by kernel_rfl] at g0_1
  replace g0_1 : DataW.trod enc Try.prog W 0 (fun _ => true) true m0 22 [c0_1] = some y0_1 := g0_1
  have g0_2 : DataW.trod enc Try.prog W 0 (fun _ => true) true m0 22 (List.take (Try.prog.cellsOf 22) (List.drop 2 [c0_0, c0_1, c0_2, c0_3, c0_4, c0_5, c0_6, c0_7, c0_8, c0_9])) = some y0_2 := hg0 2 _ rfl
  rw [show Try.prog.cellsOf 22 = 1 from by kernel_rfl] at g0_2
  replace g0_2 : DataW.trod enc Try.prog W 0 (fun _ => true) true m0 22 [c0_2] = some y0_2 := g0_2
  have g0_3 : DataW.trod enc Try.prog W 0 (fun _ => true) true m0 22 (List.take (Try.prog.cellsOf 22) (List.drop 3 [c0_0, c0_1, c0_2, c0_3, c0_4, c0_5, c0_6, c0_7, c0_8, c0_9])) = some y0_3 := hg0 3 _ rfl
  rw [show Try.prog.cellsOf 22 = 1 from by kernel_rfl] at g0_3
  replace g0_3 : DataW.trod enc Try.prog W 0 (fun _ => true) true m0 22 [c0_3] = some y0_3 := g0_3
  have g0_4 : DataW.trod enc Try.prog W 0 (fun _ => true) true m0 22 (List.take (Try.prog.cellsOf 22) (List.drop 4 [c0_0, c0_1, c0_2, c0_3, c0_4, c0_5, c0_6, c0_7, c0_8, c0_9])) = some y0_4 := hg0 4 _ rfl
  rw [show Try.prog.cellsOf 22 = 1 from by kernel_rfl] at g0_4
  replace g0_4 : DataW.trod enc Try.prog W 0 (fun _ => true) true m0 22 [c0_4] = some y0_4 := g0_4
  have g0_5 : DataW.trod enc Try.prog W 0 (fun _ => true) true m0 4 (List.take (Try.prog.cellsOf 4) (List.drop 5 [c0_0, c0_1, c0_2, c0_3, c0_4, c0_5, c0_6, c0_7, c0_8, c0_9])) = some y0_5 := hg0 5 _ rfl
  rw [show Try.prog.cellsOf 4 = 1 from by kernel_rfl] at g0_5
  replace g0_5 : DataW.trod enc Try.prog W 0 (fun _ => true) true m0 4 [c0_5] = some y0_5 := g0_5
  have g0_6 : DataW.trod enc Try.prog W 0 (fun _ => true) true m0 4 (List.take (Try.prog.cellsOf 4) (List.drop 6 [c0_0, c0_1, c0_2, c0_3, c0_4, c0_5, c0_6, c0_7, c0_8, c0_9])) = some y0_6 := hg0 6 _ rfl
  rw [show Try.prog.cellsOf 4 = 1 from by kernel_rfl] at g0_6
  replace g0_6 : DataW.trod enc Try.prog W 0 (fun _ => true) true m0 4 [c0_6] = some y0_6 := g0_6
  have g0_7 : DataW.trod enc Try.prog W 0 (fun _ => true) true m0 4 (List.take (Try.prog.cellsOf 4) (List.drop 7 [c0_0, c0_1, c0_2, c0_3, c0_4, c0_5, c0_6, c0_7, c0_8, c0_9])) = some y0_7 := hg0 7 _ rfl
  rw [show Try.prog.cellsOf 4 = 1 from by kernel_rfl] at g0_7
  replace g0_7 : DataW.trod enc Try.prog W 0 (fun _ => true) true m0 4 [c0_7] = some y0_7 := g0_7
  have g0_8 : DataW.trod enc Try.prog W 0 (fun _ => true) true m0 4 (List.take (Try.prog.cellsOf 4) (List.drop 8 [c0_0, c0_1, c0_2, c0_3, c0_4, c0_5, c0_6, c0_7, c0_8, c0_9])) = some y0_8 := hg0 8 _ rfl
  rw [show Try.prog.cellsOf 4 = 1 from by kernel_rfl] at g0_8
  replace g0_8 : DataW.trod enc Try.prog W 0 (fun _ => true) true m0 4 [c0_8] = some y0_8 := g0_8
  have g0_9 : DataW.trod enc Try.prog W 0 (fun _ => true) true m0 4 (List.take (Try.prog.cellsOf 4) (List.drop 9 [c0_0, c0_1, c0_2, c0_3, c0_4, c0_5, c0_6, c0_7, c0_8, c0_9])) = some y0_9 := hg0 9 _ rfl
  rw [show Try.prog.cellsOf 4 = 1 from by kernel_rfl] at g0_9
  replace g0_9 : DataW.trod enc Try.prog W 0 (fun _ => true) true m0 4 [c0_9] = some y0_9 := g0_9
  clear hg0
  obtain ⟨a0_0, e0_0, rfl, w0_0⟩ := DataW.trod_int Try.underlying3 g0_0
  simp at e0_0
  subst e0_0
  obtain ⟨v0_1, L0_1, e0_1, hh0_1, qq0_1, ss0_1⟩ := ints_open g0_1
  simp at e0_1
  subst e0_1
  obtain ⟨v0_2, L0_2, e0_2, hh0_2, qq0_2, ss0_2⟩ := ints_open g0_2
  simp at e0_2
  subst e0_2
  obtain ⟨v0_3, L0_3, e0_3, hh0_3, qq0_3, ss0_3⟩ := ints_open g0_3
  simp at e0_3
  subst e0_3
  obtain ⟨v0_4, L0_4, e0_4, hh0_4, qq0_4, ss0_4⟩ := ints_open g0_4
  simp at e0_4
  subst e0_4
  obtain ⟨a0_5, e0_5, rfl⟩ := DataW.trod_bool Try.underlying4 g0_5
  simp at e0_5
  subst e0_5
  obtain ⟨a0_6, e0_6, rfl⟩ := DataW.trod_bool Try.underlying4 g0_6
  simp at e0_6
  subst e0_6
  obtain ⟨a0_7, e0_7, rfl⟩ := DataW.trod_bool Try.underlying4 g0_7
  simp at e0_7
  subst e0_7
  obtain ⟨a0_8, e0_8, rfl⟩ := DataW.trod_bool Try.underlying4 g0_8
  simp at e0_8
  subst e0_8
  obtain ⟨a0_9, e0_9, rfl⟩ := DataW.trod_bool Try.underlying4 g0_9
  simp at e0_9
  subst e0_9
  obtain ⟨a1, rfl, rfl, rfl, w1⟩ := open_int Try.underlying3 (hval 1 3 v1 rfl rfl) h1
  have ba0_0 := bounds_i64 w0_0
  have ba1 := bounds_i64 w1
  clear hA0 hval0
  refine (walk a0_0 c0_1 L0_1 c0_2 L0_2 c0_3 L0_3 c0_4 L0_4 a0_5 a0_6 a0_7 a0_8 a0_9 a1 W ba0_0.1 ba0_0.2 hh0_1 qq0_1 ss0_1 hh0_2 qq0_2 ss0_2 hh0_3 qq0_3 ss0_3 hh0_4 qq0_4 ss0_4 ba1.1 ba1.2).mono fun e W' ⟨he, bel⟩ => ?_
  subst he
  exact ⟨_, rfl, _, _, _, [], _, [], hW', trodAll_mk1 (shut_bool Try.underlying4 _), (trodAll_cons_mk (Below.trod laidOut (by kernel_rfl) (of_decide_eq_true (by kernel_rfl)) k0 bel lt0) (trodAll_cons_mk (Below.trod laidOut (by kernel_rfl) (of_decide_eq_true (by kernel_rfl)) k1 bel lt1) trodAll_mk0)), rfl, bel.frame _, fun h => by cases h⟩

theorem over : Rows.forwardMoreRow.holds Try.pinned (OpenSpec.ofChange Rows.forwardMoreSpec) :=
  OpenClaim.holds_of_wide 6 Try.f6 rfl rfl rfl rfl rfl rfl rfl ⟨rfl, rfl, rfl, rfl, rfl⟩ rfl rfl rfl rfl rfl (by kernel_rfl) Try.func6 (by kernel_rfl)
    (of_decide_eq_true (by kernel_rfl)) (by unfold Func.isWrapper; first | (rw [if_pos (by decide +kernel)]; kernel_rfl) | (rw [if_neg (by decide +kernel)]; exact ⟨rfl, rfl⟩))
    (fun os started H enc _ => lifted os started H enc)

/-- The statement. -/
theorem proved : Rows.ForwardMoreSaid := over
#print axioms proved
end Go.Proofs.Ytpaehbmhdjnofaa.forwardMoreLaw
