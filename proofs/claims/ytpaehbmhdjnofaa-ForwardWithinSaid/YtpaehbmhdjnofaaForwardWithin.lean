/-
  'siphonlaw22.ForwardWithin' returns true, whatever the input, and each argument reads behind the call as it read before. Conditions: none beyond those that the row itself states.
-/
import Derived.Test.YtpaehbmhdjnofaaRows
import Derived.Test.YtpaehbmhdjnofaaFwN
import Derived.WalkKit
import Derived.ProofKit
import Derived.OpenShut
import Derived.ShutString
import Derived.ChangeOld
import Derived.Below
import Derived.Carry
import Derived.SizedLaws
import Derived.Lib.SmallJoins
import Derived.ChangeArms
import Derived.WideShapes
namespace Go.Proofs.Ytpaehbmhdjnofaa.forwardWithinLaw
open Go.ChangeShapes Go.WideShapes Go.ChangeAt Go.RowKit Go.Joins
open Go.ChangeMaps (open_string shut_string)
set_option linter.unusedVariables false

theorem list10 {α : Type} (l : List α) (h : l.length = 10) : ∃ x0 x1 x2 x3 x4 x5 x6 x7 x8 x9 : α, l = [x0, x1, x2, x3, x4, x5, x6, x7, x8, x9] := by
  match l, h with
  | [x0, x1, x2, x3, x4, x5, x6, x7, x8, x9], _ => exact ⟨x0, x1, x2, x3, x4, x5, x6, x7, x8, x9, rfl⟩

set_option linter.unusedSimpArgs false
set_option maxHeartbeats 16000000 in
set_option maxRecDepth 100000 in
theorem walk (a0_0 : Int) (a0_1 : Value) (la0_1 : List Int) (a0_2 : Value) (la0_2 : List Int) (a0_3 : Value) (la0_3 : List Int) (a0_4 : Value) (la0_4 : List Int) (a0_5 : Bool) (a0_6 : Bool) (a0_7 : Bool) (a0_8 : Bool) (a0_9 : Bool) (a1 : Int) (w : World) (la0_0 : -9223372036854775808 ≤ a0_0) (ua0_0 : a0_0 ≤ 9223372036854775807) (ha0_1 : IntsAt w a0_1 la0_1) (qa0_1 : la0_1.length ≤ maxLen) (sa0_1 : I64 la0_1) (ha0_2 : IntsAt w a0_2 la0_2) (qa0_2 : la0_2.length ≤ maxLen) (sa0_2 : I64 la0_2) (ha0_3 : IntsAt w a0_3 la0_3) (qa0_3 : la0_3.length ≤ maxLen) (sa0_3 : I64 la0_3) (ha0_4 : IntsAt w a0_4 la0_4) (qa0_4 : la0_4.length ≤ maxLen) (sa0_4 : I64 la0_4) (la1 : -9223372036854775808 ≤ a1) (ua1 : a1 ≤ 9223372036854775807) :
    Calls Try.prog 5 #[.agg #[.int .i64 a0_0, a0_1, a0_2, a0_3, a0_4, .bool a0_5, .bool a0_6, .bool a0_7, .bool a0_8, .bool a0_9], .int .i64 a1] w fun e w' => e = .returned (.bool true) ∧ Below w.heap.size w w' := by
  have HM := Lib.hid ha0_1
  have HO := Lib.hid ha0_2
  have HR := Lib.hid ha0_3
  have HN := Lib.hid ha0_4
  have IM := Lib.hid sa0_1
  have IO := Lib.hid sa0_2
  have IR := Lib.hid sa0_3
  have IN_ := Lib.hid sa0_4
  obtain ⟨pm, cm, rfl⟩ := ha0_1.slice
  obtain ⟨po, co, rfl⟩ := ha0_2.slice
  obtain ⟨pr, cr, rfl⟩ := ha0_3.slice
  obtain ⟨pw, cw, rfl⟩ := ha0_4.slice
  obtain ⟨nm, hnm⟩ : ∃ nm, nm = la0_1.length := ⟨_, rfl⟩
  obtain ⟨no, hno⟩ : ∃ no, no = la0_2.length := ⟨_, rfl⟩
  obtain ⟨nr, hnr⟩ : ∃ nr, nr = la0_3.length := ⟨_, rfl⟩
  obtain ⟨nw, hnw⟩ : ∃ nw, nw = la0_4.length := ⟨_, rfl⟩
  rw [← hnm] at HM qa0_1 ⊢
  rw [← hno] at HO qa0_2 ⊢
  rw [← hnr] at HR qa0_3 ⊢
  rw [← hnw] at HN qa0_4 ⊢
  have LN := Lib.hid (And.intro hnm (And.intro hno (And.intro hnr hnw)))
  clear ha0_1 ha0_2 ha0_3 ha0_4 sa0_1 sa0_2 sa0_3 sa0_4 hnm hno hnr hnw
  have HL := Lib.hid fun U => live22_c U
  have TC := Lib.hid fun U => told22_c a0_0 pm po pr pw nm no nr nw cm co cr cw a0_5 a0_6 a0_7 a0_8 a0_9 U
  have FC := Lib.hid fun U => few22_c a0_0 pm po pr pw nm no nr nw cm co cr cw a0_5 a0_6 a0_7 a0_8 a0_9 U
  have CK := Lib.hid (show fewB nm no nr nw = true → ∀ U, Below w.heap.size w U → CasOk U (.slice pm nm cm) (.slice po no co) (.slice pr nr cr) (.slice pw nw cw) la0_1 la0_2 la0_3 la0_4 from fun hf U k => by
    obtain ⟨f1, f2, f3, f4⟩ := (fewB_iff _ _ _ _).1 hf
    obtain ⟨e1, e2, e3, e4⟩ := LN.out
    exact ⟨HM.out.below k, HO.out.below k, HR.out.below k, HN.out.below k, by omega, by omega, by omega, by omega, IM.out, IO.out, IR.out, IN_.out⟩)
  have FL := Lib.hid (show fewB nm no nr nw = true → la0_1.length ≤ 40 ∧ la0_2.length ≤ 40 ∧ la0_3.length ≤ 40 ∧ la0_4.length ≤ 40 from fun hf => by
    obtain ⟨f1, f2, f3, f4⟩ := (fewB_iff _ _ _ _).1 hf
    obtain ⟨e1, e2, e3, e4⟩ := LN.out
    omega)
  generalize fewB nm no nr nw = fw at FC CK FL
  have HB := Lib.hid (heap_new w (.cells #[.int .i64 a0_0, .slice pm nm cm, .slice po no co, .slice pr nr cr, .slice pw nw cw, .bool a0_5, .bool a0_6, .bool a0_7, .bool a0_8, .bool a0_9] 24))
  have K0 := Lib.hid (show Below w.heap.size w (w.alloc (.cells #[.int .i64 a0_0, .slice pm nm cm, .slice po no co, .slice pr nr cr, .slice pw nw cw, .bool a0_5, .bool a0_6, .bool a0_7, .bool a0_8, .bool a0_9] 24)) from (Below.refl _ _).alloc (Nat.le_refl _) _)
  clear HM HO HR HN LN
  go_enter Try.func5, Try.ntmps5
  go_upto_region 1 with fail
  generalize w.alloc (.cells #[.int .i64 a0_0, .slice pm nm cm, .slice po no co, .slice pr nr cr, .slice pw nw cw, .bool a0_5, .bool a0_6, .bool a0_7, .bool a0_8, .bool a0_9] 24) = W at HB K0 ⊢
  have x0 : W.cell? ⟨w.heap.size, 0, none⟩ = some (.int .i64 a0_0) := cell_of_block HB.out rfl
  have x1 : W.cell? ⟨w.heap.size, 1, none⟩ = some (.slice pm nm cm) := cell_of_block HB.out rfl
  have x2 : W.cell? ⟨w.heap.size, 2, none⟩ = some (.slice po no co) := cell_of_block HB.out rfl
  have x3 : W.cell? ⟨w.heap.size, 3, none⟩ = some (.slice pr nr cr) := cell_of_block HB.out rfl
  have x4 : W.cell? ⟨w.heap.size, 4, none⟩ = some (.slice pw nw cw) := cell_of_block HB.out rfl
  have x5 : W.cell? ⟨w.heap.size, 5, none⟩ = some (.bool a0_5) := cell_of_block HB.out rfl
  have x6 : W.cell? ⟨w.heap.size, 6, none⟩ = some (.bool a0_6) := cell_of_block HB.out rfl
  have x7 : W.cell? ⟨w.heap.size, 7, none⟩ = some (.bool a0_7) := cell_of_block HB.out rfl
  have x8 : W.cell? ⟨w.heap.size, 8, none⟩ = some (.bool a0_8) := cell_of_block HB.out rfl
  have x9 : W.cell? ⟨w.heap.size, 9, none⟩ = some (.bool a0_9) := cell_of_block HB.out rfl
  go_wp2_with fail
  ((with_reducible refine (FC.out _).mono ?_); rintro e w1 ⟨rfl, k1⟩)
  have K1 := Lib.hid (k_call K0.out k1)
  have HB1 := Lib.hid (below_block k1 (lt_of_block HB.out) HB.out)
  clear k1 FC K0 HB x0 x1 x2 x3 x4 x5 x6 x7 x8 x9
  rcases Bool.eq_false_or_eq_true fw with rfl | rfl
  rotate_left
  · clear CK FL TC
    go_wp2_with fail
    ((with_reducible refine (HL.out _).mono ?_); rintro e w2 ⟨rfl, k2⟩)
    have K2 := Lib.hid (k_call K1.out k2)
    clear k2 K1 HB1
    go_wp2_with fail
    go_ret
    exact ⟨rfl, K2.out⟩
  have C0 := Lib.hid (CK.out rfl)
  have FL0 := Lib.hid (FL.out rfl)
  clear CK FL
  have x0 : w1.cell? ⟨w.heap.size, 0, none⟩ = some (.int .i64 a0_0) := cell_of_block HB1.out rfl
  have x1 : w1.cell? ⟨w.heap.size, 1, none⟩ = some (.slice pm nm cm) := cell_of_block HB1.out rfl
  have x2 : w1.cell? ⟨w.heap.size, 2, none⟩ = some (.slice po no co) := cell_of_block HB1.out rfl
  have x3 : w1.cell? ⟨w.heap.size, 3, none⟩ = some (.slice pr nr cr) := cell_of_block HB1.out rfl
  have x4 : w1.cell? ⟨w.heap.size, 4, none⟩ = some (.slice pw nw cw) := cell_of_block HB1.out rfl
  have x5 : w1.cell? ⟨w.heap.size, 5, none⟩ = some (.bool a0_5) := cell_of_block HB1.out rfl
  have x6 : w1.cell? ⟨w.heap.size, 6, none⟩ = some (.bool a0_6) := cell_of_block HB1.out rfl
  have x7 : w1.cell? ⟨w.heap.size, 7, none⟩ = some (.bool a0_7) := cell_of_block HB1.out rfl
  have x8 : w1.cell? ⟨w.heap.size, 8, none⟩ = some (.bool a0_8) := cell_of_block HB1.out rfl
  have x9 : w1.cell? ⟨w.heap.size, 9, none⟩ = some (.bool a0_9) := cell_of_block HB1.out rfl
  go_wp2_with fail
  ((with_reducible refine (TC.out _).mono ?_); rintro e w2 ⟨rfl, k⟩)
  have K2 := Lib.hid (k_call K1.out k)
  have HB2 := Lib.hid (below_block k (lt_of_block HB1.out) HB1.out)
  clear k K1 HB1 x0 x1 x2 x3 x4 x5 x6 x7 x8 x9
  have QC := Lib.hid (decide_c a0_0 _ _ _ _ a0_5 a0_6 a0_7 a0_8 a0_9 la0_1 la0_2 la0_3 la0_4 w2 (C0.out _ K2.out) la0_0 ua0_0)
  unfold IPost at QC
  go_wp2_with fail
  ((with_reducible refine (QC.out).mono ?_); rintro e w3 ⟨uA, rfl, iA, k⟩)
  have K3 := Lib.hid (k_call K2.out k)
  have HB3 := Lib.hid (below_block k (lt_of_block HB2.out) HB2.out)
  clear k K2 HB2 QC
  have IA := Lib.hid iA
  clear iA
  have HAS := Lib.hid (rhas_c _ _ a1 w3 (by have h3 : (decL ⟨a0_0, la0_1, la0_2, la0_3, la0_4, a0_5, a0_6, a0_7, a0_8, a0_9⟩).length ≤ la0_1.length := decL_len ⟨a0_0, la0_1, la0_2, la0_3, la0_4, a0_5, a0_6, a0_7, a0_8, a0_9⟩; have := FL0.out; omega) IA.out)
  have HD := Lib.hid (decL_has ⟨a0_0, la0_1, la0_2, la0_3, la0_4, a0_5, a0_6, a0_7, a0_8, a0_9⟩ a1)
  generalize hasB (decL ⟨a0_0, la0_1, la0_2, la0_3, la0_4, a0_5, a0_6, a0_7, a0_8, a0_9⟩) a1 = go at HAS HD
  clear IA
  go_wp2_with fail
  ((with_reducible refine HAS.out.mono ?_); rintro e w9 ⟨rfl, h9⟩; subst h9)
  have HO := Lib.hid (rhas_c _ la0_2 a1 w3 (by have := FL0.out; omega) (C0.out _ K3.out).o)
  have HM := Lib.hid (rhas_c _ la0_1 a1 w3 (by have := FL0.out; omega) (C0.out _ K3.out).m)
  have HR := Lib.hid (rhas_c _ la0_3 a1 w3 (by have := FL0.out; omega) (C0.out _ K3.out).r)
  have HN := Lib.hid (rhas_c _ la0_4 a1 w3 (by have := FL0.out; omega) (C0.out _ K3.out).n)
  replace HD : Hid (go = (decide (a1 ≠ a0_0) && hasB la0_2 a1 && hasB la0_1 a1 && ((a0_5 || a0_6 || a0_7 || (!a0_8 && a0_9)) || (hasB la0_3 a1 || (a0_8 && hasB la0_4 a1))))) := HD
  generalize hasB la0_2 a1 = bo at HO HD
  generalize hasB la0_1 a1 = bm at HM HD
  generalize hasB la0_3 a1 = br at HR HD
  generalize hasB la0_4 a1 = bn at HN HD
  obtain ⟨may, hmay⟩ : ∃ may, may = (decide (a1 ≠ a0_0) && bo && bm) := ⟨_, rfl⟩
  obtain ⟨must, hmust⟩ : ∃ must, must = ((a0_5 || a0_6 || a0_7 || (!a0_8 && a0_9)) || (br || (a0_8 && bn))) := ⟨_, rfl⟩
  rw [← hmay, ← hmust] at HD
  have EM := Lib.hid hmay
  have EU := Lib.hid hmust
  clear hmay hmust C0 FL0 TC HAS
  have x0 : w3.cell? ⟨w.heap.size, 0, none⟩ = some (.int .i64 a0_0) := cell_of_block HB3.out rfl
  have x1 : w3.cell? ⟨w.heap.size, 1, none⟩ = some (.slice pm nm cm) := cell_of_block HB3.out rfl
  have x2 : w3.cell? ⟨w.heap.size, 2, none⟩ = some (.slice po no co) := cell_of_block HB3.out rfl
  have x3 : w3.cell? ⟨w.heap.size, 3, none⟩ = some (.slice pr nr cr) := cell_of_block HB3.out rfl
  have x4 : w3.cell? ⟨w.heap.size, 4, none⟩ = some (.slice pw nw cw) := cell_of_block HB3.out rfl
  have x5 : w3.cell? ⟨w.heap.size, 5, none⟩ = some (.bool a0_5) := cell_of_block HB3.out rfl
  have x6 : w3.cell? ⟨w.heap.size, 6, none⟩ = some (.bool a0_6) := cell_of_block HB3.out rfl
  have x7 : w3.cell? ⟨w.heap.size, 7, none⟩ = some (.bool a0_7) := cell_of_block HB3.out rfl
  have x8 : w3.cell? ⟨w.heap.size, 8, none⟩ = some (.bool a0_8) := cell_of_block HB3.out rfl
  have x9 : w3.cell? ⟨w.heap.size, 9, none⟩ = some (.bool a0_9) := cell_of_block HB3.out rfl
  go_upto_region 4 with fail
  go_cut [6] (fun s6 wx => s6 = .bool may ∧ w3 = wx)
  case first =>
    by_cases hq : a1 = a0_0
    · obtain ⟨q1, q2⟩ := eq_t hq
      obtain rfl : may = false := by rw [EM.out]; simp [hq]
      clear hq
      go_wp2_with fail
      go_meet
      exact ⟨rfl, rfl⟩
    · obtain ⟨q1, q2⟩ := ne_t hq
      have EM2 := Lib.hid (show may = (bo && bm) by rw [EM.out]; simp [hq])
      clear hq
      rcases Bool.eq_false_or_eq_true bo with rfl | rfl
      · obtain rfl : may = bm := EM2.out
        go_wp2_with fail
        ((with_reducible refine HO.out.mono ?_); rintro e w9 ⟨rfl, h9⟩; subst h9)
        go_wp2_with fail
        ((with_reducible refine HM.out.mono ?_); rintro e w9 ⟨rfl, h9⟩; subst h9)
        go_wp2_with fail
        go_meet
        exact ⟨rfl, rfl⟩
      · obtain rfl : may = false := EM2.out
        go_wp2_with fail
        ((with_reducible refine HO.out.mono ?_); rintro e w9 ⟨rfl, h9⟩; subst h9)
        go_wp2_with fail
        go_meet
        exact ⟨rfl, rfl⟩
  case rest =>
  obtain ⟨rfl, rfl⟩ := hcut
  have G1 := Lib.hid (show (go && !may) = false by rw [HD.out]; cases may <;> simp)
  clear HO HM EM
  go_upto_region 5 with fail
  go_cut [37] (fun s37 wx => s37 = .bool false ∧ w3 = wx)
  case first =>
    rcases Bool.eq_false_or_eq_true go with rfl | rfl
    · obtain rfl : may = true := by have h := G1.out; simpa using h
      go_wp2_with fail
      go_meet
      exact ⟨rfl, rfl⟩
    · go_wp2_with fail
      go_meet
      exact ⟨rfl, rfl⟩
  case rest =>
  obtain ⟨rfl, rfl⟩ := hcut
  clear G1
  go_upto_region 7 with fail
  go_cut [7] (fun s7 wx => s7 = .bool must ∧ w3 = wx)
  case first =>
    clear HD
    rcases Bool.eq_false_or_eq_true br with rfl | rfl
    · obtain rfl : must = true := by rw [EU.out]; simp
      go_wp2_with fail
      ((with_reducible refine HR.out.mono ?_); rintro e w9 ⟨rfl, h9⟩; subst h9)
      go_wp2_with fail
      go_meet
      exact ⟨rfl, rfl⟩
    · rcases Bool.eq_false_or_eq_true a0_8 with rfl | rfl
      · rcases Bool.eq_false_or_eq_true bn with rfl | rfl
        · obtain rfl : must = true := by rw [EU.out]; simp
          go_wp2_with fail
          ((with_reducible refine HR.out.mono ?_); rintro e w9 ⟨rfl, h9⟩; subst h9)
          go_wp2_with fail
          ((with_reducible refine HN.out.mono ?_); rintro e w9 ⟨rfl, h9⟩; subst h9)
          go_wp2_with fail
          go_meet
          exact ⟨rfl, rfl⟩
        · have EU2 := Lib.hid (show must = (a0_5 || a0_6 || a0_7) by rw [EU.out]; simp)
          clear EU
          go_wp2_with fail
          ((with_reducible refine HR.out.mono ?_); rintro e w9 ⟨rfl, h9⟩; subst h9)
          go_wp2_with fail
          ((with_reducible refine HN.out.mono ?_); rintro e w9 ⟨rfl, h9⟩; subst h9)
          rcases Bool.eq_false_or_eq_true a0_5 with rfl | rfl
          · obtain rfl : must = true := by rw [EU2.out]; simp
            go_wp2_with fail
            go_meet
            exact ⟨rfl, rfl⟩
          · rcases Bool.eq_false_or_eq_true a0_6 with rfl | rfl
            · obtain rfl : must = true := by rw [EU2.out]; simp
              go_wp2_with fail
              go_meet
              exact ⟨rfl, rfl⟩
            · obtain rfl : must = a0_7 := by rw [EU2.out]; simp
              rcases Bool.eq_false_or_eq_true must with rfl | rfl
              all_goals
                go_wp2_with fail
                go_meet
                exact ⟨rfl, rfl⟩
      · have EU2 := Lib.hid (show must = (a0_5 || a0_6 || a0_7 || a0_9) by rw [EU.out]; simp)
        clear EU
        go_wp2_with fail
        ((with_reducible refine HR.out.mono ?_); rintro e w9 ⟨rfl, h9⟩; subst h9)
        rcases Bool.eq_false_or_eq_true a0_5 with rfl | rfl
        · obtain rfl : must = true := by rw [EU2.out]; simp
          go_wp2_with fail
          go_meet
          exact ⟨rfl, rfl⟩
        · rcases Bool.eq_false_or_eq_true a0_6 with rfl | rfl
          · obtain rfl : must = true := by rw [EU2.out]; simp
            go_wp2_with fail
            go_meet
            exact ⟨rfl, rfl⟩
          · rcases Bool.eq_false_or_eq_true a0_7 with rfl | rfl
            · obtain rfl : must = true := by rw [EU2.out]; simp
              go_wp2_with fail
              go_meet
              exact ⟨rfl, rfl⟩
            · obtain rfl : must = a0_9 := by rw [EU2.out]; simp
              rcases Bool.eq_false_or_eq_true must with rfl | rfl
              all_goals
                go_wp2_with fail
                go_meet
                exact ⟨rfl, rfl⟩
  case rest =>
  obtain ⟨rfl, rfl⟩ := hcut
  clear HR HN EU HB3 x0 x1 x2 x3 x4 x5 x6 x7 x8 x9
  rcases Bool.eq_false_or_eq_true may with rfl | rfl
  · rcases Bool.eq_false_or_eq_true must with rfl | rfl
    all_goals
      have hgo := HD.out
      simp only [Bool.and_true, Bool.and_false, Bool.true_and, Bool.false_and] at hgo
      subst hgo
      go_wp2_with fail
      ((with_reducible refine (HL.out _).mono ?_); rintro e w13 ⟨rfl, k13⟩)
      go_wp2_with fail
      go_ret
      exact ⟨rfl, k_call K3.out k13⟩
  · have hgo := HD.out
    simp only [Bool.and_true, Bool.and_false, Bool.true_and, Bool.false_and] at hgo
    subst hgo
    go_wp2_with fail
    ((with_reducible refine (HL.out _).mono ?_); rintro e w13 ⟨rfl, k13⟩)
    go_wp2_with fail
    go_ret
    exact ⟨rfl, k_call K3.out k13⟩

theorem own : ownKnob Try.prog.godebug = none := by kernel_rfl
theorem laidOut : laidOutB Try.prog = true := by kernel_rfl

set_option maxHeartbeats 1000000 in
set_option maxRecDepth 100000 in
theorem lifted (os : Os) (started : os.Started) (H : Type) (enc : TypeId × Value → H) :
    ReturnsInHanded {} Try.checked os 5 .any (Rows.forwardWithinSpec.pre6 enc Try.prog Try.f5 Rows.forwardWithinRow.domain false) (Rows.forwardWithinSpec.post enc Try.prog Try.f5 false true false false) := by
  refine returnsInHanded_of_change_sized (C := Try.checked) own started (by kernel_rfl) Try.func5
    (ChangeSpec.witness6 (enc := enc) (C := Try.checked) false ⟨#[], #[.agg #[.int .i64 0, .slice none 0 0, .slice none 0 0, .slice none 0 0, .slice none 0 0, .bool false, .bool false, .bool false, .bool false, .bool false], .int .i64 0], []⟩ 8 (by kernel_rfl) (by kernel_rfl) (by kernel_rfl) (by kernel_rfl)) ?_
  intro W base args ds gs before hval0 hW hcnd hsz0 hholds
  have hval : ∀ (j : Nat) t v, Try.f5.params[j]? = some t → args[j]? = some v → Value.okWide Try.prog W .any base t v := hval0
  have hsz : (DataW.weightsEach Try.prog (Try.f5.params.toList ++ Rows.forwardWithinSpec.plain.varTypes Try.prog) (ds ++ gs)).all (· ≤ reachBytes) = true := hsz0
  have hW' := hW
  obtain ⟨p, q, hA0, hV, rfl, hfz, hnd⟩ := hW
  have hA : DataW.TrodAll enc Try.prog W 0 (fun _ => true) true Try.f5.params.toList args.toList ds p := hA0
  rw [Try.params5] at hA hval hsz
  obtain ⟨v0, vs0, d0, ds0, p0, q0, hargs, rfl, rfl, h0, r0⟩ := trodAll_cons hA
  obtain ⟨v1, vs1, d1, ds1, p1, q1, rfl, rfl, rfl, h1, r1⟩ := trodAll_cons r0
  obtain ⟨rfl, rfl, rfl⟩ := trodAll_nil r1
  obtain rfl : args = #[v0, v1] := by cases args; simp_all
  obtain ⟨rfl, rfl⟩ := trodVars_none hV
  have k0 := h0
  have lt0 : ∀ x ∈ p0, x.block < W.heap.size := by obtain ⟨m, hm⟩ := k0; exact DataW.trod_lt m _ _ _ hm
  have k1 := h1
  have lt1 : ∀ x ∈ p1, x.block < W.heap.size := by obtain ⟨m, hm⟩ := k1; exact DataW.trod_lt m _ _ _ hm
  obtain ⟨cs0, rfl, hz0⟩ := okWide_struct Try.underlying24 (hval 0 24 v0 rfl rfl)
  obtain ⟨l0⟩ := cs0
  obtain ⟨c0_0, c0_1, c0_2, c0_3, c0_4, c0_5, c0_6, c0_7, c0_8, c0_9, rfl⟩ := list10 l0 (hz0.trans (by kernel_rfl))
  obtain ⟨fu0, hf0⟩ := h0
  obtain ⟨xs0, m0, -, hx0, -, hn0, hg0⟩ := DataW.trod_struct Try.underlying24 hf0
  obtain ⟨y0_0, y0_1, y0_2, y0_3, y0_4, y0_5, y0_6, y0_7, y0_8, y0_9, rfl⟩ := list10 xs0 hn0
  simp only [Prod.mk.injEq] at hx0
  obtain ⟨rfl, rfl⟩ := hx0
  have g0_0 : DataW.trod enc Try.prog W 0 (fun _ => true) true m0 3 (List.take (Try.prog.cellsOf 3) (List.drop 0 [c0_0, c0_1, c0_2, c0_3, c0_4, c0_5, c0_6, c0_7, c0_8, c0_9])) = some y0_0 := hg0 0 _ rfl
  rw [show Try.prog.cellsOf 3 = 1 from by kernel_rfl] at g0_0
  replace g0_0 : DataW.trod enc Try.prog W 0 (fun _ => true) true m0 3 [c0_0] = some y0_0 := g0_0
  have g0_1 : DataW.trod enc Try.prog W 0 (fun _ => true) true m0 22 (List.take (Try.prog.cellsOf 22) (List.drop 1 [c0_0, c0_1, c0_2, c0_3, c0_4, c0_5, c0_6, c0_7, c0_8, c0_9])) = some y0_1 := hg0 1 _ rfl
  rw [show Try.prog.cellsOf 22 = 1 from by kernel_rfl] at g0_1
  replace g0_1 : DataW.trod enc Try.prog W 0 (fun _ => true) true m0 22 [c0_1] = some y0_1 := g0_1
  have g0_2 : DataW.trod enc Try.prog W 0 (fun _ => true) true m0 22 (List.take (Try.prog.cellsOf 22) (List.drop 2 [c0_0, c0_1, c0_2, c0_3, c0_4, c0_5, c0_6, c0_7, c0_8, c0_9])) = some y0_2 := hg0 2 _ rfl
  rw [show Try.prog.cellsOf 22 = 1 from by kernel_rfl] at g0_2
  replace g0_2 : DataW.trod enc Try.prog W 0 (fun _ => true) true m0 22 [c0_2] = some y0_2 := g0_2
  have g0_3 : DataW.trod enc Try.prog W 0 (fun _ => true) true m0 22 (List.take (Try.prog.cellsOf 22) (List.drop 3 [c0_0, c0_1, c0_2, c0_3, c0_4, c0_5, c0_6, c0_7, c0_8, c0_9])) = some y0_3 := hg0 3 _ rfl
  rw [show Try.prog.cellsOf 22 = 1 from by kernel_rfl] at g0_3
  replace g0_3 : DataW.trod enc Try.prog W 0 (fun _ => true) true m0 22 [c0_3] = some y0_3 := g0_3
  have g0_4 : DataW.trod enc Try.prog W 0 (fun _ => true) true m0 22 (List.take (Try.prog.cellsOf 22) (List.drop 4 [c0_0, c0_1, c0_2, c0_3, c0_4, c0_5, c0_6, c0_7, c0_8, c0_9])) = some y0_4 := hg0 4 _ rfl
  rw [show Try.prog.cellsOf 22 = 1 from by kernel_rfl] at g0_4
  replace g0_4 : DataW.trod enc Try.prog W 0 (fun _ => true) true m0 22 [c0_4] = some y0_4 := g0_4
  have g0_5 : DataW.trod enc Try.prog W 0 (fun _ => true) true m0 4 (List.take (Try.prog.cellsOf 4) (List.drop 5 [c0_0, c0_1, c0_2, c0_3, c0_4, c0_5, c0_6, c0_7, c0_8, c0_9])) = some y0_5 := hg0 5 _ rfl
  rw [show Try.prog.cellsOf 4 = 1 from by kernel_rfl] at g0_5
  replace g0_5 : DataW.trod enc Try.prog W 0 (fun _ => true) true m0 4 [c0_5] = some y0_5 := g0_5
  have g0_6 : DataW.trod enc Try.prog W 0 (fun _ => true) true m0 4 (List.take (Try.prog.cellsOf 4) (List.drop 6 [c0_0, c0_1, c0_2, c0_3, c0_4, c0_5, c0_6, c0_7, c0_8, c0_9])) = some y0_6 := hg0 6 _ rfl
  rw [show Try.prog.cellsOf 4 = 1 from by kernel_rfl] at g0_6
  replace g0_6 : DataW.trod enc Try.prog W 0 (fun _ => true) true m0 4 [c0_6] = some y0_6 := g0_6
  have g0_7 : DataW.trod enc Try.prog W 0 (fun _ => true) true m0 4 (List.take (Try.prog.cellsOf 4) (List.drop 7 [c0_0, c0_1, c0_2, c0_3, c0_4, c0_5, c0_6, c0_7, c0_8, c0_9])) = some y0_7 := hg0 7 _ rfl
  rw [show Try.prog.cellsOf 4 = 1 from by kernel_rfl] at g0_7
  replace g0_7 : DataW.trod enc Try.prog W 0 (fun _ => true) true m0 4 [c0_7] = some y0_7 := g0_7
  have g0_8 : DataW.trod enc Try.prog W 0 (fun _ => true) true m0 4 (List.take (Try.prog.cellsOf 4) (List.drop 8 [c0_0, c0_1, c0_2, c0_3, c0_4, c0_5, c0_6, c0_7, c0_8, c0_9])) = some y0_8 := hg0 8 _ rfl
  rw [show Try.prog.cellsOf 4 = 1 from by kernel_rfl] at g0_8
  replace g0_8 : DataW.trod enc Try.prog W 0 (fun _ => true) true m0 4 [c0_8] = some y0_8 := g0_8
  have g0_9 : DataW.trod enc Try.prog W 0 (fun _ => true) true m0 4 (List.take (Try.prog.cellsOf 4) (List.drop 9 [c0_0, c0_1, c0_2, c0_3, c0_4, c0_5, c0_6, c0_7, c0_8, c0_9])) = some y0_9 := hg0 9 _ rfl
  rw [show Try.prog.cellsOf 4 = 1 from by kernel_rfl] at g0_9
  replace g0_9 : DataW.trod enc Try.prog W 0 (fun _ => true) true m0 4 [c0_9] = some y0_9 := g0_9
  clear hg0
  obtain ⟨a0_0, e0_0, rfl, w0_0⟩ := DataW.trod_int Try.underlying3 g0_0
  simp at e0_0
  subst e0_0
  obtain ⟨v0_1, L0_1, e0_1, hh0_1, qq0_1, ss0_1⟩ := ints_open g0_1
  simp at e0_1
  subst e0_1
  obtain ⟨v0_2, L0_2, e0_2, hh0_2, qq0_2, ss0_2⟩ := ints_open g0_2
  simp at e0_2
  subst e0_2
  obtain ⟨v0_3, L0_3, e0_3, hh0_3, qq0_3, ss0_3⟩ := ints_open g0_3
  simp at e0_3
  subst e0_3
  obtain ⟨v0_4, L0_4, e0_4, hh0_4, qq0_4, ss0_4⟩ := ints_open g0_4
  simp at e0_4
  subst e0_4
  obtain ⟨a0_5, e0_5, rfl⟩ := DataW.trod_bool Try.underlying4 g0_5
  simp at e0_5
  subst e0_5
  obtain ⟨a0_6, e0_6, rfl⟩ := DataW.trod_bool Try.underlying4 g0_6
  simp at e0_6
  subst e0_6
  obtain ⟨a0_7, e0_7, rfl⟩ := DataW.trod_bool Try.underlying4 g0_7
  simp at e0_7
  subst e0_7
  obtain ⟨a0_8, e0_8, rfl⟩ := DataW.trod_bool Try.underlying4 g0_8
  simp at e0_8
  subst e0_8
  obtain ⟨a0_9, e0_9, rfl⟩ := DataW.trod_bool Try.underlying4 g0_9
  simp at e0_9
  subst e0_9
  obtain ⟨a1, rfl, rfl, rfl, w1⟩ := open_int Try.underlying3 (hval 1 3 v1 rfl rfl) h1
  have ba0_0 := bounds_i64 w0_0
  have ba1 := bounds_i64 w1
  clear hA0 hval0
  refine (walk a0_0 c0_1 L0_1 c0_2 L0_2 c0_3 L0_3 c0_4 L0_4 a0_5 a0_6 a0_7 a0_8 a0_9 a1 W ba0_0.1 ba0_0.2 hh0_1 qq0_1 ss0_1 hh0_2 qq0_2 ss0_2 hh0_3 qq0_3 ss0_3 hh0_4 qq0_4 ss0_4 ba1.1 ba1.2).mono fun e W' ⟨he, bel⟩ => ?_
  subst he
  exact ⟨_, rfl, _, _, _, [], _, [], hW', trodAll_mk1 (shut_bool Try.underlying4 _), (trodAll_cons_mk (Below.trod laidOut (by kernel_rfl) (of_decide_eq_true (by kernel_rfl)) k0 bel lt0) (trodAll_cons_mk (Below.trod laidOut (by kernel_rfl) (of_decide_eq_true (by kernel_rfl)) k1 bel lt1) trodAll_mk0)), rfl, bel.frame _, fun h => by cases h⟩

theorem over : Rows.forwardWithinRow.holds Try.pinned (OpenSpec.ofChange Rows.forwardWithinSpec) :=
  OpenClaim.holds_of_wide 5 Try.f5 rfl rfl rfl rfl rfl rfl rfl ⟨rfl, rfl, rfl, rfl, rfl⟩ rfl rfl rfl rfl rfl (by kernel_rfl) Try.func5 (by kernel_rfl)
    (of_decide_eq_true (by kernel_rfl)) (by unfold Func.isWrapper; first | (rw [if_pos (by decide +kernel)]; kernel_rfl) | (rw [if_neg (by decide +kernel)]; exact ⟨rfl, rfl⟩))
    (fun os started H enc _ => lifted os started H enc)

/-- The statement. -/
theorem proved : Rows.ForwardWithinSaid := over
#print axioms proved
end Go.Proofs.Ytpaehbmhdjnofaa.forwardWithinLaw
