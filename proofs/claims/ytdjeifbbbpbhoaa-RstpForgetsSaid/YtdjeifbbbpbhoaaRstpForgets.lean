/-
  'siphonlaw15.RstpForgets' returns true, whatever the input, and each argument reads behind the call as it read before. Conditions: none beyond those that the row itself states.
-/
import Derived.Test.YtdjeifbbbpbhoaaRows
import Derived.Test.YtdjeifbbbpbhoaaRsL
import Derived.Test.YtdjeifbbbpbhoaaRsN
import Derived.WalkKit
import Derived.ProofKit
import Derived.OpenShut
import Derived.ShutString
import Derived.ChangeOld
import Derived.Below
import Derived.Carry
import Derived.SizedLaws
import Derived.Lib.SmallJoins
import Derived.ChangeArms
import Derived.WideShapes
namespace Go.Proofs.Ytdjeifbbbpbhoaa.rstpForgetsLaw
open Go.ChangeShapes Go.WideShapes Go.ChangeAt Go.RowKit Go.Joins
open Go.ChangeMaps (open_string shut_string)
set_option linter.unusedVariables false

theorem list4 {α : Type} (l : List α) (h : l.length = 4) : ∃ x0 x1 x2 x3 : α, l = [x0, x1, x2, x3] := by
  match l, h with
  | [x0, x1, x2, x3], _ => exact ⟨x0, x1, x2, x3, rfl⟩

theorem role_at0 {w : World} {B t rb cap : Nat} {A : List Nat} {T : Part} (h : HasS w B t rb cap A T) {a : Nat} {p : Prt} (ha : A[0]? = some a) (hp : T.ps[0]? = some p) : Calls Try.prog 17 #[.pointer (some ⟨t, 0, none⟩), .int .i64 0] w fun e w' => e = .returned (.int .i64 p.role) ∧ Below w.heap.size w w' :=
  (role_yes (k := 0) h ha hp).mono fun e w' ⟨h1, h2⟩ => ⟨h1, by subst h2; exact Below.refl _ _⟩
theorem field_V0 (r c g q : Int) (U : World) : (Instr.field 36 (.agg #[.int .u64 r, .int .i64 c, .int .u64 g, .int .i64 q]) 0).run Try.prog U = .ok (.int .u64 r) U := by
  have h1 := Try.underlying36
  have h2 := Try.isAgg22
  have h3 := Try.sizeOf22
  simp [Instr.field, asAgg, part, go_sem, h2, h3]
theorem field_V1 (r c g q : Int) (U : World) : (Instr.field 36 (.agg #[.int .u64 r, .int .i64 c, .int .u64 g, .int .i64 q]) 1).run Try.prog U = .ok (.int .i64 c) U := by
  have h1 := Try.underlying36
  have h2 := Try.isAgg3
  have h3 := Try.sizeOf3
  simp [Instr.field, asAgg, part, go_sem, h2, h3]
theorem root_f {w : World} {B t rb cap : Nat} {A : List Nat} {T : Part} (h : HasS w B t rb cap A T) {r c g q : Int} (e : T.best = (r, c, g, q)) : Calls Try.prog 20 #[.pointer (some ⟨t, 0, none⟩)] w fun e w' => e = .returned (.agg #[.int .u64 r, .int .i64 c, .int .u64 g, .int .i64 q]) ∧ Below w.heap.size w w' := by
  have := root_c h
  rw [e] at this
  exact this

set_option maxHeartbeats 16000000 in
set_option maxRecDepth 100000 in
theorem walk (a0 : Int) (a1_0 : Int) (a1_1 : Int) (a1_2 : Int) (a1_3 : Int) (a2 : Int) (w : World) (la0 : 0 ≤ a0) (ua0 : a0 ≤ 18446744073709551615) (la1_0 : 0 ≤ a1_0) (ua1_0 : a1_0 ≤ 18446744073709551615) (la1_1 : -9223372036854775808 ≤ a1_1) (ua1_1 : a1_1 ≤ 9223372036854775807) (la1_2 : 0 ≤ a1_2) (ua1_2 : a1_2 ≤ 18446744073709551615) (la1_3 : -9223372036854775808 ≤ a1_3) (ua1_3 : a1_3 ≤ 9223372036854775807) (la2 : -9223372036854775808 ≤ a2) (ua2 : a2 ≤ 9223372036854775807) :
    Calls Try.prog 7 #[.int .u64 a0, .agg #[.int .u64 a1_0, .int .i64 a1_1, .int .u64 a1_2, .int .i64 a1_3], .int .i64 a2] w fun e w' => e = .returned (.bool true) ∧ Below w.heap.size w w' := by
  have B0 := Lib.hid (Bx.start w #[.int .u64 a1_0, .int .i64 a1_1, .int .u64 a1_2, .int .i64 a1_3] 36)
  have HL := Lib.hid fun U => live15_c U
  have x0 : (w.alloc (.cells #[.int .u64 a1_0, .int .i64 a1_1, .int .u64 a1_2, .int .i64 a1_3] 36)).cell? ⟨w.heap.size, 0, none⟩ = some (.int .u64 a1_0) := B0.out.cell 0 rfl
  have x1 : (w.alloc (.cells #[.int .u64 a1_0, .int .i64 a1_1, .int .u64 a1_2, .int .i64 a1_3] 36)).cell? ⟨w.heap.size, 1, none⟩ = some (.int .i64 a1_1) := B0.out.cell 1 rfl
  have x2 : (w.alloc (.cells #[.int .u64 a1_0, .int .i64 a1_1, .int .u64 a1_2, .int .i64 a1_3] 36)).cell? ⟨w.heap.size, 2, none⟩ = some (.int .u64 a1_2) := B0.out.cell 2 rfl
  by_cases c1 : a0 ≤ a1_0
  · have dc1 : decide (a0 ≤ a1_0) = true := decide_eq_true c1
    clear c1
    go_enter Try.func7, Try.ntmps7
    go_upto_region 1 with fail
    generalize w.alloc (.cells #[.int .u64 a1_0, .int .i64 a1_1, .int .u64 a1_2, .int .i64 a1_3] 36) = W at B0 x0 x1 x2 ⊢
    go_wp2_with fail
    ((with_reducible refine (HL.out _).mono ?_); rintro e w3 ⟨rfl, h3⟩)
    go_wp2_with fail
    go_ret
    exact ⟨rfl, B0.out.bel.trans (h3.mono B0.out.bel.size)⟩
  · have dc1 : decide (a0 ≤ a1_0) = false := decide_eq_false c1
    by_cases c2 : a1_2 = a0
    · obtain ⟨dc2, ec2⟩ := eq_t c2
      clear c2
      go_enter Try.func7, Try.ntmps7
      go_upto_region 1 with fail
      generalize w.alloc (.cells #[.int .u64 a1_0, .int .i64 a1_1, .int .u64 a1_2, .int .i64 a1_3] 36) = W at B0 x0 x1 x2 ⊢
      go_wp2_with fail
      ((with_reducible refine (HL.out _).mono ?_); rintro e w3 ⟨rfl, h3⟩)
      go_wp2_with fail
      go_ret
      exact ⟨rfl, B0.out.bel.trans (h3.mono B0.out.bel.size)⟩
    · obtain ⟨dc2, ec2⟩ := ne_t c2
      by_cases c3 : a1_1 < 0
      · have dc3 : decide (a1_1 < 0) = true := decide_eq_true c3
        clear c3
        go_enter Try.func7, Try.ntmps7
        go_upto_region 1 with fail
        generalize w.alloc (.cells #[.int .u64 a1_0, .int .i64 a1_1, .int .u64 a1_2, .int .i64 a1_3] 36) = W at B0 x0 x1 x2 ⊢
        go_wp2_with fail
        ((with_reducible refine (HL.out _).mono ?_); rintro e w3 ⟨rfl, h3⟩)
        go_wp2_with fail
        go_ret
        exact ⟨rfl, B0.out.bel.trans (h3.mono B0.out.bel.size)⟩
      · have dc3 : decide (a1_1 < 0) = false := decide_eq_false c3
        by_cases c4 : 1000000 < a1_1
        · have dc4 : decide (1000000 < a1_1) = true := decide_eq_true c4
          clear c4
          go_enter Try.func7, Try.ntmps7
          go_upto_region 1 with fail
          generalize w.alloc (.cells #[.int .u64 a1_0, .int .i64 a1_1, .int .u64 a1_2, .int .i64 a1_3] 36) = W at B0 x0 x1 x2 ⊢
          go_wp2_with fail
          ((with_reducible refine (HL.out _).mono ?_); rintro e w3 ⟨rfl, h3⟩)
          go_wp2_with fail
          go_ret
          exact ⟨rfl, B0.out.bel.trans (h3.mono B0.out.bel.size)⟩
        · have dc4 : decide (1000000 < a1_1) = false := decide_eq_false c4
          by_cases c5 : a2 < 1
          · have dc5 : decide (a2 < 1) = true := decide_eq_true c5
            clear c5
            go_enter Try.func7, Try.ntmps7
            go_upto_region 1 with fail
            generalize w.alloc (.cells #[.int .u64 a1_0, .int .i64 a1_1, .int .u64 a1_2, .int .i64 a1_3] 36) = W at B0 x0 x1 x2 ⊢
            go_wp2_with fail
            ((with_reducible refine (HL.out _).mono ?_); rintro e w3 ⟨rfl, h3⟩)
            go_wp2_with fail
            go_ret
            exact ⟨rfl, B0.out.bel.trans (h3.mono B0.out.bel.size)⟩
          · have dc5 : decide (a2 < 1) = false := decide_eq_false c5
            by_cases c6 : 1000000 < a2
            · have dc6 : decide (1000000 < a2) = true := decide_eq_true c6
              clear c6
              go_enter Try.func7, Try.ntmps7
              go_upto_region 1 with fail
              generalize w.alloc (.cells #[.int .u64 a1_0, .int .i64 a1_1, .int .u64 a1_2, .int .i64 a1_3] 36) = W at B0 x0 x1 x2 ⊢
              go_wp2_with fail
              ((with_reducible refine (HL.out _).mono ?_); rintro e w3 ⟨rfl, h3⟩)
              go_wp2_with fail
              go_ret
              exact ⟨rfl, B0.out.bel.trans (h3.mono B0.out.bel.size)⟩
            · have dc6 : decide (1000000 < a2) = false := decide_eq_false c6
              have HF : Fgt a0 a1_0 a1_1 a1_2 a1_3 a2 := ⟨by omega, c2, by omega, by omega, by omega, by omega⟩
              have P1 := Lib.hid HF
              have g1 : 0 ≤ a1_1 := HF.c0
              have g2 : a1_1 ≤ 1000000 := HF.c1
              have g3 : 1 ≤ a2 := HF.k0
              have g4 : a2 ≤ 1000000 := HF.k1
              have EV := Lib.hid (fgt_hear HF false false false)
              have ET := Lib.hid fun m now => fgt_tick HF (m := m) (now := now)
              have EE := Lib.hid fun m => fgt_end HF (m := m)
              clear c1 c2 c3 c4 c5 c6 HF
              have hB2 := k_alloc B0.out.bel (.cells #[.int .i64 a2] 3)
              have HY := Lib.hid (new_yes (w0 := w) a0 _ [a2] _ (ints_lit (w.alloc (.cells #[.int .u64 a1_0, .int .i64 a1_1, .int .u64 a1_2, .int .i64 a1_3] 36)) a2 3) (by unfold mayCs; simp; omega) hB2)
              replace HY := Lib.hid (by have h := HY.out; rw [show (w.alloc (.cells #[.int .u64 a1_0, .int .i64 a1_1, .int .u64 a1_2, .int .i64 a1_3] 36)).heap.size = w.heap.size + 1 by simp] at h; exact h)
              have HB := Lib.hid fun U (kz : Below ((w.alloc (.cells #[.int .u64 a1_0, .int .i64 a1_1, .int .u64 a1_2, .int .i64 a1_3] 36)).alloc (.cells #[.int .i64 a2] 3)).heap.size ((w.alloc (.cells #[.int .u64 a1_0, .int .i64 a1_1, .int .u64 a1_2, .int .i64 a1_3] 36)).alloc (.cells #[.int .i64 a2] 3)) U) => (B0.out.alloc (.cells #[.int .i64 a2] 3)).below kz
              clear hB2
              go_enter Try.func7, Try.ntmps7
              go_upto_region 1 with fail
              go_wp2_with fail
              ((with_reducible refine HY.out.mono ?_); rintro e w1 ⟨t, rb, cap, A, rfl, hA, h1, b1⟩)
              have H := Lib.hid h1
              have BV := Lib.hid (HB.out w1 b1)
              obtain ⟨a, ha⟩ : ∃ a, A[0]? = some a := by
                match A, hA with
                | [a], _ => exact ⟨a, rfl⟩
              have HA := Lib.hid ha
              have HN := Lib.hid (link_s h1 0 true 10)
              clear h1 b1 ha hA HY HB B0 x0 x1 x2
              go_wp2_with fail
              ((with_reducible refine HN.out.mono ?_); rintro e w2 ⟨rfl, h2, k2⟩)
              have BV2 := Lib.hid (k2.cells BV.out.blk (by decide))
              have BB2 := Lib.hid h2.bel
              have HH := Lib.hid (hear_s h2 0 a1_0 a1_1 a1_2 a1_3 0 false false false 10 (by decide))
              have z0 : w2.cell? ⟨w.heap.size, 0, none⟩ = some (.int .u64 a1_0) := cell_of_block BV2.out rfl
              have z1 : w2.cell? ⟨w.heap.size, 1, none⟩ = some (.int .i64 a1_1) := cell_of_block BV2.out rfl
              have z2 : w2.cell? ⟨w.heap.size, 2, none⟩ = some (.int .u64 a1_2) := cell_of_block BV2.out rfl
              have z3 : w2.cell? ⟨w.heap.size, 3, none⟩ = some (.int .i64 a1_3) := cell_of_block BV2.out rfl
              clear h2 k2 HN H BV
              go_wp2_with fail
              ((with_reducible refine HH.out.mono ?_); rintro e w3 ⟨rfl, h3, k3⟩)
              rw [EV.out] at h3
              have BV3 := Lib.hid (k3.cells BV2.out (by decide))
              have H3 := Lib.hid h3
              clear h3 k3 HH BV2 BB2 z0 z1 z2 z3 EV
              go_wp2_with fail
              go_loopw [9] (fun i wr => ∃ m n : Int, 10 ≤ m ∧ m ≤ n ∧ n ≤ 16 ∧ m ≤ 15 ∧ i = .int .i64 n ∧ Hid (SSt w wr t rb cap A (fgt a0 a1_0 a1_1 a1_2 a1_3 a2 m)) ∧ Hid (wr.heap[w.heap.size]? = some (.cells #[.int .u64 a1_0, .int .i64 a1_1, .int .u64 a1_2, .int .i64 a1_3] 36 (0, 0)))) (fun i _ => (16 - intOf i).toNat)
              case atStart => exact ⟨10, 10, by omega, by omega, by omega, by omega, rfl, H3, BV3⟩
              case round =>
                obtain ⟨m, n, hm0, hmn, hn, hm, rfl, HS, HV⟩ := hrel
                by_cases hlt : n < 16
                · have HT := Lib.hid (tick_s HS.out n)
                  have ETT := Lib.hid (ET.out m n hm0 hmn (by omega))
                  go_wp2_with fail
                  ((with_reducible refine HT.out.mono ?_); rintro e w5 ⟨u5, rfl, -, h5, k5⟩)
                  rw [ETT.out] at h5
                  have HS5 := Lib.hid h5
                  have HV5 := Lib.hid (k5.cells HV.out (by decide))
                  clear h5 k5 HT HS HV ETT
                  have y0 : w5.cell? ⟨w.heap.size, 0, none⟩ = some (.int .u64 a1_0) := cell_of_block HV5.out rfl
                  have y1 : w5.cell? ⟨w.heap.size, 1, none⟩ = some (.int .i64 a1_1) := cell_of_block HV5.out rfl
                  have q0 := cell_regrown y0
                  have q1 := cell_regrown y1
                  have D1 := fun d os => Calls.regrown_of ((role_at0 (HS5.out.has.below (below_regrown w5 d os)) HA.out (p := ⟨a2, true, some ⟨(a1_0, a1_1, a1_2, a1_3), 0, 10⟩, 1, 10, false, false⟩) rfl))
                  have D2 := fun d os => Calls.regrown_of (root_f (HS5.out.has.below (below_regrown w5 d os)) (r := a1_0) (c := a1_1 + a2) (g := a1_2) (q := a1_3) rfl)
                  have hsum : IntKind.i64.wrap (a1_1 + a2) = a1_1 + a2 := IntWalk.i64_in _ (by omega)
                  have fv0 := field_V0 a1_0 (a1_1 + a2) a1_2 a1_3
                  have fv1 := field_V1 a1_0 (a1_1 + a2) a1_2 a1_3
                  obtain ⟨n2, n3⟩ := eq_t (show a1_0 = a1_0 from rfl)
                  obtain ⟨n4, n5⟩ := eq_t (show a1_1 + a2 = a1_1 + a2 from rfl)
                  clear y0 y1
                  go_wp2_with fail
                  go_upto_region 12 with fail
                  refine wp_region_quiet_below (by kernel_rfl) (by kernel_rfl) ?_
                  repeat (quiet_step (first | with_reducible exact D1 _ _ | with_reducible exact D2 _ _))
                  refine wpQuiet_nil ?_
                  intro _ hw
                  obtain ⟨⟨dq, osq⟩, hw2⟩ := hw
                  subst hw2
                  have hB5 := Lib.hid (below_regrown w5 dq osq)
                  clear q0 q1 D1 D2 fv0 fv1
                  generalize Go.Sort.grow (redrawn w5 dq) osq = w6 at hB5 ⊢
                  have HS6 := Lib.hid (HS5.out.below hB5.out)
                  have HV6 := Lib.hid (below_block hB5.out (lt_of_block HV5.out) HV5.out)
                  clear hB5 HS5 HV5
                  go_wp2_with fail
                  go_roundw
                  case rel => exact ⟨n, n + 1, by omega, by omega, by omega, by omega, rfl, HS6, HV6⟩
                  case measure => simp [intOf]; omega
                · obtain rfl : n = 16 := by omega
                  have HT := Lib.hid (tick_s HS.out 16)
                  have ETT := Lib.hid (EE.out m hm0 hm)
                  clear hlt
                  go_wp2_with fail
                  ((with_reducible refine HT.out.mono ?_); rintro e w5 ⟨u5, rfl, -, h5, k5⟩)
                  rw [ETT.out] at h5
                  have C1 := Lib.hid ((role_at0 h5.has HA.out (p := ⟨a2, true, none, 2, 10, false, false⟩) rfl))
                  have C2 := Lib.hid fun U (kz : Below w5.heap.size w5 U) => root_f (h5.has.below kz) (r := a0) (c := 0) (g := a0) (q := 0) rfl
                  have C3 := Lib.hid fun U => pown_c a0 U
                  have HB5 := Lib.hid h5.bel
                  have E1 := fun U => eql_V a0 0 a0 0 a0 0 a0 0 U
                  have E2 := fun U => equalIn_V a0 0 a0 0 a0 0 a0 0 U
                  rw [eqV_self] at E1 E2
                  have E3 := guard_V
                  clear h5 k5 HT HS HV ETT
                  go_wp2_with fail
                  ((with_reducible refine C1.out.mono ?_); rintro e w6 ⟨rfl, h6⟩)
                  go_wp2_with fail
                  ((with_reducible refine (C2.out _ h6).mono ?_); rintro e w7 ⟨rfl, h7⟩)
                  have K7 := Lib.hid (k_call h6 h7)
                  clear h6 h7
                  go_wp2_with fail
                  ((with_reducible refine (C3.out _).mono ?_); rintro e w8 ⟨rfl, h8⟩)
                  have K8 := Lib.hid (k_call K7.out h8)
                  clear h8 K7
                  go_wp2_with fail
                  ((with_reducible refine (HL.out _).mono ?_); rintro e w9 ⟨rfl, h9⟩)
                  go_wp2_with fail
                  go_ret
                  have k9 := k_call K8.out h9
                  exact ⟨by simp, HB5.out.trans (k9.mono HB5.out.size)⟩

theorem own : ownKnob Try.prog.godebug = none := by kernel_rfl
theorem laidOut : laidOutB Try.prog = true := by kernel_rfl

set_option maxHeartbeats 1000000 in
set_option maxRecDepth 100000 in
theorem lifted (os : Os) (started : os.Started) (H : Type) (enc : TypeId × Value → H) :
    ReturnsInHanded {} Try.checked os 7 .any (Rows.rstpForgetsSpec.pre6 enc Try.prog Try.f7 Rows.rstpForgetsRow.domain false) (Rows.rstpForgetsSpec.post enc Try.prog Try.f7 false true false false) := by
  refine returnsInHanded_of_change_sized (C := Try.checked) own started (by kernel_rfl) Try.func7
    (ChangeSpec.witness6 (enc := enc) (C := Try.checked) false ⟨#[], #[.int .u64 0, .agg #[.int .u64 0, .int .i64 0, .int .u64 0, .int .i64 0], .int .i64 0], []⟩ 8 (by kernel_rfl) (by kernel_rfl) (by kernel_rfl) (by kernel_rfl)) ?_
  intro W base args ds gs before hval0 hW hcnd hsz0 hholds
  have hval : ∀ (j : Nat) t v, Try.f7.params[j]? = some t → args[j]? = some v → Value.okWide Try.prog W .any base t v := hval0
  have hsz : (DataW.weightsEach Try.prog (Try.f7.params.toList ++ Rows.rstpForgetsSpec.plain.varTypes Try.prog) (ds ++ gs)).all (· ≤ reachBytes) = true := hsz0
  have hW' := hW
  obtain ⟨p, q, hA0, hV, rfl, hfz, hnd⟩ := hW
  have hA : DataW.TrodAll enc Try.prog W 0 (fun _ => true) true Try.f7.params.toList args.toList ds p := hA0
  rw [Try.params7] at hA hval hsz
  obtain ⟨v0, vs0, d0, ds0, p0, q0, hargs, rfl, rfl, h0, r0⟩ := trodAll_cons hA
  obtain ⟨v1, vs1, d1, ds1, p1, q1, rfl, rfl, rfl, h1, r1⟩ := trodAll_cons r0
  obtain ⟨v2, vs2, d2, ds2, p2, q2, rfl, rfl, rfl, h2, r2⟩ := trodAll_cons r1
  obtain ⟨rfl, rfl, rfl⟩ := trodAll_nil r2
  obtain rfl : args = #[v0, v1, v2] := by cases args; simp_all
  obtain ⟨rfl, rfl⟩ := trodVars_none hV
  have k0 := h0
  have lt0 : ∀ x ∈ p0, x.block < W.heap.size := by obtain ⟨m, hm⟩ := k0; exact DataW.trod_lt m _ _ _ hm
  have k1 := h1
  have lt1 : ∀ x ∈ p1, x.block < W.heap.size := by obtain ⟨m, hm⟩ := k1; exact DataW.trod_lt m _ _ _ hm
  have k2 := h2
  have lt2 : ∀ x ∈ p2, x.block < W.heap.size := by obtain ⟨m, hm⟩ := k2; exact DataW.trod_lt m _ _ _ hm
  obtain ⟨a0, rfl, rfl, rfl, w0⟩ := open_int Try.underlying22 (hval 0 22 v0 rfl rfl) h0
  obtain ⟨cs1, rfl, hz1⟩ := okWide_struct Try.underlying36 (hval 1 36 v1 rfl rfl)
  obtain ⟨l1⟩ := cs1
  obtain ⟨c1_0, c1_1, c1_2, c1_3, rfl⟩ := list4 l1 (hz1.trans (by kernel_rfl))
  obtain ⟨fu1, hf1⟩ := h1
  obtain ⟨xs1, m1, -, hx1, -, hn1, hg1⟩ := DataW.trod_struct Try.underlying36 hf1
  obtain ⟨y1_0, y1_1, y1_2, y1_3, rfl⟩ := list4 xs1 hn1
  simp only [Prod.mk.injEq] at hx1
  obtain ⟨rfl, rfl⟩ := hx1
  have g1_0 : DataW.trod enc Try.prog W 0 (fun _ => true) true m1 22 (List.take (Try.prog.cellsOf 22) (List.drop 0 [c1_0, c1_1, c1_2, c1_3])) = some y1_0 := hg1 0 _ rfl
  rw [show Try.prog.cellsOf 22 = 1 from by kernel_rfl] at g1_0
  replace g1_0 : DataW.trod enc Try.prog W 0 (fun _ => true) true m1 22 [c1_0] = some y1_0 := g1_0
  have g1_1 : DataW.trod enc Try.prog W 0 (fun _ => true) true m1 3 (List.take (Try.prog.cellsOf 3) (List.drop 1 [c1_0, c1_1, c1_2, c1_3])) = some y1_1 := hg1 1 _ rfl
  rw [show Try.prog.cellsOf 3 = 1 from by kernel_rfl] at g1_1
  replace g1_1 : DataW.trod enc Try.prog W 0 (fun _ => true) true m1 3 [c1_1] = some y1_1 := g1_1
  have g1_2 : DataW.trod enc Try.prog W 0 (fun _ => true) true m1 22 (List.take (Try.prog.cellsOf 22) (List.drop 2 [c1_0, c1_1, c1_2, c1_3])) = some y1_2 := hg1 2 _ rfl
  rw [show Try.prog.cellsOf 22 = 1 from by kernel_rfl] at g1_2
  replace g1_2 : DataW.trod enc Try.prog W 0 (fun _ => true) true m1 22 [c1_2] = some y1_2 := g1_2
  have g1_3 : DataW.trod enc Try.prog W 0 (fun _ => true) true m1 3 (List.take (Try.prog.cellsOf 3) (List.drop 3 [c1_0, c1_1, c1_2, c1_3])) = some y1_3 := hg1 3 _ rfl
  rw [show Try.prog.cellsOf 3 = 1 from by kernel_rfl] at g1_3
  replace g1_3 : DataW.trod enc Try.prog W 0 (fun _ => true) true m1 3 [c1_3] = some y1_3 := g1_3
  clear hg1
  obtain ⟨a1_0, e1_0, rfl, w1_0⟩ := DataW.trod_int Try.underlying22 g1_0
  simp at e1_0
  subst e1_0
  obtain ⟨a1_1, e1_1, rfl, w1_1⟩ := DataW.trod_int Try.underlying3 g1_1
  simp at e1_1
  subst e1_1
  obtain ⟨a1_2, e1_2, rfl, w1_2⟩ := DataW.trod_int Try.underlying22 g1_2
  simp at e1_2
  subst e1_2
  obtain ⟨a1_3, e1_3, rfl, w1_3⟩ := DataW.trod_int Try.underlying3 g1_3
  simp at e1_3
  subst e1_3
  obtain ⟨a2, rfl, rfl, rfl, w2⟩ := open_int Try.underlying3 (hval 2 3 v2 rfl rfl) h2
  have ba0 := bounds_u64 w0
  have ba1_0 := bounds_u64 w1_0
  have ba1_1 := bounds_i64 w1_1
  have ba1_2 := bounds_u64 w1_2
  have ba1_3 := bounds_i64 w1_3
  have ba2 := bounds_i64 w2
  clear hA0 hval0
  refine (walk a0 a1_0 a1_1 a1_2 a1_3 a2 W ba0.1 ba0.2 ba1_0.1 ba1_0.2 ba1_1.1 ba1_1.2 ba1_2.1 ba1_2.2 ba1_3.1 ba1_3.2 ba2.1 ba2.2).mono fun e W' ⟨he, bel⟩ => ?_
  subst he
  exact ⟨_, rfl, _, _, _, [], _, [], hW', trodAll_mk1 (shut_bool Try.underlying4 _), (trodAll_cons_mk (Below.trod laidOut (by kernel_rfl) (of_decide_eq_true (by kernel_rfl)) k0 bel lt0) (trodAll_cons_mk (Below.trod laidOut (by kernel_rfl) (of_decide_eq_true (by kernel_rfl)) k1 bel lt1) (trodAll_cons_mk (Below.trod laidOut (by kernel_rfl) (of_decide_eq_true (by kernel_rfl)) k2 bel lt2) trodAll_mk0))), rfl, bel.frame _, fun h => by cases h⟩

theorem over : Rows.rstpForgetsRow.holds Try.pinned (OpenSpec.ofChange Rows.rstpForgetsSpec) :=
  OpenClaim.holds_of_wide 7 Try.f7 rfl rfl rfl rfl rfl rfl rfl ⟨rfl, rfl, rfl, rfl, rfl⟩ rfl rfl rfl rfl rfl (by kernel_rfl) Try.func7 (by kernel_rfl)
    (of_decide_eq_true (by kernel_rfl)) (by unfold Func.isWrapper; first | (rw [if_pos (by decide +kernel)]; kernel_rfl) | (rw [if_neg (by decide +kernel)]; exact ⟨rfl, rfl⟩))
    (fun os started H enc _ => lifted os started H enc)

/-- The statement. -/
theorem proved : Rows.RstpForgetsSaid := over
#print axioms proved
end Go.Proofs.Ytdjeifbbbpbhoaa.rstpForgetsLaw
