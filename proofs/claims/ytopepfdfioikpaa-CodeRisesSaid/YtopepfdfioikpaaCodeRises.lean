/-
  'siphonlaw07.CodeRises' returns true, whatever the input, and each argument reads behind the call as it read before. Conditions: none beyond those that the row itself states.
-/
import Derived.Test.YtopepfdfioikpaaRows
import Derived.Test.YtopepfdfioikpaaCodeE
import Derived.WalkKit
import Derived.ProofKit
import Derived.OpenShut
import Derived.ShutString
import Derived.ChangeOld
import Derived.Below
import Derived.Carry
import Derived.SizedLaws
import Derived.Lib.SmallJoins
import Derived.ChangeArms
import Derived.WideShapes
namespace Go.Proofs.Ytopepfdfioikpaa.codeRisesLaw
open Go.ChangeShapes Go.WideShapes Go.ChangeAt Go.RowKit Go.Joins
open Go.ChangeMaps (open_string shut_string)
set_option linter.unusedVariables false

set_option maxHeartbeats 1000000 in
set_option maxRecDepth 100000 in
theorem walk (a0 : Int) (w : World) (la0 : -9223372036854775808 ≤ a0) (ua0 : a0 ≤ 9223372036854775807) :
    Calls Try.prog 6 #[.int .i64 a0] w fun e w' => e = .returned (.bool true) ∧ Below w.heap.size w w' := by
  have HL := Lib.hid fun U => live7_c U
  by_cases c0 : a0 < 0
  · go_enter Try.func6, Try.ntmps6
    go_wp2_with fail
    refine (HL.out _).mono ?_
    rintro e w5 ⟨rfl, n5, rfl⟩
    go_wp2_with fail
    go_ret
    exact ⟨rfl, below_drewN (Below.refl _ _) _⟩
  · have c1 : 0 ≤ a0 := by omega
    by_cases c2 : 65535 ≤ a0
    · clear c0
      go_enter Try.func6, Try.ntmps6
      go_wp2_with fail
      refine (HL.out _).mono ?_
      rintro e w5 ⟨rfl, n5, rfl⟩
      go_wp2_with fail
      go_ret
      exact ⟨rfl, below_drewN (Below.refl _ _) _⟩
    · have c3 : a0 < 65535 := by omega
      have H1 := Lib.hid fun U => dec16_c a0 U
      have H2 := Lib.hid fun U => dec16_c (a0 + 1) U
      have e1 : decI 12 a0 = ((decN 12 a0.toNat : Int), 0) := by unfold decI; rw [if_neg (by omega)]
      have e2 : decI 12 (a0 + 1) = ((decN 12 (a0.toNat + 1) : Int), 0) := by unfold decI; rw [if_neg (by omega), show (a0 + 1).toNat = a0.toNat + 1 from by omega]
      rw [e1] at H1
      rw [e2] at H2
      have hlt : (decN 12 a0.toNat : Int) < (decN 12 (a0.toNat + 1) : Int) := by
        have := dec_succ 12 a0.toNat (by omega)
        omega
      obtain ⟨x, hx⟩ : ∃ x : Int, x = decN 12 a0.toNat := ⟨_, rfl⟩
      obtain ⟨y, hy⟩ : ∃ y : Int, y = decN 12 (a0.toNat + 1) := ⟨_, rfl⟩
      rw [← hx] at H1 hlt
      rw [← hy] at H2 hlt
      clear e1 e2 hx hy c0 c2
      by_cases c4 : 255 ≤ a0
      · go_enter Try.func6, Try.ntmps6
        go_wp2_with fail
        refine (H1.out _).mono ?_
        rintro e w1 ⟨rfl, n1, rfl⟩
        go_wp2_with fail
        refine (H2.out _).mono ?_
        rintro e w2 ⟨rfl, n2, rfl⟩
        go_wp2_with fail
        refine (HL.out _).mono ?_
        rintro e w5 ⟨rfl, n5, rfl⟩
        go_wp2_with fail
        go_ret
        exact ⟨rfl, below_drewN (Below.refl _ _) _⟩
      · have c5 : a0 < 255 := by omega
        have H3 := Lib.hid fun U => dec8_c a0 U
        have H4 := Lib.hid fun U => dec8_c (a0 + 1) U
        have e1 : decI 4 a0 = ((decN 4 a0.toNat : Int), 0) := by unfold decI; rw [if_neg (by omega)]
        have e2 : decI 4 (a0 + 1) = ((decN 4 (a0.toNat + 1) : Int), 0) := by unfold decI; rw [if_neg (by omega), show (a0 + 1).toNat = a0.toNat + 1 from by omega]
        rw [e1] at H3
        rw [e2] at H4
        have hlt2 : (decN 4 a0.toNat : Int) < (decN 4 (a0.toNat + 1) : Int) := by
          have := dec_succ 4 a0.toNat (by omega)
          omega
        obtain ⟨x', hx⟩ : ∃ x : Int, x = decN 4 a0.toNat := ⟨_, rfl⟩
        obtain ⟨y', hy⟩ : ∃ y : Int, y = decN 4 (a0.toNat + 1) := ⟨_, rfl⟩
        rw [← hx] at H3 hlt2
        rw [← hy] at H4 hlt2
        clear e1 e2 hx hy c4
        go_enter Try.func6, Try.ntmps6
        go_wp2_with fail
        refine (H1.out _).mono ?_
        rintro e w1 ⟨rfl, n1, rfl⟩
        go_wp2_with fail
        refine (H2.out _).mono ?_
        rintro e w2 ⟨rfl, n2, rfl⟩
        go_wp2_with fail
        refine (H3.out _).mono ?_
        rintro e w3 ⟨rfl, n3, rfl⟩
        go_wp2_with fail
        refine (H4.out _).mono ?_
        rintro e w4 ⟨rfl, n4, rfl⟩
        go_wp2_with fail
        refine (HL.out _).mono ?_
        rintro e w5 ⟨rfl, n5, rfl⟩
        go_wp2_with fail
        go_ret
        exact ⟨rfl, below_drewN (Below.refl _ _) _⟩

theorem own : ownKnob Try.prog.godebug = none := by kernel_rfl
theorem laidOut : laidOutB Try.prog = true := by kernel_rfl

set_option maxRecDepth 100000 in
theorem lifted (os : Os) (started : os.Started) (H : Type) (enc : TypeId × Value → H) :
    ReturnsInHanded {} Try.checked os 6 .any (Rows.codeRisesSpec.pre6 enc Try.prog Try.f6 Rows.codeRisesRow.domain false) (Rows.codeRisesSpec.post enc Try.prog Try.f6 false true false false) := by
  refine returnsInHanded_of_change_sized (C := Try.checked) own started (by kernel_rfl) Try.func6
    (ChangeSpec.witness6 (enc := enc) (C := Try.checked) false ⟨#[], #[.int .i64 0], []⟩ 8 (by kernel_rfl) (by kernel_rfl) (by kernel_rfl) (by kernel_rfl)) ?_
  intro W base args ds gs before hval0 hW hcnd hsz0 hholds
  have hval : ∀ (j : Nat) t v, Try.f6.params[j]? = some t → args[j]? = some v → Value.okWide Try.prog W .any base t v := hval0
  have hsz : (DataW.weightsEach Try.prog (Try.f6.params.toList ++ Rows.codeRisesSpec.plain.varTypes Try.prog) (ds ++ gs)).all (· ≤ reachBytes) = true := hsz0
  have hW' := hW
  obtain ⟨p, q, hA0, hV, rfl, hfz, hnd⟩ := hW
  have hA : DataW.TrodAll enc Try.prog W 0 (fun _ => true) true Try.f6.params.toList args.toList ds p := hA0
  rw [Try.params6] at hA hval hsz
  obtain ⟨v0, vs0, d0, ds0, p0, q0, hargs, rfl, rfl, h0, r0⟩ := trodAll_cons hA
  obtain ⟨rfl, rfl, rfl⟩ := trodAll_nil r0
  obtain rfl : args = #[v0] := by cases args; simp_all
  obtain ⟨rfl, rfl⟩ := trodVars_none hV
  have k0 := h0
  have lt0 : ∀ x ∈ p0, x.block < W.heap.size := by obtain ⟨m, hm⟩ := k0; exact DataW.trod_lt m _ _ _ hm
  obtain ⟨a0, rfl, rfl, rfl, w0⟩ := open_int Try.underlying3 (hval 0 3 v0 rfl rfl) h0
  have ba0 := bounds_i64 w0
  clear hA0 hval0
  refine (walk a0 W ba0.1 ba0.2).mono fun e W' ⟨he, bel⟩ => ?_
  subst he
  exact ⟨_, rfl, _, _, _, [], _, [], hW', trodAll_mk1 (shut_bool Try.underlying4 _), (trodAll_cons_mk (Below.trod laidOut (by kernel_rfl) (of_decide_eq_true (by kernel_rfl)) k0 bel lt0) trodAll_mk0), rfl, bel.frame _, fun h => by cases h⟩

theorem over : Rows.codeRisesRow.holds Try.pinned (OpenSpec.ofChange Rows.codeRisesSpec) :=
  OpenClaim.holds_of_wide 6 Try.f6 rfl rfl rfl rfl rfl rfl rfl ⟨rfl, rfl, rfl, rfl, rfl⟩ rfl rfl rfl rfl rfl (by kernel_rfl) Try.func6 (by kernel_rfl)
    (of_decide_eq_true (by kernel_rfl)) (by unfold Func.isWrapper; first | (rw [if_pos (by decide +kernel)]; kernel_rfl) | (rw [if_neg (by decide +kernel)]; exact ⟨rfl, rfl⟩))
    (fun os started H enc _ => lifted os started H enc)

/-- The statement. -/
theorem proved : Rows.CodeRisesSaid := over
#print axioms proved
end Go.Proofs.Ytopepfdfioikpaa.codeRisesLaw
