/-
  'siphonlaw07.CodeBack' returns true, whatever the input, and each argument reads behind the call as it read before. Conditions: none beyond those that the row itself states.
-/
import Derived.Test.YtopepfdfioikpaaRows
import Derived.Test.YtopepfdfioikpaaCodeE
import Derived.WalkKit
import Derived.ProofKit
import Derived.OpenShut
import Derived.ShutString
import Derived.ChangeOld
import Derived.Below
import Derived.Carry
import Derived.SizedLaws
import Derived.Lib.SmallJoins
import Derived.ChangeArms
import Derived.WideShapes
namespace Go.Proofs.Ytopepfdfioikpaa.codeBackLaw
open Go.ChangeShapes Go.WideShapes Go.ChangeAt Go.RowKit Go.Joins
open Go.ChangeMaps (open_string shut_string)
set_option linter.unusedVariables false

theorem dec_max (b c : Nat) (hb : b ≤ 12) (h : c < 16 * 2 ^ b) : decN b c ≤ 9223372036854775807 := by
  have hz := pow12 b (2 ^ b) hb rfl
  have ht := dec_top b
  have := dec_le b c (16 * 2 ^ b - 1) (by omega) (by omega)
  omega

set_option maxHeartbeats 1000000 in
set_option maxRecDepth 100000 in
theorem walk (a0 : Int) (w : World) (la0 : -9223372036854775808 ≤ a0) (ua0 : a0 ≤ 9223372036854775807) :
    Calls Try.prog 5 #[.int .i64 a0] w fun e w' => e = .returned (.bool true) ∧ Below w.heap.size w w' := by
  have H1 := Lib.hid fun U => dec8_c a0 U
  have H3 := Lib.hid fun U => dec16_c a0 U
  have HL := Lib.hid fun U => live7_c U
  by_cases c0 : a0 < 0 ∨ 65535 < a0
  · have e1 : decI 4 a0 = (0, 1) := by unfold decI; rw [if_pos (by omega)]
    have e2 : decI 12 a0 = (0, 1) := by unfold decI; rw [if_pos (by omega)]
    rw [e1] at H1
    rw [e2] at H3
    clear e1 e2
    by_cases c1 : a0 < 0
    · clear c0
      go_enter Try.func5, Try.ntmps5
      go_wp2_with fail
      refine (H1.out _).mono ?_
      rintro e w1 ⟨rfl, n1, rfl⟩
      go_wp2_with fail
      refine (H3.out _).mono ?_
      rintro e w3 ⟨rfl, n3, rfl⟩
      go_wp2_with fail
      refine (HL.out _).mono ?_
      rintro e w5 ⟨rfl, n5, rfl⟩
      go_wp2_with fail
      go_ret
      exact ⟨rfl, below_drewN (Below.refl _ _) _⟩
    · have c2 : 65535 < a0 := by omega
      have c3 : 0 ≤ a0 := by omega
      have c4 : 255 < a0 := by omega
      have d1 : decide (a0 ≤ 255) = false := decide_eq_false (by omega)
      have d2 : decide (a0 ≤ 65535) = false := decide_eq_false (by omega)
      clear c0 c1
      go_enter Try.func5, Try.ntmps5
      go_wp2_with fail
      refine (H1.out _).mono ?_
      rintro e w1 ⟨rfl, n1, rfl⟩
      go_wp2_with fail
      refine (H3.out _).mono ?_
      rintro e w3 ⟨rfl, n3, rfl⟩
      go_wp2_with fail
      refine (HL.out _).mono ?_
      rintro e w5 ⟨rfl, n5, rfl⟩
      go_wp2_with fail
      go_ret
      exact ⟨rfl, below_drewN (Below.refl _ _) _⟩
  · have c3 : 0 ≤ a0 := by omega
    have c4 : a0 ≤ 65535 := by omega
    have e2 : decI 12 a0 = ((decN 12 a0.toNat : Int), 0) := by unfold decI; rw [if_neg (by omega)]
    have m2 := dec_max 12 a0.toNat (by omega) (by omega)
    have H4 := Lib.hid fun U => enc16_c (decN 12 a0.toNat : Int) U (by omega)
    have k2 : encI 12 (decN 12 a0.toNat : Int) = (a0, 0) := by
      unfold encI
      rw [if_neg (by omega), Int.toNat_natCast, enc_dec 12 a0.toNat (by omega)]
      rw [Int.toNat_of_nonneg c3]
    rw [e2] at H3
    rw [k2] at H4
    obtain ⟨q, hq⟩ : ∃ q, q = decN 12 a0.toNat := ⟨_, rfl⟩
    rw [← hq] at H3 H4
    clear e2 k2 hq m2
    by_cases c1 : 255 < a0
    · have e1 : decI 4 a0 = (0, 1) := by unfold decI; rw [if_pos (by omega)]
      rw [e1] at H1
      have d1 : decide (a0 ≤ 255) = false := decide_eq_false (by omega)
      clear e1 c0
      go_enter Try.func5, Try.ntmps5
      go_wp2_with fail
      refine (H1.out _).mono ?_
      rintro e w1 ⟨rfl, n1, rfl⟩
      go_wp2_with fail
      refine (H3.out _).mono ?_
      rintro e w3 ⟨rfl, n3, rfl⟩
      go_wp2_with fail
      refine (H4.out _).mono ?_
      rintro e w4 ⟨rfl, n4, rfl⟩
      go_wp2_with fail
      refine (HL.out _).mono ?_
      rintro e w5 ⟨rfl, n5, rfl⟩
      go_wp2_with fail
      go_ret
      exact ⟨rfl, below_drewN (Below.refl _ _) _⟩
    · have c5 : a0 ≤ 255 := by omega
      have e1 : decI 4 a0 = ((decN 4 a0.toNat : Int), 0) := by unfold decI; rw [if_neg (by omega)]
      have m1 := dec_max 4 a0.toNat (by omega) (by omega)
      have H2 := Lib.hid fun U => enc8_c (decN 4 a0.toNat : Int) U (by omega)
      have k1 : encI 4 (decN 4 a0.toNat : Int) = (a0, 0) := by
        unfold encI
        rw [if_neg (by omega), Int.toNat_natCast, enc_dec 4 a0.toNat (by omega)]
        rw [Int.toNat_of_nonneg c3]
      rw [e1] at H1
      rw [k1] at H2
      obtain ⟨r, hr⟩ : ∃ r, r = decN 4 a0.toNat := ⟨_, rfl⟩
      rw [← hr] at H1 H2
      clear e1 k1 hr m1 c0 c1
      go_enter Try.func5, Try.ntmps5
      go_wp2_with fail
      refine (H1.out _).mono ?_
      rintro e w1 ⟨rfl, n1, rfl⟩
      go_wp2_with fail
      refine (H2.out _).mono ?_
      rintro e w2 ⟨rfl, n2, rfl⟩
      go_wp2_with fail
      refine (H3.out _).mono ?_
      rintro e w3 ⟨rfl, n3, rfl⟩
      go_wp2_with fail
      refine (H4.out _).mono ?_
      rintro e w4 ⟨rfl, n4, rfl⟩
      go_wp2_with fail
      refine (HL.out _).mono ?_
      rintro e w5 ⟨rfl, n5, rfl⟩
      go_wp2_with fail
      go_ret
      exact ⟨rfl, below_drewN (Below.refl _ _) _⟩

theorem own : ownKnob Try.prog.godebug = none := by kernel_rfl
theorem laidOut : laidOutB Try.prog = true := by kernel_rfl

set_option maxRecDepth 100000 in
theorem lifted (os : Os) (started : os.Started) (H : Type) (enc : TypeId × Value → H) :
    ReturnsInHanded {} Try.checked os 5 .any (Rows.codeBackSpec.pre6 enc Try.prog Try.f5 Rows.codeBackRow.domain false) (Rows.codeBackSpec.post enc Try.prog Try.f5 false true false false) := by
  refine returnsInHanded_of_change_sized (C := Try.checked) own started (by kernel_rfl) Try.func5
    (ChangeSpec.witness6 (enc := enc) (C := Try.checked) false ⟨#[], #[.int .i64 0], []⟩ 8 (by kernel_rfl) (by kernel_rfl) (by kernel_rfl) (by kernel_rfl)) ?_
  intro W base args ds gs before hval0 hW hcnd hsz0 hholds
  have hval : ∀ (j : Nat) t v, Try.f5.params[j]? = some t → args[j]? = some v → Value.okWide Try.prog W .any base t v := hval0
  have hsz : (DataW.weightsEach Try.prog (Try.f5.params.toList ++ Rows.codeBackSpec.plain.varTypes Try.prog) (ds ++ gs)).all (· ≤ reachBytes) = true := hsz0
  have hW' := hW
  obtain ⟨p, q, hA0, hV, rfl, hfz, hnd⟩ := hW
  have hA : DataW.TrodAll enc Try.prog W 0 (fun _ => true) true Try.f5.params.toList args.toList ds p := hA0
  rw [Try.params5] at hA hval hsz
  obtain ⟨v0, vs0, d0, ds0, p0, q0, hargs, rfl, rfl, h0, r0⟩ := trodAll_cons hA
  obtain ⟨rfl, rfl, rfl⟩ := trodAll_nil r0
  obtain rfl : args = #[v0] := by cases args; simp_all
  obtain ⟨rfl, rfl⟩ := trodVars_none hV
  have k0 := h0
  have lt0 : ∀ x ∈ p0, x.block < W.heap.size := by obtain ⟨m, hm⟩ := k0; exact DataW.trod_lt m _ _ _ hm
  obtain ⟨a0, rfl, rfl, rfl, w0⟩ := open_int Try.underlying3 (hval 0 3 v0 rfl rfl) h0
  have ba0 := bounds_i64 w0
  clear hA0 hval0
  refine (walk a0 W ba0.1 ba0.2).mono fun e W' ⟨he, bel⟩ => ?_
  subst he
  exact ⟨_, rfl, _, _, _, [], _, [], hW', trodAll_mk1 (shut_bool Try.underlying4 _), (trodAll_cons_mk (Below.trod laidOut (by kernel_rfl) (of_decide_eq_true (by kernel_rfl)) k0 bel lt0) trodAll_mk0), rfl, bel.frame _, fun h => by cases h⟩

theorem over : Rows.codeBackRow.holds Try.pinned (OpenSpec.ofChange Rows.codeBackSpec) :=
  OpenClaim.holds_of_wide 5 Try.f5 rfl rfl rfl rfl rfl rfl rfl ⟨rfl, rfl, rfl, rfl, rfl⟩ rfl rfl rfl rfl rfl (by kernel_rfl) Try.func5 (by kernel_rfl)
    (of_decide_eq_true (by kernel_rfl)) (by unfold Func.isWrapper; first | (rw [if_pos (by decide +kernel)]; kernel_rfl) | (rw [if_neg (by decide +kernel)]; exact ⟨rfl, rfl⟩))
    (fun os started H enc _ => lifted os started H enc)

/-- The statement. -/
theorem proved : Rows.CodeBackSaid := over
#print axioms proved
end Go.Proofs.Ytopepfdfioikpaa.codeBackLaw
