/-
  'siphonlaw07.CodeNear' returns true, whatever the input, and each argument reads behind the call as it read before. Conditions: none beyond those that the row itself states.
-/
import Derived.Test.YtopepfdfioikpaaRows
import Derived.Test.YtopepfdfioikpaaCodeE
import Derived.WalkKit
import Derived.ProofKit
import Derived.OpenShut
import Derived.ShutString
import Derived.ChangeOld
import Derived.Below
import Derived.Carry
import Derived.SizedLaws
import Derived.Lib.SmallJoins
import Derived.ChangeArms
import Derived.WideShapes
namespace Go.Proofs.Ytopepfdfioikpaa.codeNearLaw
open Go.ChangeShapes Go.WideShapes Go.ChangeAt Go.RowKit Go.Joins
open Go.ChangeMaps (open_string shut_string)
set_option linter.unusedVariables false

theorem near (b H : Nat) (n : Int) (hb : b ≤ 12) (hH : H = 2 ^ b) (h0 : 0 ≤ n) (h1 : n ≤ (decN b (16 * 2 ^ b - 1) : Int)) :
    ∃ c a : Nat, encI b n = ((c : Int), 0) ∧ decI b c = ((a : Int), 0) ∧ (a : Int) ≤ n ∧ (H : Int) * (n - a) ≤ n := by
  obtain ⟨N, rfl⟩ := Int.eq_ofNat_of_zero_le h0
  obtain ⟨k1, k2, k3⟩ := enc_is b N
  have hn := enc_near b N (by omega)
  rw [← hH] at hn
  refine ⟨encN b N, decN b (encN b N), ?_, ?_, by omega, ?_⟩
  · unfold encI; rw [if_neg (by omega)]; rfl
  · unfold decI; rw [if_neg (by omega)]; rfl
  · have e : ((N : Int) - (decN b (encN b N) : Int)) = ((N - decN b (encN b N) : Nat) : Int) := by omega
    rw [e, ← Int.natCast_mul]
    omega

set_option maxHeartbeats 1000000 in
set_option maxRecDepth 100000 in
theorem walk (a0 : Int) (w : World) (la0 : -9223372036854775808 ≤ a0) (ua0 : a0 ≤ 9223372036854775807) :
    Calls Try.prog 7 #[.int .i64 a0] w fun e w' => e = .returned (.bool true) ∧ Below w.heap.size w w' := by
  have HL := Lib.hid fun U => live7_c U
  by_cases c0 : a0 < 0
  · go_enter Try.func7, Try.ntmps7
    go_wp2_with fail
    refine (HL.out _).mono ?_
    rintro e w5 ⟨rfl, n5, rfl⟩
    go_wp2_with fail
    go_ret
    exact ⟨rfl, below_drewN (Below.refl _ _) _⟩
  · have c1 : 0 ≤ a0 := by omega
    by_cases c2 : 8387584 < a0
    · clear c0
      go_enter Try.func7, Try.ntmps7
      go_wp2_with fail
      refine (HL.out _).mono ?_
      rintro e w5 ⟨rfl, n5, rfl⟩
      go_wp2_with fail
      go_ret
      exact ⟨rfl, below_drewN (Below.refl _ _) _⟩
    · have c3 : a0 ≤ 8387584 := by omega
      have H1 := Lib.hid fun U => enc16_c a0 U ua0
      obtain ⟨c, a, e1, e2, hle, hnear⟩ := near 12 4096 a0 (by omega) (by decide) c1 (by have := dec_top 12; omega)
      have H2 := Lib.hid fun U => dec16_c (c : Int) U
      rw [e1] at H1
      rw [e2] at H2
      have hnear2 : (4096 : Int) * (a0 - a) ≤ a0 := hnear
      obtain ⟨C, hC⟩ : ∃ C : Int, C = c := ⟨_, rfl⟩
      obtain ⟨A, hA⟩ : ∃ A : Int, A = a := ⟨_, rfl⟩
      have hA0 : 0 ≤ A := by omega
      rw [← hC] at H1 H2
      rw [← hA] at H2 hle hnear2
      have hs : a0 - A ≤ 8387584 := by omega
      have hs0 : 0 ≤ a0 - A := by omega
      clear e1 e2 hC hA c0 c2 hnear
      by_cases c4 : 31744 < a0
      · go_enter Try.func7, Try.ntmps7
        go_wp2_with fail
        refine (H1.out _).mono ?_
        rintro e w1 ⟨rfl, n1, rfl⟩
        go_wp2_with fail
        refine (H2.out _).mono ?_
        rintro e w2 ⟨rfl, n2, rfl⟩
        go_wp2_with fail
        refine (HL.out _).mono ?_
        rintro e w5 ⟨rfl, n5, rfl⟩
        go_wp2_with fail
        go_ret
        exact ⟨rfl, below_drewN (Below.refl _ _) _⟩
      · have c5 : a0 ≤ 31744 := by omega
        have H3 := Lib.hid fun U => enc8_c a0 U ua0
        obtain ⟨d, b, e1, e2, hle3, hnear3⟩ := near 4 16 a0 (by omega) (by decide) c1 (by have := dec_top 4; omega)
        have H4 := Lib.hid fun U => dec8_c (d : Int) U
        rw [e1] at H3
        rw [e2] at H4
        have hnear4 : (16 : Int) * (a0 - b) ≤ a0 := hnear3
        obtain ⟨D, hD⟩ : ∃ D : Int, D = d := ⟨_, rfl⟩
        obtain ⟨B, hB⟩ : ∃ B : Int, B = b := ⟨_, rfl⟩
        have hB0 : 0 ≤ B := by omega
        rw [← hD] at H3 H4
        rw [← hB] at H4 hle3 hnear4
        have ht : a0 - B ≤ 31744 := by omega
        have ht0 : 0 ≤ a0 - B := by omega
        clear e1 e2 hD hB c4 hnear3
        go_enter Try.func7, Try.ntmps7
        go_wp2_with fail
        refine (H1.out _).mono ?_
        rintro e w1 ⟨rfl, n1, rfl⟩
        go_wp2_with fail
        refine (H2.out _).mono ?_
        rintro e w2 ⟨rfl, n2, rfl⟩
        go_wp2_with fail
        refine (H3.out _).mono ?_
        rintro e w3 ⟨rfl, n3, rfl⟩
        go_wp2_with fail
        refine (H4.out _).mono ?_
        rintro e w4 ⟨rfl, n4, rfl⟩
        go_wp2_with fail
        refine (HL.out _).mono ?_
        rintro e w5 ⟨rfl, n5, rfl⟩
        go_wp2_with fail
        go_ret
        exact ⟨rfl, below_drewN (Below.refl _ _) _⟩

theorem own : ownKnob Try.prog.godebug = none := by kernel_rfl
theorem laidOut : laidOutB Try.prog = true := by kernel_rfl

set_option maxRecDepth 100000 in
theorem lifted (os : Os) (started : os.Started) (H : Type) (enc : TypeId × Value → H) :
    ReturnsInHanded {} Try.checked os 7 .any (Rows.codeNearSpec.pre6 enc Try.prog Try.f7 Rows.codeNearRow.domain false) (Rows.codeNearSpec.post enc Try.prog Try.f7 false true false false) := by
  refine returnsInHanded_of_change_sized (C := Try.checked) own started (by kernel_rfl) Try.func7
    (ChangeSpec.witness6 (enc := enc) (C := Try.checked) false ⟨#[], #[.int .i64 0], []⟩ 8 (by kernel_rfl) (by kernel_rfl) (by kernel_rfl) (by kernel_rfl)) ?_
  intro W base args ds gs before hval0 hW hcnd hsz0 hholds
  have hval : ∀ (j : Nat) t v, Try.f7.params[j]? = some t → args[j]? = some v → Value.okWide Try.prog W .any base t v := hval0
  have hsz : (DataW.weightsEach Try.prog (Try.f7.params.toList ++ Rows.codeNearSpec.plain.varTypes Try.prog) (ds ++ gs)).all (· ≤ reachBytes) = true := hsz0
  have hW' := hW
  obtain ⟨p, q, hA0, hV, rfl, hfz, hnd⟩ := hW
  have hA : DataW.TrodAll enc Try.prog W 0 (fun _ => true) true Try.f7.params.toList args.toList ds p := hA0
  rw [Try.params7] at hA hval hsz
  obtain ⟨v0, vs0, d0, ds0, p0, q0, hargs, rfl, rfl, h0, r0⟩ := trodAll_cons hA
  obtain ⟨rfl, rfl, rfl⟩ := trodAll_nil r0
  obtain rfl : args = #[v0] := by cases args; simp_all
  obtain ⟨rfl, rfl⟩ := trodVars_none hV
  have k0 := h0
  have lt0 : ∀ x ∈ p0, x.block < W.heap.size := by obtain ⟨m, hm⟩ := k0; exact DataW.trod_lt m _ _ _ hm
  obtain ⟨a0, rfl, rfl, rfl, w0⟩ := open_int Try.underlying3 (hval 0 3 v0 rfl rfl) h0
  have ba0 := bounds_i64 w0
  clear hA0 hval0
  refine (walk a0 W ba0.1 ba0.2).mono fun e W' ⟨he, bel⟩ => ?_
  subst he
  exact ⟨_, rfl, _, _, _, [], _, [], hW', trodAll_mk1 (shut_bool Try.underlying4 _), (trodAll_cons_mk (Below.trod laidOut (by kernel_rfl) (of_decide_eq_true (by kernel_rfl)) k0 bel lt0) trodAll_mk0), rfl, bel.frame _, fun h => by cases h⟩

theorem over : Rows.codeNearRow.holds Try.pinned (OpenSpec.ofChange Rows.codeNearSpec) :=
  OpenClaim.holds_of_wide 7 Try.f7 rfl rfl rfl rfl rfl rfl rfl ⟨rfl, rfl, rfl, rfl, rfl⟩ rfl rfl rfl rfl rfl (by kernel_rfl) Try.func7 (by kernel_rfl)
    (of_decide_eq_true (by kernel_rfl)) (by unfold Func.isWrapper; first | (rw [if_pos (by decide +kernel)]; kernel_rfl) | (rw [if_neg (by decide +kernel)]; exact ⟨rfl, rfl⟩))
    (fun os started H enc _ => lifted os started H enc)

/-- The statement. -/
theorem proved : Rows.CodeNearSaid := over
#print axioms proved
end Go.Proofs.Ytopepfdfioikpaa.codeNearLaw
