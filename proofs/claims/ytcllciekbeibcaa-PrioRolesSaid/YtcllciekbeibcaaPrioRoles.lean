/-
  'siphonlaw14.PrioRoles' returns true, whatever the input, and each argument reads behind the call as it read before. Conditions: none beyond those that the row itself states.
-/
import Derived.Test.YtcllciekbeibcaaRows
import Derived.Test.YtcllciekbeibcaaPrI
import Derived.WalkKit
import Derived.ProofKit
import Derived.OpenShut
import Derived.ShutString
import Derived.ChangeOld
import Derived.Below
import Derived.Carry
import Derived.SizedLaws
import Derived.Lib.SmallJoins
import Derived.ChangeArms
import Derived.WideShapes
namespace Go.Proofs.Ytcllciekbeibcaa.prioRolesLaw
open Go.ChangeShapes Go.WideShapes Go.ChangeAt Go.RowKit Go.Joins
open Go.ChangeMaps (open_string shut_string)
set_option linter.unusedVariables false

set_option maxHeartbeats 16000000 in
set_option maxRecDepth 100000 in
theorem walk (a0 : Int) (a1 : Value) (la1 : List Hd) (w : World) (la0 : 0 ≤ a0) (ua0 : a0 ≤ 18446744073709551615) (ha1 : RowsAt 6 cellsHd w a1 la1) (qa1 : la1.length ≤ maxLen) (sa1 : ∀ r ∈ la1, GoodHd r) :
    Calls Try.prog 5 #[.int .u64 a0, a1] w fun e w' => e = .returned (.bool true) ∧ Below w.heap.size w w' := by
  have HL := Lib.hid fun U => live14_c U
  unfold maxLen at qa1
  obtain ⟨p, cap, rfl⟩ := ha1.slice
  by_cases hq : 40 < la1.length
  · have d1 : decide ((40 : Int) < (la1.length : Int)) = true := decide_eq_true (by omega)
    have d2 : decide ((la1.length : Int) > 40) = true := d1
    clear ha1
    go_enter Try.func5, Try.ntmps5
    go_wp2_with fail
    ((with_reducible refine (HL.out _).mono ?_); rintro e w1 ⟨rfl, h1⟩)
    go_wp2_with fail
    go_ret
    exact ⟨rfl, h1⟩
  · have d1 : decide ((40 : Int) < (la1.length : Int)) = false := decide_eq_false (by omega)
    have d2 : decide ((la1.length : Int) > 40) = false := d1
    have HA := Lib.hid fun (U : World) (k : Below w.heap.size w U) => ha1.below k
    have HT := Lib.hid fun (U : World) (k : Below w.heap.size w U) => told_c _ la1 U (by omega) (ha1.below k)
    have HB := Lib.hid fun (U : World) (u : Value) (h : RowsAt 6 cellsHd U u la1) => pbest_c a0 u la1 U (by omega) h
    have HC := Lib.hid fun (U : World) (k : Below w.heap.size w U) => rbest_c a0 _ la1 U (by omega) (ha1.below k)
    have HR := Lib.hid fun (U : World) (u : Value) (h : RowsAt 6 cellsHd U u la1) => proles_c a0 u la1 U (by omega) h
    have HS := Lib.hid fun (U : World) (k : Below w.heap.size w U) => rroles_c a0 _ la1 U (by omega) (ha1.below k)
    have HI := Lib.hid fun (v1 v2 : Value) (U : World) (h1 : IntsAt U v1 (rolesL a0 la1)) (h2 : IntsAt U v2 (rolesL a0 la1)) => sameI_c v1 v2 (rolesL a0 la1) U (by unfold rolesL; rw [rolesGo_len]; omega) h1 h2
    have E3 := guard_V
    generalize bestL a0 la1 = s at HB HC
    obtain ⟨sp, s1, s2, s3, s4⟩ := s
    simp only at HB HC
    have E1 := fun U => eql_V s1 s2 s3 s4 s1 s2 s3 s4 U
    have E2 := fun U => equalIn_V s1 s2 s3 s4 s1 s2 s3 s4 U
    simp only [eqV_self] at E1 E2
    clear ha1
    generalize la1.length = n at *
    go_enter Try.func5, Try.ntmps5
    go_wp2_with fail
    ((with_reducible refine (HT.out _ (Below.refl _ _)).mono ?_); rintro e w1 ⟨u1, rfl, r1, h1⟩)
    have R1 := Lib.hid r1
    clear r1
    go_wp2_with fail
    ((with_reducible refine (HB.out _ _ R1.out).mono ?_); rintro e w2 ⟨rfl, h2⟩)
    have h12 := k_call h1 h2
    have V1 := Lib.hid (Bx.mk' h12 #[.int .u64 s1, .int .i64 s2, .int .u64 s3, .int .i64 s4] 24)
    clear h1 h2 h12 R1
    go_upto_region 4 with fail
    generalize w2.alloc (.cells #[.int .u64 s1, .int .i64 s2, .int .u64 s3, .int .i64 s4] 24) = w3 at V1 ⊢
    generalize w2.heap.size = v1 at V1 ⊢
    go_wp2_with fail
    ((with_reducible refine (HC.out _ V1.out.bel).mono ?_); rintro e w4 ⟨rfl, h4⟩)
    replace V1 := Lib.hid (V1.out.below h4)
    have V2 := Lib.hid (Bx.mk' V1.out.bel #[.int .u64 s1, .int .i64 s2, .int .u64 s3, .int .i64 s4] 24)
    replace V1 := Lib.hid (V1.out.alloc (.cells #[.int .u64 s1, .int .i64 s2, .int .u64 s3, .int .i64 s4] 24))
    clear h4
    go_upto_region 5 with fail
    generalize w4.alloc (.cells #[.int .u64 s1, .int .i64 s2, .int .u64 s3, .int .i64 s4] 24) = w5 at V1 V2 ⊢
    generalize w4.heap.size = v2 at V2 ⊢
    go_wp2_with fail
    ((with_reducible refine (HT.out _ V1.out.bel).mono ?_); rintro e w6 ⟨u2, rfl, r2, h6⟩)
    have R2 := Lib.hid r2
    replace V1 := Lib.hid (V1.out.below h6)
    replace V2 := Lib.hid (V2.out.below h6)
    clear r2 h6
    go_wp2_with fail
    ((with_reducible refine (HR.out _ _ R2.out).mono ?_); rintro e w7 ⟨u3, rfl, i3, h7⟩)
    have I3 := Lib.hid i3
    replace V1 := Lib.hid (V1.out.below h7)
    replace V2 := Lib.hid (V2.out.below h7)
    clear i3 h7 R2
    have x0 := V1.out.cell 0 rfl
    have x1 := V1.out.cell 1 rfl
    have x2 := V1.out.cell 2 rfl
    have x3 := V1.out.cell 3 rfl
    have y0 := V2.out.cell 0 rfl
    have y1 := V2.out.cell 1 rfl
    have y2 := V2.out.cell 2 rfl
    have y3 := V2.out.cell 3 rfl
    go_wp2_with fail
    ((with_reducible refine (HS.out _ V1.out.bel).mono ?_); rintro e w8 ⟨u4, rfl, i4, h8⟩)
    replace I3 := Lib.hid (I3.out.below h8)
    replace V1 := Lib.hid (V1.out.below h8)
    have I4 := Lib.hid i4
    clear i4 h8 x0 x1 x2 x3 y0 y1 y2 y3 V2 E1 E2
    go_wp2_with fail
    ((with_reducible refine (HI.out _ _ _ I3.out I4.out).mono ?_); rintro e w9 ⟨rfl, q, rfl⟩)
    have K := Lib.hid (below_drewN V1.out.bel q)
    clear V1 I3 I4
    go_wp2_with fail
    ((with_reducible refine (HL.out _).mono ?_); rintro e wz ⟨rfl, hz⟩)
    go_wp2_with fail
    go_ret
    exact ⟨by simp, K.out.trans (hz.mono K.out.size)⟩

theorem own : ownKnob Try.prog.godebug = none := by kernel_rfl
theorem laidOut : laidOutB Try.prog = true := by kernel_rfl

set_option maxHeartbeats 1000000 in
set_option maxRecDepth 100000 in
theorem lifted (os : Os) (started : os.Started) (H : Type) (enc : TypeId × Value → H) :
    ReturnsInHanded {} Try.checked os 5 .any (Rows.prioRolesSpec.pre6 enc Try.prog Try.f5 Rows.prioRolesRow.domain false) (Rows.prioRolesSpec.post enc Try.prog Try.f5 false true false false) := by
  refine returnsInHanded_of_change_sized (C := Try.checked) own started (by kernel_rfl) Try.func5
    (ChangeSpec.witness6 (enc := enc) (C := Try.checked) false ⟨#[], #[.int .u64 0, .slice none 0 0], []⟩ 8 (by kernel_rfl) (by kernel_rfl) (by kernel_rfl) (by kernel_rfl)) ?_
  intro W base args ds gs before hval0 hW hcnd hsz0 hholds
  have hval : ∀ (j : Nat) t v, Try.f5.params[j]? = some t → args[j]? = some v → Value.okWide Try.prog W .any base t v := hval0
  have hsz : (DataW.weightsEach Try.prog (Try.f5.params.toList ++ Rows.prioRolesSpec.plain.varTypes Try.prog) (ds ++ gs)).all (· ≤ reachBytes) = true := hsz0
  have hW' := hW
  obtain ⟨p, q, hA0, hV, rfl, hfz, hnd⟩ := hW
  have hA : DataW.TrodAll enc Try.prog W 0 (fun _ => true) true Try.f5.params.toList args.toList ds p := hA0
  rw [Try.params5] at hA hval hsz
  obtain ⟨v0, vs0, d0, ds0, p0, q0, hargs, rfl, rfl, h0, r0⟩ := trodAll_cons hA
  obtain ⟨v1, vs1, d1, ds1, p1, q1, rfl, rfl, rfl, h1, r1⟩ := trodAll_cons r0
  obtain ⟨rfl, rfl, rfl⟩ := trodAll_nil r1
  obtain rfl : args = #[v0, v1] := by cases args; simp_all
  obtain ⟨rfl, rfl⟩ := trodVars_none hV
  have k0 := h0
  have lt0 : ∀ x ∈ p0, x.block < W.heap.size := by obtain ⟨m, hm⟩ := k0; exact DataW.trod_lt m _ _ _ hm
  have k1 := h1
  have lt1 : ∀ x ∈ p1, x.block < W.heap.size := by obtain ⟨m, hm⟩ := k1; exact DataW.trod_lt m _ _ _ hm
  obtain ⟨a0, rfl, rfl, rfl, w0⟩ := open_int Try.underlying22 (hval 0 22 v0 rfl rfl) h0
  obtain ⟨sa1, sl1, sc1, rfl⟩ := okWide_slice Try.underlying33 (hval 1 33 v1 rfl rfl)
  obtain ⟨fu1, hf1⟩ := h1
  obtain ⟨vv1, L1, e1, hh1, qq1, ss1⟩ := openHd hf1
  simp [Value.cells] at e1
  subst e1
  have ba0 := bounds_u64 w0
  clear hA0 hval0
  refine (walk a0 (.slice sa1 sl1 sc1) L1 W ba0.1 ba0.2 hh1 qq1 ss1).mono fun e W' ⟨he, bel⟩ => ?_
  subst he
  exact ⟨_, rfl, _, _, _, [], _, [], hW', trodAll_mk1 (shut_bool Try.underlying4 _), (trodAll_cons_mk (Below.trod laidOut (by kernel_rfl) (of_decide_eq_true (by kernel_rfl)) k0 bel lt0) (trodAll_cons_mk (Below.trod laidOut (by kernel_rfl) (of_decide_eq_true (by kernel_rfl)) k1 bel lt1) trodAll_mk0)), rfl, bel.frame _, fun h => by cases h⟩

theorem over : Rows.prioRolesRow.holds Try.pinned (OpenSpec.ofChange Rows.prioRolesSpec) :=
  OpenClaim.holds_of_wide 5 Try.f5 rfl rfl rfl rfl rfl rfl rfl ⟨rfl, rfl, rfl, rfl, rfl⟩ rfl rfl rfl rfl rfl (by kernel_rfl) Try.func5 (by kernel_rfl)
    (of_decide_eq_true (by kernel_rfl)) (by unfold Func.isWrapper; first | (rw [if_pos (by decide +kernel)]; kernel_rfl) | (rw [if_neg (by decide +kernel)]; exact ⟨rfl, rfl⟩))
    (fun os started H enc _ => lifted os started H enc)

/-- The statement. -/
theorem proved : Rows.PrioRolesSaid := over
#print axioms proved
end Go.Proofs.Ytcllciekbeibcaa.prioRolesLaw
