/-
  'siphonlaw12.VlanChecks' returns true, whatever the input, and each argument reads behind the call as it read before. Conditions: none beyond those that the row itself states.
-/
import Derived.Test.YtgoibogpebbkaaaRows
import Derived.Test.YtgoibogpebbkaaaVlE
import Derived.Test.YtgoibogpebbkaaaVlK
import Derived.Test.YtgoibogpebbkaaaVlL
import Derived.Test.YtgoibogpebbkaaaTrodI
import Derived.WalkKit
import Derived.ProofKit
import Derived.OpenShut
import Derived.ShutString
import Derived.ChangeOld
import Derived.Below
import Derived.Carry
import Derived.SizedLaws
import Derived.Lib.SmallJoins
import Derived.ChangeArms
import Derived.WideShapes
namespace Go.Proofs.Ytgoibogpebbkaaa.vlanChecksLaw
open Go.ChangeShapes Go.WideShapes Go.ChangeAt Go.RowKit Go.Joins
open Go.ChangeMaps (open_string shut_string)
set_option linter.unusedVariables false

set_option maxHeartbeats 1000000 in
set_option maxRecDepth 100000 in
theorem walk (a0 : Value) (la0 : List Pt) (a1 : Int) (w : World) (ha0 : PtsAt w a0 la0) (qa0 : la0.length ≤ maxLen) (sa0 : ∀ r ∈ la0, PtW r) (la1 : -9223372036854775808 ≤ a1) (ua1 : a1 ≤ 9223372036854775807) :
    Calls Try.prog 3 #[a0, .int .i64 a1] w fun e w' => e = .returned (.bool true) ∧ Below w.heap.size w w' := by
  unfold maxLen at qa0
  obtain ⟨p, cp, rfl⟩ := ha0.slice
  have HL := Lib.hid fun U => live12_c U
  have HF := Lib.hid (fewv_c _ la0 w (by omega) ha0)
  have HA := Lib.hid ha0
  rcases hfw : fewV la0 with _ | _
  · rw [hfw] at HF
    clear ha0 qa0 sa0
    go_enter Try.func3, Try.ntmps3
    go_wp2_with fail
    ((with_reducible refine HF.out.mono ?_); rintro e w1 ⟨rfl, rfl⟩)
    go_wp2_with fail
    ((with_reducible refine (HL.out _).mono ?_); rintro e w5 ⟨rfl, h5⟩)
    go_wp2_with fail
    go_ret
    exact ⟨rfl, h5⟩
  · rw [hfw] at HF
    obtain ⟨hlen, hpl⟩ := few_len la0 hfw
    have hml : (membI la0 a1).length ≤ la0.length := membGo_length a1 la0 0
    have H1 := Lib.hid (members_c _ la0 a1 w (by omega) hpl ha0)
    have H2 := Lib.hid fun U (h : PtsAt U (.slice p la0.length cp) la0) => chk_c _ la0 U (by omega) hpl h
    have H3 := Lib.hid fun U (h : PtsAt U (.slice p la0.length cp) la0) => rchk_c _ la0 U (by omega) hpl h
    have H4 := Lib.hid fun U (h : PtsAt U (.slice p la0.length cp) la0) => rmembers_c _ la0 a1 U (by omega) hpl h
    have H5 := Lib.hid fun v1 v2 U h1 h2 => sameI_c v1 v2 (membI la0 a1) U (by omega) h1 h2
    generalize membI la0 a1 = ml at H1 H4 H5
    generalize chkI la0 = ci at H2 H3
    unfold MemPost at H1 H4
    clear ha0 qa0 sa0 hml hpl hlen hfw
    go_enter Try.func3, Try.ntmps3
    go_wp2_with fail
    ((with_reducible refine HF.out.mono ?_); rintro e w1 ⟨rfl, rfl⟩)
    go_wp2_with fail
    ((with_reducible refine H1.out.mono ?_); rintro e w1 ⟨v1, rfl, i1, h1⟩)
    have I1 := Lib.hid i1
    obtain ⟨p1, c1, rfl⟩ := i1.slice
    replace HA := Lib.hid (HA.out.below h1)
    have K := Lib.hid h1
    clear i1 h1
    go_wp2_with fail
    ((with_reducible refine (H2.out _ HA.out).mono ?_); rintro e w2 ⟨rfl, h2⟩)
    replace HA := Lib.hid (HA.out.below h2)
    replace I1 := Lib.hid (I1.out.below h2)
    replace K := Lib.hid (K.out.trans (h2.mono K.out.size))
    clear h2
    go_wp2_with fail
    ((with_reducible refine (H3.out _ HA.out).mono ?_); rintro e w3 ⟨rfl, h3⟩)
    replace HA := Lib.hid (HA.out.below h3)
    replace I1 := Lib.hid (I1.out.below h3)
    replace K := Lib.hid (K.out.trans (h3.mono K.out.size))
    clear h3
    go_wp2_with fail
    ((with_reducible refine (H4.out _ HA.out).mono ?_); rintro e w4 ⟨v2, rfl, i2, h4⟩)
    have I2 := Lib.hid i2
    obtain ⟨p2, c2, rfl⟩ := i2.slice
    replace I1 := Lib.hid (I1.out.below h4)
    replace K := Lib.hid (K.out.trans (h4.mono K.out.size))
    clear i2 h4
    go_wp2_with fail
    ((with_reducible refine (H5.out _ _ _ I1.out I2.out).mono ?_); rintro e w5 ⟨rfl, q, rfl⟩)
    go_wp2_with fail
    ((with_reducible refine (HL.out _).mono ?_); rintro e w6 ⟨rfl, h6⟩)
    go_wp2_with fail
    go_ret
    exact ⟨rfl, (below_drewN K.out q).trans (h6.mono K.out.size)⟩

theorem own : ownKnob Try.prog.godebug = none := by kernel_rfl
theorem laidOut : laidOutB Try.prog = true := by kernel_rfl

set_option maxHeartbeats 1000000 in
set_option maxRecDepth 100000 in
theorem lifted (os : Os) (started : os.Started) (H : Type) (enc : TypeId × Value → H) :
    ReturnsInHanded {} Try.checked os 3 .any (Rows.vlanChecksSpec.pre6 enc Try.prog Try.f3 Rows.vlanChecksRow.domain false) (Rows.vlanChecksSpec.post enc Try.prog Try.f3 false true false false) := by
  refine returnsInHanded_of_change_sized (C := Try.checked) own started (by kernel_rfl) Try.func3
    (ChangeSpec.witness6 (enc := enc) (C := Try.checked) false ⟨#[], #[.slice none 0 0, .int .i64 0], []⟩ 8 (by kernel_rfl) (by kernel_rfl) (by kernel_rfl) (by kernel_rfl)) ?_
  intro W base args ds gs before hval0 hW hcnd hsz0 hholds
  have hval : ∀ (j : Nat) t v, Try.f3.params[j]? = some t → args[j]? = some v → Value.okWide Try.prog W .any base t v := hval0
  have hsz : (DataW.weightsEach Try.prog (Try.f3.params.toList ++ Rows.vlanChecksSpec.plain.varTypes Try.prog) (ds ++ gs)).all (· ≤ reachBytes) = true := hsz0
  have hW' := hW
  obtain ⟨p, q, hA0, hV, rfl, hfz, hnd⟩ := hW
  have hA : DataW.TrodAll enc Try.prog W 0 (fun _ => true) true Try.f3.params.toList args.toList ds p := hA0
  rw [Try.params3] at hA hval hsz
  obtain ⟨v0, vs0, d0, ds0, p0, q0, hargs, rfl, rfl, h0, r0⟩ := trodAll_cons hA
  obtain ⟨v1, vs1, d1, ds1, p1, q1, rfl, rfl, rfl, h1, r1⟩ := trodAll_cons r0
  obtain ⟨rfl, rfl, rfl⟩ := trodAll_nil r1
  obtain rfl : args = #[v0, v1] := by cases args; simp_all
  obtain ⟨rfl, rfl⟩ := trodVars_none hV
  have k0 := h0
  have lt0 : ∀ x ∈ p0, x.block < W.heap.size := by obtain ⟨m, hm⟩ := k0; exact DataW.trod_lt m _ _ _ hm
  have k1 := h1
  have lt1 : ∀ x ∈ p1, x.block < W.heap.size := by obtain ⟨m, hm⟩ := k1; exact DataW.trod_lt m _ _ _ hm
  obtain ⟨sa0, sl0, sc0, rfl⟩ := okWide_slice Try.underlying22 (hval 0 22 v0 rfl rfl)
  obtain ⟨fu0, hf0⟩ := h0
  obtain ⟨vv0, L0, e0, hh0, qq0, ss0⟩ := pts_open hf0
  simp [Value.cells] at e0
  subst e0
  obtain ⟨a1, rfl, rfl, rfl, w1⟩ := open_int Try.underlying3 (hval 1 3 v1 rfl rfl) h1
  have ba1 := bounds_i64 w1
  clear hA0 hval0
  refine (walk (.slice sa0 sl0 sc0) L0 a1 W hh0 qq0 ss0 ba1.1 ba1.2).mono fun e W' ⟨he, bel⟩ => ?_
  subst he
  exact ⟨_, rfl, _, _, _, [], _, [], hW', trodAll_mk1 (shut_bool Try.underlying4 _), (trodAll_cons_mk (Below.trod laidOut (by kernel_rfl) (of_decide_eq_true (by kernel_rfl)) k0 bel lt0) (trodAll_cons_mk (Below.trod laidOut (by kernel_rfl) (of_decide_eq_true (by kernel_rfl)) k1 bel lt1) trodAll_mk0)), rfl, bel.frame _, fun h => by cases h⟩

theorem over : Rows.vlanChecksRow.holds Try.pinned (OpenSpec.ofChange Rows.vlanChecksSpec) :=
  OpenClaim.holds_of_wide 3 Try.f3 rfl rfl rfl rfl rfl rfl rfl ⟨rfl, rfl, rfl, rfl, rfl⟩ rfl rfl rfl rfl rfl (by kernel_rfl) Try.func3 (by kernel_rfl)
    (of_decide_eq_true (by kernel_rfl)) (by unfold Func.isWrapper; first | (rw [if_pos (by decide +kernel)]; kernel_rfl) | (rw [if_neg (by decide +kernel)]; exact ⟨rfl, rfl⟩))
    (fun os started H enc _ => lifted os started H enc)

/-- The statement. -/
theorem proved : Rows.VlanChecksSaid := over
#print axioms proved
end Go.Proofs.Ytgoibogpebbkaaa.vlanChecksLaw
