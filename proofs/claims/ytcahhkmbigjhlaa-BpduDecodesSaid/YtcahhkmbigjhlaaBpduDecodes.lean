/-
  'siphonlaw06.BpduDecodes' returns true, whatever the input, and each argument reads behind the call as it read before. Conditions: none beyond those that the row itself states.
-/
import Derived.Test.YtcahhkmbigjhlaaRows
import Derived.Test.YtcahhkmbigjhlaaLive6
import Derived.Test.YtcahhkmbigjhlaaBpD
import Derived.WalkKit
import Derived.ProofKit
import Derived.OpenShut
import Derived.ShutString
import Derived.ChangeOld
import Derived.Below
import Derived.Carry
import Derived.SizedLaws
import Derived.Lib.SmallJoins
import Derived.ChangeArms
import Derived.WideShapes
namespace Go.Proofs.Ytcahhkmbigjhlaa.bpduDecodesLaw
open Go.ChangeShapes Go.WideShapes Go.ChangeAt Go.RowKit Go.Joins
open Go.ChangeMaps (open_string shut_string)
set_option linter.unusedVariables false

set_option maxHeartbeats 1000000 in
set_option maxRecDepth 100000 in
theorem walk0 (k : BpV) (n : Int) (w : World) (s : ByteArray)
    (H1 : Hid (∀ U, Calls Try.prog 9 #[.string s] U fun e w' => e = .returned (.tuple #[k.val, .int .i64 n]) ∧ Below U.heap.size U w'))
    (H2 : Hid (∀ U, Calls Try.prog 10 #[.string s] U fun e w' => e = .returned (.tuple #[k.val, .int .i64 n]) ∧ Below U.heap.size U w')) :
    Calls Try.prog 3 #[.string s] w fun e w' => e = .returned (.bool true) ∧ Below w.heap.size w w' := by
  obtain ⟨r, c, b, p, a, ch, le, fw⟩ := k
  have H1' : Hid (∀ U, Calls Try.prog 9 #[.string s] U fun e w' => e = .returned (.tuple #[.agg #[.int .u64 r, .int .i64 c, .int .u64 b, .int .i64 p, .int .i64 a, .bool ch, .bool le, .bool fw], .int .i64 n]) ∧ Below U.heap.size U w') := H1
  have H2' : Hid (∀ U, Calls Try.prog 10 #[.string s] U fun e w' => e = .returned (.tuple #[.agg #[.int .u64 r, .int .i64 c, .int .u64 b, .int .i64 p, .int .i64 a, .bool ch, .bool le, .bool fw], .int .i64 n]) ∧ Below U.heap.size U w') := H2
  clear H1 H2
  go_enter Try.func3, Try.ntmps3
  go_wp2_with fail
  refine (H1'.out _).mono ?_
  rintro e w1 ⟨rfl, h1⟩
  go_wp2_with fail
  refine (H2'.out _).mono ?_
  rintro e w2 ⟨rfl, h2⟩
  have g2 : w1.heap.size < w2.heap.size := by have := h2.size; simp at this; omega
  obtain ⟨hc2, hf2⟩ := below_cells h2
  go_wp2_with fail
  refine (live6_c _).mono ?_
  rintro e w3 ⟨rfl, h3⟩
  go_wp2_with fail
  go_ret
  exact ⟨rfl, below_then h1 (below_then (vboxed h2) (vboxed h3))⟩

theorem walk (a0 : ByteArray) (w : World) (za0 : a0.size ≤ 140737488351232) :
    Calls Try.prog 3 #[.string a0] w fun e w' => e = .returned (.bool true) ∧ Below w.heap.size w w' := walk0 (decB a0).1 (decB a0).2 w a0 (Lib.hid fun U => decB_c a0 U (by omega)) (Lib.hid fun U => rdecB_c a0 U (by omega))

theorem own : ownKnob Try.prog.godebug = none := by kernel_rfl
theorem laidOut : laidOutB Try.prog = true := by kernel_rfl

set_option maxRecDepth 100000 in
theorem lifted (os : Os) (started : os.Started) (H : Type) (enc : TypeId × Value → H) :
    ReturnsInHanded {} Try.checked os 3 .any (Rows.bpduDecodesSpec.pre6 enc Try.prog Try.f3 Rows.bpduDecodesRow.domain false) (Rows.bpduDecodesSpec.post enc Try.prog Try.f3 false true false false) := by
  refine returnsInHanded_of_change_sized (C := Try.checked) own started (by kernel_rfl) Try.func3
    (ChangeSpec.witness6 (enc := enc) (C := Try.checked) false ⟨#[], #[.string ByteArray.empty], []⟩ 8 (by kernel_rfl) (by kernel_rfl) (by kernel_rfl) (by kernel_rfl)) ?_
  intro W base args ds gs before hval0 hW hcnd hsz0 hholds
  have hval : ∀ (j : Nat) t v, Try.f3.params[j]? = some t → args[j]? = some v → Value.okWide Try.prog W .any base t v := hval0
  have hsz : (DataW.weightsEach Try.prog (Try.f3.params.toList ++ Rows.bpduDecodesSpec.plain.varTypes Try.prog) (ds ++ gs)).all (· ≤ reachBytes) = true := hsz0
  have hW' := hW
  obtain ⟨p, q, hA0, hV, rfl, hfz, hnd⟩ := hW
  have hA : DataW.TrodAll enc Try.prog W 0 (fun _ => true) true Try.f3.params.toList args.toList ds p := hA0
  rw [Try.params3] at hA hval hsz
  obtain ⟨v0, vs0, d0, ds0, p0, q0, hargs, rfl, rfl, h0, r0⟩ := trodAll_cons hA
  obtain ⟨rfl, rfl, rfl⟩ := trodAll_nil r0
  obtain rfl : args = #[v0] := by cases args; simp_all
  obtain ⟨rfl, rfl⟩ := trodVars_none hV
  have k0 := h0
  have lt0 : ∀ x ∈ p0, x.block < W.heap.size := by obtain ⟨m, hm⟩ := k0; exact DataW.trod_lt m _ _ _ hm
  obtain ⟨a0, rfl, rfl, rfl, w0⟩ := open_string Try.underlying9 (hval 0 9 v0 rfl rfl) h0
  have za0 : a0.size ≤ 140737488351232 := by
    have h := sized_string hsz (j := 0) (t := 9) rfl rfl
    simpa [reachBytes] using h
  clear hA0 hval0
  refine (walk a0 W za0).mono fun e W' ⟨he, bel⟩ => ?_
  subst he
  exact ⟨_, rfl, _, _, _, [], _, [], hW', trodAll_mk1 (shut_bool Try.underlying4 _), (trodAll_cons_mk (Below.trod laidOut (by kernel_rfl) (of_decide_eq_true (by kernel_rfl)) k0 bel lt0) trodAll_mk0), rfl, bel.frame _, fun h => by cases h⟩

theorem over : Rows.bpduDecodesRow.holds Try.pinned (OpenSpec.ofChange Rows.bpduDecodesSpec) :=
  OpenClaim.holds_of_wide 3 Try.f3 rfl rfl rfl rfl rfl rfl rfl ⟨rfl, rfl, rfl, rfl, rfl⟩ rfl rfl rfl rfl rfl (by kernel_rfl) Try.func3 (by kernel_rfl)
    (of_decide_eq_true (by kernel_rfl)) (by unfold Func.isWrapper; first | (rw [if_pos (by decide +kernel)]; kernel_rfl) | (rw [if_neg (by decide +kernel)]; exact ⟨rfl, rfl⟩))
    (fun os started H enc _ => lifted os started H enc)

/-- The statement. -/
theorem proved : Rows.BpduDecodesSaid := over
#print axioms proved
end Go.Proofs.Ytcahhkmbigjhlaa.bpduDecodesLaw
