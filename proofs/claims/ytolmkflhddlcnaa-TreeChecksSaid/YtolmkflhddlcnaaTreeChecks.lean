/-
  'siphonlaw16.TreeChecks' returns true, whatever the input, and each argument reads behind the call as it read before. Conditions: none beyond those that the row itself states.
-/
import Derived.Test.YtolmkflhddlcnaaRows
import Derived.Test.YtolmkflhddlcnaaRowLkR
import Derived.Test.YtolmkflhddlcnaaTaR
import Derived.WalkKit
import Derived.ProofKit
import Derived.OpenShut
import Derived.ShutString
import Derived.ChangeOld
import Derived.Below
import Derived.Carry
import Derived.SizedLaws
import Derived.Lib.SmallJoins
import Derived.ChangeArms
import Derived.WideShapes
namespace Go.Proofs.Ytolmkflhddlcnaa.treeChecksLaw
open Go.ChangeShapes Go.WideShapes Go.ChangeAt Go.RowKit Go.Joins
open Go.ChangeMaps (open_string shut_string)
set_option linter.unusedVariables false

set_option maxHeartbeats 16000000 in
set_option maxRecDepth 100000 in
theorem walk (a0 : Value) (la0 : List U64) (a1 : Value) (la1 : List LkR) (w : World) (ha0 : RowsAt 1 cellsU64 w a0 la0) (qa0 : la0.length ≤ maxLen ∧ CapOk a0) (sa0 : ∀ r ∈ la0, GoodU64 r) (ha1 : RowsAt 5 cellsLkR w a1 la1) (qa1 : la1.length ≤ maxLen) (sa1 : ∀ r ∈ la1, GoodLkR r) :
    Calls Try.prog 3 #[a0, a1] w fun e w' => e = .returned (.bool true) ∧ Below w.heap.size w w' := by
  have HLV := Lib.hid fun U => live16_c U
  have ha1' : RowsAt 5 cellsLk w a1 la1 := ha1
  have hcap := qa0.2
  have qi := qa0.1
  unfold maxLen at qi qa1
  obtain ⟨pi, ci, rfl⟩ := ha0.slice
  obtain ⟨pl, cl, rfl⟩ := ha1.slice
  have HI := Lib.hid ha0
  have HL := Lib.hid ha1'
  have HC := Lib.hid hcap
  have HID := Lib.hid (fun x hx => (sa0 x hx).1 : ∀ x ∈ la0, (0 : Int) ≤ x)
  have K0 := Lib.hid (Below.refl w.heap.size w)
  clear ha0 ha1 ha1' hcap qa0 sa0 sa1
  by_cases h1 : 50 < la0.length
  · have d1 : decide ((50 : Int) < (la0.length : Int)) = true := decide_eq_true (by omega)
    clear h1
    go_enter Try.func3, Try.ntmps3
    go_wp2_with fail
    ((with_reducible refine (HLV.out _).mono ?_); rintro e wv ⟨rfl, hv⟩)
    have KV := Lib.hid (K0.out.trans (hv.mono K0.out.size))
    clear hv
    go_wp2_with fail
    go_ret
    exact ⟨rfl, KV.out⟩
  · have d1 : decide ((50 : Int) < (la0.length : Int)) = false := decide_eq_false (by omega)
    by_cases h2 : 50 < la1.length
    · have d2 : decide ((50 : Int) < (la1.length : Int)) = true := decide_eq_true (by omega)
      clear h1 h2
      go_enter Try.func3, Try.ntmps3
      go_wp2_with fail
      ((with_reducible refine (HLV.out _).mono ?_); rintro e wv ⟨rfl, hv⟩)
      have KV := Lib.hid (K0.out.trans (hv.mono K0.out.size))
      clear hv
      go_wp2_with fail
      go_ret
      exact ⟨rfl, KV.out⟩
    · have d2 : decide ((50 : Int) < (la1.length : Int)) = false := decide_eq_false (by omega)
      by_cases hM : MayT la0 la1
      · have HT := Lib.hid fun (U : World) (k : Below w.heap.size w U) => ltold_c (.slice pl la1.length cl) la1 U (by omega) (HL.out.below k)
        have HRC := Lib.hid fun (U : World) (k : Below w.heap.size w U) => rchk_ok (HI.out.below k) (HL.out.below k) qi qa1 hM
        have HCK := Lib.hid fun (U : World) (k : Below w.heap.size w U) (u : Value) (h : RowsAt 5 cellsLk U u la1) => chk_ok (HI.out.below k) HC.out h qi qa1 hM
        have HM := Lib.hid hM
        clear hM
        clear h1 h2
        go_enter Try.func3, Try.ntmps3
        go_wp2_with fail
        ((with_reducible refine (HRC.out _ K0.out).mono ?_); rintro e w1 ⟨rfl, hb⟩)
        have K1 := Lib.hid (K0.out.trans (hb.mono K0.out.size))
        clear hb
        go_wp2_with fail
        ((with_reducible refine (HT.out _ K1.out).mono ?_); rintro e w2 ⟨u, rfl, ru, hb⟩)
        have K2 := Lib.hid (K1.out.trans (hb.mono K1.out.size))
        have RU := Lib.hid ru
        clear ru
        clear hb
        go_wp2_with fail
        ((with_reducible refine (HCK.out _ K2.out _ RU.out).mono ?_); rintro e w3 ⟨rfl, hb⟩)
        have K3 := Lib.hid (K2.out.trans (hb.mono K2.out.size))
        clear hb
        go_wp2_with fail
        ((with_reducible refine (HLV.out _).mono ?_); rintro e wv ⟨rfl, hv⟩)
        have KV := Lib.hid (K3.out.trans (hv.mono K3.out.size))
        clear hv
        go_wp2_with fail
        go_ret
        exact ⟨rfl, KV.out⟩
      · have HT := Lib.hid fun (U : World) (k : Below w.heap.size w U) => ltold_c (.slice pl la1.length cl) la1 U (by omega) (HL.out.below k)
        have HRC := Lib.hid fun (U : World) (k : Below w.heap.size w U) => rchk_not (HI.out.below k) (HL.out.below k) qi qa1 hM
        have HCK := Lib.hid fun (U : World) (k : Below w.heap.size w U) (u : Value) (h : RowsAt 5 cellsLk U u la1) => chk_not (HI.out.below k) HC.out h qi qa1 hM
        have HRE := Lib.hid fun (U : World) (k : Below w.heap.size w U) (u : Value) (h : RowsAt 5 cellsLk U u la1) => rest_not (HI.out.below k) HC.out h qi qa1 hM
        have HAC := Lib.hid fun (U : World) (k : Below w.heap.size w U) (u : Value) (h : RowsAt 5 cellsLk U u la1) => active_not (HI.out.below k) HC.out h qi qa1 hM
        have HM := Lib.hid hM
        clear hM
        clear h1 h2
        go_enter Try.func3, Try.ntmps3
        go_wp2_with fail
        ((with_reducible refine (HRC.out _ K0.out).mono ?_); rintro e w1 ⟨rfl, hb⟩)
        have K1 := Lib.hid (K0.out.trans (hb.mono K0.out.size))
        clear hb
        go_wp2_with fail
        ((with_reducible refine (HT.out _ K1.out).mono ?_); rintro e w2 ⟨u, rfl, ru, hb⟩)
        have K2 := Lib.hid (K1.out.trans (hb.mono K1.out.size))
        have RU := Lib.hid ru
        clear ru
        clear hb
        go_wp2_with fail
        ((with_reducible refine (HRE.out _ K2.out _ RU.out).mono ?_); rintro e w3 ⟨rfl, hb⟩)
        have K3 := Lib.hid (K2.out.trans (hb.mono K2.out.size))
        clear hb
        go_wp2_with fail
        ((with_reducible refine (HT.out _ K3.out).mono ?_); rintro e w4 ⟨u2, rfl, ru, hb⟩)
        have K4 := Lib.hid (K3.out.trans (hb.mono K3.out.size))
        have RU2 := Lib.hid ru
        clear ru
        clear hb
        go_wp2_with fail
        ((with_reducible refine (HAC.out _ K4.out _ RU2.out).mono ?_); rintro e w5 ⟨rfl, hb⟩)
        have K5 := Lib.hid (K4.out.trans (hb.mono K4.out.size))
        clear hb
        go_wp2_with fail
        ((with_reducible refine (HT.out _ K5.out).mono ?_); rintro e w6 ⟨u3, rfl, ru, hb⟩)
        have K6 := Lib.hid (K5.out.trans (hb.mono K5.out.size))
        have RU3 := Lib.hid ru
        clear ru
        clear hb
        go_wp2_with fail
        ((with_reducible refine (HCK.out _ K6.out _ RU3.out).mono ?_); rintro e w7 ⟨rfl, hb⟩)
        have K7 := Lib.hid (K6.out.trans (hb.mono K6.out.size))
        clear hb
        go_wp2_with fail
        ((with_reducible refine (HLV.out _).mono ?_); rintro e wv ⟨rfl, hv⟩)
        have KV := Lib.hid (K7.out.trans (hv.mono K7.out.size))
        clear hv
        go_wp2_with fail
        go_ret
        exact ⟨rfl, KV.out⟩

theorem own : ownKnob Try.prog.godebug = none := by kernel_rfl
theorem laidOut : laidOutB Try.prog = true := by kernel_rfl

set_option maxHeartbeats 1000000 in
set_option maxRecDepth 100000 in
theorem lifted (os : Os) (started : os.Started) (H : Type) (enc : TypeId × Value → H) :
    ReturnsInHanded {} Try.checked os 3 .any (Rows.treeChecksSpec.pre6 enc Try.prog Try.f3 Rows.treeChecksRow.domain false) (Rows.treeChecksSpec.post enc Try.prog Try.f3 false true false false) := by
  refine returnsInHanded_of_change_sized (C := Try.checked) own started (by kernel_rfl) Try.func3
    (ChangeSpec.witness6 (enc := enc) (C := Try.checked) false ⟨#[], #[.slice none 0 0, .slice none 0 0], []⟩ 8 (by kernel_rfl) (by kernel_rfl) (by kernel_rfl) (by kernel_rfl)) ?_
  intro W base args ds gs before hval0 hW hcnd hsz0 hholds
  have hval : ∀ (j : Nat) t v, Try.f3.params[j]? = some t → args[j]? = some v → Value.okWide Try.prog W .any base t v := hval0
  have hsz : (DataW.weightsEach Try.prog (Try.f3.params.toList ++ Rows.treeChecksSpec.plain.varTypes Try.prog) (ds ++ gs)).all (· ≤ reachBytes) = true := hsz0
  have hW' := hW
  obtain ⟨p, q, hA0, hV, rfl, hfz, hnd⟩ := hW
  have hA : DataW.TrodAll enc Try.prog W 0 (fun _ => true) true Try.f3.params.toList args.toList ds p := hA0
  rw [Try.params3] at hA hval hsz
  obtain ⟨v0, vs0, d0, ds0, p0, q0, hargs, rfl, rfl, h0, r0⟩ := trodAll_cons hA
  obtain ⟨v1, vs1, d1, ds1, p1, q1, rfl, rfl, rfl, h1, r1⟩ := trodAll_cons r0
  obtain ⟨rfl, rfl, rfl⟩ := trodAll_nil r1
  obtain rfl : args = #[v0, v1] := by cases args; simp_all
  obtain ⟨rfl, rfl⟩ := trodVars_none hV
  have k0 := h0
  have lt0 : ∀ x ∈ p0, x.block < W.heap.size := by obtain ⟨m, hm⟩ := k0; exact DataW.trod_lt m _ _ _ hm
  have k1 := h1
  have lt1 : ∀ x ∈ p1, x.block < W.heap.size := by obtain ⟨m, hm⟩ := k1; exact DataW.trod_lt m _ _ _ hm
  obtain ⟨sa0, sl0, sc0, rfl⟩ := okWide_slice Try.underlying22 (hval 0 22 v0 rfl rfl)
  obtain ⟨fu0, hf0⟩ := h0
  obtain ⟨vv0, L0, e0, hh0, qq0, ss0⟩ := openU64 hf0
  simp [Value.cells] at e0
  subst e0
  obtain ⟨sa1, sl1, sc1, rfl⟩ := okWide_slice Try.underlying23 (hval 1 23 v1 rfl rfl)
  obtain ⟨fu1, hf1⟩ := h1
  obtain ⟨vv1, L1, e1, hh1, qq1, ss1⟩ := openLkR hf1
  simp [Value.cells] at e1
  subst e1
  clear hA0 hval0
  refine (walk (.slice sa0 sl0 sc0) L0 (.slice sa1 sl1 sc1) L1 W hh0 qq0 ss0 hh1 qq1 ss1).mono fun e W' ⟨he, bel⟩ => ?_
  subst he
  exact ⟨_, rfl, _, _, _, [], _, [], hW', trodAll_mk1 (shut_bool Try.underlying4 _), (trodAll_cons_mk (Below.trod laidOut (by kernel_rfl) (of_decide_eq_true (by kernel_rfl)) k0 bel lt0) (trodAll_cons_mk (Below.trod laidOut (by kernel_rfl) (of_decide_eq_true (by kernel_rfl)) k1 bel lt1) trodAll_mk0)), rfl, bel.frame _, fun h => by cases h⟩

theorem over : Rows.treeChecksRow.holds Try.pinned (OpenSpec.ofChange Rows.treeChecksSpec) :=
  OpenClaim.holds_of_wide 3 Try.f3 rfl rfl rfl rfl rfl rfl rfl ⟨rfl, rfl, rfl, rfl, rfl⟩ rfl rfl rfl rfl rfl (by kernel_rfl) Try.func3 (by kernel_rfl)
    (of_decide_eq_true (by kernel_rfl)) (by unfold Func.isWrapper; first | (rw [if_pos (by decide +kernel)]; kernel_rfl) | (rw [if_neg (by decide +kernel)]; exact ⟨rfl, rfl⟩))
    (fun os started H enc _ => lifted os started H enc)

/-- The statement. -/
theorem proved : Rows.TreeChecksSaid := over
#print axioms proved
end Go.Proofs.Ytolmkflhddlcnaa.treeChecksLaw
