/-
  'siphonlaw03.EtherGroups' returns true, whatever the input, and each argument reads behind the call as it read before. Conditions: none beyond those that the row itself states.
-/
import Derived.Test.YtocckinnmdgdfaaRows
import Derived.Test.YtocckinnmdgdfaaLive3
import Derived.WalkKit
import Derived.ProofKit
import Derived.OpenShut
import Derived.ShutString
import Derived.ChangeOld
import Derived.Below
import Derived.Carry
import Derived.SizedLaws
import Derived.Lib.SmallJoins
import Derived.ChangeArms
import Derived.WideShapes
namespace Go.Proofs.Ytocckinnmdgdfaa.etherGroupsLaw
open Go.ChangeShapes Go.WideShapes Go.ChangeAt Go.RowKit Go.Joins
open Go.ChangeMaps (open_string shut_string)
set_option linter.unusedVariables false

theorem grp_many (a : ByteArray) (h : (grpSpec a).2 = 0) : manyB (grpSpec a).1 = true := by
  unfold grpSpec at h ⊢
  split
  · rfl
  · next n4 =>
    rw [if_neg n4] at h
    split
    · next h16 =>
      apply decide_eq_true
      have e : (⟨#[51, 51]⟩ ++ a.extract 12 16 : ByteArray).size = 6 := by
        rw [ByteArray.size_append]
        have : (⟨#[51, 51]⟩ : ByteArray).size = 2 := rfl
        simp
        omega
      refine ⟨e, ?_⟩
      have : byteAt (⟨#[51, 51]⟩ ++ a.extract 12 16) 0 = 51 := by
        unfold byteAt
        rw [ByteArray.data_append, Array.toList_append]
        rfl
      rw [this]
      rfl
    · next n16 =>
      rw [if_neg n16] at h
      exact absurd h (by decide)

set_option maxHeartbeats 1000000 in
set_option maxRecDepth 100000 in
theorem walk (a0 : ByteArray) (a1 : ByteArray) (w : World) (za0 : a0.size ≤ 140737488351232) (za1 : a1.size ≤ 140737488351232) :
    Calls Try.prog 5 #[.string a0, .string a1] w fun e w' => e = .returned (.bool true) ∧ Below w.heap.size w w' := by
  have H1 := Lib.hid fun U => grp_c a1 U
  have H2 := Lib.hid fun U => rgrp_c a1 U
  have M1 := Lib.hid fun U => many_c a0 U
  have M2 := Lib.hid fun U => rmany_c a0 U
  by_cases h : (grpSpec a1).2 = 0
  · have M3 := Lib.hid fun U => many_c (grpSpec a1).1 U
    rw [grp_many a1 h] at M3
    rw [h] at H1 H2
    obtain ⟨x, hx⟩ : ∃ x, x = (grpSpec a1).1 := ⟨_, rfl⟩
    rw [← hx] at H1 H2 M3
    obtain ⟨b, hb⟩ : ∃ b, b = manyB a0 := ⟨_, rfl⟩
    rw [← hb] at M1 M2
    clear hx hb h
    go_enter Try.func5, Try.ntmps5
    go_wp2_with fail
    refine (H1.out _).mono ?_
    rintro e w1 ⟨rfl, h1⟩
    go_wp2_with fail
    refine (H2.out _).mono ?_
    rintro e w2 ⟨rfl, h2⟩
    go_wp2_with fail
    refine (M1.out _).mono ?_
    rintro e w3 ⟨rfl, rfl⟩
    go_wp2_with fail
    refine (M2.out _).mono ?_
    rintro e w3 ⟨rfl, rfl⟩
    go_wp2_with fail
    refine (M3.out _).mono ?_
    rintro e w3 ⟨rfl, rfl⟩
    go_wp2_with fail
    refine (live3_c _).mono ?_
    rintro e w3 ⟨rfl, h3⟩
    go_wp2_with fail
    go_ret
    exact ⟨rfl, below_then (below_then h1 h2) h3⟩
  · obtain ⟨x, hx⟩ : ∃ x, x = (grpSpec a1).1 := ⟨_, rfl⟩
    obtain ⟨y, hy⟩ : ∃ y, y = (grpSpec a1).2 := ⟨_, rfl⟩
    rw [← hy] at h
    rw [← hx, ← hy] at H1 H2
    obtain ⟨b, hb⟩ : ∃ b, b = manyB a0 := ⟨_, rfl⟩
    rw [← hb] at M1 M2
    obtain ⟨t1, t2⟩ := ne_t h
    clear hx hy hb h
    go_enter Try.func5, Try.ntmps5
    go_wp2_with fail
    refine (H1.out _).mono ?_
    rintro e w1 ⟨rfl, h1⟩
    go_wp2_with fail
    refine (H2.out _).mono ?_
    rintro e w2 ⟨rfl, h2⟩
    go_wp2_with fail
    refine (M1.out _).mono ?_
    rintro e w3 ⟨rfl, rfl⟩
    go_wp2_with fail
    refine (M2.out _).mono ?_
    rintro e w3 ⟨rfl, rfl⟩
    go_wp2_with fail
    refine (live3_c _).mono ?_
    rintro e w3 ⟨rfl, h3⟩
    go_wp2_with fail
    go_ret
    exact ⟨rfl, below_then (below_then h1 h2) h3⟩

theorem own : ownKnob Try.prog.godebug = none := by kernel_rfl
theorem laidOut : laidOutB Try.prog = true := by kernel_rfl

set_option maxRecDepth 100000 in
theorem lifted (os : Os) (started : os.Started) (H : Type) (enc : TypeId × Value → H) :
    ReturnsInHanded {} Try.checked os 5 .any (Rows.etherGroupsSpec.pre6 enc Try.prog Try.f5 Rows.etherGroupsRow.domain false) (Rows.etherGroupsSpec.post enc Try.prog Try.f5 false true false false) := by
  refine returnsInHanded_of_change_sized (C := Try.checked) own started (by kernel_rfl) Try.func5
    (ChangeSpec.witness6 (enc := enc) (C := Try.checked) false ⟨#[], #[.string ByteArray.empty, .string ByteArray.empty], []⟩ 8 (by kernel_rfl) (by kernel_rfl) (by kernel_rfl) (by kernel_rfl)) ?_
  intro W base args ds gs before hval0 hW hcnd hsz0 hholds
  have hval : ∀ (j : Nat) t v, Try.f5.params[j]? = some t → args[j]? = some v → Value.okWide Try.prog W .any base t v := hval0
  have hsz : (DataW.weightsEach Try.prog (Try.f5.params.toList ++ Rows.etherGroupsSpec.plain.varTypes Try.prog) (ds ++ gs)).all (· ≤ reachBytes) = true := hsz0
  have hW' := hW
  obtain ⟨p, q, hA0, hV, rfl, hfz, hnd⟩ := hW
  have hA : DataW.TrodAll enc Try.prog W 0 (fun _ => true) true Try.f5.params.toList args.toList ds p := hA0
  rw [Try.params5] at hA hval hsz
  obtain ⟨v0, vs0, d0, ds0, p0, q0, hargs, rfl, rfl, h0, r0⟩ := trodAll_cons hA
  obtain ⟨v1, vs1, d1, ds1, p1, q1, rfl, rfl, rfl, h1, r1⟩ := trodAll_cons r0
  obtain ⟨rfl, rfl, rfl⟩ := trodAll_nil r1
  obtain rfl : args = #[v0, v1] := by cases args; simp_all
  obtain ⟨rfl, rfl⟩ := trodVars_none hV
  have k0 := h0
  have lt0 : ∀ x ∈ p0, x.block < W.heap.size := by obtain ⟨m, hm⟩ := k0; exact DataW.trod_lt m _ _ _ hm
  have k1 := h1
  have lt1 : ∀ x ∈ p1, x.block < W.heap.size := by obtain ⟨m, hm⟩ := k1; exact DataW.trod_lt m _ _ _ hm
  obtain ⟨a0, rfl, rfl, rfl, w0⟩ := open_string Try.underlying22 (hval 0 22 v0 rfl rfl) h0
  obtain ⟨a1, rfl, rfl, rfl, w1⟩ := open_string Try.underlying33 (hval 1 33 v1 rfl rfl) h1
  have za0 : a0.size ≤ 140737488351232 := by
    have h := sized_string hsz (j := 0) (t := 22) rfl rfl
    simpa [reachBytes] using h
  have za1 : a1.size ≤ 140737488351232 := by
    have h := sized_string hsz (j := 1) (t := 33) rfl rfl
    simpa [reachBytes] using h
  clear hA0 hval0
  refine (walk a0 a1 W za0 za1).mono fun e W' ⟨he, bel⟩ => ?_
  subst he
  exact ⟨_, rfl, _, _, _, [], _, [], hW', trodAll_mk1 (shut_bool Try.underlying4 _), (trodAll_cons_mk (Below.trod laidOut (by kernel_rfl) (of_decide_eq_true (by kernel_rfl)) k0 bel lt0) (trodAll_cons_mk (Below.trod laidOut (by kernel_rfl) (of_decide_eq_true (by kernel_rfl)) k1 bel lt1) trodAll_mk0)), rfl, bel.frame _, fun h => by cases h⟩

theorem over : Rows.etherGroupsRow.holds Try.pinned (OpenSpec.ofChange Rows.etherGroupsSpec) :=
  OpenClaim.holds_of_wide 5 Try.f5 rfl rfl rfl rfl rfl rfl rfl ⟨rfl, rfl, rfl, rfl, rfl⟩ rfl rfl rfl rfl rfl (by kernel_rfl) Try.func5 (by kernel_rfl)
    (of_decide_eq_true (by kernel_rfl)) (by unfold Func.isWrapper; first | (rw [if_pos (by decide +kernel)]; kernel_rfl) | (rw [if_neg (by decide +kernel)]; exact ⟨rfl, rfl⟩))
    (fun os started H enc _ => lifted os started H enc)

/-- The statement. -/
theorem proved : Rows.EtherGroupsSaid := over
#print axioms proved
end Go.Proofs.Ytocckinnmdgdfaa.etherGroupsLaw
