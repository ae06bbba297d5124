/-
  'siphonlaw16.TreeRests' returns true, whatever the input, and each argument reads behind the call as it read before. Conditions: none beyond those that the row itself states.
-/
import Derived.Test.YtolmkflhddlcnaaRows
import Derived.Test.YtolmkflhddlcnaaRowLkR
import Derived.Test.YtolmkflhddlcnaaTaR
import Derived.Test.YtolmkflhddlcnaaTaP
import Derived.Test.YtolmkflhddlcnaaTaO
import Derived.WalkKit
import Derived.ProofKit
import Derived.OpenShut
import Derived.ShutString
import Derived.ChangeOld
import Derived.Below
import Derived.Carry
import Derived.SizedLaws
import Derived.Lib.SmallJoins
import Derived.ChangeArms
import Derived.WideShapes
namespace Go.Proofs.Ytolmkflhddlcnaa.treeRestsLaw
open Go.ChangeShapes Go.WideShapes Go.ChangeAt Go.RowKit Go.Joins
open Go.ChangeMaps (open_string shut_string)
set_option linter.unusedVariables false

set_option maxHeartbeats 16000000 in
set_option maxRecDepth 100000 in
theorem walk (a0 : Value) (la0 : List U64) (a1 : Value) (la1 : List LkR) (w : World) (ha0 : RowsAt 1 cellsU64 w a0 la0) (qa0 : la0.length ≤ maxLen ∧ CapOk a0) (sa0 : ∀ r ∈ la0, GoodU64 r) (ha1 : RowsAt 5 cellsLkR w a1 la1) (qa1 : la1.length ≤ maxLen) (sa1 : ∀ r ∈ la1, GoodLkR r) :
    Calls Try.prog 4 #[a0, a1] w fun e w' => e = .returned (.bool true) ∧ Below w.heap.size w w' := by
  have HLV := Lib.hid fun U => live16_c U
  have ha1' : RowsAt 5 cellsLk w a1 la1 := ha1
  have hcap := qa0.2
  have qi := qa0.1
  unfold maxLen at qi qa1
  obtain ⟨pi, ci, rfl⟩ := ha0.slice
  obtain ⟨pl, cl, rfl⟩ := ha1.slice
  have HI := Lib.hid ha0
  have HL := Lib.hid ha1'
  have HC := Lib.hid hcap
  have HID := Lib.hid (fun x hx => (sa0 x hx).1 : ∀ x ∈ la0, (0 : Int) ≤ x)
  have K0 := Lib.hid (Below.refl w.heap.size w)
  clear ha0 ha1 ha1' hcap qa0 sa0 sa1
  by_cases hf : la0.length ≤ 12 ∧ la1.length ≤ 30
  · obtain ⟨f1, f2⟩ := hf
    have HF := Lib.hid fun (U : World) => few_yes pi pl la0.length la1.length ci cl U f1 f2
    by_cases hM : MayT la0 la1
    · have HT := Lib.hid fun (U : World) (k : Below w.heap.size w U) => ltold_c (.slice pl la1.length cl) la1 U (by omega) (HL.out.below k)
      have HRC := Lib.hid fun (U : World) (k : Below w.heap.size w U) => rchk_ok (HI.out.below k) (HL.out.below k) qi qa1 hM
      have HRE := Lib.hid fun (U : World) (k : Below w.heap.size w U) (u : Value) (h : RowsAt 5 cellsLk U u la1) => rest_ok (HI.out.below k) HC.out h qi qa1 hM
      have HAC := Lib.hid fun (U : World) (k : Below w.heap.size w U) (u : Value) (h : RowsAt 5 cellsLk U u la1) => active_ok (HI.out.below k) HC.out h qi qa1 hM
      have HM := Lib.hid hM
      clear hM
      have HRR := Lib.hid fun (U : World) (k : Below w.heap.size w U) => rrest_c (HI.out.below k) (HL.out.below k) HM.out
      have HRA := Lib.hid fun (U : World) (k : Below w.heap.size w U) => ractive_c (HI.out.below k) (HL.out.below k) HM.out
      have HSI := Lib.hid fun (v1 v2 : Value) (U : World) (h1 : IntsAt U v1 (actN (restL la0 la1) la1.length)) (h2 : IntsAt U v2 (actN (restL la0 la1) la1.length)) => sameI_c v1 v2 _ U (by have := actN_len (restL la0 la1) la1.length; omega) h1 h2
      have HLN := Lib.hid (show (restL la0 la1).length = la1.length by simp [restL])
      have GP := guard_P
      go_enter Try.func4, Try.ntmps4
      go_wp2_with fail
      ((with_reducible refine (HF.out _).mono ?_); rintro e w1 ⟨rfl, rfl⟩)
      go_wp2_with fail
      ((with_reducible refine (HRC.out _ K0.out).mono ?_); rintro e w1 ⟨rfl, hb⟩)
      have K1 := Lib.hid (K0.out.trans (hb.mono K0.out.size))
      clear hb
      go_wp2_with fail
      ((with_reducible refine (HT.out _ K1.out).mono ?_); rintro e w2 ⟨u, rfl, ru, hb⟩)
      have K2 := Lib.hid (K1.out.trans (hb.mono K1.out.size))
      have RU := Lib.hid ru
      clear ru
      clear hb
      go_wp2_with fail
      ((with_reducible refine (HRE.out _ K2.out _ RU.out).mono ?_); rintro e w3 ⟨ur, rfl, rr, hb⟩)
      have K3 := Lib.hid (K2.out.trans (hb.mono K2.out.size))
      have RR := Lib.hid rr
      clear rr
      clear hb
      go_wp2_with fail
      ((with_reducible refine (HT.out _ K3.out).mono ?_); rintro e w4 ⟨u2, rfl, ru, hb⟩)
      have K4 := Lib.hid (K3.out.trans (hb.mono K3.out.size))
      have RU2 := Lib.hid ru
      replace RR := Lib.hid (RR.out.below hb)
      clear ru
      clear hb
      go_wp2_with fail
      ((with_reducible refine (HAC.out _ K4.out _ RU2.out).mono ?_); rintro e w5 ⟨ua, rfl, ia, hb⟩)
      have K5 := Lib.hid (K4.out.trans (hb.mono K4.out.size))
      have IA := Lib.hid ia
      replace RR := Lib.hid (RR.out.below hb)
      clear ia
      clear hb
      go_wp2_with fail
      ((with_reducible refine (HRR.out _ K5.out).mono ?_); rintro e w6 ⟨uw, rfl, rw_, hb⟩)
      have K6 := Lib.hid (K5.out.trans (hb.mono K5.out.size))
      have RW := Lib.hid (rowsAt_own (by decide) pr_len rw_)
      replace RR := Lib.hid (RR.out.below hb)
      replace IA := Lib.hid (IA.out.below hb)
      clear rw_
      clear hb
      obtain ⟨p1, c1, b1, o1, hs1, hp1, hc1⟩ := RR.out
      obtain ⟨p2, c2, b2, o2, hs2, hp2, hc2⟩ := RW.out
      subst hs1 hs2
      have HP1 := Lib.hid hp1
      have HP2 := Lib.hid hp2
      have HC1 := Lib.hid hc1
      have HC2 := Lib.hid hc2
      clear hp1 hp2 hc1 hc2 RR RW RU RU2 HRE HAC HRR HRC HF
      obtain ⟨X, hX⟩ : ∃ X, X = restL la0 la1 := ⟨_, rfl⟩
      have HXX := Lib.hid hX
      rw [← hX] at HP1 HP2 HC1 HC2 HLN ⊢
      clear hX
      obtain ⟨n, hn⟩ : ∃ n, n = X.length := ⟨_, rfl⟩
      have HNN := Lib.hid hn
      have hn30 : n ≤ 30 := by rw [hn, HLN.out]; exact f2
      rw [← hn]
      clear hn
      go_wp2_with fail
      obtain ⟨wb, rfl⟩ : ∃ wb, wb = w6 := ⟨_, rfl⟩
      go_loopw [10] (fun i wr => ∃ k : Nat, k ≤ n ∧ i = .int .i64 k ∧ Hid (Below wb.heap.size wb wr)) (fun i _ => n - (intOf i).toNat)
      case atStart => exact ⟨0, Nat.zero_le _, rfl, Lib.hid (Below.refl _ _)⟩
      case round =>
        obtain ⟨k, hk, rfl, KB⟩ := hrel
        by_cases hlt : k < n
        · obtain ⟨x, hx⟩ : ∃ x, X[k]? = some x := ⟨_, List.getElem?_eq_getElem (by rw [← HNN.out]; exact hlt)⟩
          have hne : X ≠ [] := by rintro rfl; simp at hx
          obtain rfl := HP1.out hne
          obtain rfl := HP2.out hne
          obtain ⟨ra, rb⟩ := x
          have x0 : wr.cell? ⟨b1, o1 + k * 2, none⟩ = some (.int .i64 ra) := gcell_below KB.out (HC1.out k _ hx 0 _ rfl)
          have x1 : wr.cell? ⟨b1, o1 + k * 2 + 1, none⟩ = some (.int .i64 rb) := gcell_below KB.out (HC1.out k _ hx 1 _ rfl)
          have y0 : wr.cell? ⟨b2, o2 + k * 2, none⟩ = some (.int .i64 ra) := gcell_below KB.out (HC2.out k _ hx 0 _ rfl)
          have y1 : wr.cell? ⟨b2, o2 + k * 2 + 1, none⟩ = some (.int .i64 rb) := gcell_below KB.out (HC2.out k _ hx 1 _ rfl)
          have d1 : decide (k < n) = true := decide_eq_true hlt
          have d2 : decide ((k : Int) < (n : Int)) = true := decide_eq_true (by omega)
          have d3 : decide (n ≤ k) = false := decide_eq_false (by omega)
          have d4 : decide (0 ≤ (k : Int)) = true := decide_eq_true (by omega)
          have E1 := fun U => neq_P ra rb ra rb U
          have E2 := fun U => equalIn_P ra rb ra rb U
          simp only [beq_self_eq_true, Bool.and_self, Bool.not_true] at E1 E2
          clear hx hne
          go_wp2_with fail
          go_quiet (fail)
          have KB2 := Lib.hid (below_drewN KB.out nq)
          clear x0 x1 y0 y1 d1 d2 d3 d4 E1 E2
          go_wp2_with fail
          go_roundw
          case rel => exact ⟨k + 1, by omega, by go_num, KB2⟩
          case measure => simp [intOf]; omega
        · obtain rfl : k = n := by omega
          have KZ := Lib.hid (K6.out.trans (KB.out.mono K6.out.size))
          have IZ := Lib.hid (IA.out.below KB.out)
          clear hlt GP
          go_wp2_with fail
          ((with_reducible refine (HRA.out _ KZ.out).mono ?_); rintro e w7 ⟨ub, rfl, ib, hb⟩)
          have K7 := Lib.hid (KZ.out.trans (hb.mono KZ.out.size))
          have IB := Lib.hid ib
          replace IZ := Lib.hid (IZ.out.below hb)
          clear ib
          clear hb
          go_wp2_with fail
          ((with_reducible refine (HSI.out _ _ _ IZ.out IB.out).mono ?_); rintro e w8 ⟨rfl, nq, rfl⟩)
          have K8 := Lib.hid (below_drewN K7.out nq)
          go_wp2_with fail
          ((with_reducible refine (HLV.out _).mono ?_); rintro e wv ⟨rfl, hv⟩)
          have KV := Lib.hid (K8.out.trans (hv.mono K8.out.size))
          clear hv
          go_wp2_with fail
          go_ret
          exact ⟨rfl, KV.out⟩
    · have HT := Lib.hid fun (U : World) (k : Below w.heap.size w U) => ltold_c (.slice pl la1.length cl) la1 U (by omega) (HL.out.below k)
      have HRC := Lib.hid fun (U : World) (k : Below w.heap.size w U) => rchk_not (HI.out.below k) (HL.out.below k) qi qa1 hM
      have HM := Lib.hid hM
      clear hM
      go_enter Try.func4, Try.ntmps4
      go_wp2_with fail
      ((with_reducible refine (HF.out _).mono ?_); rintro e w1 ⟨rfl, rfl⟩)
      go_wp2_with fail
      ((with_reducible refine (HRC.out _ K0.out).mono ?_); rintro e w1 ⟨rfl, hb⟩)
      have K1 := Lib.hid (K0.out.trans (hb.mono K0.out.size))
      clear hb
      go_wp2_with fail
      ((with_reducible refine (HLV.out _).mono ?_); rintro e wv ⟨rfl, hv⟩)
      have KV := Lib.hid (K1.out.trans (hv.mono K1.out.size))
      clear hv
      go_wp2_with fail
      go_ret
      exact ⟨rfl, KV.out⟩
  · have HF := Lib.hid fun (U : World) => few_no pi pl la0.length la1.length ci cl U hf
    clear hf
    go_enter Try.func4, Try.ntmps4
    go_wp2_with fail
    ((with_reducible refine (HF.out _).mono ?_); rintro e w1 ⟨rfl, rfl⟩)
    go_wp2_with fail
    ((with_reducible refine (HLV.out _).mono ?_); rintro e wv ⟨rfl, hv⟩)
    have KV := Lib.hid (K0.out.trans (hv.mono K0.out.size))
    clear hv
    go_wp2_with fail
    go_ret
    exact ⟨rfl, KV.out⟩

theorem own : ownKnob Try.prog.godebug = none := by kernel_rfl
theorem laidOut : laidOutB Try.prog = true := by kernel_rfl

set_option maxHeartbeats 1000000 in
set_option maxRecDepth 100000 in
theorem lifted (os : Os) (started : os.Started) (H : Type) (enc : TypeId × Value → H) :
    ReturnsInHanded {} Try.checked os 4 .any (Rows.treeRestsSpec.pre6 enc Try.prog Try.f4 Rows.treeRestsRow.domain false) (Rows.treeRestsSpec.post enc Try.prog Try.f4 false true false false) := by
  refine returnsInHanded_of_change_sized (C := Try.checked) own started (by kernel_rfl) Try.func4
    (ChangeSpec.witness6 (enc := enc) (C := Try.checked) false ⟨#[], #[.slice none 0 0, .slice none 0 0], []⟩ 8 (by kernel_rfl) (by kernel_rfl) (by kernel_rfl) (by kernel_rfl)) ?_
  intro W base args ds gs before hval0 hW hcnd hsz0 hholds
  have hval : ∀ (j : Nat) t v, Try.f4.params[j]? = some t → args[j]? = some v → Value.okWide Try.prog W .any base t v := hval0
  have hsz : (DataW.weightsEach Try.prog (Try.f4.params.toList ++ Rows.treeRestsSpec.plain.varTypes Try.prog) (ds ++ gs)).all (· ≤ reachBytes) = true := hsz0
  have hW' := hW
  obtain ⟨p, q, hA0, hV, rfl, hfz, hnd⟩ := hW
  have hA : DataW.TrodAll enc Try.prog W 0 (fun _ => true) true Try.f4.params.toList args.toList ds p := hA0
  rw [Try.params4] at hA hval hsz
  obtain ⟨v0, vs0, d0, ds0, p0, q0, hargs, rfl, rfl, h0, r0⟩ := trodAll_cons hA
  obtain ⟨v1, vs1, d1, ds1, p1, q1, rfl, rfl, rfl, h1, r1⟩ := trodAll_cons r0
  obtain ⟨rfl, rfl, rfl⟩ := trodAll_nil r1
  obtain rfl : args = #[v0, v1] := by cases args; simp_all
  obtain ⟨rfl, rfl⟩ := trodVars_none hV
  have k0 := h0
  have lt0 : ∀ x ∈ p0, x.block < W.heap.size := by obtain ⟨m, hm⟩ := k0; exact DataW.trod_lt m _ _ _ hm
  have k1 := h1
  have lt1 : ∀ x ∈ p1, x.block < W.heap.size := by obtain ⟨m, hm⟩ := k1; exact DataW.trod_lt m _ _ _ hm
  obtain ⟨sa0, sl0, sc0, rfl⟩ := okWide_slice Try.underlying22 (hval 0 22 v0 rfl rfl)
  obtain ⟨fu0, hf0⟩ := h0
  obtain ⟨vv0, L0, e0, hh0, qq0, ss0⟩ := openU64 hf0
  simp [Value.cells] at e0
  subst e0
  obtain ⟨sa1, sl1, sc1, rfl⟩ := okWide_slice Try.underlying23 (hval 1 23 v1 rfl rfl)
  obtain ⟨fu1, hf1⟩ := h1
  obtain ⟨vv1, L1, e1, hh1, qq1, ss1⟩ := openLkR hf1
  simp [Value.cells] at e1
  subst e1
  clear hA0 hval0
  refine (walk (.slice sa0 sl0 sc0) L0 (.slice sa1 sl1 sc1) L1 W hh0 qq0 ss0 hh1 qq1 ss1).mono fun e W' ⟨he, bel⟩ => ?_
  subst he
  exact ⟨_, rfl, _, _, _, [], _, [], hW', trodAll_mk1 (shut_bool Try.underlying4 _), (trodAll_cons_mk (Below.trod laidOut (by kernel_rfl) (of_decide_eq_true (by kernel_rfl)) k0 bel lt0) (trodAll_cons_mk (Below.trod laidOut (by kernel_rfl) (of_decide_eq_true (by kernel_rfl)) k1 bel lt1) trodAll_mk0)), rfl, bel.frame _, fun h => by cases h⟩

theorem over : Rows.treeRestsRow.holds Try.pinned (OpenSpec.ofChange Rows.treeRestsSpec) :=
  OpenClaim.holds_of_wide 4 Try.f4 rfl rfl rfl rfl rfl rfl rfl ⟨rfl, rfl, rfl, rfl, rfl⟩ rfl rfl rfl rfl rfl (by kernel_rfl) Try.func4 (by kernel_rfl)
    (of_decide_eq_true (by kernel_rfl)) (by unfold Func.isWrapper; first | (rw [if_pos (by decide +kernel)]; kernel_rfl) | (rw [if_neg (by decide +kernel)]; exact ⟨rfl, rfl⟩))
    (fun os started H enc _ => lifted os started H enc)

/-- The statement. -/
theorem proved : Rows.TreeRestsSaid := over
#print axioms proved
end Go.Proofs.Ytolmkflhddlcnaa.treeRestsLaw
