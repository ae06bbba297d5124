/-
  'siphonlaw10.WheelApart' returns true, whatever the input, and each argument reads behind the call as it read before. Conditions: none beyond those that the row itself states.
-/
import Derived.Test.YtplaconhpiojbaaRows
import Derived.Test.YtplaconhpiojbaaWhP
import Derived.Test.YtplaconhpiojbaaTrodJ
import Derived.WalkKit
import Derived.ProofKit
import Derived.OpenShut
import Derived.ShutString
import Derived.ChangeOld
import Derived.Below
import Derived.Carry
import Derived.SizedLaws
import Derived.Lib.SmallJoins
import Derived.ChangeArms
import Derived.WideShapes
namespace Go.Proofs.Ytplaconhpiojbaa.wheelApartLaw
open Go.ChangeShapes Go.WideShapes Go.ChangeAt Go.RowKit Go.Joins
open Go.ChangeMaps (open_string shut_string)
set_option linter.unusedVariables false

set_option maxHeartbeats 8000000 in
set_option maxRecDepth 100000 in
theorem walk (a0 : Value) (la0 : List Int) (a1 : Value) (la1 : List Int) (w : World) (ha0 : IntsAt w a0 la0) (qa0 : la0.length ≤ maxLen) (sa0 : I64 la0) (ha1 : IntsAt w a1 la1) (qa1 : la1.length ≤ maxLen) (sa1 : I64 la1) :
    Calls Try.prog 7 #[a0, a1] w fun e w' => e = .returned (.bool true) ∧ Below w.heap.size w w' := by
  have HL := fun U => Lib.hid (live10_c U)
  by_cases hn : la0.length ≤ 60
  · by_cases hn1 : la1.length ≤ 60
    · obtain ⟨pz, cp, b, off, rfl, hpp, hc⟩ := ha0
      obtain ⟨pz1, cp1, b1, off1, rfl, hpp1, hc1⟩ := ha1
      have HP := Lib.hid hpp
      have HC := Lib.hid hc
      have HP1 := Lib.hid hpp1
      have HC1 := Lib.hid hc1
      have H0 := fun U => Lib.hid (newI_ok 60 (by decide) (by decide) U)
      have qn : (la0.length : Int) ≤ 60 := by omega
      have qn1 : (la1.length : Int) ≤ 60 := by omega
      clear hpp hc qa0 sa0 hpp1 hc1 qa1 sa1
      go_enter Try.func7, Try.ntmps7
      go_upto_region 4 with (go_at_call 18; refine (H0 _).out.mono ?_; rintro e w1 ⟨rfl, h1, b1⟩)
      have I1 := Lib.hid (And.intro h1 b1)
      clear h1 b1
      go_upto_region 5 with (go_at_call 18; refine (H0 _).out.mono ?_; rintro e w2 ⟨rfl, h2, b2⟩)
      have J := Lib.hid (pair_start I1.out.1 I1.out.2 h2 b2)
      clear h2 b2 H0 I1
      go_wp2_with fail
      go_loopw [9] (fun s9 wr => ∃ (k : Nat) (arm : Int) (L : List T3), k ≤ la0.length ∧ s9 = .int .i64 k ∧ Hid (Pair w wr (w.heap.size + 1) w.heap.size arm L (w1.heap.size + 1) w1.heap.size 0 []) ∧ Hid (0 ≤ arm ∧ arm ≤ k ∧ L.length ≤ 60))
        (fun s9 _ => la0.length - (intOf s9).toNat)
      case atStart => exact ⟨0, 0, [], Nat.zero_le _, rfl, J, Lib.hid (by simp)⟩
      case round =>
        obtain ⟨k, arm, L, hk, rfl, hJ, hq⟩ := hrel
        by_cases hlt : k < la0.length
        · have hne : la0 ≠ [] := by rintro rfl; simp at hlt
          obtain rfl := HP.out hne
          have hs : la0[k]? = some la0[k] := List.getElem?_eq_getElem hlt
          have hlt' : (k : Int) < (la0.length : Int) := by omega
          have x0 := icell_below hJ.out.hb (HC.out k _ hs)
          generalize la0[k] = a at x0
          have AR := Lib.hid (armI_gen hJ.out.hv k a (wf64 (by omega) (by omega)) hq.out.1 (by have := hq.out.2.1; omega) hq.out.2.2)
          clear hne hs
          go_wp2_with (go_at_call 19; refine AR.out.mono ?_; rintro e w3 ⟨n3, arm2, L2, rfl, h3, t3, q1, q2, q3⟩)
          have J3 := Lib.hid (hJ.out.left h3 t3 (Or.inl rfl))
          have Q3 := Lib.hid (show 0 ≤ arm2 ∧ arm2 ≤ ((k + 1 : Nat) : Int) ∧ L2.length ≤ 60 from ⟨q1, by have := hq.out.2.1; omega, q3⟩)
          clear h3 t3 q1 q2 q3 AR x0 hJ hq
          go_wp2_with fail
          go_roundw
          case rel => exact ⟨k + 1, arm2, L2, by omega, by go_num, J3, Q3⟩
          case measure => simp [intOf]; omega
        · obtain rfl : k = la0.length := by omega
          have LN := Lib.hid (lenI_c hJ.out.hv)
          have NX := Lib.hid (nextI_c hJ.out.hv)
          go_upto_region 13 with (first | (go_at_call 21; refine LN.out.mono ?_; rintro e w4 ⟨rfl, rfl⟩) | (go_at_call 22; refine NX.out.mono ?_; rintro e w4 ⟨f, hb, rfl, hB, h4⟩))
          have J4 := Lib.hid (hJ.out.below h4)
          have HB := Lib.hid hB
          clear hB h4 LN NX hJ hq J hlt
          go_wp2_with fail
          go_loopw [13] (fun s13 wr => ∃ (k : Nat) (arm' : Int) (L' : List T3) (mq : Nat), k ≤ la1.length ∧ s13 = .int .i64 k ∧ Hid (Pair w wr (w.heap.size + 1) w.heap.size arm L (w1.heap.size + 1) mq arm' L') ∧ Hid (0 ≤ arm' ∧ arm' ≤ k ∧ L'.length ≤ 60))
            (fun s13 _ => la1.length - (intOf s13).toNat)
          case atStart => exact ⟨0, 0, [], w1.heap.size, Nat.zero_le _, rfl, J4, Lib.hid (by simp)⟩
          case round =>
            obtain ⟨k, arm', L', mq, hk1, rfl, hJ, hq⟩ := hrel
            by_cases hlt : k < la1.length
            · have hne : la1 ≠ [] := by rintro rfl; simp at hlt
              obtain rfl := HP1.out hne
              have hs : la1[k]? = some la1[k] := List.getElem?_eq_getElem hlt
              have hlt' : (k : Int) < (la1.length : Int) := by omega
              obtain ⟨a, haa⟩ : ∃ a, a = la1[k] := ⟨_, rfl⟩
              rw [← haa] at hs
              have HS := Lib.hid hs
              have x0 := icell_below hJ.out.hb (HC1.out k _ hs)
              have AR := Lib.hid (armI_gen hJ.out.hw k a (wf64 (by omega) (by omega)) hq.out.1 (by have := hq.out.2.1; omega) hq.out.2.2)
              clear hne hs haa
              go_upto_region 17 with (go_at_call 19; refine AR.out.mono ?_; rintro e w5 ⟨n3, arm2, L2, rfl, h3, t3, q1, q2, q3⟩)
              have J5 := Lib.hid (hJ.out.right h3 t3 (Or.inl rfl))
              have Q5 := Lib.hid (show 0 ≤ arm2 ∧ arm2 ≤ ((k + 1 : Nat) : Int) ∧ L2.length ≤ 60 from ⟨q1, by have := hq.out.2.1; omega, q3⟩)
              clear h3 t3 q1 q2 q3 AR x0 hJ hq
              have CA := Lib.hid (cancelI_c J5.out.hw ((k : Int) + 1) (wf64 (by omega) (by omega)))
              go_upto_region 18 with (go_at_call 23; refine CA.out.mono ?_; rintro e w6 ⟨rfl, h6, t6⟩)
              have J6 := Lib.hid (J5.out.right h6 t6 (Or.inl rfl))
              have Q6 := Lib.hid (del_le L2 (.int .i64 ((k : Int) + 1)))
              clear h6 t6 CA J5
              generalize delT L2 (.int .i64 ((k : Int) + 1)) = L3 at J6 Q6
              have x1 := icell_below J6.out.hb (HC1.out k a HS.out)
              have DU := Lib.hid (dueI_c J6.out.hw a (by have := Q6.out; have := Q5.out.2.2; omega))
              unfold DuePostI at DU
              go_wp2_with (go_at_call 20; refine DU.out.mono ?_; rintro e w7 ⟨v7, D7, mq7, rfl, _, _, _, h7, t7, m7⟩)
              have J7 := Lib.hid (J6.out.right h7 t7 m7)
              have Q7 := Lib.hid (show 0 ≤ arm2 ∧ arm2 ≤ ((k + 1 : Nat) : Int) ∧ (latL a L3).length ≤ 60 from ⟨Q5.out.1, Q5.out.2.1, by have := lat_le a L3; have := Q6.out; have := Q5.out.2.2; omega⟩)
              clear h7 t7 m7 DU x1 J6 Q5 Q6
              go_wp2_with fail
              go_roundw
              case rel => exact ⟨k + 1, arm2, _, mq7, by omega, by go_num, J7, Q7⟩
              case measure => simp [intOf]; omega
            · obtain rfl : k = la1.length := by omega
              have NX := Lib.hid (nextI_c hJ.out.hv)
              go_upto_region 20 with (go_at_call 22; refine NX.out.mono ?_; rintro e w8 ⟨f8, hb8, rfl, hB8, h8⟩)
              obtain ⟨rfl, rfl⟩ := best_one hB8 HB.out
              have J8 := Lib.hid (hJ.out.below h8)
              have LN := Lib.hid (lenI_c J8.out.hv)
              clear hB8 h8 NX hJ hq HB
              go_wp2_with (first | (go_at_call 21; refine LN.out.mono ?_; rintro e w9 ⟨rfl, rfl⟩) | (go_at_call 10; refine (HL _).out.mono ?_; rintro e w9 ⟨rfl, h9⟩))
              go_ret
              exact ⟨rfl, J8.out.hb.trans (h9.mono J8.out.hb.size)⟩
    · have k0 : decide ((60 : Int) < (la0.length : Int)) = false := by simp; omega
      have k1 : decide ((60 : Int) < (la1.length : Int)) = true := by simp; omega
      obtain ⟨pz, cp, rfl⟩ := ha0.slice
      obtain ⟨pz1, cp1, rfl⟩ := ha1.slice
      unfold maxLen at qa0 qa1
      clear ha0 sa0 ha1 sa1
      go_enter Try.func7, Try.ntmps7
      go_wp2_with (go_at_call 10; refine (HL _).out.mono ?_; rintro e w1 ⟨rfl, h1⟩)
      go_ret
      exact ⟨rfl, h1⟩
  · have k2 : decide ((60 : Int) < (la0.length : Int)) = true := by simp; omega
    obtain ⟨pz, cp, rfl⟩ := ha0.slice
    obtain ⟨pz1, cp1, rfl⟩ := ha1.slice
    unfold maxLen at qa0 qa1
    clear ha0 sa0 ha1 sa1
    go_enter Try.func7, Try.ntmps7
    go_wp2_with (go_at_call 10; refine (HL _).out.mono ?_; rintro e w1 ⟨rfl, h1⟩)
    go_ret
    exact ⟨rfl, h1⟩

theorem own : ownKnob Try.prog.godebug = none := by kernel_rfl
theorem laidOut : laidOutB Try.prog = true := by kernel_rfl

set_option maxHeartbeats 1000000 in
set_option maxRecDepth 100000 in
theorem lifted (os : Os) (started : os.Started) (H : Type) (enc : TypeId × Value → H) :
    ReturnsInHanded {} Try.checked os 7 .any (Rows.wheelApartSpec.pre6 enc Try.prog Try.f7 Rows.wheelApartRow.domain false) (Rows.wheelApartSpec.post enc Try.prog Try.f7 false true false false) := by
  refine returnsInHanded_of_change_sized (C := Try.checked) own started (by kernel_rfl) Try.func7
    (ChangeSpec.witness6 (enc := enc) (C := Try.checked) false ⟨#[], #[.slice none 0 0, .slice none 0 0], []⟩ 8 (by kernel_rfl) (by kernel_rfl) (by kernel_rfl) (by kernel_rfl)) ?_
  intro W base args ds gs before hval0 hW hcnd hsz0 hholds
  have hval : ∀ (j : Nat) t v, Try.f7.params[j]? = some t → args[j]? = some v → Value.okWide Try.prog W .any base t v := hval0
  have hsz : (DataW.weightsEach Try.prog (Try.f7.params.toList ++ Rows.wheelApartSpec.plain.varTypes Try.prog) (ds ++ gs)).all (· ≤ reachBytes) = true := hsz0
  have hW' := hW
  obtain ⟨p, q, hA0, hV, rfl, hfz, hnd⟩ := hW
  have hA : DataW.TrodAll enc Try.prog W 0 (fun _ => true) true Try.f7.params.toList args.toList ds p := hA0
  rw [Try.params7] at hA hval hsz
  obtain ⟨v0, vs0, d0, ds0, p0, q0, hargs, rfl, rfl, h0, r0⟩ := trodAll_cons hA
  obtain ⟨v1, vs1, d1, ds1, p1, q1, rfl, rfl, rfl, h1, r1⟩ := trodAll_cons r0
  obtain ⟨rfl, rfl, rfl⟩ := trodAll_nil r1
  obtain rfl : args = #[v0, v1] := by cases args; simp_all
  obtain ⟨rfl, rfl⟩ := trodVars_none hV
  have k0 := h0
  have lt0 : ∀ x ∈ p0, x.block < W.heap.size := by obtain ⟨m, hm⟩ := k0; exact DataW.trod_lt m _ _ _ hm
  have k1 := h1
  have lt1 : ∀ x ∈ p1, x.block < W.heap.size := by obtain ⟨m, hm⟩ := k1; exact DataW.trod_lt m _ _ _ hm
  obtain ⟨sa0, sl0, sc0, rfl⟩ := okWide_slice Try.underlying45 (hval 0 45 v0 rfl rfl)
  obtain ⟨fu0, hf0⟩ := h0
  obtain ⟨vv0, L0, e0, hh0, qq0, ss0⟩ := ints_open hf0
  simp [Value.cells] at e0
  subst e0
  obtain ⟨sa1, sl1, sc1, rfl⟩ := okWide_slice Try.underlying45 (hval 1 45 v1 rfl rfl)
  obtain ⟨fu1, hf1⟩ := h1
  obtain ⟨vv1, L1, e1, hh1, qq1, ss1⟩ := ints_open hf1
  simp [Value.cells] at e1
  subst e1
  clear hA0 hval0
  refine (walk (.slice sa0 sl0 sc0) L0 (.slice sa1 sl1 sc1) L1 W hh0 qq0 ss0 hh1 qq1 ss1).mono fun e W' ⟨he, bel⟩ => ?_
  subst he
  exact ⟨_, rfl, _, _, _, [], _, [], hW', trodAll_mk1 (shut_bool Try.underlying4 _), (trodAll_cons_mk (Below.trod laidOut (by kernel_rfl) (of_decide_eq_true (by kernel_rfl)) k0 bel lt0) (trodAll_cons_mk (Below.trod laidOut (by kernel_rfl) (of_decide_eq_true (by kernel_rfl)) k1 bel lt1) trodAll_mk0)), rfl, bel.frame _, fun h => by cases h⟩

theorem over : Rows.wheelApartRow.holds Try.pinned (OpenSpec.ofChange Rows.wheelApartSpec) :=
  OpenClaim.holds_of_wide 7 Try.f7 rfl rfl rfl rfl rfl rfl rfl ⟨rfl, rfl, rfl, rfl, rfl⟩ rfl rfl rfl rfl rfl (by kernel_rfl) Try.func7 (by kernel_rfl)
    (of_decide_eq_true (by kernel_rfl)) (by unfold Func.isWrapper; first | (rw [if_pos (by decide +kernel)]; kernel_rfl) | (rw [if_neg (by decide +kernel)]; exact ⟨rfl, rfl⟩))
    (fun os started H enc _ => lifted os started H enc)

/-- The statement. -/
theorem proved : Rows.WheelApartSaid := over
#print axioms proved
end Go.Proofs.Ytplaconhpiojbaa.wheelApartLaw
