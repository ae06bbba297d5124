/-
  'siphonlaw10.WheelNext' returns true, whatever the input, and each argument reads behind the call as it read before. Conditions: none beyond those that the row itself states.
-/
import Derived.Test.YtplaconhpiojbaaRows
import Derived.Test.YtplaconhpiojbaaWhO
import Derived.Test.YtplaconhpiojbaaTrodJ
import Derived.WalkKit
import Derived.ProofKit
import Derived.OpenShut
import Derived.ShutString
import Derived.ChangeOld
import Derived.Below
import Derived.Carry
import Derived.SizedLaws
import Derived.Lib.SmallJoins
import Derived.ChangeArms
import Derived.WideShapes
namespace Go.Proofs.Ytplaconhpiojbaa.wheelNextLaw
open Go.ChangeShapes Go.WideShapes Go.ChangeAt Go.RowKit Go.Joins
open Go.ChangeMaps (open_string shut_string)
set_option linter.unusedVariables false

set_option maxHeartbeats 8000000 in
set_option maxRecDepth 100000 in
theorem walk (a0 : Value) (la0 : List Int) (w : World) (ha0 : IntsAt w a0 la0) (qa0 : la0.length ≤ maxLen) (sa0 : I64 la0) :
    Calls Try.prog 8 #[a0] w fun e w' => e = .returned (.bool true) ∧ Below w.heap.size w w' := by
  have HL := fun U => Lib.hid (live10_c U)
  by_cases hn : la0.length ≤ 60
  · obtain ⟨pz, cp, b, off, rfl, hpp, hc⟩ := ha0
    have HP := Lib.hid hpp
    have HC := Lib.hid hc
    have H0 := Lib.hid (newI_ok 60 (by decide) (by decide) w)
    have qn : (la0.length : Int) ≤ 60 := by omega
    have SB := Lib.hid sa0
    clear hpp hc qa0 sa0
    go_enter Try.func8, Try.ntmps8
    go_wp2_with (go_at_call 18; refine H0.out.mono ?_; rintro e w1 ⟨rfl, h1, b1⟩)
    have I1 := Lib.hid (And.intro h1 b1)
    clear h1 b1 H0
    go_loopw [5, 6, 7, 8] (fun s5 s6 _ _ wr => ∃ (k : Nat) (best : Int), k ≤ la0.length ∧ s6 = .int .i64 k ∧ s5 = .int .i64 best ∧ Hid (BestG (stL la0 k) best) ∧ Hid (HasI wr (w.heap.size + 1) w.heap.size 60 (stL la0 k).length (stL la0 k) ∧ Below w.heap.size w wr))
      (fun _ s6 _ _ _ => la0.length - (intOf s6).toNat)
    case atStart => exact ⟨0, -1, Nat.zero_le _, rfl, rfl, Lib.hid (Or.inl ⟨rfl, best_nil⟩), I1⟩
    case round =>
      obtain ⟨k, best, hk, rfl, rfl, hbg, hI⟩ := hrel
      by_cases hlt : k < la0.length
      · have hne : la0 ≠ [] := by rintro rfl; simp at hlt
        obtain rfl := HP.out hne
        have hs : la0[k]? = some la0[k] := List.getElem?_eq_getElem hlt
        have hlt' : (k : Int) < (la0.length : Int) := by omega
        obtain ⟨a, haa⟩ : ∃ a, a = la0[k] := ⟨_, rfl⟩
        rw [← haa] at hs
        have x0 := icell_below hI.out.2 (HC.out k a hs)
        have hk60 : k < 60 := by omega
        have HS := Lib.hid hs
        clear hne hs haa
        by_cases ha : a < 0
        · have k1 : decide (0 ≤ a) = false := by simp; omega
          have k1' : decide (a ≥ 0) = false := k1
          have AR := Lib.hid (armI_min hI.out.1 HS.out ha)
          have hst := Lib.hid (stL_neg HS.out ha)
          clear ha
          go_upto_region 11 with (go_at_call 19; refine AR.out.mono ?_; rintro e w2 ⟨rfl, h2, t2⟩)
          have I2 := Lib.hid (And.intro h2 (hI.out.2.trans (t2.below (Nat.le_succ _) (Nat.le_refl _) hI.out.2.size)))
          clear h2 t2 AR x0
          have x1 := icell_below I2.out.2 (HC.out k a HS.out)
          have AT := Lib.hid (atI_c I2.out.1 k (wf64 (by omega) (by omega)))
          have hg := Lib.hid (show hasT (stL la0 (k + 1)) (.int .i64 k) = false by rw [hst.out]; exact stL_new _ _)
          rw [hg.out, getT_none hg.out] at AT
          go_upto_region 14 with (go_at_call 24; refine AT.out.mono ?_; rintro e w3 ⟨rfl, h3⟩)
          have I3 := Lib.hid (And.intro (I2.out.1.below h3) (I2.out.2.trans (h3.mono I2.out.2.size)))
          clear h3 AT x1
          have x2 := icell_below I3.out.2 (HC.out k a HS.out)
          go_wp2_with fail
          go_roundw
          case rel => exact ⟨k + 1, best, by omega, by go_num, rfl, Lib.hid (by rw [hst.out]; exact hbg.out), I3⟩
          case measure => simp [intOf]; omega
        · have h0 : 0 ≤ a := by omega
          have k1 : decide (0 ≤ a) = true := by simp; omega
          have k1' : decide (a ≥ 0) = true := k1
          have AR := Lib.hid (armI_pos hI.out.1 hk60 HS.out h0)
          have hst := Lib.hid (stL_pos HS.out h0)
          have HBG := Lib.hid (bestG_step hbg.out h0 k ((stL la0 k).length + 1))
          clear ha
          go_upto_region 11 with (go_at_call 19; refine AR.out.mono ?_; rintro e w2 ⟨rfl, h2, t2⟩)
          have I2 := Lib.hid (And.intro h2 (hI.out.2.trans (t2.below (Nat.le_succ _) (Nat.le_refl _) hI.out.2.size)))
          clear h2 t2 AR x0
          have x1 := icell_below I2.out.2 (HC.out k a HS.out)
          have AT := Lib.hid (atI_c I2.out.1 k (wf64 (by omega) (by omega)))
          have hg := Lib.hid (getT_last (L := stL la0 k) (k := .int .i64 k) (q := (a, ((stL la0 k).length : Int) + 1)) trivial (stL_new _ _))
          rw [hst.out, hg.out.1, hg.out.2] at AT
          have hcase : (decide (best < 0) = true ∧ decide (a < best) = false ∧ Hid (BestG (stL la0 (k + 1)) a)) ∨ (decide (best < 0) = false ∧ decide (a < best) = true ∧ Hid (BestG (stL la0 (k + 1)) a)) ∨ (decide (best < 0) = false ∧ decide (a < best) = false ∧ Hid (BestG (stL la0 (k + 1)) best)) := by
            rw [hst.out]
            by_cases q1 : best < 0
            · exact Or.inl ⟨decide_eq_true q1, decide_eq_false (by omega), Lib.hid (HBG.out.1 (Or.inl q1))⟩
            · by_cases q2 : a < best
              · exact Or.inr (Or.inl ⟨decide_eq_false q1, decide_eq_true q2, Lib.hid (HBG.out.1 (Or.inr q2))⟩)
              · exact Or.inr (Or.inr ⟨decide_eq_false q1, decide_eq_false q2, Lib.hid (HBG.out.2 (by omega))⟩)
          clear h0 HBG hbg
          rcases hcase with ⟨kb, kc, NB⟩ | ⟨kb, kc, NB⟩ | ⟨kb, kc, NB⟩
          all_goals (
            go_upto_region 14 with (go_at_call 24; refine AT.out.mono ?_; rintro e w3 ⟨rfl, h3⟩)
            have I3 := Lib.hid (And.intro (I2.out.1.below h3) (I2.out.2.trans (h3.mono I2.out.2.size)))
            clear h3 AT x1 kb kc
            have x2 := icell_below I3.out.2 (HC.out k a HS.out)
            go_wp2_with fail
            go_roundw
            case rel => exact ⟨k + 1, _, by omega, by go_num, rfl, NB, I3⟩
            case measure => simp [intOf]; omega)
      · obtain rfl : k = la0.length := by omega
        have NX := Lib.hid (nextI_c hI.out.1)
        have hfin : (best = -1 ∨ (0 ≤ best ∧ decide (0 ≤ best) = true)) ∧ Hid (∀ f hb, Best (stL la0 la0.length) f hb → (best = -1 → f = 0 ∧ hb = false) ∧ (0 ≤ best → f = best ∧ hb = true)) := by
          rcases hbg.out with ⟨rfl, h⟩ | ⟨h0, h⟩
          · exact ⟨Or.inl rfl, Lib.hid fun f hb hB => ⟨fun _ => best_one hB h, fun h0 => absurd h0 (by decide)⟩⟩
          · exact ⟨Or.inr ⟨h0, decide_eq_true h0⟩, Lib.hid fun f hb hB => ⟨fun e => by omega, fun _ => best_one hB h⟩⟩
        obtain ⟨hb2, hF⟩ := hfin
        rcases hb2 with rfl | ⟨h0', k3⟩
        · go_upto_region 17 with (go_at_call 22; refine NX.out.mono ?_; rintro e w4 ⟨f, hb, rfl, hB, h4⟩)
          obtain ⟨rfl, rfl⟩ := (hF.out f hb hB).1 (by trivial)
          have B4 := Lib.hid (hI.out.2.trans (h4.mono hI.out.2.size))
          have hmx : max (-1 : Int) 0 = 0 := by decide
          clear hB h4 NX
          go_wp2_with (go_at_call 10; refine (HL _).out.mono ?_; rintro e w5 ⟨rfl, h5⟩)
          go_ret
          exact ⟨rfl, B4.out.trans (h5.mono B4.out.size)⟩
        · have h0 := Lib.hid h0'
          have hF2 := Lib.hid (fun f hb hB => (hF.out f hb hB).2 h0')
          clear h0' hF hbg
          go_upto_region 17 with (go_at_call 22; refine NX.out.mono ?_; rintro e w4 ⟨f, hb, rfl, hB, h4⟩)
          obtain ⟨rfl, rfl⟩ := hF2.out f hb hB
          have B4 := Lib.hid (hI.out.2.trans (h4.mono hI.out.2.size))
          have hmx : max f 0 = f := by have := h0.out; omega
          clear hB h4 NX hF2 h0
          go_wp2_with (go_at_call 10; refine (HL _).out.mono ?_; rintro e w5 ⟨rfl, h5⟩)
          go_ret
          exact ⟨rfl, B4.out.trans (h5.mono B4.out.size)⟩
  · have k1 : decide ((la0.length : Int) > 60) = true := by simp; omega
    have k2 : decide ((60 : Int) < (la0.length : Int)) = true := by simp; omega
    obtain ⟨pz, cp, rfl⟩ := ha0.slice
    unfold maxLen at qa0
    clear ha0 sa0
    go_enter Try.func8, Try.ntmps8
    go_wp2_with (go_at_call 10; refine (HL _).out.mono ?_; rintro e w1 ⟨rfl, h1⟩)
    go_ret
    exact ⟨rfl, h1⟩

theorem own : ownKnob Try.prog.godebug = none := by kernel_rfl
theorem laidOut : laidOutB Try.prog = true := by kernel_rfl

set_option maxHeartbeats 1000000 in
set_option maxRecDepth 100000 in
theorem lifted (os : Os) (started : os.Started) (H : Type) (enc : TypeId × Value → H) :
    ReturnsInHanded {} Try.checked os 8 .any (Rows.wheelNextSpec.pre6 enc Try.prog Try.f8 Rows.wheelNextRow.domain false) (Rows.wheelNextSpec.post enc Try.prog Try.f8 false true false false) := by
  refine returnsInHanded_of_change_sized (C := Try.checked) own started (by kernel_rfl) Try.func8
    (ChangeSpec.witness6 (enc := enc) (C := Try.checked) false ⟨#[], #[.slice none 0 0], []⟩ 8 (by kernel_rfl) (by kernel_rfl) (by kernel_rfl) (by kernel_rfl)) ?_
  intro W base args ds gs before hval0 hW hcnd hsz0 hholds
  have hval : ∀ (j : Nat) t v, Try.f8.params[j]? = some t → args[j]? = some v → Value.okWide Try.prog W .any base t v := hval0
  have hsz : (DataW.weightsEach Try.prog (Try.f8.params.toList ++ Rows.wheelNextSpec.plain.varTypes Try.prog) (ds ++ gs)).all (· ≤ reachBytes) = true := hsz0
  have hW' := hW
  obtain ⟨p, q, hA0, hV, rfl, hfz, hnd⟩ := hW
  have hA : DataW.TrodAll enc Try.prog W 0 (fun _ => true) true Try.f8.params.toList args.toList ds p := hA0
  rw [Try.params8] at hA hval hsz
  obtain ⟨v0, vs0, d0, ds0, p0, q0, hargs, rfl, rfl, h0, r0⟩ := trodAll_cons hA
  obtain ⟨rfl, rfl, rfl⟩ := trodAll_nil r0
  obtain rfl : args = #[v0] := by cases args; simp_all
  obtain ⟨rfl, rfl⟩ := trodVars_none hV
  have k0 := h0
  have lt0 : ∀ x ∈ p0, x.block < W.heap.size := by obtain ⟨m, hm⟩ := k0; exact DataW.trod_lt m _ _ _ hm
  obtain ⟨sa0, sl0, sc0, rfl⟩ := okWide_slice Try.underlying45 (hval 0 45 v0 rfl rfl)
  obtain ⟨fu0, hf0⟩ := h0
  obtain ⟨vv0, L0, e0, hh0, qq0, ss0⟩ := ints_open hf0
  simp [Value.cells] at e0
  subst e0
  clear hA0 hval0
  refine (walk (.slice sa0 sl0 sc0) L0 W hh0 qq0 ss0).mono fun e W' ⟨he, bel⟩ => ?_
  subst he
  exact ⟨_, rfl, _, _, _, [], _, [], hW', trodAll_mk1 (shut_bool Try.underlying4 _), (trodAll_cons_mk (Below.trod laidOut (by kernel_rfl) (of_decide_eq_true (by kernel_rfl)) k0 bel lt0) trodAll_mk0), rfl, bel.frame _, fun h => by cases h⟩

theorem over : Rows.wheelNextRow.holds Try.pinned (OpenSpec.ofChange Rows.wheelNextSpec) :=
  OpenClaim.holds_of_wide 8 Try.f8 rfl rfl rfl rfl rfl rfl rfl ⟨rfl, rfl, rfl, rfl, rfl⟩ rfl rfl rfl rfl rfl (by kernel_rfl) Try.func8 (by kernel_rfl)
    (of_decide_eq_true (by kernel_rfl)) (by unfold Func.isWrapper; first | (rw [if_pos (by decide +kernel)]; kernel_rfl) | (rw [if_neg (by decide +kernel)]; exact ⟨rfl, rfl⟩))
    (fun os started H enc _ => lifted os started H enc)

/-- The statement. -/
theorem proved : Rows.WheelNextSaid := over
#print axioms proved
end Go.Proofs.Ytplaconhpiojbaa.wheelNextLaw
