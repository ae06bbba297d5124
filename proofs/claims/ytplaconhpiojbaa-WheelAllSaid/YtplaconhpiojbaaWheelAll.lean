/-
  'siphonlaw10.WheelAll' returns true, whatever the input, and each argument reads behind the call as it read before. Conditions: none beyond those that the row itself states.
-/
import Derived.Test.YtplaconhpiojbaaRows
import Derived.Test.YtplaconhpiojbaaWhR
import Derived.Test.YtplaconhpiojbaaTrodJ
import Derived.WalkKit
import Derived.ProofKit
import Derived.OpenShut
import Derived.ShutString
import Derived.ChangeOld
import Derived.Below
import Derived.Carry
import Derived.SizedLaws
import Derived.Lib.SmallJoins
import Derived.ChangeArms
import Derived.WideShapes
namespace Go.Proofs.Ytplaconhpiojbaa.wheelAllLaw
open Go.ChangeShapes Go.WideShapes Go.ChangeAt Go.RowKit Go.Joins
open Go.ChangeMaps (open_string shut_string)
set_option linter.unusedVariables false

set_option maxHeartbeats 8000000 in
set_option maxRecDepth 100000 in
theorem walk (a0 : Value) (la0 : List Int) (w : World) (ha0 : IntsAt w a0 la0) (qa0 : la0.length ≤ maxLen) (sa0 : I64 la0) :
    Calls Try.prog 5 #[a0] w fun e w' => e = .returned (.bool true) ∧ Below w.heap.size w w' := by
  have HL := fun U => Lib.hid (live10_c U)
  by_cases hn : la0.length ≤ 60
  · obtain ⟨pz, cp, b, off, rfl, hpp, hc⟩ := ha0
    have HP := Lib.hid hpp
    have HC := Lib.hid hc
    have H0 := Lib.hid (newI_ok 60 (by decide) (by decide) w)
    have qn : (la0.length : Int) ≤ 60 := by omega
    have SB := Lib.hid sa0
    clear hpp hc qa0 sa0
    go_enter Try.func5, Try.ntmps5
    go_wp2_with (go_at_call 18; refine H0.out.mono ?_; rintro e w1 ⟨rfl, h1, b1⟩)
    have I1 := Lib.hid (And.intro h1 b1)
    clear h1 b1 H0
    go_loopw [5, 6, 7, 8] (fun s5 s6 s7 _ wr => ∃ (k n : Nat) (last : Int), k ≤ la0.length ∧ s7 = .int .i64 k ∧ s5 = .int .i64 n ∧ s6 = .int .i64 last ∧ n ≤ k ∧ 0 ≤ last ∧ Hid (n = (stL la0 k).length) ∧ Hid (∀ x ∈ stL la0 k, x.2.1 ≤ last) ∧ Hid (HasI wr (w.heap.size + 1) w.heap.size 60 (stL la0 k).length (stL la0 k) ∧ Below w.heap.size w wr))
      (fun _ _ s7 _ _ => la0.length - (intOf s7).toNat)
    case atStart => exact ⟨0, 0, 0, Nat.zero_le _, rfl, rfl, rfl, Nat.le_refl _, Int.le_refl _, Lib.hid rfl, Lib.hid (fun x hx => by simp [stL] at hx), I1⟩
    case round =>
      obtain ⟨k, n, last, hk, rfl, rfl, rfl, hnk, hl0, hN, hM, hI⟩ := hrel
      by_cases hlt : k < la0.length
      · have hne : la0 ≠ [] := by rintro rfl; simp at hlt
        obtain rfl := HP.out hne
        have hs : la0[k]? = some la0[k] := List.getElem?_eq_getElem hlt
        have hlt' : (k : Int) < (la0.length : Int) := by omega
        obtain ⟨a, haa⟩ : ∃ a, a = la0[k] := ⟨_, rfl⟩
        rw [← haa] at hs
        have x0 := icell_below hI.out.2 (HC.out k a hs)
        have hk60 : k < 60 := by omega
        have HS := Lib.hid hs
        clear hne hs haa
        by_cases ha : a < 0
        · have k1 : decide (0 ≤ a) = false := by simp; omega
          have k1' : decide (a ≥ 0) = false := k1
          have AR := Lib.hid (armI_min hI.out.1 HS.out ha)
          have hst := Lib.hid (stL_neg HS.out ha)
          clear ha
          go_upto_region 12 with (go_at_call 19; refine AR.out.mono ?_; rintro e w2 ⟨rfl, h2, t2⟩)
          have I2 := Lib.hid (And.intro h2 (hI.out.2.trans (t2.below (Nat.le_succ _) (Nat.le_refl _) hI.out.2.size)))
          clear h2 t2 AR x0
          have x1 := icell_below I2.out.2 (HC.out k a HS.out)
          go_wp2_with fail
          go_roundw
          case rel => exact ⟨k + 1, n, last, by omega, by go_num, rfl, rfl, by omega, hl0, Lib.hid (by rw [hst.out]; exact hN.out), Lib.hid (by rw [hst.out]; exact hM.out), I2⟩
          case measure => simp [intOf]; omega
        · have h0 : 0 ≤ a := by omega
          have k1 : decide (0 ≤ a) = true := by simp; omega
          have k1' : decide (a ≥ 0) = true := k1
          have AR := Lib.hid (armI_pos hI.out.1 hk60 HS.out h0)
          have hst := Lib.hid (stL_pos HS.out h0)
          clear ha
          go_upto_region 12 with (go_at_call 19; refine AR.out.mono ?_; rintro e w2 ⟨rfl, h2, t2⟩)
          have I2 := Lib.hid (And.intro h2 (hI.out.2.trans (t2.below (Nat.le_succ _) (Nat.le_refl _) hI.out.2.size)))
          clear h2 t2 AR x0
          have x1 := icell_below I2.out.2 (HC.out k a HS.out)
          go_wp2_with fail
          go_roundw
          case rel => exact ⟨k + 1, n + 1, max last a, by omega, by go_num, by go_num, rfl, by omega, by omega, Lib.hid (by rw [hst.out, List.length_append, hN.out]; rfl), Lib.hid (by rw [hst.out]; exact max_all hM.out rfl), I2⟩
          case measure => simp [intOf]; omega
      · obtain rfl : k = la0.length := by omega
        have DA := due_all hM.out
        have DU := Lib.hid (dueI_law hI.out.1 last (by have := stL_len la0 la0.length; omega) (good_stL _ _))
        rw [DA.1, DA.2] at DU
        clear DA hM hlt
        go_upto_region 18 with (go_at_call 20; refine DU.out.mono ?_; rintro e w2 ⟨v, D, m', rfl, hPm, hSo, hIn, hOw, hHI, hTw, hMm⟩)
        have B2 := Lib.hid (hI.out.2.trans (hTw.out.below (Nat.le_succ _) (Nat.le_refl _) hI.out.2.size))
        have LN := Lib.hid (lenI_c hHI.out)
        obtain ⟨pd, cd, bd, od, rfl, hpd, hcd⟩ := hIn.out
        have XD := Lib.hid (And.intro hpd hcd)
        have hln : D.length = n := by rw [← hPm.out.length_eq, hN.out]
        rw [List.length_map, hln]
        have HLn := Lib.hid hln
        have AS := Lib.hid (all_sorted hPm.out hSo.out)
        have AA := Lib.hid (fun x hx => all_at (x := x) rfl hPm.out hx)
        have kz : (((n : Nat) : Int) != ((n : Nat) : Int)) = false := by simp
        clear hpd hcd hln hPm hSo hIn hOw hHI hTw hMm DU hI hN
        have hnn : n ≤ 60 := by omega
        go_wp2_with (go_at_call 21; refine LN.out.mono ?_; rintro e w9 ⟨rfl, rfl⟩)
        clear LN kz
        go_loopw [10] (fun s10 wr => ∃ k q : Nat, k ≤ n ∧ s10 = .int .i64 k ∧ wr = w9.drewN q) (fun s10 _ => n - (intOf s10).toNat)
        case atStart => exact ⟨0, 0, Nat.zero_le _, rfl, rfl⟩
        case round =>
          obtain ⟨k, q, hk, rfl, rfl⟩ := hrel
          by_cases hlt : k < n
          · have hkD : k < D.length := by rw [HLn.out]; exact hlt
            obtain ⟨y, hyD⟩ := some_at hkD
            have hDn : (D.map kNum) ≠ [] := by intro e; have := congrArg List.length e; simp at this; rw [this] at hkD; simp at hkD
            obtain rfl := XD.out.1 hDn
            obtain ⟨j, hj, hjl, hat, hy0⟩ := AA.out y (List.mem_of_getElem? hyD)
            have hl0 : la0 ≠ [] := by rintro rfl; simp at hjl
            obtain rfl := HP.out hl0
            have y1 := XD.out.2 k (kNum y) (by rw [List.getElem?_map, hyD]; rfl)
            rw [hj] at y1
            have y2 := icell_below B2.out (HC.out j _ hat)
            have hjl' : (j : Int) < (la0.length : Int) := by omega
            have hge : decide (la0.length ≤ j) = false := decide_eq_false (by omega)
            have hlt' : (k : Int) < (n : Int) := by omega
            have hay : decide (y.2.1 < 0) = false := decide_eq_false (by omega)
            cases k with
            | zero =>
              generalize y.2.1 = ay at y2 hay hy0
              rw [Nat.add_zero] at y1
              clear hj hat hDn hl0 hkD hyD
              go_wp2_with fail
              go_quiet (fail)
              go_wp2_with fail
              go_roundw
              case rel => exact ⟨1, _, by omega, by go_num, rfl⟩
              case measure => simp [intOf]; omega
            | succ i =>
              obtain ⟨x, hxD⟩ := some_at (show i < D.length by omega)
              have h2 := all_two AS.out hxD hyD
              obtain ⟨jx, hjx, hjxl, hatx, hx0⟩ := AA.out x (List.mem_of_getElem? hxD)
              rw [hj, hjx] at h2
              have x1 := XD.out.2 i (kNum x) (by rw [List.getElem?_map, hxD]; rfl)
              rw [hjx] at x1
              have x2 := icell_below B2.out (HC.out jx _ hatx)
              have hjxl' : (jx : Int) < (la0.length : Int) := by omega
              clear hj hat hDn hl0 hkD hatx hjx hxD hyD
              generalize y.2.1 = ay at y2 hay hy0 h2
              generalize x.2.1 = ax at x2 hx0 h2
              obtain ⟨t1, hcase⟩ := all_case h2.1 h2.2
              have hsub : (i : Int) + 1 - 1 = (i : Int) := by omega
              have hi' : (i : Int) < (n : Int) := by omega
              clear h2
              rcases hcase with t2 | ⟨t2, t3⟩
              all_goals (
                go_wp2_with fail
                go_quiet (fail)
                go_wp2_with fail
                go_roundw
                case rel => exact ⟨i + 1 + 1, _, by omega, by go_num, rfl⟩
                case measure => simp [intOf]; omega)
          · obtain rfl : k = n := by omega
            go_wp2_with (go_at_call 10; refine (HL _).out.mono ?_; rintro e w10 ⟨rfl, h10⟩)
            go_ret
            exact ⟨rfl, (below_drewN B2.out q).trans (h10.mono (by have := B2.out.size; simpa [World.drewN] using this))⟩
  · have k2 : decide ((60 : Int) < (la0.length : Int)) = true := by simp; omega
    obtain ⟨pz, cp, rfl⟩ := ha0.slice
    unfold maxLen at qa0
    clear ha0 sa0
    go_enter Try.func5, Try.ntmps5
    go_wp2_with (go_at_call 10; refine (HL _).out.mono ?_; rintro e w1 ⟨rfl, h1⟩)
    go_ret
    exact ⟨rfl, h1⟩

theorem own : ownKnob Try.prog.godebug = none := by kernel_rfl
theorem laidOut : laidOutB Try.prog = true := by kernel_rfl

set_option maxHeartbeats 1000000 in
set_option maxRecDepth 100000 in
theorem lifted (os : Os) (started : os.Started) (H : Type) (enc : TypeId × Value → H) :
    ReturnsInHanded {} Try.checked os 5 .any (Rows.wheelAllSpec.pre6 enc Try.prog Try.f5 Rows.wheelAllRow.domain false) (Rows.wheelAllSpec.post enc Try.prog Try.f5 false true false false) := by
  refine returnsInHanded_of_change_sized (C := Try.checked) own started (by kernel_rfl) Try.func5
    (ChangeSpec.witness6 (enc := enc) (C := Try.checked) false ⟨#[], #[.slice none 0 0], []⟩ 8 (by kernel_rfl) (by kernel_rfl) (by kernel_rfl) (by kernel_rfl)) ?_
  intro W base args ds gs before hval0 hW hcnd hsz0 hholds
  have hval : ∀ (j : Nat) t v, Try.f5.params[j]? = some t → args[j]? = some v → Value.okWide Try.prog W .any base t v := hval0
  have hsz : (DataW.weightsEach Try.prog (Try.f5.params.toList ++ Rows.wheelAllSpec.plain.varTypes Try.prog) (ds ++ gs)).all (· ≤ reachBytes) = true := hsz0
  have hW' := hW
  obtain ⟨p, q, hA0, hV, rfl, hfz, hnd⟩ := hW
  have hA : DataW.TrodAll enc Try.prog W 0 (fun _ => true) true Try.f5.params.toList args.toList ds p := hA0
  rw [Try.params5] at hA hval hsz
  obtain ⟨v0, vs0, d0, ds0, p0, q0, hargs, rfl, rfl, h0, r0⟩ := trodAll_cons hA
  obtain ⟨rfl, rfl, rfl⟩ := trodAll_nil r0
  obtain rfl : args = #[v0] := by cases args; simp_all
  obtain ⟨rfl, rfl⟩ := trodVars_none hV
  have k0 := h0
  have lt0 : ∀ x ∈ p0, x.block < W.heap.size := by obtain ⟨m, hm⟩ := k0; exact DataW.trod_lt m _ _ _ hm
  obtain ⟨sa0, sl0, sc0, rfl⟩ := okWide_slice Try.underlying45 (hval 0 45 v0 rfl rfl)
  obtain ⟨fu0, hf0⟩ := h0
  obtain ⟨vv0, L0, e0, hh0, qq0, ss0⟩ := ints_open hf0
  simp [Value.cells] at e0
  subst e0
  clear hA0 hval0
  refine (walk (.slice sa0 sl0 sc0) L0 W hh0 qq0 ss0).mono fun e W' ⟨he, bel⟩ => ?_
  subst he
  exact ⟨_, rfl, _, _, _, [], _, [], hW', trodAll_mk1 (shut_bool Try.underlying4 _), (trodAll_cons_mk (Below.trod laidOut (by kernel_rfl) (of_decide_eq_true (by kernel_rfl)) k0 bel lt0) trodAll_mk0), rfl, bel.frame _, fun h => by cases h⟩

theorem over : Rows.wheelAllRow.holds Try.pinned (OpenSpec.ofChange Rows.wheelAllSpec) :=
  OpenClaim.holds_of_wide 5 Try.f5 rfl rfl rfl rfl rfl rfl rfl ⟨rfl, rfl, rfl, rfl, rfl⟩ rfl rfl rfl rfl rfl (by kernel_rfl) Try.func5 (by kernel_rfl)
    (of_decide_eq_true (by kernel_rfl)) (by unfold Func.isWrapper; first | (rw [if_pos (by decide +kernel)]; kernel_rfl) | (rw [if_neg (by decide +kernel)]; exact ⟨rfl, rfl⟩))
    (fun os started H enc _ => lifted os started H enc)

/-- The statement. -/
theorem proved : Rows.WheelAllSaid := over
#print axioms proved
end Go.Proofs.Ytplaconhpiojbaa.wheelAllLaw
