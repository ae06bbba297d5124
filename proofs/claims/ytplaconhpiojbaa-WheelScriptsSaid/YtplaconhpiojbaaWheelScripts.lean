/-
  'siphonlaw10.WheelScripts' returns true, whatever the input, and each argument reads behind the call as it read before. Conditions: none beyond those that the row itself states.
-/
import Derived.Test.YtplaconhpiojbaaRows
import Derived.Test.YtplaconhpiojbaaWhZ
import Derived.Test.YtplaconhpiojbaaRowOpW
import Derived.WalkKit
import Derived.ProofKit
import Derived.OpenShut
import Derived.ShutString
import Derived.ChangeOld
import Derived.Below
import Derived.Carry
import Derived.SizedLaws
import Derived.Lib.SmallJoins
import Derived.ChangeArms
import Derived.WideShapes
namespace Go.Proofs.Ytplaconhpiojbaa.wheelScriptsLaw
open Go.ChangeShapes Go.WideShapes Go.ChangeAt Go.RowKit Go.Joins
open Go.ChangeMaps (open_string shut_string)
set_option linter.unusedVariables false

theorem two_start {w w1 : World} {room : Int} (h1 : HasS w1 (w.heap.size + 1) w.heap.size room 0 []) (b1 : Below w.heap.size w w1) :
    Two w (w1.alloc (.cells #[.int .i64 room, .slice none 0 0] 31)) (w.heap.size + 1) w.heap.size room 0 w1.heap.size [] (.slice none 0 0) := by
  have k : Below w1.heap.size w1 (w1.alloc (.cells #[.int .i64 room, .slice none 0 0] 31)) := (Below.refl _ w1).alloc (Nat.le_refl _) _
  exact ⟨h1.below k, ⟨heap_new _ _, World.ownsRow_nil _ _ _ _⟩, b1.trans (k.mono b1.size), by omega, Nat.le_refl _, b1.size⟩

set_option maxHeartbeats 8000000 in
set_option maxRecDepth 100000 in
theorem walk (a0 : Int) (a1 : Value) (la1 : List OpW) (w : World) (la0 : -9223372036854775808 ≤ a0) (ua0 : a0 ≤ 9223372036854775807) (ha1 : RowsAt 3 cellsOpW w a1 la1) (qa1 : la1.length ≤ maxLen) (sa1 : ∀ r ∈ la1, GoodOpW r) :
    Calls Try.prog 3 #[.int .i64 a0, a1] w fun e w' => e = .returned (.bool true) ∧ Below w.heap.size w w' := by
  have HL := fun U => Lib.hid (live10_c U)
  obtain ⟨pz, cp, b, off, rfl, hpp, hc⟩ := ha1
  have HP := Lib.hid hpp
  have HC := Lib.hid hc
  have SA := Lib.hid sa1
  unfold maxLen at qa1
  clear hpp hc sa1
  by_cases hr : a0 < 1 ∨ 4096 < a0
  · have N := Lib.hid (newS_no a0 hr w)
    have hq : (decide (a0 < 1) = true) ∨ (decide (a0 < 1) = false ∧ decide (4096 < a0) = true) := by
      by_cases h : a0 < 1
      · exact Or.inl (decide_eq_true h)
      · exact Or.inr ⟨decide_eq_false h, decide_eq_true (by omega)⟩
    clear hr
    rcases hq with k1 | ⟨k1, k2⟩
    all_goals (
      go_enter Try.func3, Try.ntmps3
      go_upto_region 2 with (go_at_call 9; refine N.out.mono ?_; rintro e w1 ⟨rfl, rfl⟩)
      go_wp2_with (go_at_call 10; refine (HL _).out.mono ?_; rintro e w2 ⟨rfl, h2⟩)
      go_ret
      exact ⟨rfl, h2⟩)
  · have N := Lib.hid (newS_ok a0 (by omega) (by omega) w)
    have k1 : decide (a0 < 1) = false := decide_eq_false (by omega)
    have k2 : decide (4096 < a0) = false := decide_eq_false (by omega)
    clear hr
    go_enter Try.func3, Try.ntmps3
    go_upto_region 2 with (go_at_call 9; refine N.out.mono ?_; rintro e w1 ⟨rfl, h1, b1⟩)
    have J := Lib.hid (two_start h1 b1)
    clear h1 b1 N
    go_wp2_with fail
    generalize w1.alloc (.cells #[.int .i64 a0, .slice none 0 0] 31) = w2 at J ⊢
    go_loopw [8, 9] (fun s8 _ wr => ∃ (k : Nat) (armed : Int) (mb : Nat) (T : List E3) (lv : Value), k ≤ la1.length ∧ k ≤ 80 ∧ s8 = .int .i64 k ∧ Hid (Two w wr (w.heap.size + 1) mb a0 armed w1.heap.size T lv) ∧ Hid (GoodE T armed ∧ 0 ≤ armed ∧ armed ≤ k ∧ T.length ≤ k))
      (fun s8 _ _ => la1.length - (intOf s8).toNat)
    case atStart => exact ⟨0, 0, w.heap.size, [], _, Nat.zero_le _, by omega, rfl, J, Lib.hid ⟨good_nil 0, by simp⟩⟩
    case round =>
      obtain ⟨k, armed, mb, T, lv, hk, hk8, rfl, hJ, hG⟩ := hrel
      by_cases hlt : k < la1.length
      · by_cases h80 : k < 80
        · have hne : la1 ≠ [] := by rintro rfl; simp at hlt
          obtain rfl := HP.out hne
          obtain ⟨x, hx⟩ := some_at hlt
          have hlt' : (k : Int) < (la1.length : Int) := by omega
          have k80 : decide (k < 80) = true := decide_eq_true h80
          have k80' : (k : Int) < 80 := by omega
          have gx := SA.out x (List.mem_of_getElem? hx)
          obtain ⟨d, s, t⟩ := x
          have x0 := gcell_below hJ.out.bel (HC.out k _ hx 0 (.int .i64 d) rfl)
          have x1 := gcell_below hJ.out.bel (HC.out k _ hx 1 (.string s) rfl)
          have x2 := gcell_below hJ.out.bel (HC.out k _ hx 2 (.int .i64 t) rfl)
          rw [Nat.add_zero] at x0
          have ST := Lib.hid (step_c hJ.out hG.out.1 hG.out.2.1 (by have := hG.out.2.2.1; omega) (by have := hG.out.2.2.2; omega) s gx.2.1 t d)
          clear hne hx gx
          go_upto_region 11 with (go_at_call 11; refine ST.out.mono ?_; rintro e w3 ⟨mb', armed', T', lv', rfl, h3, g3⟩)
          have LN := Lib.hid fun (n : Nat) => lenS_c (h3.out.hs.below (below_drewN (Below.refl _ w3) n))
          rw [len_m] at LN
          obtain ⟨p4, off4, cap4, e4, -⟩ := h3.out.hr.rows
          have c1 := h3.out.hr.c1
          rw [e4] at c1
          clear ST x0 x1 x2 hJ
          go_quiet ((go_at_call 12; exact Calls.quiet_of_same (LN.out _)))
          have J4 := Lib.hid (h3.out.below (below_drewN (Below.refl _ w3) nq))
          have G4 := Lib.hid (show GoodE T' armed' ∧ 0 ≤ armed' ∧ armed' ≤ ((k + 1 : Nat) : Int) ∧ T'.length ≤ k + 1 from ⟨g3.out.1, g3.out.2.1, by have := g3.out.2.2.1; have := hG.out.2.2.1; omega, by have := g3.out.2.2.2; have := hG.out.2.2.2; omega⟩)
          clear c1 LN
          go_wp2_with fail
          go_roundw
          case rel => exact ⟨k + 1, armed', mb', T', lv', by omega, by omega, by go_num, J4, G4⟩
          case measure => simp [intOf]; omega
        · obtain rfl : k = 80 := by omega
          have hlt' : ((80 : Nat) : Int) < (la1.length : Int) := by omega
          have hlt2 : (80 : Int) < (la1.length : Int) := by omega
          go_wp2_with (go_at_call 10; refine (HL _).out.mono ?_; rintro e w9 ⟨rfl, h9⟩)
          go_ret
          exact ⟨rfl, hJ.out.bel.trans (h9.mono hJ.out.bel.size)⟩
      · obtain rfl : k = la1.length := by omega
        have hlt' : decide ((la1.length : Int) < (la1.length : Int)) = false := by simp
        go_wp2_with (go_at_call 10; refine (HL _).out.mono ?_; rintro e w9 ⟨rfl, h9⟩)
        go_ret
        exact ⟨rfl, hJ.out.bel.trans (h9.mono hJ.out.bel.size)⟩

theorem own : ownKnob Try.prog.godebug = none := by kernel_rfl
theorem laidOut : laidOutB Try.prog = true := by kernel_rfl

set_option maxHeartbeats 1000000 in
set_option maxRecDepth 100000 in
theorem lifted (os : Os) (started : os.Started) (H : Type) (enc : TypeId × Value → H) :
    ReturnsInHanded {} Try.checked os 3 .any (Rows.wheelScriptsSpec.pre6 enc Try.prog Try.f3 Rows.wheelScriptsRow.domain false) (Rows.wheelScriptsSpec.post enc Try.prog Try.f3 false true false false) := by
  refine returnsInHanded_of_change_sized (C := Try.checked) own started (by kernel_rfl) Try.func3
    (ChangeSpec.witness6 (enc := enc) (C := Try.checked) false ⟨#[], #[.int .i64 0, .slice none 0 0], []⟩ 8 (by kernel_rfl) (by kernel_rfl) (by kernel_rfl) (by kernel_rfl)) ?_
  intro W base args ds gs before hval0 hW hcnd hsz0 hholds
  have hval : ∀ (j : Nat) t v, Try.f3.params[j]? = some t → args[j]? = some v → Value.okWide Try.prog W .any base t v := hval0
  have hsz : (DataW.weightsEach Try.prog (Try.f3.params.toList ++ Rows.wheelScriptsSpec.plain.varTypes Try.prog) (ds ++ gs)).all (· ≤ reachBytes) = true := hsz0
  have hW' := hW
  obtain ⟨p, q, hA0, hV, rfl, hfz, hnd⟩ := hW
  have hA : DataW.TrodAll enc Try.prog W 0 (fun _ => true) true Try.f3.params.toList args.toList ds p := hA0
  rw [Try.params3] at hA hval hsz
  obtain ⟨v0, vs0, d0, ds0, p0, q0, hargs, rfl, rfl, h0, r0⟩ := trodAll_cons hA
  obtain ⟨v1, vs1, d1, ds1, p1, q1, rfl, rfl, rfl, h1, r1⟩ := trodAll_cons r0
  obtain ⟨rfl, rfl, rfl⟩ := trodAll_nil r1
  obtain rfl : args = #[v0, v1] := by cases args; simp_all
  obtain ⟨rfl, rfl⟩ := trodVars_none hV
  have k0 := h0
  have lt0 : ∀ x ∈ p0, x.block < W.heap.size := by obtain ⟨m, hm⟩ := k0; exact DataW.trod_lt m _ _ _ hm
  have k1 := h1
  have lt1 : ∀ x ∈ p1, x.block < W.heap.size := by obtain ⟨m, hm⟩ := k1; exact DataW.trod_lt m _ _ _ hm
  obtain ⟨a0, rfl, rfl, rfl, w0⟩ := open_int Try.underlying3 (hval 0 3 v0 rfl rfl) h0
  obtain ⟨sa1, sl1, sc1, rfl⟩ := okWide_slice Try.underlying22 (hval 1 22 v1 rfl rfl)
  obtain ⟨fu1, hf1⟩ := h1
  obtain ⟨vv1, L1, e1, hh1, qq1, ss1⟩ := openOpW hf1
  simp [Value.cells] at e1
  subst e1
  have ba0 := bounds_i64 w0
  clear hA0 hval0
  refine (walk a0 (.slice sa1 sl1 sc1) L1 W ba0.1 ba0.2 hh1 qq1 ss1).mono fun e W' ⟨he, bel⟩ => ?_
  subst he
  exact ⟨_, rfl, _, _, _, [], _, [], hW', trodAll_mk1 (shut_bool Try.underlying4 _), (trodAll_cons_mk (Below.trod laidOut (by kernel_rfl) (of_decide_eq_true (by kernel_rfl)) k0 bel lt0) (trodAll_cons_mk (Below.trod laidOut (by kernel_rfl) (of_decide_eq_true (by kernel_rfl)) k1 bel lt1) trodAll_mk0)), rfl, bel.frame _, fun h => by cases h⟩

theorem over : Rows.wheelScriptsRow.holds Try.pinned (OpenSpec.ofChange Rows.wheelScriptsSpec) :=
  OpenClaim.holds_of_wide 3 Try.f3 rfl rfl rfl rfl rfl rfl rfl ⟨rfl, rfl, rfl, rfl, rfl⟩ rfl rfl rfl rfl rfl (by kernel_rfl) Try.func3 (by kernel_rfl)
    (of_decide_eq_true (by kernel_rfl)) (by unfold Func.isWrapper; first | (rw [if_pos (by decide +kernel)]; kernel_rfl) | (rw [if_neg (by decide +kernel)]; exact ⟨rfl, rfl⟩))
    (fun os started H enc _ => lifted os started H enc)

/-- The statement. -/
theorem proved : Rows.WheelScriptsSaid := over
#print axioms proved
end Go.Proofs.Ytplaconhpiojbaa.wheelScriptsLaw
