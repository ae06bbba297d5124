/-
  'siphonlaw13.FdbScripts' returns true, whatever the input, and each argument reads behind the call as it read before. Conditions: none beyond those that the row itself states.
-/
import Derived.Test.YtodddahjibccoaaRows
import Derived.Test.YtodddahjibccoaaFdY
import Derived.Test.YtodddahjibccoaaRowOpF
import Derived.WalkKit
import Derived.ProofKit
import Derived.OpenShut
import Derived.ShutString
import Derived.ChangeOld
import Derived.Below
import Derived.Carry
import Derived.SizedLaws
import Derived.Lib.SmallJoins
import Derived.ChangeArms
import Derived.WideShapes
namespace Go.Proofs.Ytodddahjibccoaa.fdbScriptsLaw
open Go.ChangeShapes Go.WideShapes Go.ChangeAt Go.RowKit Go.Joins
open Go.ChangeMaps (open_string shut_string)
set_option linter.unusedVariables false

theorem two_start {w w1 : World} {p mb : Nat} {room age : Int} (s : FSt w w1 p mb room age []) : Two w (w1.alloc (.cells #[.int .i64 room, .int .i64 age, .slice none 0 0] 31)) p mb room age w1.heap.size [] (.slice none 0 0) :=
  ⟨s.below ((Below.refl _ w1).alloc (Nat.le_refl _) _), ⟨heap_new _ _, World.ownsRow_nil _ _ _ _⟩, s.bel.size⟩

set_option maxHeartbeats 16000000 in
set_option maxRecDepth 100000 in
theorem walk (a0 : Int) (a1 : Int) (a2 : Value) (la2 : List OpF) (w : World) (la0 : -9223372036854775808 ≤ a0) (ua0 : a0 ≤ 9223372036854775807) (la1 : -9223372036854775808 ≤ a1) (ua1 : a1 ≤ 9223372036854775807) (ha2 : RowsAt 5 cellsOpF w a2 la2) (qa2 : la2.length ≤ maxLen) (sa2 : ∀ r ∈ la2, GoodOpF r) :
    Calls Try.prog 3 #[.int .i64 a0, .int .i64 a1, a2] w fun e w' => e = .returned (.bool true) ∧ Below w.heap.size w w' := by
  have HL := Lib.hid fun U => live13_c U
  unfold maxLen at qa2
  obtain ⟨p, cap, bb, off, rfl, hp, hc⟩ := ha2
  have HP := Lib.hid hp
  have HC := Lib.hid hc
  clear hp hc
  by_cases hbad : a0 < 1 ∨ 1024 < a0 ∨ a1 < 1 ∨ 1000000 < a1
  · clear HP HC sa2
    by_cases r1 : a0 < 1
    · have k1 : decide (a0 < 1) = true := decide_eq_true r1
      clear r1
      have N0 := Lib.hid fun U => new_no a0 a1 hbad U
      clear hbad
      go_enter Try.func3, Try.ntmps3
      go_wp2_with fail
      ((with_reducible refine (N0.out _).mono ?_); rintro e w1 ⟨rfl, rfl⟩)
      go_wp2_with fail
      ((with_reducible refine (HL.out _).mono ?_); rintro e wz ⟨rfl, hz⟩)
      go_wp2_with fail
      go_ret
      exact ⟨by simp, hz⟩
    · have k1 : decide (a0 < 1) = false := decide_eq_false r1
      by_cases r2 : 1024 < a0
      · have k2 : decide (1024 < a0) = true := decide_eq_true r2
        clear r1 r2
        have N0 := Lib.hid fun U => new_no a0 a1 hbad U
        clear hbad
        go_enter Try.func3, Try.ntmps3
        go_wp2_with fail
        ((with_reducible refine (N0.out _).mono ?_); rintro e w1 ⟨rfl, rfl⟩)
        go_wp2_with fail
        ((with_reducible refine (HL.out _).mono ?_); rintro e wz ⟨rfl, hz⟩)
        go_wp2_with fail
        go_ret
        exact ⟨by simp, hz⟩
      · have k2 : decide (1024 < a0) = false := decide_eq_false r2
        by_cases r3 : a1 < 1
        · have k3 : decide (a1 < 1) = true := decide_eq_true r3
          clear r1 r2 r3
          have N0 := Lib.hid fun U => new_no a0 a1 hbad U
          clear hbad
          go_enter Try.func3, Try.ntmps3
          go_wp2_with fail
          ((with_reducible refine (N0.out _).mono ?_); rintro e w1 ⟨rfl, rfl⟩)
          go_wp2_with fail
          ((with_reducible refine (HL.out _).mono ?_); rintro e wz ⟨rfl, hz⟩)
          go_wp2_with fail
          go_ret
          exact ⟨by simp, hz⟩
        · have k3 : decide (a1 < 1) = false := decide_eq_false r3
          have k4 : decide (1000000 < a1) = true := decide_eq_true (by omega)
          clear r1 r2 r3
          have N0 := Lib.hid fun U => new_no a0 a1 hbad U
          clear hbad
          go_enter Try.func3, Try.ntmps3
          go_wp2_with fail
          ((with_reducible refine (N0.out _).mono ?_); rintro e w1 ⟨rfl, rfl⟩)
          go_wp2_with fail
          ((with_reducible refine (HL.out _).mono ?_); rintro e wz ⟨rfl, hz⟩)
          go_wp2_with fail
          go_ret
          exact ⟨by simp, hz⟩
  · have b0 : 1 ≤ a0 ∧ a0 ≤ 1024 ∧ 1 ≤ a1 ∧ a1 ≤ 1000000 := by omega
    obtain ⟨b1, b2, b3, b4⟩ := b0
    have N1 := Lib.hid (new_s (w0 := w) (W := w) (room := a0) (age := a1) b1 b2 b3 b4 (Below.refl _ _))
    have k1 : decide (a0 < 1) = false := decide_eq_false (by omega)
    have k2 : decide (1024 < a0) = false := decide_eq_false (by omega)
    have k3 : decide (a1 < 1) = false := decide_eq_false (by omega)
    have k4 : decide (1000000 < a1) = false := decide_eq_false (by omega)
    clear hbad b1 b2 b3 b4
    go_enter Try.func3, Try.ntmps3
    go_upto_region 2 with (go_at_call 8; (with_reducible refine N1.out.mono ?_); rintro e w1 ⟨rfl, s1⟩)
    have J := Lib.hid (two_start s1)
    clear s1 N1
    generalize w.heap.size + 1 = tp at J ⊢
    generalize w.heap.size = mb at J ⊢
    go_wp2_with fail
    generalize w1.alloc (.cells #[.int .i64 a0, .int .i64 a1, .slice none 0 0] 31) = w2 at J ⊢
    generalize w1.heap.size = qb at J ⊢
    go_loopw [10, 11] (fun i _ wr => ∃ (k : Nat) (R : List E4) (lv : Value), k ≤ la2.length ∧ k ≤ 60 ∧ i = .int .i64 k ∧ Hid (Two w wr tp mb a0 a1 qb R lv)) (fun i _ _ => 60 - (intOf i).toNat)
    case atStart => exact ⟨0, [], _, Nat.zero_le _, Nat.zero_le _, rfl, J⟩
    case round =>
      clear J
      obtain ⟨k, R, lv, hk, hk6, rfl, hT⟩ := hrel
      by_cases hlt : k < la2.length
      · by_cases h60 : k < 60
        · have hne' : la2 ≠ [] := by rintro rfl; simp at hlt
          obtain rfl := HP.out hne'
          have x0 : wr.cell? ⟨bb, off + k * 5, none⟩ = some _ := gcell_below hT.out.fs.bel (HC.out k _ (List.getElem?_eq_getElem hlt) 0 _ rfl)
          have x1 : wr.cell? ⟨bb, off + k * 5 + 1, none⟩ = some _ := gcell_below hT.out.fs.bel (HC.out k _ (List.getElem?_eq_getElem hlt) 1 _ rfl)
          have x2 : wr.cell? ⟨bb, off + k * 5 + 2, none⟩ = some _ := gcell_below hT.out.fs.bel (HC.out k _ (List.getElem?_eq_getElem hlt) 2 _ rfl)
          have x3 : wr.cell? ⟨bb, off + k * 5 + 3, none⟩ = some _ := gcell_below hT.out.fs.bel (HC.out k _ (List.getElem?_eq_getElem hlt) 3 _ rfl)
          have x4 : wr.cell? ⟨bb, off + k * 5 + 4, none⟩ = some _ := gcell_below hT.out.fs.bel (HC.out k _ (List.getElem?_eq_getElem hlt) 4 _ rfl)
          have hgd := sa2 _ (List.getElem_mem hlt)
          generalize la2[k] = hd at x0 x1 x2 x3 x4 hgd
          obtain ⟨od, ov, om, oq, on⟩ := hd
          simp only at x0 x1 x2 x3 x4
          obtain ⟨-, hgv, hgm, -, hgn⟩ := hgd
          simp only at hgv hgm hgn
          have hwf : WfK ov om := ⟨by simp [Lit.wf, IntKind.min, IntKind.max, IntKind.bits, IntKind.signed]; omega, hgm⟩
          have hlt' : (k : Int) < (la2.length : Int) := by omega
          have hlt6 : (k : Int) < 60 := by omega
          clear hne'
          have ST := Lib.hid (step_c hT.out od ov om oq on hwf)
          clear hwf hgv hgm hgn
          go_upto_region 11 with (go_at_call 10; (with_reducible refine ST.out.mono ?_); rintro e w3 ⟨R3, lv3, rfl, h3⟩)
          clear ST x0 x1 x2 x3 x4 hT
          go_wp2_with fail
          go_roundw
          case rel => exact ⟨k + 1, R3, lv3, by omega, by omega, by go_num, h3⟩
          case measure => simp [intOf] <;> omega
        · have g1 : decide ((k : Int) < 60) = false := decide_eq_false (by omega)
          have g2 : decide ((k : Int) < (la2.length : Int)) = true := decide_eq_true (by omega)
          have C4 := Lib.hid (ent_s hT.out.fs)
          have HLn := Lib.hid (show R.length < 1000000000 by have := hT.out.fs.l; omega)
          go_wp2_with fail
          ((with_reducible refine C4.out.mono ?_); rintro e w7 ⟨ev, rfl, s7, t7⟩)
          have T7 := Lib.hid (hT.out.below t7)
          have AK := Lib.hid (alike_c s7 T7.out.hr HLn.out)
          have c2 := T7.out.hr.c2
          clear s7 t7 C4
          go_wp2_with fail
          ((with_reducible refine AK.out.mono ?_); rintro e w8 ⟨rfl, n, rfl⟩)
          have B7 := Lib.hid (below_drewN T7.out.fs.bel n)
          clear c2 AK T7
          go_wp2_with fail
          ((with_reducible refine (HL.out _).mono ?_); rintro e wz ⟨rfl, hz⟩)
          go_wp2_with fail
          go_ret
          exact ⟨by simp, B7.out.trans (hz.mono B7.out.size)⟩
      · have g2 : decide ((k : Int) < (la2.length : Int)) = false := decide_eq_false (by omega)
        have C4 := Lib.hid (ent_s hT.out.fs)
        have HLn := Lib.hid (show R.length < 1000000000 by have := hT.out.fs.l; omega)
        go_wp2_with fail
        ((with_reducible refine C4.out.mono ?_); rintro e w7 ⟨ev, rfl, s7, t7⟩)
        have T7 := Lib.hid (hT.out.below t7)
        have AK := Lib.hid (alike_c s7 T7.out.hr HLn.out)
        have c2 := T7.out.hr.c2
        clear s7 t7 C4
        go_wp2_with fail
        ((with_reducible refine AK.out.mono ?_); rintro e w8 ⟨rfl, n, rfl⟩)
        have B7 := Lib.hid (below_drewN T7.out.fs.bel n)
        clear c2 AK T7
        go_wp2_with fail
        ((with_reducible refine (HL.out _).mono ?_); rintro e wz ⟨rfl, hz⟩)
        go_wp2_with fail
        go_ret
        exact ⟨by simp, B7.out.trans (hz.mono B7.out.size)⟩

theorem own : ownKnob Try.prog.godebug = none := by kernel_rfl
theorem laidOut : laidOutB Try.prog = true := by kernel_rfl

set_option maxHeartbeats 1000000 in
set_option maxRecDepth 100000 in
theorem lifted (os : Os) (started : os.Started) (H : Type) (enc : TypeId × Value → H) :
    ReturnsInHanded {} Try.checked os 3 .any (Rows.fdbScriptsSpec.pre6 enc Try.prog Try.f3 Rows.fdbScriptsRow.domain false) (Rows.fdbScriptsSpec.post enc Try.prog Try.f3 false true false false) := by
  refine returnsInHanded_of_change_sized (C := Try.checked) own started (by kernel_rfl) Try.func3
    (ChangeSpec.witness6 (enc := enc) (C := Try.checked) false ⟨#[], #[.int .i64 0, .int .i64 0, .slice none 0 0], []⟩ 8 (by kernel_rfl) (by kernel_rfl) (by kernel_rfl) (by kernel_rfl)) ?_
  intro W base args ds gs before hval0 hW hcnd hsz0 hholds
  have hval : ∀ (j : Nat) t v, Try.f3.params[j]? = some t → args[j]? = some v → Value.okWide Try.prog W .any base t v := hval0
  have hsz : (DataW.weightsEach Try.prog (Try.f3.params.toList ++ Rows.fdbScriptsSpec.plain.varTypes Try.prog) (ds ++ gs)).all (· ≤ reachBytes) = true := hsz0
  have hW' := hW
  obtain ⟨p, q, hA0, hV, rfl, hfz, hnd⟩ := hW
  have hA : DataW.TrodAll enc Try.prog W 0 (fun _ => true) true Try.f3.params.toList args.toList ds p := hA0
  rw [Try.params3] at hA hval hsz
  obtain ⟨v0, vs0, d0, ds0, p0, q0, hargs, rfl, rfl, h0, r0⟩ := trodAll_cons hA
  obtain ⟨v1, vs1, d1, ds1, p1, q1, rfl, rfl, rfl, h1, r1⟩ := trodAll_cons r0
  obtain ⟨v2, vs2, d2, ds2, p2, q2, rfl, rfl, rfl, h2, r2⟩ := trodAll_cons r1
  obtain ⟨rfl, rfl, rfl⟩ := trodAll_nil r2
  obtain rfl : args = #[v0, v1, v2] := by cases args; simp_all
  obtain ⟨rfl, rfl⟩ := trodVars_none hV
  have k0 := h0
  have lt0 : ∀ x ∈ p0, x.block < W.heap.size := by obtain ⟨m, hm⟩ := k0; exact DataW.trod_lt m _ _ _ hm
  have k1 := h1
  have lt1 : ∀ x ∈ p1, x.block < W.heap.size := by obtain ⟨m, hm⟩ := k1; exact DataW.trod_lt m _ _ _ hm
  have k2 := h2
  have lt2 : ∀ x ∈ p2, x.block < W.heap.size := by obtain ⟨m, hm⟩ := k2; exact DataW.trod_lt m _ _ _ hm
  obtain ⟨a0, rfl, rfl, rfl, w0⟩ := open_int Try.underlying3 (hval 0 3 v0 rfl rfl) h0
  obtain ⟨a1, rfl, rfl, rfl, w1⟩ := open_int Try.underlying3 (hval 1 3 v1 rfl rfl) h1
  obtain ⟨sa2, sl2, sc2, rfl⟩ := okWide_slice Try.underlying22 (hval 2 22 v2 rfl rfl)
  obtain ⟨fu2, hf2⟩ := h2
  obtain ⟨vv2, L2, e2, hh2, qq2, ss2⟩ := openOpF hf2
  simp [Value.cells] at e2
  subst e2
  have ba0 := bounds_i64 w0
  have ba1 := bounds_i64 w1
  clear hA0 hval0
  refine (walk a0 a1 (.slice sa2 sl2 sc2) L2 W ba0.1 ba0.2 ba1.1 ba1.2 hh2 qq2 ss2).mono fun e W' ⟨he, bel⟩ => ?_
  subst he
  exact ⟨_, rfl, _, _, _, [], _, [], hW', trodAll_mk1 (shut_bool Try.underlying4 _), (trodAll_cons_mk (Below.trod laidOut (by kernel_rfl) (of_decide_eq_true (by kernel_rfl)) k0 bel lt0) (trodAll_cons_mk (Below.trod laidOut (by kernel_rfl) (of_decide_eq_true (by kernel_rfl)) k1 bel lt1) (trodAll_cons_mk (Below.trod laidOut (by kernel_rfl) (of_decide_eq_true (by kernel_rfl)) k2 bel lt2) trodAll_mk0))), rfl, bel.frame _, fun h => by cases h⟩

theorem over : Rows.fdbScriptsRow.holds Try.pinned (OpenSpec.ofChange Rows.fdbScriptsSpec) :=
  OpenClaim.holds_of_wide 3 Try.f3 rfl rfl rfl rfl rfl rfl rfl ⟨rfl, rfl, rfl, rfl, rfl⟩ rfl rfl rfl rfl rfl (by kernel_rfl) Try.func3 (by kernel_rfl)
    (of_decide_eq_true (by kernel_rfl)) (by unfold Func.isWrapper; first | (rw [if_pos (by decide +kernel)]; kernel_rfl) | (rw [if_neg (by decide +kernel)]; exact ⟨rfl, rfl⟩))
    (fun os started H enc _ => lifted os started H enc)

/-- The statement. -/
theorem proved : Rows.FdbScriptsSaid := over
#print axioms proved
end Go.Proofs.Ytodddahjibccoaa.fdbScriptsLaw
