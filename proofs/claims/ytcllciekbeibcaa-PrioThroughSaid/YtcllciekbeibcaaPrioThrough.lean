/-
  'siphonlaw14.PrioThrough' returns true, whatever the input, and each argument reads behind the call as it read before. Conditions: none beyond those that the row itself states.
-/
import Derived.Test.YtcllciekbeibcaaRows
import Derived.Test.YtcllciekbeibcaaPrI
import Derived.WalkKit
import Derived.ProofKit
import Derived.OpenShut
import Derived.ShutString
import Derived.ChangeOld
import Derived.Below
import Derived.Carry
import Derived.SizedLaws
import Derived.Lib.SmallJoins
import Derived.ChangeArms
import Derived.WideShapes
namespace Go.Proofs.Ytcllciekbeibcaa.prioThroughLaw
open Go.ChangeShapes Go.WideShapes Go.ChangeAt Go.RowKit Go.Joins
open Go.ChangeMaps (open_string shut_string)
set_option linter.unusedVariables false

theorem list4 {α : Type} (l : List α) (h : l.length = 4) : ∃ x0 x1 x2 x3 : α, l = [x0, x1, x2, x3] := by
  match l, h with
  | [x0, x1, x2, x3], _ => exact ⟨x0, x1, x2, x3, rfl⟩

theorem thr_more (v : V4) (k : Int) (h : badW v.2.1 k = false) : cmpV v (thrV v k) ≤ 0 := by
  unfold badW at h
  simp only [Bool.or_eq_false_iff, decide_eq_false_iff_not] at h
  unfold cmpV thrV farC fst4 cmpN
  simp only
  repeat' split
  all_goals omega

set_option maxHeartbeats 16000000 in
set_option maxRecDepth 100000 in
theorem walk (a0_0 : Int) (a0_1 : Int) (a0_2 : Int) (a0_3 : Int) (a1 : Int) (w : World) (la0_0 : 0 ≤ a0_0) (ua0_0 : a0_0 ≤ 18446744073709551615) (la0_1 : -9223372036854775808 ≤ a0_1) (ua0_1 : a0_1 ≤ 9223372036854775807) (la0_2 : 0 ≤ a0_2) (ua0_2 : a0_2 ≤ 18446744073709551615) (la0_3 : -9223372036854775808 ≤ a0_3) (ua0_3 : a0_3 ≤ 9223372036854775807) (la1 : -9223372036854775808 ≤ a1) (ua1 : a1 ≤ 9223372036854775807) :
    Calls Try.prog 4 #[.agg #[.int .u64 a0_0, .int .i64 a0_1, .int .u64 a0_2, .int .i64 a0_3], .int .i64 a1] w fun e w' => e = .returned (.bool true) ∧ Below w.heap.size w w' := by
  have B := Lib.hid (Bx.start w #[.int .u64 a0_0, .int .i64 a0_1, .int .u64 a0_2, .int .i64 a0_3] 24)
  have HL := Lib.hid fun U => live14_c U
  have E3 := guard_V
  rcases hb : badW a0_1 a1 with _ | _
  · have T1 := fun U => Lib.hid (pthr_ok a0_0 a0_1 a0_2 a0_3 a1 U hb)
    have T2 := fun U => Lib.hid (rthr_ok a0_0 a0_1 a0_2 a0_3 a1 U hb)
    have HM := thr_more (a0_0, a0_1, a0_2, a0_3) a1 hb
    unfold thrV at HM
    simp only at HM
    generalize farC a0_1 a1 = f at T1 T2 HM
    have HC := fun U => Lib.hid (pcmp_c a0_0 a0_1 a0_2 a0_3 a0_0 f a0_2 a0_3 U)
    generalize cmpV (a0_0, a0_1, a0_2, a0_3) (a0_0, f, a0_2, a0_3) = cc at HC HM
    have d1 : decide (cc ≤ 0) = true := decide_eq_true HM
    have d2 : decide (0 < cc) = false := decide_eq_false (by omega)
    have E1 := fun U => eql_V a0_0 f a0_2 a0_3 a0_0 f a0_2 a0_3 U
    have E2 := fun U => equalIn_V a0_0 f a0_2 a0_3 a0_0 f a0_2 a0_3 U
    simp only [eqV_self] at E1 E2
    clear hb HM
    go_enter Try.func4, Try.ntmps4
    go_wp2_with fail
    ((with_reducible refine (T1 _).out.mono ?_); rintro e w1 ⟨rfl, h1⟩)
    replace B := Lib.hid (B.out.below h1)
    have V1 := Lib.hid (Bx.mk' B.out.bel #[.int .u64 a0_0, .int .i64 f, .int .u64 a0_2, .int .i64 a0_3] 24)
    replace B := Lib.hid (B.out.alloc (.cells #[.int .u64 a0_0, .int .i64 f, .int .u64 a0_2, .int .i64 a0_3] 24))
    go_upto_region 2 with fail
    clear h1 T1
    generalize w1.alloc (.cells #[.int .u64 a0_0, .int .i64 f, .int .u64 a0_2, .int .i64 a0_3] 24) = w2 at B V1 ⊢
    generalize w1.heap.size = v1 at V1 ⊢
    have x0 := B.out.cell 0 rfl
    have x1 := B.out.cell 1 rfl
    have x2 := B.out.cell 2 rfl
    have x3 := B.out.cell 3 rfl
    go_wp2_with fail
    ((with_reducible refine (T2 _).out.mono ?_); rintro e w3 ⟨rfl, h3⟩)
    replace B := Lib.hid (B.out.below h3)
    replace V1 := Lib.hid (V1.out.below h3)
    have V2 := Lib.hid (Bx.mk' B.out.bel #[.int .u64 a0_0, .int .i64 f, .int .u64 a0_2, .int .i64 a0_3] 24)
    replace B := Lib.hid (B.out.alloc (.cells #[.int .u64 a0_0, .int .i64 f, .int .u64 a0_2, .int .i64 a0_3] 24))
    replace V1 := Lib.hid (V1.out.alloc (.cells #[.int .u64 a0_0, .int .i64 f, .int .u64 a0_2, .int .i64 a0_3] 24))
    go_upto_region 3 with fail
    clear h3 T2 x0 x1 x2 x3
    generalize w3.alloc (.cells #[.int .u64 a0_0, .int .i64 f, .int .u64 a0_2, .int .i64 a0_3] 24) = w4 at B V1 V2 ⊢
    generalize w3.heap.size = v2 at V2 ⊢
    have x0 := B.out.cell 0 rfl
    have y0 := V1.out.cell 0 rfl
    have z0 := V2.out.cell 0 rfl
    have x1 := B.out.cell 1 rfl
    have y1 := V1.out.cell 1 rfl
    have z1 := V2.out.cell 1 rfl
    have x2 := B.out.cell 2 rfl
    have y2 := V1.out.cell 2 rfl
    have z2 := V2.out.cell 2 rfl
    have x3 := B.out.cell 3 rfl
    have y3 := V1.out.cell 3 rfl
    have z3 := V2.out.cell 3 rfl
    go_wp2_with fail
    ((with_reducible refine (HC _).out.mono ?_); rintro e w5 ⟨rfl, h5⟩)
    have K := Lib.hid (B.out.bel.trans (h5.mono B.out.bel.size))
    clear h5 B V1 V2 x0 x1 x2 x3 y0 y1 y2 y3 z0 z1 z2 z3 E1 E2
    go_wp2_with fail
    ((with_reducible refine (HL.out _).mono ?_); rintro e w6 ⟨rfl, h6⟩)
    go_wp2_with fail
    go_ret
    exact ⟨by simp, K.out.trans (h6.mono K.out.size)⟩
  · have T1 := fun U => Lib.hid (pthr_no a0_0 a0_1 a0_2 a0_3 a1 U hb)
    have T2 := fun U => Lib.hid (rthr_no a0_0 a0_1 a0_2 a0_3 a1 U hb)
    have E1 := fun U => eql_V 0 0 0 0 0 0 0 0 U
    have E2 := fun U => equalIn_V 0 0 0 0 0 0 0 0 U
    simp only [eqV_self] at E1 E2
    clear hb
    go_enter Try.func4, Try.ntmps4
    go_wp2_with fail
    ((with_reducible refine (T1 _).out.mono ?_); rintro e w1 ⟨rfl, h1⟩)
    replace B := Lib.hid (B.out.below h1)
    have V1 := Lib.hid (Bx.mk' B.out.bel #[.int .u64 0, .int .i64 0, .int .u64 0, .int .i64 0] 24)
    replace B := Lib.hid (B.out.alloc (.cells #[.int .u64 0, .int .i64 0, .int .u64 0, .int .i64 0] 24))
    go_upto_region 2 with fail
    clear h1 T1
    generalize w1.alloc (.cells #[.int .u64 0, .int .i64 0, .int .u64 0, .int .i64 0] 24) = w2 at B V1 ⊢
    generalize w1.heap.size = v1 at V1 ⊢
    have x0 := B.out.cell 0 rfl
    have x1 := B.out.cell 1 rfl
    have x2 := B.out.cell 2 rfl
    have x3 := B.out.cell 3 rfl
    go_wp2_with fail
    ((with_reducible refine (T2 _).out.mono ?_); rintro e w3 ⟨rfl, h3⟩)
    replace B := Lib.hid (B.out.below h3)
    replace V1 := Lib.hid (V1.out.below h3)
    have V2 := Lib.hid (Bx.mk' B.out.bel #[.int .u64 0, .int .i64 0, .int .u64 0, .int .i64 0] 24)
    replace B := Lib.hid (B.out.alloc (.cells #[.int .u64 0, .int .i64 0, .int .u64 0, .int .i64 0] 24))
    replace V1 := Lib.hid (V1.out.alloc (.cells #[.int .u64 0, .int .i64 0, .int .u64 0, .int .i64 0] 24))
    go_upto_region 3 with fail
    clear h3 T2 x0 x1 x2 x3
    generalize w3.alloc (.cells #[.int .u64 0, .int .i64 0, .int .u64 0, .int .i64 0] 24) = w4 at B V1 V2 ⊢
    generalize w3.heap.size = v2 at V2 ⊢
    have y0 := V1.out.cell 0 rfl
    have z0 := V2.out.cell 0 rfl
    have y1 := V1.out.cell 1 rfl
    have z1 := V2.out.cell 1 rfl
    have y2 := V1.out.cell 2 rfl
    have z2 := V2.out.cell 2 rfl
    have y3 := V1.out.cell 3 rfl
    have z3 := V2.out.cell 3 rfl
    go_wp2_with fail
    ((with_reducible refine (HL.out _).mono ?_); rintro e w6 ⟨rfl, h6⟩)
    go_wp2_with fail
    go_ret
    exact ⟨by simp, B.out.bel.trans (h6.mono B.out.bel.size)⟩

theorem own : ownKnob Try.prog.godebug = none := by kernel_rfl
theorem laidOut : laidOutB Try.prog = true := by kernel_rfl

set_option maxHeartbeats 1000000 in
set_option maxRecDepth 100000 in
theorem lifted (os : Os) (started : os.Started) (H : Type) (enc : TypeId × Value → H) :
    ReturnsInHanded {} Try.checked os 4 .any (Rows.prioThroughSpec.pre6 enc Try.prog Try.f4 Rows.prioThroughRow.domain false) (Rows.prioThroughSpec.post enc Try.prog Try.f4 false true false false) := by
  refine returnsInHanded_of_change_sized (C := Try.checked) own started (by kernel_rfl) Try.func4
    (ChangeSpec.witness6 (enc := enc) (C := Try.checked) false ⟨#[], #[.agg #[.int .u64 0, .int .i64 0, .int .u64 0, .int .i64 0], .int .i64 0], []⟩ 8 (by kernel_rfl) (by kernel_rfl) (by kernel_rfl) (by kernel_rfl)) ?_
  intro W base args ds gs before hval0 hW hcnd hsz0 hholds
  have hval : ∀ (j : Nat) t v, Try.f4.params[j]? = some t → args[j]? = some v → Value.okWide Try.prog W .any base t v := hval0
  have hsz : (DataW.weightsEach Try.prog (Try.f4.params.toList ++ Rows.prioThroughSpec.plain.varTypes Try.prog) (ds ++ gs)).all (· ≤ reachBytes) = true := hsz0
  have hW' := hW
  obtain ⟨p, q, hA0, hV, rfl, hfz, hnd⟩ := hW
  have hA : DataW.TrodAll enc Try.prog W 0 (fun _ => true) true Try.f4.params.toList args.toList ds p := hA0
  rw [Try.params4] at hA hval hsz
  obtain ⟨v0, vs0, d0, ds0, p0, q0, hargs, rfl, rfl, h0, r0⟩ := trodAll_cons hA
  obtain ⟨v1, vs1, d1, ds1, p1, q1, rfl, rfl, rfl, h1, r1⟩ := trodAll_cons r0
  obtain ⟨rfl, rfl, rfl⟩ := trodAll_nil r1
  obtain rfl : args = #[v0, v1] := by cases args; simp_all
  obtain ⟨rfl, rfl⟩ := trodVars_none hV
  have k0 := h0
  have lt0 : ∀ x ∈ p0, x.block < W.heap.size := by obtain ⟨m, hm⟩ := k0; exact DataW.trod_lt m _ _ _ hm
  have k1 := h1
  have lt1 : ∀ x ∈ p1, x.block < W.heap.size := by obtain ⟨m, hm⟩ := k1; exact DataW.trod_lt m _ _ _ hm
  obtain ⟨cs0, rfl, hz0⟩ := okWide_struct Try.underlying24 (hval 0 24 v0 rfl rfl)
  obtain ⟨l0⟩ := cs0
  obtain ⟨c0_0, c0_1, c0_2, c0_3, rfl⟩ := list4 l0 (hz0.trans (by kernel_rfl))
  obtain ⟨fu0, hf0⟩ := h0
  obtain ⟨xs0, m0, -, hx0, -, hn0, hg0⟩ := DataW.trod_struct Try.underlying24 hf0
  obtain ⟨y0_0, y0_1, y0_2, y0_3, rfl⟩ := list4 xs0 hn0
  simp only [Prod.mk.injEq] at hx0
  obtain ⟨rfl, rfl⟩ := hx0
  have g0_0 : DataW.trod enc Try.prog W 0 (fun _ => true) true m0 22 (List.take (Try.prog.cellsOf 22) (List.drop 0 [c0_0, c0_1, c0_2, c0_3])) = some y0_0 := hg0 0 _ rfl
  rw [show Try.prog.cellsOf 22 = 1 from by kernel_rfl] at g0_0
  replace g0_0 : DataW.trod enc Try.prog W 0 (fun _ => true) true m0 22 [c0_0] = some y0_0 := g0_0
  have g0_1 : DataW.trod enc Try.prog W 0 (fun _ => true) true m0 3 (List.take (Try.prog.cellsOf 3) (List.drop 1 [c0_0, c0_1, c0_2, c0_3])) = some y0_1 := hg0 1 _ rfl
  rw [show Try.prog.cellsOf 3 = 1 from by kernel_rfl] at g0_1
  replace g0_1 : DataW.trod enc Try.prog W 0 (fun _ => true) true m0 3 [c0_1] = some y0_1 := g0_1
  have g0_2 : DataW.trod enc Try.prog W 0 (fun _ => true) true m0 22 (List.take (Try.prog.cellsOf 22) (List.drop 2 [c0_0, c0_1, c0_2, c0_3])) = some y0_2 := hg0 2 _ rfl
  rw [show Try.prog.cellsOf 22 = 1 from by kernel_rfl] at g0_2
  replace g0_2 : DataW.trod enc Try.prog W 0 (fun _ => true) true m0 22 [c0_2] = some y0_2 := g0_2
  have g0_3 : DataW.trod enc Try.prog W 0 (fun _ => true) true m0 3 (List.take (Try.prog.cellsOf 3) (List.drop 3 [c0_0, c0_1, c0_2, c0_3])) = some y0_3 := hg0 3 _ rfl
  rw [show Try.prog.cellsOf 3 = 1 from by kernel_rfl] at g0_3
  replace g0_3 : DataW.trod enc Try.prog W 0 (fun _ => true) true m0 3 [c0_3] = some y0_3 := g0_3
  clear hg0
  obtain ⟨a0_0, e0_0, rfl, w0_0⟩ := DataW.trod_int Try.underlying22 g0_0
  simp at e0_0
  subst e0_0
  obtain ⟨a0_1, e0_1, rfl, w0_1⟩ := DataW.trod_int Try.underlying3 g0_1
  simp at e0_1
  subst e0_1
  obtain ⟨a0_2, e0_2, rfl, w0_2⟩ := DataW.trod_int Try.underlying22 g0_2
  simp at e0_2
  subst e0_2
  obtain ⟨a0_3, e0_3, rfl, w0_3⟩ := DataW.trod_int Try.underlying3 g0_3
  simp at e0_3
  subst e0_3
  obtain ⟨a1, rfl, rfl, rfl, w1⟩ := open_int Try.underlying3 (hval 1 3 v1 rfl rfl) h1
  have ba0_0 := bounds_u64 w0_0
  have ba0_1 := bounds_i64 w0_1
  have ba0_2 := bounds_u64 w0_2
  have ba0_3 := bounds_i64 w0_3
  have ba1 := bounds_i64 w1
  clear hA0 hval0
  refine (walk a0_0 a0_1 a0_2 a0_3 a1 W ba0_0.1 ba0_0.2 ba0_1.1 ba0_1.2 ba0_2.1 ba0_2.2 ba0_3.1 ba0_3.2 ba1.1 ba1.2).mono fun e W' ⟨he, bel⟩ => ?_
  subst he
  exact ⟨_, rfl, _, _, _, [], _, [], hW', trodAll_mk1 (shut_bool Try.underlying4 _), (trodAll_cons_mk (Below.trod laidOut (by kernel_rfl) (of_decide_eq_true (by kernel_rfl)) k0 bel lt0) (trodAll_cons_mk (Below.trod laidOut (by kernel_rfl) (of_decide_eq_true (by kernel_rfl)) k1 bel lt1) trodAll_mk0)), rfl, bel.frame _, fun h => by cases h⟩

theorem over : Rows.prioThroughRow.holds Try.pinned (OpenSpec.ofChange Rows.prioThroughSpec) :=
  OpenClaim.holds_of_wide 4 Try.f4 rfl rfl rfl rfl rfl rfl rfl ⟨rfl, rfl, rfl, rfl, rfl⟩ rfl rfl rfl rfl rfl (by kernel_rfl) Try.func4 (by kernel_rfl)
    (of_decide_eq_true (by kernel_rfl)) (by unfold Func.isWrapper; first | (rw [if_pos (by decide +kernel)]; kernel_rfl) | (rw [if_neg (by decide +kernel)]; exact ⟨rfl, rfl⟩))
    (fun os started H enc _ => lifted os started H enc)

/-- The statement. -/
theorem proved : Rows.PrioThroughSaid := over
#print axioms proved
end Go.Proofs.Ytcllciekbeibcaa.prioThroughLaw
