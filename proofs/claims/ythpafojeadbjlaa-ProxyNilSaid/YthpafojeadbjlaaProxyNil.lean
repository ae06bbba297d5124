/-
  'siphonlaw21.ProxyNil' returns true, whatever the input, and each argument reads behind the call as it read before. Conditions: none beyond those that the row itself states.
-/
import Derived.Test.YthpafojeadbjlaaRows
import Derived.Test.YthpafojeadbjlaaPxT
import Derived.Test.YthpafojeadbjlaaTrod
import Derived.WalkKit
import Derived.ProofKit
import Derived.OpenShut
import Derived.ShutString
import Derived.ChangeOld
import Derived.Below
import Derived.Carry
import Derived.SizedLaws
import Derived.Lib.SmallJoins
import Derived.ChangeArms
import Derived.WideShapes
namespace Go.Proofs.Ythpafojeadbjlaa.proxyNilLaw
open Go.ChangeShapes Go.WideShapes Go.ChangeAt Go.RowKit Go.Joins
open Go.ChangeMaps (open_string shut_string)
set_option linter.unusedVariables false

theorem list2 {α : Type} (l : List α) (h : l.length = 2) : ∃ x0 x1 : α, l = [x0, x1] := by
  match l, h with
  | [x0, x1], _ => exact ⟨x0, x1, rfl⟩

set_option maxHeartbeats 8000000 in
set_option maxRecDepth 100000 in
theorem walk (a0 : Int) (a1 : ByteArray) (a2_0 : Bool) (a2_1 : Value) (la2_1 : List ByteArray) (w : World) (la0 : -9223372036854775808 ≤ a0) (ua0 : a0 ≤ 9223372036854775807) (za1 : a1.size ≤ 140737488351232) (ha2_1 : AddrsAt w a2_1 la2_1) (qa2_1 : la2_1.length ≤ maxLen) :
    Calls Try.prog 7 #[.int .i64 a0, .string a1, .agg #[.bool a2_0, a2_1]] w fun e w' => e = .returned (.bool true) ∧ Below w.heap.size w w' := by
  obtain ⟨p2, c2, rfl⟩ := ha2_1.slice
  have HL := Lib.hid fun U => live21_c U
  have NC := Lib.hid (fun U => pnew_no 0 (Or.inl (by decide)) U)
  generalize la2_1.length = n at *
  have TC := Lib.hid (fun U => ptell_nil a0 a1 a2_0 p2 n c2 U)
  have AC := Lib.hid (fun U => pall_nil a0 U)
  have FC := Lib.hid (fun U => pfor_nil a0 U)
  have F0 := Lib.hid (heap_new w (.cells #[.bool a2_0, .slice p2 n c2] 28))
  have K0 := Lib.hid ((Below.refl w.heap.size w).alloc (Nat.le_refl _) (.cells #[.bool a2_0, .slice p2 n c2] 28))
  clear ha2_1 qa2_1 za1 la0 ua0
  go_enter Try.func7, Try.ntmps7
  go_wp2_with fail
  ((with_reducible refine (NC.out _).mono ?_); rintro e w1 ⟨rfl, h9⟩; replace h9 := h9.symm; subst h9)
  have x0 := cell_of_block (j := 0) F0.out rfl
  have x1 := cell_of_block (j := 1) F0.out rfl
  go_wp2_with fail
  ((with_reducible refine (TC.out _).mono ?_); rintro e w2 ⟨rfl, k2⟩)
  have K2 := Lib.hid (px_call K0.out k2)
  clear k2 K0 F0 x0 x1
  go_wp2_with fail
  ((with_reducible refine (AC.out _).mono ?_); rintro e w3 ⟨rfl, h9⟩; replace h9 := h9.symm; subst h9)
  go_wp2_with fail
  ((with_reducible refine (FC.out _).mono ?_); rintro e w3 ⟨rfl, h9⟩; replace h9 := h9.symm; subst h9)
  go_wp2_with fail
  ((with_reducible refine (HL.out _).mono ?_); rintro e w4 ⟨rfl, k4⟩)
  have K4 := Lib.hid (px_call K2.out k4)
  clear k4
  go_wp2_with fail
  go_ret
  exact ⟨rfl, K4.out⟩

theorem own : ownKnob Try.prog.godebug = none := by kernel_rfl
theorem laidOut : laidOutB Try.prog = true := by kernel_rfl

set_option maxHeartbeats 1000000 in
set_option maxRecDepth 100000 in
theorem lifted (os : Os) (started : os.Started) (H : Type) (enc : TypeId × Value → H) :
    ReturnsInHanded {} Try.checked os 7 .any (Rows.proxyNilSpec.pre6 enc Try.prog Try.f7 Rows.proxyNilRow.domain false) (Rows.proxyNilSpec.post enc Try.prog Try.f7 false true false false) := by
  refine returnsInHanded_of_change_sized (C := Try.checked) own started (by kernel_rfl) Try.func7
    (ChangeSpec.witness6 (enc := enc) (C := Try.checked) false ⟨#[], #[.int .i64 0, .string ByteArray.empty, .agg #[.bool false, .slice none 0 0]], []⟩ 8 (by kernel_rfl) (by kernel_rfl) (by kernel_rfl) (by kernel_rfl)) ?_
  intro W base args ds gs before hval0 hW hcnd hsz0 hholds
  have hval : ∀ (j : Nat) t v, Try.f7.params[j]? = some t → args[j]? = some v → Value.okWide Try.prog W .any base t v := hval0
  have hsz : (DataW.weightsEach Try.prog (Try.f7.params.toList ++ Rows.proxyNilSpec.plain.varTypes Try.prog) (ds ++ gs)).all (· ≤ reachBytes) = true := hsz0
  have hW' := hW
  obtain ⟨p, q, hA0, hV, rfl, hfz, hnd⟩ := hW
  have hA : DataW.TrodAll enc Try.prog W 0 (fun _ => true) true Try.f7.params.toList args.toList ds p := hA0
  rw [Try.params7] at hA hval hsz
  obtain ⟨v0, vs0, d0, ds0, p0, q0, hargs, rfl, rfl, h0, r0⟩ := trodAll_cons hA
  obtain ⟨v1, vs1, d1, ds1, p1, q1, rfl, rfl, rfl, h1, r1⟩ := trodAll_cons r0
  obtain ⟨v2, vs2, d2, ds2, p2, q2, rfl, rfl, rfl, h2, r2⟩ := trodAll_cons r1
  obtain ⟨rfl, rfl, rfl⟩ := trodAll_nil r2
  obtain rfl : args = #[v0, v1, v2] := by cases args; simp_all
  obtain ⟨rfl, rfl⟩ := trodVars_none hV
  have k0 := h0
  have lt0 : ∀ x ∈ p0, x.block < W.heap.size := by obtain ⟨m, hm⟩ := k0; exact DataW.trod_lt m _ _ _ hm
  have k1 := h1
  have lt1 : ∀ x ∈ p1, x.block < W.heap.size := by obtain ⟨m, hm⟩ := k1; exact DataW.trod_lt m _ _ _ hm
  have k2 := h2
  have lt2 : ∀ x ∈ p2, x.block < W.heap.size := by obtain ⟨m, hm⟩ := k2; exact DataW.trod_lt m _ _ _ hm
  obtain ⟨a0, rfl, rfl, rfl, w0⟩ := open_int Try.underlying3 (hval 0 3 v0 rfl rfl) h0
  obtain ⟨a1, rfl, rfl, rfl, w1⟩ := open_string Try.underlying35 (hval 1 35 v1 rfl rfl) h1
  obtain ⟨cs2, rfl, hz2⟩ := okWide_struct Try.underlying28 (hval 2 28 v2 rfl rfl)
  obtain ⟨l2⟩ := cs2
  obtain ⟨c2_0, c2_1, rfl⟩ := list2 l2 (hz2.trans (by kernel_rfl))
  obtain ⟨fu2, hf2⟩ := h2
  obtain ⟨xs2, m2, -, hx2, -, hn2, hg2⟩ := DataW.trod_struct Try.underlying28 hf2
  obtain ⟨y2_0, y2_1, rfl⟩ := list2 xs2 hn2
  simp only [Prod.mk.injEq] at hx2
  obtain ⟨rfl, rfl⟩ := hx2
  have g2_0 : DataW.trod enc Try.prog W 0 (fun _ => true) true m2 4 (List.take (Try.prog.cellsOf 4) (List.drop 0 [c2_0, c2_1])) = some y2_0 := hg2 0 _ rfl
  rw [show Try.prog.cellsOf 4 = 1 from by kernel_rfl] at g2_0
  replace g2_0 : DataW.trod enc Try.prog W 0 (fun _ => true) true m2 4 [c2_0] = some y2_0 := g2_0
  have g2_1 : DataW.trod enc Try.prog W 0 (fun _ => true) true m2 26 (List.take (Try.prog.cellsOf 26) (List.drop 1 [c2_0, c2_1])) = some y2_1 := hg2 1 _ rfl
  rw [show Try.prog.cellsOf 26 = 1 from by kernel_rfl] at g2_1
  replace g2_1 : DataW.trod enc Try.prog W 0 (fun _ => true) true m2 26 [c2_1] = some y2_1 := g2_1
  clear hg2
  obtain ⟨a2_0, e2_0, rfl⟩ := DataW.trod_bool Try.underlying4 g2_0
  simp at e2_0
  subst e2_0
  obtain ⟨v2_1, L2_1, e2_1, hh2_1, qq2_1⟩ := addrs_open g2_1
  simp at e2_1
  subst e2_1
  have ba0 := bounds_i64 w0
  have za1 : a1.size ≤ 140737488351232 := by
    have h := sized_string hsz (j := 1) (t := 35) rfl rfl
    simpa [reachBytes] using h
  clear hA0 hval0
  refine (walk a0 a1 a2_0 c2_1 L2_1 W ba0.1 ba0.2 za1 hh2_1 qq2_1).mono fun e W' ⟨he, bel⟩ => ?_
  subst he
  exact ⟨_, rfl, _, _, _, [], _, [], hW', trodAll_mk1 (shut_bool Try.underlying4 _), (trodAll_cons_mk (Below.trod laidOut (by kernel_rfl) (of_decide_eq_true (by kernel_rfl)) k0 bel lt0) (trodAll_cons_mk (Below.trod laidOut (by kernel_rfl) (of_decide_eq_true (by kernel_rfl)) k1 bel lt1) (trodAll_cons_mk (Below.trod laidOut (by kernel_rfl) (of_decide_eq_true (by kernel_rfl)) k2 bel lt2) trodAll_mk0))), rfl, bel.frame _, fun h => by cases h⟩

theorem over : Rows.proxyNilRow.holds Try.pinned (OpenSpec.ofChange Rows.proxyNilSpec) :=
  OpenClaim.holds_of_wide 7 Try.f7 rfl rfl rfl rfl rfl rfl rfl ⟨rfl, rfl, rfl, rfl, rfl⟩ rfl rfl rfl rfl rfl (by kernel_rfl) Try.func7 (by kernel_rfl)
    (of_decide_eq_true (by kernel_rfl)) (by unfold Func.isWrapper; first | (rw [if_pos (by decide +kernel)]; kernel_rfl) | (rw [if_neg (by decide +kernel)]; exact ⟨rfl, rfl⟩))
    (fun os started H enc _ => lifted os started H enc)

/-- The statement. -/
theorem proved : Rows.ProxyNilSaid := over
#print axioms proved
end Go.Proofs.Ythpafojeadbjlaa.proxyNilLaw
