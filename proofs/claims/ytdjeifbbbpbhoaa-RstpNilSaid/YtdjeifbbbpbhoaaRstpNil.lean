/-
  'siphonlaw15.RstpNil' returns true, whatever the input, and each argument reads behind the call as it read before. Conditions: none beyond those that the row itself states.
-/
import Derived.Test.YtdjeifbbbpbhoaaRows
import Derived.Test.YtdjeifbbbpbhoaaRsL
import Derived.WalkKit
import Derived.ProofKit
import Derived.OpenShut
import Derived.ShutString
import Derived.ChangeOld
import Derived.Below
import Derived.Carry
import Derived.SizedLaws
import Derived.Lib.SmallJoins
import Derived.ChangeArms
import Derived.WideShapes
namespace Go.Proofs.Ytdjeifbbbpbhoaa.rstpNilLaw
open Go.ChangeShapes Go.WideShapes Go.ChangeAt Go.RowKit Go.Joins
open Go.ChangeMaps (open_string shut_string)
set_option linter.unusedVariables false

theorem list4 {α : Type} (l : List α) (h : l.length = 4) : ∃ x0 x1 x2 x3 : α, l = [x0, x1, x2, x3] := by
  match l, h with
  | [x0, x1, x2, x3], _ => exact ⟨x0, x1, x2, x3, rfl⟩

theorem list5 {α : Type} (l : List α) (h : l.length = 5) : ∃ x0 x1 x2 x3 x4 : α, l = [x0, x1, x2, x3, x4] := by
  match l, h with
  | [x0, x1, x2, x3, x4], _ => exact ⟨x0, x1, x2, x3, x4, rfl⟩

theorem list12 {α : Type} (l : List α) (h : l.length = 12) : ∃ x0 x1 x2 x3 x4 x5 x6 x7 x8 x9 x10 x11 : α, l = [x0, x1, x2, x3, x4, x5, x6, x7, x8, x9, x10, x11] := by
  match l, h with
  | [x0, x1, x2, x3, x4, x5, x6, x7, x8, x9, x10, x11], _ => exact ⟨x0, x1, x2, x3, x4, x5, x6, x7, x8, x9, x10, x11, rfl⟩

set_option maxHeartbeats 16000000 in
set_option maxRecDepth 100000 in
theorem walk (a0_0 : Int) (a0_1 : Int) (a0_2 : Bool) (a0_3 : Int) (a0_4 : Int) (a0_5 : Int) (a0_6 : Int) (a0_7 : Int) (a0_8 : Bool) (a0_9 : Bool) (a0_10 : Bool) (a0_11 : Int) (w : World) (la0_0 : -9223372036854775808 ≤ a0_0) (ua0_0 : a0_0 ≤ 9223372036854775807) (la0_1 : -9223372036854775808 ≤ a0_1) (ua0_1 : a0_1 ≤ 9223372036854775807) (la0_3 : 0 ≤ a0_3) (ua0_3 : a0_3 ≤ 18446744073709551615) (la0_4 : -9223372036854775808 ≤ a0_4) (ua0_4 : a0_4 ≤ 9223372036854775807) (la0_5 : 0 ≤ a0_5) (ua0_5 : a0_5 ≤ 18446744073709551615) (la0_6 : -9223372036854775808 ≤ a0_6) (ua0_6 : a0_6 ≤ 9223372036854775807) (la0_7 : -9223372036854775808 ≤ a0_7) (ua0_7 : a0_7 ≤ 9223372036854775807) (la0_11 : -9223372036854775808 ≤ a0_11) (ua0_11 : a0_11 ≤ 9223372036854775807) :
    Calls Try.prog 4 #[.agg #[.int .i64 a0_0, .int .i64 a0_1, .bool a0_2, .int .u64 a0_3, .int .i64 a0_4, .int .u64 a0_5, .int .i64 a0_6, .int .i64 a0_7, .bool a0_8, .bool a0_9, .bool a0_10, .int .i64 a0_11]] w fun e w' => e = .returned (.bool true) ∧ Below w.heap.size w w' := by
  have hB := Lib.hid ((Below.refl w.heap.size w).alloc (Nat.le_refl _) (.cells #[.int .i64 a0_0, .int .i64 a0_1, .bool a0_2, .int .u64 a0_3, .int .i64 a0_4, .int .u64 a0_5, .int .i64 a0_6, .int .i64 a0_7, .bool a0_8, .bool a0_9, .bool a0_10, .int .i64 a0_11] 40))
  have hb := Lib.hid (heap_new w (.cells #[.int .i64 a0_0, .int .i64 a0_1, .bool a0_2, .int .u64 a0_3, .int .i64 a0_4, .int .u64 a0_5, .int .i64 a0_6, .int .i64 a0_7, .bool a0_8, .bool a0_9, .bool a0_10, .int .i64 a0_11] 40))
  have N0 := Lib.hid fun U => new_no 1 (.slice none 0 0) [] U (IntsAt.nil U) (by decide) (by decide)
  have C1 := Lib.hid fun U => link_nil a0_1 a0_2 a0_11 U
  have C2 := Lib.hid fun U => hear_nil a0_1 #[.int .u64 a0_3, .int .i64 a0_4, .int .u64 a0_5, .int .i64 a0_6, .int .i64 a0_7, .bool a0_8, .bool a0_9, .bool a0_10] rfl a0_11 U
  have C3 := Lib.hid fun U => tick_nil a0_11 U
  have C4 := Lib.hid fun U => role_nil a0_1 U
  have C5 := Lib.hid fun U => learns_nil a0_1 U
  have C6 := Lib.hid fun U => forwards_nil a0_1 U
  have C7 := Lib.hid fun U => root_nil U
  have C8 := Lib.hid fun U => changed_nil U
  have HL := Lib.hid fun U => live15_c U
  have E1 := fun U => eql_V 0 0 0 0 0 0 0 0 U
  have E2 := fun U => equalIn_V 0 0 0 0 0 0 0 0 U
  rw [show eqV 0 0 0 0 0 0 0 0 = true from by decide] at E1 E2
  have E3 := guard_V
  go_enter Try.func4, Try.ntmps4
  go_upto_region 1 with fail
  have K0 := Lib.hid (Below.refl (w.alloc (.cells #[.int .i64 a0_0, .int .i64 a0_1, .bool a0_2, .int .u64 a0_3, .int .i64 a0_4, .int .u64 a0_5, .int .i64 a0_6, .int .i64 a0_7, .bool a0_8, .bool a0_9, .bool a0_10, .int .i64 a0_11] 40)).heap.size (w.alloc (.cells #[.int .i64 a0_0, .int .i64 a0_1, .bool a0_2, .int .u64 a0_3, .int .i64 a0_4, .int .u64 a0_5, .int .i64 a0_6, .int .i64 a0_7, .bool a0_8, .bool a0_9, .bool a0_10, .int .i64 a0_11] 40)))
  replace hb : Hid ((w.alloc (.cells #[.int .i64 a0_0, .int .i64 a0_1, .bool a0_2, .int .u64 a0_3, .int .i64 a0_4, .int .u64 a0_5, .int .i64 a0_6, .int .i64 a0_7, .bool a0_8, .bool a0_9, .bool a0_10, .int .i64 a0_11] 40)).heap[w.heap.size]? = some (.cells #[.int .i64 a0_0, .int .i64 a0_1, .bool a0_2, .int .u64 a0_3, .int .i64 a0_4, .int .u64 a0_5, .int .i64 a0_6, .int .i64 a0_7, .bool a0_8, .bool a0_9, .bool a0_10, .int .i64 a0_11] 40 (0, 0))) := hb
  generalize w.alloc (.cells #[.int .i64 a0_0, .int .i64 a0_1, .bool a0_2, .int .u64 a0_3, .int .i64 a0_4, .int .u64 a0_5, .int .i64 a0_6, .int .i64 a0_7, .bool a0_8, .bool a0_9, .bool a0_10, .int .i64 a0_11] 40) = W at hB hb K0 ⊢
  go_wp2_with fail
  ((with_reducible refine (N0.out _).mono ?_); rintro e w1 ⟨rfl, h1⟩)
  replace K0 := Lib.hid (K0.out.trans h1)
  clear h1
  have x0 : w1.cell? ⟨w.heap.size, 0, none⟩ = some (.int .i64 a0_0) := cell_of_block (below_block K0.out (lt_of_block hb.out) hb.out) rfl
  have x1 : w1.cell? ⟨w.heap.size, 1, none⟩ = some (.int .i64 a0_1) := cell_of_block (below_block K0.out (lt_of_block hb.out) hb.out) rfl
  have x2 : w1.cell? ⟨w.heap.size, 2, none⟩ = some (.bool a0_2) := cell_of_block (below_block K0.out (lt_of_block hb.out) hb.out) rfl
  have x3 : w1.cell? ⟨w.heap.size, 3, none⟩ = some (.int .u64 a0_3) := cell_of_block (below_block K0.out (lt_of_block hb.out) hb.out) rfl
  have x4 : w1.cell? ⟨w.heap.size, 4, none⟩ = some (.int .i64 a0_4) := cell_of_block (below_block K0.out (lt_of_block hb.out) hb.out) rfl
  have x5 : w1.cell? ⟨w.heap.size, 5, none⟩ = some (.int .u64 a0_5) := cell_of_block (below_block K0.out (lt_of_block hb.out) hb.out) rfl
  have x6 : w1.cell? ⟨w.heap.size, 6, none⟩ = some (.int .i64 a0_6) := cell_of_block (below_block K0.out (lt_of_block hb.out) hb.out) rfl
  have x7 : w1.cell? ⟨w.heap.size, 7, none⟩ = some (.int .i64 a0_7) := cell_of_block (below_block K0.out (lt_of_block hb.out) hb.out) rfl
  have x8 : w1.cell? ⟨w.heap.size, 8, none⟩ = some (.bool a0_8) := cell_of_block (below_block K0.out (lt_of_block hb.out) hb.out) rfl
  have x9 : w1.cell? ⟨w.heap.size, 9, none⟩ = some (.bool a0_9) := cell_of_block (below_block K0.out (lt_of_block hb.out) hb.out) rfl
  have x10 : w1.cell? ⟨w.heap.size, 10, none⟩ = some (.bool a0_10) := cell_of_block (below_block K0.out (lt_of_block hb.out) hb.out) rfl
  have x11 : w1.cell? ⟨w.heap.size, 11, none⟩ = some (.int .i64 a0_11) := cell_of_block (below_block K0.out (lt_of_block hb.out) hb.out) rfl
  go_wp2_with fail
  ((with_reducible refine (C1.out _).mono ?_); rintro e w2 ⟨rfl, rfl⟩)
  go_wp2_with fail
  ((with_reducible refine (C2.out _).mono ?_); rintro e w2 ⟨rfl, h2⟩)
  replace K0 := Lib.hid (K0.out.trans (h2.mono K0.out.size))
  clear h2 x0 x1 x2 x3 x4 x5 x6 x7 x8 x9 x10 x11
  have x0 : w2.cell? ⟨w.heap.size, 0, none⟩ = some (.int .i64 a0_0) := cell_of_block (below_block K0.out (lt_of_block hb.out) hb.out) rfl
  have x1 : w2.cell? ⟨w.heap.size, 1, none⟩ = some (.int .i64 a0_1) := cell_of_block (below_block K0.out (lt_of_block hb.out) hb.out) rfl
  have x2 : w2.cell? ⟨w.heap.size, 2, none⟩ = some (.bool a0_2) := cell_of_block (below_block K0.out (lt_of_block hb.out) hb.out) rfl
  have x3 : w2.cell? ⟨w.heap.size, 3, none⟩ = some (.int .u64 a0_3) := cell_of_block (below_block K0.out (lt_of_block hb.out) hb.out) rfl
  have x4 : w2.cell? ⟨w.heap.size, 4, none⟩ = some (.int .i64 a0_4) := cell_of_block (below_block K0.out (lt_of_block hb.out) hb.out) rfl
  have x5 : w2.cell? ⟨w.heap.size, 5, none⟩ = some (.int .u64 a0_5) := cell_of_block (below_block K0.out (lt_of_block hb.out) hb.out) rfl
  have x6 : w2.cell? ⟨w.heap.size, 6, none⟩ = some (.int .i64 a0_6) := cell_of_block (below_block K0.out (lt_of_block hb.out) hb.out) rfl
  have x7 : w2.cell? ⟨w.heap.size, 7, none⟩ = some (.int .i64 a0_7) := cell_of_block (below_block K0.out (lt_of_block hb.out) hb.out) rfl
  have x8 : w2.cell? ⟨w.heap.size, 8, none⟩ = some (.bool a0_8) := cell_of_block (below_block K0.out (lt_of_block hb.out) hb.out) rfl
  have x9 : w2.cell? ⟨w.heap.size, 9, none⟩ = some (.bool a0_9) := cell_of_block (below_block K0.out (lt_of_block hb.out) hb.out) rfl
  have x10 : w2.cell? ⟨w.heap.size, 10, none⟩ = some (.bool a0_10) := cell_of_block (below_block K0.out (lt_of_block hb.out) hb.out) rfl
  have x11 : w2.cell? ⟨w.heap.size, 11, none⟩ = some (.int .i64 a0_11) := cell_of_block (below_block K0.out (lt_of_block hb.out) hb.out) rfl
  go_wp2_with fail
  ((with_reducible refine (C3.out _).mono ?_); rintro e w3 ⟨rfl, rfl⟩)
  go_wp2_with (first
    | (go_at_call 17; (with_reducible refine (C4.out _).mono ?_); rintro e w4 ⟨rfl, rfl⟩)
    | (go_at_call 18; (with_reducible refine (C5.out _).mono ?_); rintro e w4 ⟨rfl, rfl⟩)
    | (go_at_call 19; (with_reducible refine (C6.out _).mono ?_); rintro e w4 ⟨rfl, rfl⟩)
    | (go_at_call 20; (with_reducible refine (C7.out _).mono ?_); rintro e w5 ⟨rfl, h5⟩; clear x0 x1 x2 x3 x4 x5 x6 x7 x8 x9 x10 x11)
    | (go_at_call 21; (with_reducible refine (C8.out _).mono ?_); rintro e w4 ⟨rfl, rfl⟩)
    | (go_at_call 10; (with_reducible refine (HL.out _).mono ?_); rintro e w6 ⟨rfl, h6⟩))
  go_ret
  have k5 := K0.out.trans (h5.mono K0.out.size)
  have k6 := k5.trans (h6.mono k5.size)
  exact ⟨by simp, hB.out.trans (k6.mono hB.out.size)⟩

theorem own : ownKnob Try.prog.godebug = none := by kernel_rfl
theorem laidOut : laidOutB Try.prog = true := by kernel_rfl

set_option maxHeartbeats 1000000 in
set_option maxRecDepth 100000 in
theorem lifted (os : Os) (started : os.Started) (H : Type) (enc : TypeId × Value → H) :
    ReturnsInHanded {} Try.checked os 4 .any (Rows.rstpNilSpec.pre6 enc Try.prog Try.f4 Rows.rstpNilRow.domain false) (Rows.rstpNilSpec.post enc Try.prog Try.f4 false true false false) := by
  refine returnsInHanded_of_change_sized (C := Try.checked) own started (by kernel_rfl) Try.func4
    (ChangeSpec.witness6 (enc := enc) (C := Try.checked) false ⟨#[], #[.agg #[.int .i64 0, .int .i64 0, .bool false, .int .u64 0, .int .i64 0, .int .u64 0, .int .i64 0, .int .i64 0, .bool false, .bool false, .bool false, .int .i64 0]], []⟩ 8 (by kernel_rfl) (by kernel_rfl) (by kernel_rfl) (by kernel_rfl)) ?_
  intro W base args ds gs before hval0 hW hcnd hsz0 hholds
  have hval : ∀ (j : Nat) t v, Try.f4.params[j]? = some t → args[j]? = some v → Value.okWide Try.prog W .any base t v := hval0
  have hsz : (DataW.weightsEach Try.prog (Try.f4.params.toList ++ Rows.rstpNilSpec.plain.varTypes Try.prog) (ds ++ gs)).all (· ≤ reachBytes) = true := hsz0
  have hW' := hW
  obtain ⟨p, q, hA0, hV, rfl, hfz, hnd⟩ := hW
  have hA : DataW.TrodAll enc Try.prog W 0 (fun _ => true) true Try.f4.params.toList args.toList ds p := hA0
  rw [Try.params4] at hA hval hsz
  obtain ⟨v0, vs0, d0, ds0, p0, q0, hargs, rfl, rfl, h0, r0⟩ := trodAll_cons hA
  obtain ⟨rfl, rfl, rfl⟩ := trodAll_nil r0
  obtain rfl : args = #[v0] := by cases args; simp_all
  obtain ⟨rfl, rfl⟩ := trodVars_none hV
  have k0 := h0
  have lt0 : ∀ x ∈ p0, x.block < W.heap.size := by obtain ⟨m, hm⟩ := k0; exact DataW.trod_lt m _ _ _ hm
  obtain ⟨cs0, rfl, hz0⟩ := okWide_struct Try.underlying40 (hval 0 40 v0 rfl rfl)
  obtain ⟨l0⟩ := cs0
  obtain ⟨c0_0, c0_1, c0_2, c0_3, c0_4, c0_5, c0_6, c0_7, c0_8, c0_9, c0_10, c0_11, rfl⟩ := list12 l0 (hz0.trans (by kernel_rfl))
  obtain ⟨fu0, hf0⟩ := h0
  obtain ⟨xs0, m0, -, hx0, -, hn0, hg0⟩ := DataW.trod_struct Try.underlying40 hf0
  obtain ⟨y0_0, y0_1, y0_2, y0_3, y0_4, rfl⟩ := list5 xs0 hn0
  simp only [Prod.mk.injEq] at hx0
  obtain ⟨rfl, rfl⟩ := hx0
  have g0_0 : DataW.trod enc Try.prog W 0 (fun _ => true) true m0 3 (List.take (Try.prog.cellsOf 3) (List.drop 0 [c0_0, c0_1, c0_2, c0_3, c0_4, c0_5, c0_6, c0_7, c0_8, c0_9, c0_10, c0_11])) = some y0_0 := hg0 0 _ rfl
  rw [show Try.prog.cellsOf 3 = 1 from by kernel_rfl] at g0_0
  replace g0_0 : DataW.trod enc Try.prog W 0 (fun _ => true) true m0 3 [c0_0] = some y0_0 := g0_0
  have g0_1 : DataW.trod enc Try.prog W 0 (fun _ => true) true m0 3 (List.take (Try.prog.cellsOf 3) (List.drop 1 [c0_0, c0_1, c0_2, c0_3, c0_4, c0_5, c0_6, c0_7, c0_8, c0_9, c0_10, c0_11])) = some y0_1 := hg0 1 _ rfl
  rw [show Try.prog.cellsOf 3 = 1 from by kernel_rfl] at g0_1
  replace g0_1 : DataW.trod enc Try.prog W 0 (fun _ => true) true m0 3 [c0_1] = some y0_1 := g0_1
  have g0_2 : DataW.trod enc Try.prog W 0 (fun _ => true) true m0 4 (List.take (Try.prog.cellsOf 4) (List.drop 2 [c0_0, c0_1, c0_2, c0_3, c0_4, c0_5, c0_6, c0_7, c0_8, c0_9, c0_10, c0_11])) = some y0_2 := hg0 2 _ rfl
  rw [show Try.prog.cellsOf 4 = 1 from by kernel_rfl] at g0_2
  replace g0_2 : DataW.trod enc Try.prog W 0 (fun _ => true) true m0 4 [c0_2] = some y0_2 := g0_2
  have g0_3 : DataW.trod enc Try.prog W 0 (fun _ => true) true m0 38 (List.take (Try.prog.cellsOf 38) (List.drop 3 [c0_0, c0_1, c0_2, c0_3, c0_4, c0_5, c0_6, c0_7, c0_8, c0_9, c0_10, c0_11])) = some y0_3 := hg0 3 _ rfl
  rw [show Try.prog.cellsOf 38 = 8 from by kernel_rfl] at g0_3
  replace g0_3 : DataW.trod enc Try.prog W 0 (fun _ => true) true m0 38 [c0_3, c0_4, c0_5, c0_6, c0_7, c0_8, c0_9, c0_10] = some y0_3 := g0_3
  have g0_4 : DataW.trod enc Try.prog W 0 (fun _ => true) true m0 3 (List.take (Try.prog.cellsOf 3) (List.drop 11 [c0_0, c0_1, c0_2, c0_3, c0_4, c0_5, c0_6, c0_7, c0_8, c0_9, c0_10, c0_11])) = some y0_4 := hg0 4 _ rfl
  rw [show Try.prog.cellsOf 3 = 1 from by kernel_rfl] at g0_4
  replace g0_4 : DataW.trod enc Try.prog W 0 (fun _ => true) true m0 3 [c0_11] = some y0_4 := g0_4
  clear hg0
  obtain ⟨a0_0, e0_0, rfl, w0_0⟩ := DataW.trod_int Try.underlying3 g0_0
  simp at e0_0
  subst e0_0
  obtain ⟨a0_1, e0_1, rfl, w0_1⟩ := DataW.trod_int Try.underlying3 g0_1
  simp at e0_1
  subst e0_1
  obtain ⟨a0_2, e0_2, rfl⟩ := DataW.trod_bool Try.underlying4 g0_2
  simp at e0_2
  subst e0_2
  obtain ⟨xs0_3, m0_3, -, hx0_3, -, hn0_3, hg0_3⟩ := DataW.trod_struct Try.underlying38 g0_3
  obtain ⟨y0_3_0, y0_3_1, y0_3_2, y0_3_3, y0_3_4, rfl⟩ := list5 xs0_3 hn0_3
  subst hx0_3
  have g0_3_0 : DataW.trod enc Try.prog W 0 (fun _ => true) true m0_3 36 (List.take (Try.prog.cellsOf 36) (List.drop 0 [c0_3, c0_4, c0_5, c0_6, c0_7, c0_8, c0_9, c0_10])) = some y0_3_0 := hg0_3 0 _ rfl
  rw [show Try.prog.cellsOf 36 = 4 from by kernel_rfl] at g0_3_0
  replace g0_3_0 : DataW.trod enc Try.prog W 0 (fun _ => true) true m0_3 36 [c0_3, c0_4, c0_5, c0_6] = some y0_3_0 := g0_3_0
  have g0_3_1 : DataW.trod enc Try.prog W 0 (fun _ => true) true m0_3 3 (List.take (Try.prog.cellsOf 3) (List.drop 4 [c0_3, c0_4, c0_5, c0_6, c0_7, c0_8, c0_9, c0_10])) = some y0_3_1 := hg0_3 1 _ rfl
  rw [show Try.prog.cellsOf 3 = 1 from by kernel_rfl] at g0_3_1
  replace g0_3_1 : DataW.trod enc Try.prog W 0 (fun _ => true) true m0_3 3 [c0_7] = some y0_3_1 := g0_3_1
  have g0_3_2 : DataW.trod enc Try.prog W 0 (fun _ => true) true m0_3 4 (List.take (Try.prog.cellsOf 4) (List.drop 5 [c0_3, c0_4, c0_5, c0_6, c0_7, c0_8, c0_9, c0_10])) = some y0_3_2 := hg0_3 2 _ rfl
  rw [show Try.prog.cellsOf 4 = 1 from by kernel_rfl] at g0_3_2
  replace g0_3_2 : DataW.trod enc Try.prog W 0 (fun _ => true) true m0_3 4 [c0_8] = some y0_3_2 := g0_3_2
  have g0_3_3 : DataW.trod enc Try.prog W 0 (fun _ => true) true m0_3 4 (List.take (Try.prog.cellsOf 4) (List.drop 6 [c0_3, c0_4, c0_5, c0_6, c0_7, c0_8, c0_9, c0_10])) = some y0_3_3 := hg0_3 3 _ rfl
  rw [show Try.prog.cellsOf 4 = 1 from by kernel_rfl] at g0_3_3
  replace g0_3_3 : DataW.trod enc Try.prog W 0 (fun _ => true) true m0_3 4 [c0_9] = some y0_3_3 := g0_3_3
  have g0_3_4 : DataW.trod enc Try.prog W 0 (fun _ => true) true m0_3 4 (List.take (Try.prog.cellsOf 4) (List.drop 7 [c0_3, c0_4, c0_5, c0_6, c0_7, c0_8, c0_9, c0_10])) = some y0_3_4 := hg0_3 4 _ rfl
  rw [show Try.prog.cellsOf 4 = 1 from by kernel_rfl] at g0_3_4
  replace g0_3_4 : DataW.trod enc Try.prog W 0 (fun _ => true) true m0_3 4 [c0_10] = some y0_3_4 := g0_3_4
  clear hg0_3
  obtain ⟨xs0_3_0, m0_3_0, -, hx0_3_0, -, hn0_3_0, hg0_3_0⟩ := DataW.trod_struct Try.underlying36 g0_3_0
  obtain ⟨y0_3_0_0, y0_3_0_1, y0_3_0_2, y0_3_0_3, rfl⟩ := list4 xs0_3_0 hn0_3_0
  subst hx0_3_0
  have g0_3_0_0 : DataW.trod enc Try.prog W 0 (fun _ => true) true m0_3_0 22 (List.take (Try.prog.cellsOf 22) (List.drop 0 [c0_3, c0_4, c0_5, c0_6])) = some y0_3_0_0 := hg0_3_0 0 _ rfl
  rw [show Try.prog.cellsOf 22 = 1 from by kernel_rfl] at g0_3_0_0
  replace g0_3_0_0 : DataW.trod enc Try.prog W 0 (fun _ => true) true m0_3_0 22 [c0_3] = some y0_3_0_0 := g0_3_0_0
  have g0_3_0_1 : DataW.trod enc Try.prog W 0 (fun _ => true) true m0_3_0 3 (List.take (Try.prog.cellsOf 3) (List.drop 1 [c0_3, c0_4, c0_5, c0_6])) = some y0_3_0_1 := hg0_3_0 1 _ rfl
  rw [show Try.prog.cellsOf 3 = 1 from by kernel_rfl] at g0_3_0_1
  replace g0_3_0_1 : DataW.trod enc Try.prog W 0 (fun _ => true) true m0_3_0 3 [c0_4] = some y0_3_0_1 := g0_3_0_1
  have g0_3_0_2 : DataW.trod enc Try.prog W 0 (fun _ => true) true m0_3_0 22 (List.take (Try.prog.cellsOf 22) (List.drop 2 [c0_3, c0_4, c0_5, c0_6])) = some y0_3_0_2 := hg0_3_0 2 _ rfl
  rw [show Try.prog.cellsOf 22 = 1 from by kernel_rfl] at g0_3_0_2
  replace g0_3_0_2 : DataW.trod enc Try.prog W 0 (fun _ => true) true m0_3_0 22 [c0_5] = some y0_3_0_2 := g0_3_0_2
  have g0_3_0_3 : DataW.trod enc Try.prog W 0 (fun _ => true) true m0_3_0 3 (List.take (Try.prog.cellsOf 3) (List.drop 3 [c0_3, c0_4, c0_5, c0_6])) = some y0_3_0_3 := hg0_3_0 3 _ rfl
  rw [show Try.prog.cellsOf 3 = 1 from by kernel_rfl] at g0_3_0_3
  replace g0_3_0_3 : DataW.trod enc Try.prog W 0 (fun _ => true) true m0_3_0 3 [c0_6] = some y0_3_0_3 := g0_3_0_3
  clear hg0_3_0
  obtain ⟨a0_3, e0_3, rfl, w0_3⟩ := DataW.trod_int Try.underlying22 g0_3_0_0
  simp at e0_3
  subst e0_3
  obtain ⟨a0_4, e0_4, rfl, w0_4⟩ := DataW.trod_int Try.underlying3 g0_3_0_1
  simp at e0_4
  subst e0_4
  obtain ⟨a0_5, e0_5, rfl, w0_5⟩ := DataW.trod_int Try.underlying22 g0_3_0_2
  simp at e0_5
  subst e0_5
  obtain ⟨a0_6, e0_6, rfl, w0_6⟩ := DataW.trod_int Try.underlying3 g0_3_0_3
  simp at e0_6
  subst e0_6
  obtain ⟨a0_7, e0_7, rfl, w0_7⟩ := DataW.trod_int Try.underlying3 g0_3_1
  simp at e0_7
  subst e0_7
  obtain ⟨a0_8, e0_8, rfl⟩ := DataW.trod_bool Try.underlying4 g0_3_2
  simp at e0_8
  subst e0_8
  obtain ⟨a0_9, e0_9, rfl⟩ := DataW.trod_bool Try.underlying4 g0_3_3
  simp at e0_9
  subst e0_9
  obtain ⟨a0_10, e0_10, rfl⟩ := DataW.trod_bool Try.underlying4 g0_3_4
  simp at e0_10
  subst e0_10
  obtain ⟨a0_11, e0_11, rfl, w0_11⟩ := DataW.trod_int Try.underlying3 g0_4
  simp at e0_11
  subst e0_11
  have ba0_0 := bounds_i64 w0_0
  have ba0_1 := bounds_i64 w0_1
  have ba0_3 := bounds_u64 w0_3
  have ba0_4 := bounds_i64 w0_4
  have ba0_5 := bounds_u64 w0_5
  have ba0_6 := bounds_i64 w0_6
  have ba0_7 := bounds_i64 w0_7
  have ba0_11 := bounds_i64 w0_11
  clear hA0 hval0
  refine (walk a0_0 a0_1 a0_2 a0_3 a0_4 a0_5 a0_6 a0_7 a0_8 a0_9 a0_10 a0_11 W ba0_0.1 ba0_0.2 ba0_1.1 ba0_1.2 ba0_3.1 ba0_3.2 ba0_4.1 ba0_4.2 ba0_5.1 ba0_5.2 ba0_6.1 ba0_6.2 ba0_7.1 ba0_7.2 ba0_11.1 ba0_11.2).mono fun e W' ⟨he, bel⟩ => ?_
  subst he
  exact ⟨_, rfl, _, _, _, [], _, [], hW', trodAll_mk1 (shut_bool Try.underlying4 _), (trodAll_cons_mk (Below.trod laidOut (by kernel_rfl) (of_decide_eq_true (by kernel_rfl)) k0 bel lt0) trodAll_mk0), rfl, bel.frame _, fun h => by cases h⟩

theorem over : Rows.rstpNilRow.holds Try.pinned (OpenSpec.ofChange Rows.rstpNilSpec) :=
  OpenClaim.holds_of_wide 4 Try.f4 rfl rfl rfl rfl rfl rfl rfl ⟨rfl, rfl, rfl, rfl, rfl⟩ rfl rfl rfl rfl rfl (by kernel_rfl) Try.func4 (by kernel_rfl)
    (of_decide_eq_true (by kernel_rfl)) (by unfold Func.isWrapper; first | (rw [if_pos (by decide +kernel)]; kernel_rfl) | (rw [if_neg (by decide +kernel)]; exact ⟨rfl, rfl⟩))
    (fun os started H enc _ => lifted os started H enc)

/-- The statement. -/
theorem proved : Rows.RstpNilSaid := over
#print axioms proved
end Go.Proofs.Ytdjeifbbbpbhoaa.rstpNilLaw
