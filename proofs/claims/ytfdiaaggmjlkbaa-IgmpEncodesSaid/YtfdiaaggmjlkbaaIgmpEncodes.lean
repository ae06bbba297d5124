/-
  'siphonlaw08.IgmpEncodes' returns true, whatever the input, and each argument reads behind the call as it read before. Conditions: none beyond those that the row itself states.
-/
import Derived.Test.YtfdiaaggmjlkbaaRows
import Derived.Test.YtfdiaaggmjlkbaaLive8
import Derived.Test.YtfdiaaggmjlkbaaIgZ
import Derived.Test.YtfdiaaggmjlkbaaIgEc
import Derived.Test.YtfdiaaggmjlkbaaIgCp
import Derived.Test.YtfdiaaggmjlkbaaSame
import Derived.Test.YtfdiaaggmjlkbaaTrod
import Derived.WalkKit
import Derived.ProofKit
import Derived.OpenShut
import Derived.ShutString
import Derived.ChangeOld
import Derived.Below
import Derived.Carry
import Derived.SizedLaws
import Derived.Lib.SmallJoins
import Derived.ChangeArms
import Derived.WideShapes
namespace Go.Proofs.Ytfdiaaggmjlkbaa.igmpEncodesLaw
open Go.ChangeShapes Go.WideShapes Go.ChangeAt Go.RowKit Go.Joins
open Go.ChangeMaps (open_string shut_string)
set_option linter.unusedVariables false

theorem list9 {α : Type} (l : List α) (h : l.length = 9) : ∃ x0 x1 x2 x3 x4 x5 x6 x7 x8 : α, l = [x0, x1, x2, x3, x4, x5, x6, x7, x8] := by
  match l, h with
  | [x0, x1, x2, x3, x4, x5, x6, x7, x8], _ => exact ⟨x0, x1, x2, x3, x4, x5, x6, x7, x8, rfl⟩

/-- What the law is given: few or not. -/
def FewH (k v : Int) (g : ByteArray) (mx : Int) (q : Bool) (rob ev : Int) (vs vr : Value) (L : List Rec) (b : Bool) : Prop :=
  ∀ U, RecsAt U vr L → Calls Try.prog 4 #[.agg #[.int .i64 k, .int .i64 v, .string g, .int .i64 mx, .bool q, .int .i64 rob, .int .i64 ev, vs, vr]] U fun e w' => e = .returned (.bool b) ∧ Below U.heap.size U w'

set_option maxHeartbeats 1000000 in
set_option maxRecDepth 100000 in
theorem walk_live (k v : Int) (g : ByteArray) (mx : Int) (q : Bool) (rob ev : Int) (p7 : Option Addr) (n7 c7 : Nat) (p8 : Option Addr) (n8 c8 : Nat) (L : List Rec) (w : World) (HF : Hid (FewH k v g mx q rob ev (.slice p7 n7 c7) (.slice p8 n8 c8) L false)) (HA : Hid (RecsAt w (.slice p8 n8 c8) L)) :
    Calls Try.prog 3 #[.agg #[.int .i64 k, .int .i64 v, .string g, .int .i64 mx, .bool q, .int .i64 rob, .int .i64 ev, .slice p7 n7 c7, .slice p8 n8 c8]] w fun e w' => e = .returned (.bool true) ∧ Below w.heap.size w w' := by
  unfold FewH at HF
  have HL := Lib.hid fun U => live8_c U
  have B0 := Lib.hid (Box.start w #[.int .i64 k, .int .i64 v, .string g, .int .i64 mx, .bool q, .int .i64 rob, .int .i64 ev, .slice p7 n7 c7, .slice p8 n8 c8] 26)
  have A1 := HA.out.below B0.out.2
  go_enter Try.func3, Try.ntmps3
  go_wp2_with fail
  ((with_reducible refine (HF.out _ A1).mono ?_); rintro e w1 ⟨rfl, h1⟩)
  have B := Lib.hid (B0.out.below h1)
  clear h1
  go_wp2_with fail
  ((with_reducible refine (HL.out _).mono ?_); rintro e w5 ⟨rfl, h5⟩)
  go_wp2_with fail
  go_ret
  exact ⟨rfl, (B.out.below h5).2⟩

set_option maxHeartbeats 4000000 in
set_option maxRecDepth 100000 in
theorem walk_all (k v : Int) (g : ByteArray) (mx : Int) (q : Bool) (rob ev : Int) (ss : List ByteArray) (p7 : Option Addr) (c7 : Nat) (p8 : Option Addr) (c8 : Nat) (L : List Rec) (S : ByteArray) (E : Int) (w : World) (hs : ss.length ≤ 100) (hl : L.length ≤ 40) (hls : ∀ r ∈ L, r.srcs.length ≤ 100)
    (HF : Hid (FewH k v g mx q rob ev (.slice p7 ss.length c7) (.slice p8 L.length c8) L true)) (hE : encM ⟨k, v, g, mx, q, rob, ev, ss, L⟩ = (S, E)) (b1 : mx ≤ 9223372036854775807) (b2 : ev ≤ 9223372036854775807) (HS : Hid (AddrsAt w (.slice p7 ss.length c7) ss)) (HA : Hid (RecsAt w (.slice p8 L.length c8) L)) :
    Calls Try.prog 3 #[.agg #[.int .i64 k, .int .i64 v, .string g, .int .i64 mx, .bool q, .int .i64 rob, .int .i64 ev, .slice p7 ss.length c7, .slice p8 L.length c8]] w fun e w' => e = .returned (.bool true) ∧ Below w.heap.size w w' := by
  unfold FewH at HF
  have HL := Lib.hid fun U => live8_c U
  have B0 := Lib.hid (Box.start w #[.int .i64 k, .int .i64 v, .string g, .int .i64 mx, .bool q, .int .i64 rob, .int .i64 ev, .slice p7 ss.length c7, .slice p8 L.length c8] 26)
  have A1 := HA.out.below B0.out.2
  have hls' : ∀ r ∈ L, r.srcs.length ≤ 9223372036854775807 := fun r h => by have := hls r h; omega
  have HM := Lib.hid fun vs1 vr1 vs2 vr2 U h1 h2 h3 h4 => sameM_c ⟨k, v, g, mx, q, rob, ev, ss, L⟩ vs1 vr1 vs2 vr2 U (by simp only; omega) (by simp only; omega) hls' h1 h2 h3 h4
  have H1 := Lib.hid fun vs vr U h1 h2 => copied_c ⟨k, v, g, mx, q, rob, ev, ss, L⟩ vs vr U hs hl hls h1 h2
  have H2 := Lib.hid fun vs vr U h1 h2 => ienc_c ⟨k, v, g, mx, q, rob, ev, ss, L⟩ vs vr U b1 b2 (by simp only; omega) (by simp only; omega) hls' h1 h2
  have H3 := Lib.hid fun vs vr U h1 h2 => renc_c ⟨k, v, g, mx, q, rob, ev, ss, L⟩ vs vr U (by simp only; omega) (by simp only; omega) hls' h1 h2
  rw [hE] at H2 H3
  unfold CopPost at H1
  simp only [Msg.val] at HM H1 H2 H3
  clear hs hl hls hls' hE b1 b2
  go_enter Try.func3, Try.ntmps3
  go_wp2_with fail
  ((with_reducible refine (HF.out _ A1).mono ?_); rintro e w1 ⟨rfl, h1⟩)
  have B := Lib.hid (B0.out.below h1)
  clear h1 A1
  have A2 := HA.out.below B.out.2
  have A3 := HS.out.below B.out.2
  have x0 := B.out.cell 0 rfl
  have x1 := B.out.cell 1 rfl
  have x2 := B.out.cell 2 rfl
  have x3 := B.out.cell 3 rfl
  have x4 := B.out.cell 4 rfl
  have x5 := B.out.cell 5 rfl
  have x6 := B.out.cell 6 rfl
  have x7 := B.out.cell 7 rfl
  have x8 := B.out.cell 8 rfl
  go_wp2_with fail
  ((with_reducible refine (H1.out _ _ _ A3 A2).mono ?_); rintro e w2 ⟨vs2, vr2, rfl, hvs2, hvr2, h2⟩)
  obtain ⟨p3, c3, rfl⟩ := hvs2.slice
  obtain ⟨p4, c4, rfl⟩ := hvr2.slice
  replace B := Lib.hid (B.out.below h2)
  have hz := B.out.lt
  have AL := Lib.hid ((Below.refl w2.heap.size w2).alloc (Nat.le_refl _) (.cells #[.int .i64 k, .int .i64 v, .string g, .int .i64 mx, .bool q, .int .i64 rob, .int .i64 ev, .slice p3 ss.length c3, .slice p4 L.length c4] 26))
  have S2 := Lib.hid (hvs2.below AL.out)
  have R2 := Lib.hid (hvr2.below AL.out)
  clear h2 A2 A3 x0 x1 x2 x3 x4 x5 x6 x7 x8 hvs2 hvr2
  go_wp2_with fail
  ((with_reducible refine (H2.out _ _ _ S2.out R2.out).mono ?_); rintro e w3 ⟨rfl, h3⟩)
  have C := Lib.hid ((Box.start w2 #[.int .i64 k, .int .i64 v, .string g, .int .i64 mx, .bool q, .int .i64 rob, .int .i64 ev, .slice p3 ss.length c3, .slice p4 L.length c4] 26).below h3)
  replace S2 := Lib.hid (S2.out.below h3)
  replace R2 := Lib.hid (R2.out.below h3)
  replace B := Lib.hid (B.out.below C.out.2)
  clear h3 hz
  have A2 := HA.out.below B.out.2
  have A3 := HS.out.below B.out.2
  have x0 := B.out.cell 0 rfl
  have x1 := B.out.cell 1 rfl
  have x2 := B.out.cell 2 rfl
  have x3 := B.out.cell 3 rfl
  have x4 := B.out.cell 4 rfl
  have x5 := B.out.cell 5 rfl
  have x6 := B.out.cell 6 rfl
  have x7 := B.out.cell 7 rfl
  have x8 := B.out.cell 8 rfl
  go_wp2_with fail
  ((with_reducible refine (H3.out _ _ _ A3 A2).mono ?_); rintro e w4 ⟨rfl, h4⟩)
  replace S2 := Lib.hid (S2.out.below h4)
  replace R2 := Lib.hid (R2.out.below h4)
  replace B := Lib.hid (B.out.below h4)
  replace C := Lib.hid (C.out.below h4)
  clear h4 A2 A3 x0 x1 x2 x3 x4 x5 x6 x7 x8
  have A2 := Lib.hid (HA.out.below B.out.2)
  have A3 := Lib.hid (HS.out.below B.out.2)
  have x0 := B.out.cell 0 rfl
  have x1 := B.out.cell 1 rfl
  have x2 := B.out.cell 2 rfl
  have x3 := B.out.cell 3 rfl
  have x4 := B.out.cell 4 rfl
  have x5 := B.out.cell 5 rfl
  have x6 := B.out.cell 6 rfl
  have x7 := B.out.cell 7 rfl
  have x8 := B.out.cell 8 rfl
  have y0 := C.out.cell 0 rfl
  have y1 := C.out.cell 1 rfl
  have y2 := C.out.cell 2 rfl
  have y3 := C.out.cell 3 rfl
  have y4 := C.out.cell 4 rfl
  have y5 := C.out.cell 5 rfl
  have y6 := C.out.cell 6 rfl
  have y7 := C.out.cell 7 rfl
  have y8 := C.out.cell 8 rfl
  go_wp2_with fail
  ((with_reducible refine (HM.out _ _ _ _ _ S2.out R2.out A3.out A2.out).mono ?_); rintro e w5 ⟨rfl, h5⟩)
  replace B := Lib.hid (B.out.below h5)
  clear h5 x0 x1 x2 x3 x4 x5 x6 x7 x8 y0 y1 y2 y3 y4 y5 y6 y7 y8
  go_wp2_with fail
  ((with_reducible refine (HL.out _).mono ?_); rintro e w7 ⟨rfl, h7⟩)
  go_wp2_with fail
  go_ret
  exact ⟨rfl, (B.out.below h7).2⟩

theorem walk (a0_0 : Int) (a0_1 : Int) (a0_2 : ByteArray) (a0_3 : Int) (a0_4 : Bool) (a0_5 : Int) (a0_6 : Int) (a0_7 : Value) (la0_7 : List ByteArray) (a0_8 : Value) (la0_8 : List Rec) (w : World) (la0_0 : -9223372036854775808 ≤ a0_0) (ua0_0 : a0_0 ≤ 9223372036854775807) (la0_1 : -9223372036854775808 ≤ a0_1) (ua0_1 : a0_1 ≤ 9223372036854775807) (za0_2 : a0_2.size ≤ 140737488351232) (la0_3 : -9223372036854775808 ≤ a0_3) (ua0_3 : a0_3 ≤ 9223372036854775807) (la0_5 : -9223372036854775808 ≤ a0_5) (ua0_5 : a0_5 ≤ 9223372036854775807) (la0_6 : -9223372036854775808 ≤ a0_6) (ua0_6 : a0_6 ≤ 9223372036854775807) (ha0_7 : AddrsAt w a0_7 la0_7) (qa0_7 : la0_7.length ≤ maxLen) (ha0_8 : RecsAt w a0_8 la0_8) (qa0_8 : la0_8.length ≤ maxLen) (sa0_8 : ∀ r ∈ la0_8, r.srcs.length ≤ maxLen) :
    Calls Try.prog 3 #[.agg #[.int .i64 a0_0, .int .i64 a0_1, .string a0_2, .int .i64 a0_3, .bool a0_4, .int .i64 a0_5, .int .i64 a0_6, a0_7, a0_8]] w fun e w' => e = .returned (.bool true) ∧ Below w.heap.size w w' := by
  unfold maxLen at qa0_7 qa0_8 sa0_8
  obtain ⟨p7, c7, rfl⟩ := ha0_7.slice
  have HF : FewH a0_0 a0_1 a0_2 a0_3 a0_4 a0_5 a0_6 (.slice p7 la0_7.length c7) a0_8 la0_8 (fewB la0_7.length la0_8) := fun U h => few_c a0_0 a0_1 a0_2 a0_3 a0_4 a0_5 a0_6 p7 la0_7.length c7 a0_8 la0_8 U qa0_8 h
  obtain ⟨p8, c8, rfl⟩ := ha0_8.slice
  rcases hfb : fewB la0_7.length la0_8 with _ | _
  · rw [hfb] at HF
    exact walk_live _ _ _ _ _ _ _ p7 _ c7 p8 _ c8 la0_8 w (Lib.hid HF) (Lib.hid ha0_8)
  · rw [hfb] at HF
    have hf : la0_7.length ≤ 100 ∧ la0_8.length ≤ 40 ∧ ∀ r ∈ la0_8, r.srcs.length ≤ 100 := by
      unfold fewB at hfb
      simp only [Bool.and_eq_true, decide_eq_true_iff, List.all_eq_true] at hfb
      exact ⟨hfb.1.1, hfb.1.2, hfb.2⟩
    exact walk_all _ _ _ _ _ _ _ la0_7 p7 c7 p8 c8 la0_8 _ _ w hf.1 hf.2.1 hf.2.2 (Lib.hid HF) (show encM ⟨a0_0, a0_1, a0_2, a0_3, a0_4, a0_5, a0_6, la0_7, la0_8⟩ = (_, _) from rfl) (by omega) (by omega) (Lib.hid ha0_7) (Lib.hid ha0_8)

theorem own : ownKnob Try.prog.godebug = none := by kernel_rfl
theorem laidOut : laidOutB Try.prog = true := by kernel_rfl

set_option maxHeartbeats 1000000 in
set_option maxRecDepth 100000 in
theorem lifted (os : Os) (started : os.Started) (H : Type) (enc : TypeId × Value → H) :
    ReturnsInHanded {} Try.checked os 3 .any (Rows.igmpEncodesSpec.pre6 enc Try.prog Try.f3 Rows.igmpEncodesRow.domain false) (Rows.igmpEncodesSpec.post enc Try.prog Try.f3 false true false false) := by
  refine returnsInHanded_of_change_sized (C := Try.checked) own started (by kernel_rfl) Try.func3
    (ChangeSpec.witness6 (enc := enc) (C := Try.checked) false ⟨#[], #[.agg #[.int .i64 0, .int .i64 0, .string ByteArray.empty, .int .i64 0, .bool false, .int .i64 0, .int .i64 0, .slice none 0 0, .slice none 0 0]], []⟩ 8 (by kernel_rfl) (by kernel_rfl) (by kernel_rfl) (by kernel_rfl)) ?_
  intro W base args ds gs before hval0 hW hcnd hsz0 hholds
  have hval : ∀ (j : Nat) t v, Try.f3.params[j]? = some t → args[j]? = some v → Value.okWide Try.prog W .any base t v := hval0
  have hsz : (DataW.weightsEach Try.prog (Try.f3.params.toList ++ Rows.igmpEncodesSpec.plain.varTypes Try.prog) (ds ++ gs)).all (· ≤ reachBytes) = true := hsz0
  have hW' := hW
  obtain ⟨p, q, hA0, hV, rfl, hfz, hnd⟩ := hW
  have hA : DataW.TrodAll enc Try.prog W 0 (fun _ => true) true Try.f3.params.toList args.toList ds p := hA0
  rw [Try.params3] at hA hval hsz
  obtain ⟨v0, vs0, d0, ds0, p0, q0, hargs, rfl, rfl, h0, r0⟩ := trodAll_cons hA
  obtain ⟨rfl, rfl, rfl⟩ := trodAll_nil r0
  obtain rfl : args = #[v0] := by cases args; simp_all
  obtain ⟨rfl, rfl⟩ := trodVars_none hV
  have k0 := h0
  have lt0 : ∀ x ∈ p0, x.block < W.heap.size := by obtain ⟨m, hm⟩ := k0; exact DataW.trod_lt m _ _ _ hm
  obtain ⟨cs0, rfl, hz0⟩ := okWide_struct Try.underlying26 (hval 0 26 v0 rfl rfl)
  obtain ⟨l0⟩ := cs0
  obtain ⟨c0_0, c0_1, c0_2, c0_3, c0_4, c0_5, c0_6, c0_7, c0_8, rfl⟩ := list9 l0 (hz0.trans (by kernel_rfl))
  obtain ⟨fu0, hf0⟩ := h0
  obtain ⟨xs0, m0, -, hx0, -, hn0, hg0⟩ := DataW.trod_struct Try.underlying26 hf0
  obtain ⟨y0_0, y0_1, y0_2, y0_3, y0_4, y0_5, y0_6, y0_7, y0_8, rfl⟩ := list9 xs0 hn0
  simp only [Prod.mk.injEq] at hx0
  obtain ⟨rfl, rfl⟩ := hx0
  have g0_0 : DataW.trod enc Try.prog W 0 (fun _ => true) true m0 3 (List.take (Try.prog.cellsOf 3) (List.drop 0 [c0_0, c0_1, c0_2, c0_3, c0_4, c0_5, c0_6, c0_7, c0_8])) = some y0_0 := hg0 0 _ rfl
  rw [show Try.prog.cellsOf 3 = 1 from by kernel_rfl] at g0_0
  replace g0_0 : DataW.trod enc Try.prog W 0 (fun _ => true) true m0 3 [c0_0] = some y0_0 := g0_0
  have g0_1 : DataW.trod enc Try.prog W 0 (fun _ => true) true m0 3 (List.take (Try.prog.cellsOf 3) (List.drop 1 [c0_0, c0_1, c0_2, c0_3, c0_4, c0_5, c0_6, c0_7, c0_8])) = some y0_1 := hg0 1 _ rfl
  rw [show Try.prog.cellsOf 3 = 1 from by kernel_rfl] at g0_1
  replace g0_1 : DataW.trod enc Try.prog W 0 (fun _ => true) true m0 3 [c0_1] = some y0_1 := g0_1
  have g0_2 : DataW.trod enc Try.prog W 0 (fun _ => true) true m0 22 (List.take (Try.prog.cellsOf 22) (List.drop 2 [c0_0, c0_1, c0_2, c0_3, c0_4, c0_5, c0_6, c0_7, c0_8])) = some y0_2 := hg0 2 _ rfl
  rw [show Try.prog.cellsOf 22 = 1 from by kernel_rfl] at g0_2
  replace g0_2 : DataW.trod enc Try.prog W 0 (fun _ => true) true m0 22 [c0_2] = some y0_2 := g0_2
  have g0_3 : DataW.trod enc Try.prog W 0 (fun _ => true) true m0 3 (List.take (Try.prog.cellsOf 3) (List.drop 3 [c0_0, c0_1, c0_2, c0_3, c0_4, c0_5, c0_6, c0_7, c0_8])) = some y0_3 := hg0 3 _ rfl
  rw [show Try.prog.cellsOf 3 = 1 from by kernel_rfl] at g0_3
  replace g0_3 : DataW.trod enc Try.prog W 0 (fun _ => true) true m0 3 [c0_3] = some y0_3 := g0_3
  have g0_4 : DataW.trod enc Try.prog W 0 (fun _ => true) true m0 4 (List.take (Try.prog.cellsOf 4) (List.drop 4 [c0_0, c0_1, c0_2, c0_3, c0_4, c0_5, c0_6, c0_7, c0_8])) = some y0_4 := hg0 4 _ rfl
  rw [show Try.prog.cellsOf 4 = 1 from by kernel_rfl] at g0_4
  replace g0_4 : DataW.trod enc Try.prog W 0 (fun _ => true) true m0 4 [c0_4] = some y0_4 := g0_4
  have g0_5 : DataW.trod enc Try.prog W 0 (fun _ => true) true m0 3 (List.take (Try.prog.cellsOf 3) (List.drop 5 [c0_0, c0_1, c0_2, c0_3, c0_4, c0_5, c0_6, c0_7, c0_8])) = some y0_5 := hg0 5 _ rfl
  rw [show Try.prog.cellsOf 3 = 1 from by kernel_rfl] at g0_5
  replace g0_5 : DataW.trod enc Try.prog W 0 (fun _ => true) true m0 3 [c0_5] = some y0_5 := g0_5
  have g0_6 : DataW.trod enc Try.prog W 0 (fun _ => true) true m0 3 (List.take (Try.prog.cellsOf 3) (List.drop 6 [c0_0, c0_1, c0_2, c0_3, c0_4, c0_5, c0_6, c0_7, c0_8])) = some y0_6 := hg0 6 _ rfl
  rw [show Try.prog.cellsOf 3 = 1 from by kernel_rfl] at g0_6
  replace g0_6 : DataW.trod enc Try.prog W 0 (fun _ => true) true m0 3 [c0_6] = some y0_6 := g0_6
  have g0_7 : DataW.trod enc Try.prog W 0 (fun _ => true) true m0 23 (List.take (Try.prog.cellsOf 23) (List.drop 7 [c0_0, c0_1, c0_2, c0_3, c0_4, c0_5, c0_6, c0_7, c0_8])) = some y0_7 := hg0 7 _ rfl
  rw [show Try.prog.cellsOf 23 = 1 from by kernel_rfl] at g0_7
  replace g0_7 : DataW.trod enc Try.prog W 0 (fun _ => true) true m0 23 [c0_7] = some y0_7 := g0_7
  have g0_8 : DataW.trod enc Try.prog W 0 (fun _ => true) true m0 24 (List.take (Try.prog.cellsOf 24) (List.drop 8 [c0_0, c0_1, c0_2, c0_3, c0_4, c0_5, c0_6, c0_7, c0_8])) = some y0_8 := hg0 8 _ rfl
  rw [show Try.prog.cellsOf 24 = 1 from by kernel_rfl] at g0_8
  replace g0_8 : DataW.trod enc Try.prog W 0 (fun _ => true) true m0 24 [c0_8] = some y0_8 := g0_8
  clear hg0
  obtain ⟨a0_0, e0_0, rfl, w0_0⟩ := DataW.trod_int Try.underlying3 g0_0
  simp at e0_0
  subst e0_0
  obtain ⟨a0_1, e0_1, rfl, w0_1⟩ := DataW.trod_int Try.underlying3 g0_1
  simp at e0_1
  subst e0_1
  obtain ⟨a0_2, e0_2, rfl, w0_2⟩ := DataW.trod_string Try.underlying22 g0_2
  simp at e0_2
  subst e0_2
  obtain ⟨a0_3, e0_3, rfl, w0_3⟩ := DataW.trod_int Try.underlying3 g0_3
  simp at e0_3
  subst e0_3
  obtain ⟨a0_4, e0_4, rfl⟩ := DataW.trod_bool Try.underlying4 g0_4
  simp at e0_4
  subst e0_4
  obtain ⟨a0_5, e0_5, rfl, w0_5⟩ := DataW.trod_int Try.underlying3 g0_5
  simp at e0_5
  subst e0_5
  obtain ⟨a0_6, e0_6, rfl, w0_6⟩ := DataW.trod_int Try.underlying3 g0_6
  simp at e0_6
  subst e0_6
  obtain ⟨v0_7, L0_7, e0_7, hh0_7, qq0_7⟩ := addrs_open g0_7
  simp at e0_7
  subst e0_7
  obtain ⟨v0_8, L0_8, e0_8, hh0_8, qq0_8, ss0_8⟩ := recs_open g0_8
  simp at e0_8
  subst e0_8
  have ba0_0 := bounds_i64 w0_0
  have ba0_1 := bounds_i64 w0_1
  have za0_2 : a0_2.size ≤ 140737488351232 := by
    have h := List.all_eq_true.1 hsz _ (DataW.weights_mem_each (j := 0) (t := 26) rfl rfl a0_2.data.toList.length (by simp [DataW.weights, DataW.weightsEach, Try.underlying26]))
    simpa [reachBytes] using of_decide_eq_true h
  have ba0_3 := bounds_i64 w0_3
  have ba0_5 := bounds_i64 w0_5
  have ba0_6 := bounds_i64 w0_6
  clear hA0 hval0
  refine (walk a0_0 a0_1 a0_2 a0_3 a0_4 a0_5 a0_6 c0_7 L0_7 c0_8 L0_8 W ba0_0.1 ba0_0.2 ba0_1.1 ba0_1.2 za0_2 ba0_3.1 ba0_3.2 ba0_5.1 ba0_5.2 ba0_6.1 ba0_6.2 hh0_7 qq0_7 hh0_8 qq0_8 ss0_8).mono fun e W' ⟨he, bel⟩ => ?_
  subst he
  exact ⟨_, rfl, _, _, _, [], _, [], hW', trodAll_mk1 (shut_bool Try.underlying4 _), (trodAll_cons_mk (Below.trod laidOut (by kernel_rfl) (of_decide_eq_true (by kernel_rfl)) k0 bel lt0) trodAll_mk0), rfl, bel.frame _, fun h => by cases h⟩

theorem over : Rows.igmpEncodesRow.holds Try.pinned (OpenSpec.ofChange Rows.igmpEncodesSpec) :=
  OpenClaim.holds_of_wide 3 Try.f3 rfl rfl rfl rfl rfl rfl rfl ⟨rfl, rfl, rfl, rfl, rfl⟩ rfl rfl rfl rfl rfl (by kernel_rfl) Try.func3 (by kernel_rfl)
    (of_decide_eq_true (by kernel_rfl)) (by unfold Func.isWrapper; first | (rw [if_pos (by decide +kernel)]; kernel_rfl) | (rw [if_neg (by decide +kernel)]; exact ⟨rfl, rfl⟩))
    (fun os started H enc _ => lifted os started H enc)

/-- The statement. -/
theorem proved : Rows.IgmpEncodesSaid := over
#print axioms proved
end Go.Proofs.Ytfdiaaggmjlkbaa.igmpEncodesLaw
