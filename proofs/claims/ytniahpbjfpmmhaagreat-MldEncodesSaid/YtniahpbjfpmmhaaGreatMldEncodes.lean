/-
  'siphonlaw09.MldEncodes' returns true, whatever the input, and each argument reads behind the call as it read before. Conditions: none beyond those that the row itself states.
-/
import Derived.Test.YtniahpbjfpmmhaaGreatRows
import Derived.Test.YtniahpbjfpmmhaaGreatLive9
import Derived.Test.YtniahpbjfpmmhaaGreatMdM
import Derived.Test.YtniahpbjfpmmhaaGreatMdEc
import Derived.Test.YtniahpbjfpmmhaaGreatTrod
import Derived.WalkKit
import Derived.ProofKit
import Derived.OpenShut
import Derived.ShutString
import Derived.ChangeOld
import Derived.Below
import Derived.Carry
import Derived.SizedLaws
import Derived.Lib.SmallJoins
import Derived.ChangeArms
import Derived.WideShapes
namespace Go.Proofs.YtniahpbjfpmmhaaGreat.mldEncodesLaw
open Go.ChangeShapes Go.WideShapes Go.ChangeAt Go.RowKit Go.Joins
open Go.ChangeMaps (open_string shut_string)
set_option linter.unusedVariables false

theorem list2 {α : Type} (l : List α) (h : l.length = 2) : ∃ x0 x1 : α, l = [x0, x1] := by
  match l, h with
  | [x0, x1], _ => exact ⟨x0, x1, rfl⟩

theorem list9 {α : Type} (l : List α) (h : l.length = 9) : ∃ x0 x1 x2 x3 x4 x5 x6 x7 x8 : α, l = [x0, x1, x2, x3, x4, x5, x6, x7, x8] := by
  match l, h with
  | [x0, x1, x2, x3, x4, x5, x6, x7, x8], _ => exact ⟨x0, x1, x2, x3, x4, x5, x6, x7, x8, rfl⟩

/-- What the law is given: few or not. -/
def FewH (k v : Int) (g : ByteArray) (mx : Int) (q : Bool) (rob ev : Int) (vs vr : Value) (L : List Rec) (b : Bool) : Prop :=
  ∀ U, RecsAt U vr L → Calls Tryz.prog 4 #[.agg #[.int .i64 k, .int .i64 v, .string g, .int .i64 mx, .bool q, .int .i64 rob, .int .i64 ev, vs, vr]] U fun e w' => e = .returned (.bool b) ∧ Below U.heap.size U w'
/-- What Encode answers, and what the document's does. -/
def EncH (src dst : ByteArray) (k v : Int) (g : ByteArray) (mx : Int) (q : Bool) (rob ev : Int) (vs vr : Value) (ss : List ByteArray) (L : List Rec) (S : ByteArray) (c : Int) : Prop :=
  ∀ U, AddrsAt U vs ss → RecsAt U vr L → Calls Tryz.prog 6 #[.string src, .string dst, .agg #[.int .i64 k, .int .i64 v, .string g, .int .i64 mx, .bool q, .int .i64 rob, .int .i64 ev, vs, vr]] U fun e w' => e = .returned (.tuple #[.string S, .int .i64 c]) ∧ Below U.heap.size U w'
def RefH (src dst : ByteArray) (k v : Int) (g : ByteArray) (mx : Int) (q : Bool) (rob ev : Int) (vs vr : Value) (ss : List ByteArray) (L : List Rec) (S : ByteArray) (c : Int) : Prop :=
  ∀ U, AddrsAt U vs ss → RecsAt U vr L → Calls Tryz.prog 7 #[.string src, .string dst, .agg #[.int .i64 k, .int .i64 v, .string g, .int .i64 mx, .bool q, .int .i64 rob, .int .i64 ev, vs, vr]] U fun e w' => e = .returned (.tuple #[.string S, .int .i64 c]) ∧ Below U.heap.size U w'

set_option maxHeartbeats 2000000 in
set_option maxRecDepth 100000 in
theorem walk_live (src dst : ByteArray) (k v : Int) (g : ByteArray) (mx : Int) (q : Bool) (rob ev : Int) (p7 : Option Addr) (n7 c7 : Nat) (p8 : Option Addr) (n8 c8 : Nat) (L : List Rec) (w : World) (b : Bool) (hb : b = false ∨ (100 : Int) < src.size ∨ (100 : Int) < dst.size) (HF : Hid (FewH k v g mx q rob ev (.slice p7 n7 c7) (.slice p8 n8 c8) L b)) (HA : Hid (RecsAt w (.slice p8 n8 c8) L)) :
    Calls Tryz.prog 3 #[.agg #[.string src, .string dst], .agg #[.int .i64 k, .int .i64 v, .string g, .int .i64 mx, .bool q, .int .i64 rob, .int .i64 ev, .slice p7 n7 c7, .slice p8 n8 c8]] w fun e w' => e = .returned (.bool true) ∧ Below w.heap.size w w' := by
  unfold FewH at HF
  have HL := Lib.hid fun U => live9_c U
  have B0 := Lib.hid (B2.start w #[.string src, .string dst] #[.int .i64 k, .int .i64 v, .string g, .int .i64 mx, .bool q, .int .i64 rob, .int .i64 ev, .slice p7 n7 c7, .slice p8 n8 c8])
  have A1 := HA.out.below B0.out.2.2
  cases b
  · clear hb
    go_enter Tryz.func3, Tryz.ntmps3
    go_wp2_with fail
    ((with_reducible refine (HF.out _ A1).mono ?_); rintro e w1 ⟨rfl, h1⟩)
    have B := Lib.hid (B0.out.below h1)
    clear h1
    go_wp2_with fail
    ((with_reducible refine (HL.out _).mono ?_); rintro e w5 ⟨rfl, h5⟩)
    go_wp2_with fail
    go_ret
    exact ⟨rfl, (B.out.below h5).2.2⟩
  · by_cases h1 : (100 : Int) < src.size
    · have d1 : decide ((100 : Int) < src.size) = true := decide_eq_true h1
      clear hb
      go_enter Tryz.func3, Tryz.ntmps3
      go_wp2_with fail
      ((with_reducible refine (HF.out _ A1).mono ?_); rintro e w1 ⟨rfl, h1⟩)
      have B := Lib.hid (B0.out.below h1)
      clear h1
      have x0 := B.out.x 0 rfl
      have x1 := B.out.x 1 rfl
      go_wp2_with fail
      ((with_reducible refine (HL.out _).mono ?_); rintro e w5 ⟨rfl, h5⟩)
      go_wp2_with fail
      go_ret
      exact ⟨rfl, (B.out.below h5).2.2⟩
    · have d1 : decide ((100 : Int) < src.size) = false := decide_eq_false h1
      have h2 : (100 : Int) < dst.size := by
        rcases hb with h | h | h
        · cases h
        · exact absurd h h1
        · exact h
      have d2 : decide ((100 : Int) < dst.size) = true := decide_eq_true h2
      clear hb
      go_enter Tryz.func3, Tryz.ntmps3
      go_wp2_with fail
      ((with_reducible refine (HF.out _ A1).mono ?_); rintro e w1 ⟨rfl, h3⟩)
      have B := Lib.hid (B0.out.below h3)
      clear h3
      have x0 := B.out.x 0 rfl
      have x1 := B.out.x 1 rfl
      go_wp2_with fail
      ((with_reducible refine (HL.out _).mono ?_); rintro e w5 ⟨rfl, h5⟩)
      go_wp2_with fail
      go_ret
      exact ⟨rfl, (B.out.below h5).2.2⟩

set_option maxHeartbeats 2000000 in
set_option maxRecDepth 100000 in
theorem walk_all (src dst : ByteArray) (k v : Int) (g : ByteArray) (mx : Int) (q : Bool) (rob ev : Int) (p7 : Option Addr) (n7 c7 : Nat) (p8 : Option Addr) (n8 c8 : Nat) (ss : List ByteArray) (L : List Rec) (S : ByteArray) (c : Int) (w : World) (h1 : ¬ (100 : Int) < src.size) (h2 : ¬ (100 : Int) < dst.size) (HF : Hid (FewH k v g mx q rob ev (.slice p7 n7 c7) (.slice p8 n8 c8) L true)) (HE : Hid (EncH src dst k v g mx q rob ev (.slice p7 n7 c7) (.slice p8 n8 c8) ss L S c)) (HR : Hid (RefH src dst k v g mx q rob ev (.slice p7 n7 c7) (.slice p8 n8 c8) ss L S c)) (HS : Hid (AddrsAt w (.slice p7 n7 c7) ss)) (HA : Hid (RecsAt w (.slice p8 n8 c8) L)) :
    Calls Tryz.prog 3 #[.agg #[.string src, .string dst], .agg #[.int .i64 k, .int .i64 v, .string g, .int .i64 mx, .bool q, .int .i64 rob, .int .i64 ev, .slice p7 n7 c7, .slice p8 n8 c8]] w fun e w' => e = .returned (.bool true) ∧ Below w.heap.size w w' := by
  unfold FewH at HF
  unfold EncH at HE
  unfold RefH at HR
  have HL := Lib.hid fun U => live9_c U
  have B0 := Lib.hid (B2.start w #[.string src, .string dst] #[.int .i64 k, .int .i64 v, .string g, .int .i64 mx, .bool q, .int .i64 rob, .int .i64 ev, .slice p7 n7 c7, .slice p8 n8 c8])
  have A1 := HA.out.below B0.out.2.2
  have d1 : decide ((100 : Int) < src.size) = false := decide_eq_false h1
  have d2 : decide ((100 : Int) < dst.size) = false := decide_eq_false h2
  go_enter Tryz.func3, Tryz.ntmps3
  go_wp2_with fail
  ((with_reducible refine (HF.out _ A1).mono ?_); rintro e w1 ⟨rfl, h1⟩)
  have B := Lib.hid (B0.out.below h1)
  clear h1 A1
  have A2 := HA.out.below B.out.2.2
  have A3 := HS.out.below B.out.2.2
  have x0 := B.out.x 0 rfl
  have x1 := B.out.x 1 rfl
  have y0 := B.out.y 0 rfl
  have y1 := B.out.y 1 rfl
  have y2 := B.out.y 2 rfl
  have y3 := B.out.y 3 rfl
  have y4 := B.out.y 4 rfl
  have y5 := B.out.y 5 rfl
  have y6 := B.out.y 6 rfl
  have y7 := B.out.y 7 rfl
  have y8 := B.out.y 8 rfl
  go_wp2_with fail
  ((with_reducible refine (HE.out _ A3 A2).mono ?_); rintro e w2 ⟨rfl, h2⟩)
  replace B := Lib.hid (B.out.below h2)
  clear h2 A2 A3 x0 x1 y0 y1 y2 y3 y4 y5 y6 y7 y8
  have A2 := HA.out.below B.out.2.2
  have A3 := HS.out.below B.out.2.2
  have x0 := B.out.x 0 rfl
  have x1 := B.out.x 1 rfl
  have y0 := B.out.y 0 rfl
  have y1 := B.out.y 1 rfl
  have y2 := B.out.y 2 rfl
  have y3 := B.out.y 3 rfl
  have y4 := B.out.y 4 rfl
  have y5 := B.out.y 5 rfl
  have y6 := B.out.y 6 rfl
  have y7 := B.out.y 7 rfl
  have y8 := B.out.y 8 rfl
  go_wp2_with fail
  ((with_reducible refine (HR.out _ A3 A2).mono ?_); rintro e w3 ⟨rfl, h3⟩)
  replace B := Lib.hid (B.out.below h3)
  clear h3 A2 A3 x0 x1 y0 y1 y2 y3 y4 y5 y6 y7 y8
  go_wp2_with fail
  ((with_reducible refine (HL.out _).mono ?_); rintro e w5 ⟨rfl, h5⟩)
  go_wp2_with fail
  go_ret
  exact ⟨rfl, (B.out.below h5).2.2⟩

theorem walk (a0_0 : ByteArray) (a0_1 : ByteArray) (a1_0 : Int) (a1_1 : Int) (a1_2 : ByteArray) (a1_3 : Int) (a1_4 : Bool) (a1_5 : Int) (a1_6 : Int) (a1_7 : Value) (la1_7 : List ByteArray) (a1_8 : Value) (la1_8 : List Rec) (w : World) (za0_0 : a0_0.size ≤ 140737488351232) (za0_1 : a0_1.size ≤ 140737488351232) (la1_0 : -9223372036854775808 ≤ a1_0) (ua1_0 : a1_0 ≤ 9223372036854775807) (la1_1 : -9223372036854775808 ≤ a1_1) (ua1_1 : a1_1 ≤ 9223372036854775807) (za1_2 : a1_2.size ≤ 140737488351232) (la1_3 : -9223372036854775808 ≤ a1_3) (ua1_3 : a1_3 ≤ 9223372036854775807) (la1_5 : -9223372036854775808 ≤ a1_5) (ua1_5 : a1_5 ≤ 9223372036854775807) (la1_6 : -9223372036854775808 ≤ a1_6) (ua1_6 : a1_6 ≤ 9223372036854775807) (ha1_7 : AddrsAt w a1_7 la1_7) (qa1_7 : la1_7.length ≤ maxLen) (ha1_8 : RecsAt w a1_8 la1_8) (qa1_8 : la1_8.length ≤ maxLen) (sa1_8 : ∀ r ∈ la1_8, r.srcs.length ≤ maxLen) :
    Calls Tryz.prog 3 #[.agg #[.string a0_0, .string a0_1], .agg #[.int .i64 a1_0, .int .i64 a1_1, .string a1_2, .int .i64 a1_3, .bool a1_4, .int .i64 a1_5, .int .i64 a1_6, a1_7, a1_8]] w fun e w' => e = .returned (.bool true) ∧ Below w.heap.size w w' := by
  unfold maxLen at qa1_7 qa1_8 sa1_8
  obtain ⟨p7, c7, rfl⟩ := ha1_7.slice
  have HF : FewH a1_0 a1_1 a1_2 a1_3 a1_4 a1_5 a1_6 (.slice p7 la1_7.length c7) a1_8 la1_8 (few9B la1_7.length la1_8) := fun U h => few9_c a1_0 a1_1 a1_2 a1_3 a1_4 a1_5 a1_6 p7 la1_7.length c7 a1_8 la1_8 U qa1_8 h
  obtain ⟨p8, c8, rfl⟩ := ha1_8.slice
  rcases hfb : few9B la1_7.length la1_8 with _ | _
  · rw [hfb] at HF
    exact walk_live _ _ _ _ _ _ _ _ _ p7 _ c7 p8 _ c8 la1_8 w false (.inl rfl) (Lib.hid HF) (Lib.hid ha1_8)
  · rw [hfb] at HF
    obtain ⟨f1, f2⟩ := few9_le hfb
    by_cases h1 : (100 : Int) < a0_0.size
    · exact walk_live _ _ _ _ _ _ _ _ _ p7 _ c7 p8 _ c8 la1_8 w true (.inr (.inl h1)) (Lib.hid HF) (Lib.hid ha1_8)
    · by_cases h2 : (100 : Int) < a0_1.size
      · exact walk_live _ _ _ _ _ _ _ _ _ p7 _ c7 p8 _ c8 la1_8 w true (.inr (.inr h2)) (Lib.hid HF) (Lib.hid ha1_8)
      · exact walk_all a0_0 a0_1 _ _ _ _ _ _ _ p7 _ c7 p8 _ c8 la1_7 la1_8 (encD a0_0 a0_1 ⟨a1_0, a1_1, a1_2, a1_3, a1_4, a1_5, a1_6, la1_7, la1_8⟩).1 (encD a0_0 a0_1 ⟨a1_0, a1_1, a1_2, a1_3, a1_4, a1_5, a1_6, la1_7, la1_8⟩).2 w h1 h2 (Lib.hid HF)
          (Lib.hid (show EncH _ _ _ _ _ _ _ _ _ _ _ _ _ _ _ from fun U h3 h4 => menc_c a0_0 a0_1 ⟨a1_0, a1_1, a1_2, a1_3, a1_4, a1_5, a1_6, la1_7, la1_8⟩ _ _ U (by simp only; omega) (by simp only; omega) sa1_8 h3 h4 (by simp only; omega) (by simp only; omega) (by simp only; omega) (by simp only; omega) (by simp only; omega)))
          (Lib.hid (show RefH _ _ _ _ _ _ _ _ _ _ _ _ _ _ _ from fun U h3 h4 => renc9_c a0_0 a0_1 ⟨a1_0, a1_1, a1_2, a1_3, a1_4, a1_5, a1_6, la1_7, la1_8⟩ _ _ U (by simp only; omega) (by simp only; omega) sa1_8 h3 h4))
          (Lib.hid ha1_7) (Lib.hid ha1_8)

theorem own : ownKnob Tryz.prog.godebug = none := by kernel_rfl
theorem laidOut : laidOutB Tryz.prog = true := by kernel_rfl

set_option maxHeartbeats 1000000 in
set_option maxRecDepth 100000 in
theorem lifted (os : Os) (started : os.Started) (H : Type) (enc : TypeId × Value → H) :
    ReturnsInHanded {} Tryz.checked os 3 .any (Rows.mldEncodesSpec.pre6 enc Tryz.prog Tryz.f3 Rows.mldEncodesRow.domain false) (Rows.mldEncodesSpec.post enc Tryz.prog Tryz.f3 false true false false) := by
  refine returnsInHanded_of_change_sized (C := Tryz.checked) own started (by kernel_rfl) Tryz.func3
    (ChangeSpec.witness6 (enc := enc) (C := Tryz.checked) false ⟨#[], #[.agg #[.string ByteArray.empty, .string ByteArray.empty], .agg #[.int .i64 0, .int .i64 0, .string ByteArray.empty, .int .i64 0, .bool false, .int .i64 0, .int .i64 0, .slice none 0 0, .slice none 0 0]], []⟩ 8 (by kernel_rfl) (by kernel_rfl) (by kernel_rfl) (by kernel_rfl)) ?_
  intro W base args ds gs before hval0 hW hcnd hsz0 hholds
  have hval : ∀ (j : Nat) t v, Tryz.f3.params[j]? = some t → args[j]? = some v → Value.okWide Tryz.prog W .any base t v := hval0
  have hsz : (DataW.weightsEach Tryz.prog (Tryz.f3.params.toList ++ Rows.mldEncodesSpec.plain.varTypes Tryz.prog) (ds ++ gs)).all (· ≤ reachBytes) = true := hsz0
  have hW' := hW
  obtain ⟨p, q, hA0, hV, rfl, hfz, hnd⟩ := hW
  have hA : DataW.TrodAll enc Tryz.prog W 0 (fun _ => true) true Tryz.f3.params.toList args.toList ds p := hA0
  rw [Tryz.params3] at hA hval hsz
  obtain ⟨v0, vs0, d0, ds0, p0, q0, hargs, rfl, rfl, h0, r0⟩ := trodAll_cons hA
  obtain ⟨v1, vs1, d1, ds1, p1, q1, rfl, rfl, rfl, h1, r1⟩ := trodAll_cons r0
  obtain ⟨rfl, rfl, rfl⟩ := trodAll_nil r1
  obtain rfl : args = #[v0, v1] := by cases args; simp_all
  obtain ⟨rfl, rfl⟩ := trodVars_none hV
  have k0 := h0
  have lt0 : ∀ x ∈ p0, x.block < W.heap.size := by obtain ⟨m, hm⟩ := k0; exact DataW.trod_lt m _ _ _ hm
  have k1 := h1
  have lt1 : ∀ x ∈ p1, x.block < W.heap.size := by obtain ⟨m, hm⟩ := k1; exact DataW.trod_lt m _ _ _ hm
  obtain ⟨cs0, rfl, hz0⟩ := okWide_struct Tryz.underlying24 (hval 0 24 v0 rfl rfl)
  obtain ⟨l0⟩ := cs0
  obtain ⟨c0_0, c0_1, rfl⟩ := list2 l0 (hz0.trans (by kernel_rfl))
  obtain ⟨fu0, hf0⟩ := h0
  obtain ⟨xs0, m0, -, hx0, -, hn0, hg0⟩ := DataW.trod_struct Tryz.underlying24 hf0
  obtain ⟨y0_0, y0_1, rfl⟩ := list2 xs0 hn0
  simp only [Prod.mk.injEq] at hx0
  obtain ⟨rfl, rfl⟩ := hx0
  have g0_0 : DataW.trod enc Tryz.prog W 0 (fun _ => true) true m0 22 (List.take (Tryz.prog.cellsOf 22) (List.drop 0 [c0_0, c0_1])) = some y0_0 := hg0 0 _ rfl
  rw [show Tryz.prog.cellsOf 22 = 1 from by kernel_rfl] at g0_0
  replace g0_0 : DataW.trod enc Tryz.prog W 0 (fun _ => true) true m0 22 [c0_0] = some y0_0 := g0_0
  have g0_1 : DataW.trod enc Tryz.prog W 0 (fun _ => true) true m0 22 (List.take (Tryz.prog.cellsOf 22) (List.drop 1 [c0_0, c0_1])) = some y0_1 := hg0 1 _ rfl
  rw [show Tryz.prog.cellsOf 22 = 1 from by kernel_rfl] at g0_1
  replace g0_1 : DataW.trod enc Tryz.prog W 0 (fun _ => true) true m0 22 [c0_1] = some y0_1 := g0_1
  clear hg0
  obtain ⟨a0_0, e0_0, rfl, w0_0⟩ := DataW.trod_string Tryz.underlying22 g0_0
  simp at e0_0
  subst e0_0
  obtain ⟨a0_1, e0_1, rfl, w0_1⟩ := DataW.trod_string Tryz.underlying22 g0_1
  simp at e0_1
  subst e0_1
  obtain ⟨cs1, rfl, hz1⟩ := okWide_struct Tryz.underlying28 (hval 1 28 v1 rfl rfl)
  obtain ⟨l1⟩ := cs1
  obtain ⟨c1_0, c1_1, c1_2, c1_3, c1_4, c1_5, c1_6, c1_7, c1_8, rfl⟩ := list9 l1 (hz1.trans (by kernel_rfl))
  obtain ⟨fu1, hf1⟩ := h1
  obtain ⟨xs1, m1, -, hx1, -, hn1, hg1⟩ := DataW.trod_struct Tryz.underlying28 hf1
  obtain ⟨y1_0, y1_1, y1_2, y1_3, y1_4, y1_5, y1_6, y1_7, y1_8, rfl⟩ := list9 xs1 hn1
  simp only [Prod.mk.injEq] at hx1
  obtain ⟨rfl, rfl⟩ := hx1
  have g1_0 : DataW.trod enc Tryz.prog W 0 (fun _ => true) true m1 3 (List.take (Tryz.prog.cellsOf 3) (List.drop 0 [c1_0, c1_1, c1_2, c1_3, c1_4, c1_5, c1_6, c1_7, c1_8])) = some y1_0 := hg1 0 _ rfl
  rw [show Tryz.prog.cellsOf 3 = 1 from by kernel_rfl] at g1_0
  replace g1_0 : DataW.trod enc Tryz.prog W 0 (fun _ => true) true m1 3 [c1_0] = some y1_0 := g1_0
  have g1_1 : DataW.trod enc Tryz.prog W 0 (fun _ => true) true m1 3 (List.take (Tryz.prog.cellsOf 3) (List.drop 1 [c1_0, c1_1, c1_2, c1_3, c1_4, c1_5, c1_6, c1_7, c1_8])) = some y1_1 := hg1 1 _ rfl
  rw [show Tryz.prog.cellsOf 3 = 1 from by kernel_rfl] at g1_1
  replace g1_1 : DataW.trod enc Tryz.prog W 0 (fun _ => true) true m1 3 [c1_1] = some y1_1 := g1_1
  have g1_2 : DataW.trod enc Tryz.prog W 0 (fun _ => true) true m1 22 (List.take (Tryz.prog.cellsOf 22) (List.drop 2 [c1_0, c1_1, c1_2, c1_3, c1_4, c1_5, c1_6, c1_7, c1_8])) = some y1_2 := hg1 2 _ rfl
  rw [show Tryz.prog.cellsOf 22 = 1 from by kernel_rfl] at g1_2
  replace g1_2 : DataW.trod enc Tryz.prog W 0 (fun _ => true) true m1 22 [c1_2] = some y1_2 := g1_2
  have g1_3 : DataW.trod enc Tryz.prog W 0 (fun _ => true) true m1 3 (List.take (Tryz.prog.cellsOf 3) (List.drop 3 [c1_0, c1_1, c1_2, c1_3, c1_4, c1_5, c1_6, c1_7, c1_8])) = some y1_3 := hg1 3 _ rfl
  rw [show Tryz.prog.cellsOf 3 = 1 from by kernel_rfl] at g1_3
  replace g1_3 : DataW.trod enc Tryz.prog W 0 (fun _ => true) true m1 3 [c1_3] = some y1_3 := g1_3
  have g1_4 : DataW.trod enc Tryz.prog W 0 (fun _ => true) true m1 4 (List.take (Tryz.prog.cellsOf 4) (List.drop 4 [c1_0, c1_1, c1_2, c1_3, c1_4, c1_5, c1_6, c1_7, c1_8])) = some y1_4 := hg1 4 _ rfl
  rw [show Tryz.prog.cellsOf 4 = 1 from by kernel_rfl] at g1_4
  replace g1_4 : DataW.trod enc Tryz.prog W 0 (fun _ => true) true m1 4 [c1_4] = some y1_4 := g1_4
  have g1_5 : DataW.trod enc Tryz.prog W 0 (fun _ => true) true m1 3 (List.take (Tryz.prog.cellsOf 3) (List.drop 5 [c1_0, c1_1, c1_2, c1_3, c1_4, c1_5, c1_6, c1_7, c1_8])) = some y1_5 := hg1 5 _ rfl
  rw [show Tryz.prog.cellsOf 3 = 1 from by kernel_rfl] at g1_5
  replace g1_5 : DataW.trod enc Tryz.prog W 0 (fun _ => true) true m1 3 [c1_5] = some y1_5 := g1_5
  have g1_6 : DataW.trod enc Tryz.prog W 0 (fun _ => true) true m1 3 (List.take (Tryz.prog.cellsOf 3) (List.drop 6 [c1_0, c1_1, c1_2, c1_3, c1_4, c1_5, c1_6, c1_7, c1_8])) = some y1_6 := hg1 6 _ rfl
  rw [show Tryz.prog.cellsOf 3 = 1 from by kernel_rfl] at g1_6
  replace g1_6 : DataW.trod enc Tryz.prog W 0 (fun _ => true) true m1 3 [c1_6] = some y1_6 := g1_6
  have g1_7 : DataW.trod enc Tryz.prog W 0 (fun _ => true) true m1 25 (List.take (Tryz.prog.cellsOf 25) (List.drop 7 [c1_0, c1_1, c1_2, c1_3, c1_4, c1_5, c1_6, c1_7, c1_8])) = some y1_7 := hg1 7 _ rfl
  rw [show Tryz.prog.cellsOf 25 = 1 from by kernel_rfl] at g1_7
  replace g1_7 : DataW.trod enc Tryz.prog W 0 (fun _ => true) true m1 25 [c1_7] = some y1_7 := g1_7
  have g1_8 : DataW.trod enc Tryz.prog W 0 (fun _ => true) true m1 26 (List.take (Tryz.prog.cellsOf 26) (List.drop 8 [c1_0, c1_1, c1_2, c1_3, c1_4, c1_5, c1_6, c1_7, c1_8])) = some y1_8 := hg1 8 _ rfl
  rw [show Tryz.prog.cellsOf 26 = 1 from by kernel_rfl] at g1_8
  replace g1_8 : DataW.trod enc Tryz.prog W 0 (fun _ => true) true m1 26 [c1_8] = some y1_8 := g1_8
  clear hg1
  obtain ⟨a1_0, e1_0, rfl, w1_0⟩ := DataW.trod_int Tryz.underlying3 g1_0
  simp at e1_0
  subst e1_0
  obtain ⟨a1_1, e1_1, rfl, w1_1⟩ := DataW.trod_int Tryz.underlying3 g1_1
  simp at e1_1
  subst e1_1
  obtain ⟨a1_2, e1_2, rfl, w1_2⟩ := DataW.trod_string Tryz.underlying22 g1_2
  simp at e1_2
  subst e1_2
  obtain ⟨a1_3, e1_3, rfl, w1_3⟩ := DataW.trod_int Tryz.underlying3 g1_3
  simp at e1_3
  subst e1_3
  obtain ⟨a1_4, e1_4, rfl⟩ := DataW.trod_bool Tryz.underlying4 g1_4
  simp at e1_4
  subst e1_4
  obtain ⟨a1_5, e1_5, rfl, w1_5⟩ := DataW.trod_int Tryz.underlying3 g1_5
  simp at e1_5
  subst e1_5
  obtain ⟨a1_6, e1_6, rfl, w1_6⟩ := DataW.trod_int Tryz.underlying3 g1_6
  simp at e1_6
  subst e1_6
  obtain ⟨v1_7, L1_7, e1_7, hh1_7, qq1_7⟩ := addrs_open g1_7
  simp at e1_7
  subst e1_7
  obtain ⟨v1_8, L1_8, e1_8, hh1_8, qq1_8, ss1_8⟩ := recs_open g1_8
  simp at e1_8
  subst e1_8
  have za0_0 : a0_0.size ≤ 140737488351232 := by
    have h := List.all_eq_true.1 hsz _ (DataW.weights_mem_each (j := 0) (t := 24) rfl rfl a0_0.data.toList.length (by simp [DataW.weights, DataW.weightsEach, Tryz.underlying24]))
    simpa [reachBytes] using of_decide_eq_true h
  have za0_1 : a0_1.size ≤ 140737488351232 := by
    have h := List.all_eq_true.1 hsz _ (DataW.weights_mem_each (j := 0) (t := 24) rfl rfl a0_1.data.toList.length (by simp [DataW.weights, DataW.weightsEach, Tryz.underlying24]))
    simpa [reachBytes] using of_decide_eq_true h
  have ba1_0 := bounds_i64 w1_0
  have ba1_1 := bounds_i64 w1_1
  have za1_2 : a1_2.size ≤ 140737488351232 := by
    have h := List.all_eq_true.1 hsz _ (DataW.weights_mem_each (j := 1) (t := 28) rfl rfl a1_2.data.toList.length (by simp [DataW.weights, DataW.weightsEach, Tryz.underlying28]))
    simpa [reachBytes] using of_decide_eq_true h
  have ba1_3 := bounds_i64 w1_3
  have ba1_5 := bounds_i64 w1_5
  have ba1_6 := bounds_i64 w1_6
  clear hA0 hval0
  refine (walk a0_0 a0_1 a1_0 a1_1 a1_2 a1_3 a1_4 a1_5 a1_6 c1_7 L1_7 c1_8 L1_8 W za0_0 za0_1 ba1_0.1 ba1_0.2 ba1_1.1 ba1_1.2 za1_2 ba1_3.1 ba1_3.2 ba1_5.1 ba1_5.2 ba1_6.1 ba1_6.2 hh1_7 qq1_7 hh1_8 qq1_8 ss1_8).mono fun e W' ⟨he, bel⟩ => ?_
  subst he
  exact ⟨_, rfl, _, _, _, [], _, [], hW', trodAll_mk1 (shut_bool Tryz.underlying4 _), (trodAll_cons_mk (Below.trod laidOut (by kernel_rfl) (of_decide_eq_true (by kernel_rfl)) k0 bel lt0) (trodAll_cons_mk (Below.trod laidOut (by kernel_rfl) (of_decide_eq_true (by kernel_rfl)) k1 bel lt1) trodAll_mk0)), rfl, bel.frame _, fun h => by cases h⟩

theorem over : Rows.mldEncodesRow.holds Tryz.pinned (OpenSpec.ofChange Rows.mldEncodesSpec) :=
  OpenClaim.holds_of_wide 3 Tryz.f3 rfl rfl rfl rfl rfl rfl rfl ⟨rfl, rfl, rfl, rfl, rfl⟩ rfl rfl rfl rfl rfl (by kernel_rfl) Tryz.func3 (by kernel_rfl)
    (of_decide_eq_true (by kernel_rfl)) (by unfold Func.isWrapper; first | (rw [if_pos (by decide +kernel)]; kernel_rfl) | (rw [if_neg (by decide +kernel)]; exact ⟨rfl, rfl⟩))
    (fun os started H enc _ => lifted os started H enc)

/-- The statement. -/
theorem proved : Rows.MldEncodesSaid := over
#print axioms proved
end Go.Proofs.YtniahpbjfpmmhaaGreat.mldEncodesLaw
