/-
  'siphonlaw09.MldBack' returns true, whatever the input, and each argument reads behind the call as it read before. Conditions: none beyond those that the row itself states.
-/
import Derived.Test.YtnfngmclomjimaaRows
import Derived.Test.YtnfngmclomjimaaLive9
import Derived.Test.YtnfngmclomjimaaMdM
import Derived.Test.YtnfngmclomjimaaSameM
import Derived.Test.YtnfngmclomjimaaTrod
import Derived.WalkKit
import Derived.ProofKit
import Derived.OpenShut
import Derived.ShutString
import Derived.ChangeOld
import Derived.Below
import Derived.Carry
import Derived.SizedLaws
import Derived.Lib.SmallJoins
import Derived.ChangeArms
import Derived.WideShapes
namespace Go.Proofs.Ytnfngmclomjimaa.mldBackLaw
open Go.ChangeShapes Go.WideShapes Go.ChangeAt Go.RowKit Go.Joins
open Go.ChangeMaps (open_string shut_string)
set_option linter.unusedVariables false

theorem list2 {α : Type} (l : List α) (h : l.length = 2) : ∃ x0 x1 : α, l = [x0, x1] := by
  match l, h with
  | [x0, x1], _ => exact ⟨x0, x1, rfl⟩

theorem list9 {α : Type} (l : List α) (h : l.length = 9) : ∃ x0 x1 x2 x3 x4 x5 x6 x7 x8 : α, l = [x0, x1, x2, x3, x4, x5, x6, x7, x8] := by
  match l, h with
  | [x0, x1, x2, x3, x4, x5, x6, x7, x8], _ => exact ⟨x0, x1, x2, x3, x4, x5, x6, x7, x8, rfl⟩

/-- What the law is given: few or not. -/
def FewH (k v : Int) (g : ByteArray) (mx : Int) (q : Bool) (rob ev : Int) (vs vr : Value) (L : List Rec) (b : Bool) : Prop :=
  ∀ U, RecsAt U vr L → Calls Try.prog 6 #[.agg #[.int .i64 k, .int .i64 v, .string g, .int .i64 mx, .bool q, .int .i64 rob, .int .i64 ev, vs, vr]] U fun e w' => e = .returned (.bool b) ∧ Below U.heap.size U w'
/-- What Encode answers. -/
def EncH (src dst : ByteArray) (k v : Int) (g : ByteArray) (mx : Int) (q : Bool) (rob ev : Int) (vs vr : Value) (ss : List ByteArray) (L : List Rec) (S : ByteArray) (c : Int) : Prop :=
  ∀ U, AddrsAt U vs ss → RecsAt U vr L → Calls Try.prog 8 #[.string src, .string dst, .agg #[.int .i64 k, .int .i64 v, .string g, .int .i64 mx, .bool q, .int .i64 rob, .int .i64 ev, vs, vr]] U fun e w' => e = .returned (.tuple #[.string S, .int .i64 c]) ∧ Below U.heap.size U w'

set_option maxHeartbeats 2000000 in
set_option maxRecDepth 100000 in
theorem walk_live (src dst : ByteArray) (k v : Int) (g : ByteArray) (mx : Int) (q : Bool) (rob ev : Int) (p7 : Option Addr) (n7 c7 : Nat) (p8 : Option Addr) (n8 c8 : Nat) (L : List Rec) (w : World) (HF : Hid (FewH k v g mx q rob ev (.slice p7 n7 c7) (.slice p8 n8 c8) L false)) (HA : Hid (RecsAt w (.slice p8 n8 c8) L)) :
    Calls Try.prog 3 #[.agg #[.string src, .string dst], .agg #[.int .i64 k, .int .i64 v, .string g, .int .i64 mx, .bool q, .int .i64 rob, .int .i64 ev, .slice p7 n7 c7, .slice p8 n8 c8]] w fun e w' => e = .returned (.bool true) ∧ Below w.heap.size w w' := by
  unfold FewH at HF
  have HL := Lib.hid fun U => live9_c U
  have B0 := Lib.hid (B2.start w #[.string src, .string dst] #[.int .i64 k, .int .i64 v, .string g, .int .i64 mx, .bool q, .int .i64 rob, .int .i64 ev, .slice p7 n7 c7, .slice p8 n8 c8])
  have A1 := HA.out.below B0.out.2.2
  go_enter Try.func3, Try.ntmps3
  go_wp2_with fail
  ((with_reducible refine (HF.out _ A1).mono ?_); rintro e w1 ⟨rfl, h1⟩)
  have B := Lib.hid (B0.out.below h1)
  clear h1
  go_wp2_with fail
  ((with_reducible refine (HL.out _).mono ?_); rintro e w5 ⟨rfl, h5⟩)
  go_wp2_with fail
  go_ret
  exact ⟨rfl, (B.out.below h5).2.2⟩

set_option maxHeartbeats 2000000 in
set_option maxRecDepth 100000 in
theorem walk_no (src dst : ByteArray) (k v : Int) (g : ByteArray) (mx : Int) (q : Bool) (rob ev : Int) (p7 : Option Addr) (n7 c7 : Nat) (p8 : Option Addr) (n8 c8 : Nat) (ss : List ByteArray) (L : List Rec) (w : World) (HF : Hid (FewH k v g mx q rob ev (.slice p7 n7 c7) (.slice p8 n8 c8) L true)) (HE : Hid (EncH src dst k v g mx q rob ev (.slice p7 n7 c7) (.slice p8 n8 c8) ss L ⟨#[]⟩ 1)) (HS : Hid (AddrsAt w (.slice p7 n7 c7) ss)) (HA : Hid (RecsAt w (.slice p8 n8 c8) L)) :
    Calls Try.prog 3 #[.agg #[.string src, .string dst], .agg #[.int .i64 k, .int .i64 v, .string g, .int .i64 mx, .bool q, .int .i64 rob, .int .i64 ev, .slice p7 n7 c7, .slice p8 n8 c8]] w fun e w' => e = .returned (.bool true) ∧ Below w.heap.size w w' := by
  unfold FewH at HF
  unfold EncH at HE
  have HL := Lib.hid fun U => live9_c U
  have B0 := Lib.hid (B2.start w #[.string src, .string dst] #[.int .i64 k, .int .i64 v, .string g, .int .i64 mx, .bool q, .int .i64 rob, .int .i64 ev, .slice p7 n7 c7, .slice p8 n8 c8])
  have A1 := HA.out.below B0.out.2.2
  go_enter Try.func3, Try.ntmps3
  go_wp2_with fail
  ((with_reducible refine (HF.out _ A1).mono ?_); rintro e w1 ⟨rfl, h1⟩)
  have B := Lib.hid (B0.out.below h1)
  clear h1 A1
  have A2 := HA.out.below B.out.2.2
  have A3 := HS.out.below B.out.2.2
  have x0 := B.out.x 0 rfl
  have x1 := B.out.x 1 rfl
  have y0 := B.out.y 0 rfl
  have y1 := B.out.y 1 rfl
  have y2 := B.out.y 2 rfl
  have y3 := B.out.y 3 rfl
  have y4 := B.out.y 4 rfl
  have y5 := B.out.y 5 rfl
  have y6 := B.out.y 6 rfl
  have y7 := B.out.y 7 rfl
  have y8 := B.out.y 8 rfl
  go_wp2_with fail
  ((with_reducible refine (HE.out _ A3 A2).mono ?_); rintro e w2 ⟨rfl, h2⟩)
  replace B := Lib.hid (B.out.below h2)
  clear h2 A2 A3 x0 x1 y0 y1 y2 y3 y4 y5 y6 y7 y8
  go_wp2_with fail
  ((with_reducible refine (HL.out _).mono ?_); rintro e w5 ⟨rfl, h5⟩)
  go_wp2_with fail
  go_ret
  exact ⟨rfl, (B.out.below h5).2.2⟩

set_option maxHeartbeats 2000000 in
set_option maxRecDepth 100000 in
theorem walk_yes (src dst : ByteArray) (k v : Int) (g : ByteArray) (mx : Int) (q : Bool) (rob ev : Int) (ss : List ByteArray) (p7 : Option Addr) (c7 : Nat) (p8 : Option Addr) (c8 : Nat) (L : List Rec) (S : ByteArray) (w : World) (hs : ss.length ≤ 9223372036854775807) (hl : L.length ≤ 9223372036854775807) (hls : ∀ r ∈ L, r.srcs.length ≤ 9223372036854775807)
    (HF : Hid (FewH k v g mx q rob ev (.slice p7 ss.length c7) (.slice p8 L.length c8) L true)) (HE : Hid (EncH src dst k v g mx q rob ev (.slice p7 ss.length c7) (.slice p8 L.length c8) ss L S 0)) (HS : Hid (AddrsAt w (.slice p7 ss.length c7) ss)) (HA : Hid (RecsAt w (.slice p8 L.length c8) L))
    (H3 : Hid (∀ U, Calls Try.prog 9 #[.string src, .string dst, .string S] U (MsgPost (0, ⟨k, v, g, mx, q, rob, ev, ss, L⟩) U))) :
    Calls Try.prog 3 #[.agg #[.string src, .string dst], .agg #[.int .i64 k, .int .i64 v, .string g, .int .i64 mx, .bool q, .int .i64 rob, .int .i64 ev, .slice p7 ss.length c7, .slice p8 L.length c8]] w fun e w' => e = .returned (.bool true) ∧ Below w.heap.size w w' := by
  unfold FewH at HF
  unfold EncH at HE
  have HL := Lib.hid fun U => live9_c U
  have B0 := Lib.hid (B2.start w #[.string src, .string dst] #[.int .i64 k, .int .i64 v, .string g, .int .i64 mx, .bool q, .int .i64 rob, .int .i64 ev, .slice p7 ss.length c7, .slice p8 L.length c8])
  have A1 := HA.out.below B0.out.2.2
  have HM := Lib.hid fun vs1 vr1 vs2 vr2 U h1 h2 h3 h4 => sameM_c ⟨k, v, g, mx, q, rob, ev, ss, L⟩ vs1 vr1 vs2 vr2 U hs hl hls h1 h2 h3 h4
  simp only [Msg.val] at HM
  unfold MsgPost at H3
  simp only [Msg.val] at H3
  clear hs hl hls
  go_enter Try.func3, Try.ntmps3
  go_wp2_with fail
  ((with_reducible refine (HF.out _ A1).mono ?_); rintro e w1 ⟨rfl, h1⟩)
  have B := Lib.hid (B0.out.below h1)
  clear h1 A1
  have A2 := HA.out.below B.out.2.2
  have A3 := HS.out.below B.out.2.2
  have x0 := B.out.x 0 rfl
  have x1 := B.out.x 1 rfl
  have y0 := B.out.y 0 rfl
  have y1 := B.out.y 1 rfl
  have y2 := B.out.y 2 rfl
  have y3 := B.out.y 3 rfl
  have y4 := B.out.y 4 rfl
  have y5 := B.out.y 5 rfl
  have y6 := B.out.y 6 rfl
  have y7 := B.out.y 7 rfl
  have y8 := B.out.y 8 rfl
  go_wp2_with fail
  ((with_reducible refine (HE.out _ A3 A2).mono ?_); rintro e w2 ⟨rfl, h2⟩)
  replace B := Lib.hid (B.out.below h2)
  clear h2 A2 A3 x0 x1 y0 y1 y2 y3 y4 y5 y6 y7 y8
  have x0 := B.out.x 0 rfl
  have x1 := B.out.x 1 rfl
  go_wp2_with fail
  ((with_reducible refine (H3.out _).mono ?_); rintro e w4 ⟨vs2, vr2, rfl, hvs2, hvr2, h4⟩)
  obtain ⟨p3, c3, rfl⟩ := hvs2.slice
  obtain ⟨p4, c4, rfl⟩ := hvr2.slice
  have S2 := Lib.hid hvs2.at
  have R2 := Lib.hid hvr2.at
  replace B := Lib.hid (B.out.below h4)
  have S1 := Lib.hid (HS.out.below B.out.2.2)
  have R1 := Lib.hid (HA.out.below B.out.2.2)
  clear hvs2 hvr2 h4 x0 x1
  go_upto_region 7 with fail
  have A2 := (Below.refl w4.heap.size w4).alloc (Nat.le_refl _) (.cells #[.int .i64 k, .int .i64 v, .string g, .int .i64 mx, .bool q, .int .i64 rob, .int .i64 ev, .slice p3 ss.length c3, .slice p4 L.length c4] 28)
  have hn := heap_new w4 (.cells #[.int .i64 k, .int .i64 v, .string g, .int .i64 mx, .bool q, .int .i64 rob, .int .i64 ev, .slice p3 ss.length c3, .slice p4 L.length c4] 28)
  replace B := Lib.hid (B.out.below A2)
  replace S1 := Lib.hid (S1.out.below A2)
  replace R1 := Lib.hid (R1.out.below A2)
  replace S2 := Lib.hid (S2.out.below A2)
  replace R2 := Lib.hid (R2.out.below A2)
  clear A2
  generalize w4.alloc (.cells #[.int .i64 k, .int .i64 v, .string g, .int .i64 mx, .bool q, .int .i64 rob, .int .i64 ev, .slice p3 ss.length c3, .slice p4 L.length c4] 28) = W4 at B S1 R1 S2 R2 hn ⊢
  generalize w4.heap.size = P4 at hn ⊢
  have z0 : W4.cell? ⟨P4, 0, none⟩ = some _ := cell_of_block hn rfl
  have z1 : W4.cell? ⟨P4, 1, none⟩ = some _ := cell_of_block hn rfl
  have z2 : W4.cell? ⟨P4, 2, none⟩ = some _ := cell_of_block hn rfl
  have z3 : W4.cell? ⟨P4, 3, none⟩ = some _ := cell_of_block hn rfl
  have z4 : W4.cell? ⟨P4, 4, none⟩ = some _ := cell_of_block hn rfl
  have z5 : W4.cell? ⟨P4, 5, none⟩ = some _ := cell_of_block hn rfl
  have z6 : W4.cell? ⟨P4, 6, none⟩ = some _ := cell_of_block hn rfl
  have z7 : W4.cell? ⟨P4, 7, none⟩ = some _ := cell_of_block hn rfl
  have z8 : W4.cell? ⟨P4, 8, none⟩ = some _ := cell_of_block hn rfl
  have y0 := B.out.y 0 rfl
  have y1 := B.out.y 1 rfl
  have y2 := B.out.y 2 rfl
  have y3 := B.out.y 3 rfl
  have y4 := B.out.y 4 rfl
  have y5 := B.out.y 5 rfl
  have y6 := B.out.y 6 rfl
  have y7 := B.out.y 7 rfl
  have y8 := B.out.y 8 rfl
  have HM1 := Lib.hid fun U (k' : Below W4.heap.size W4 U) => HM.out (.slice p7 ss.length c7) (.slice p8 L.length c8) (.slice p3 ss.length c3) (.slice p4 L.length c4) U (S1.out.below k') (R1.out.below k') (S2.out.below k') (R2.out.below k')
  have kr := Below.refl W4.heap.size W4
  go_wp2_with fail
  ((with_reducible refine (HM1.out _ kr).mono ?_); rintro e w5 ⟨rfl, h5⟩)
  have B5 := Lib.hid (B.out.below h5)
  clear h5 hn y0 y1 y2 y3 y4 y5 y6 y7 y8 z0 z1 z2 z3 z4 z5 z6 z7 z8
  go_wp2_with fail
  ((with_reducible refine (HL.out _).mono ?_); rintro e w7 ⟨rfl, h7⟩)
  go_wp2_with fail
  go_ret
  exact ⟨rfl, (B5.out.below h7).2.2⟩

theorem walk (a0_0 : ByteArray) (a0_1 : ByteArray) (a1_0 : Int) (a1_1 : Int) (a1_2 : ByteArray) (a1_3 : Int) (a1_4 : Bool) (a1_5 : Int) (a1_6 : Int) (a1_7 : Value) (la1_7 : List ByteArray) (a1_8 : Value) (la1_8 : List Rec) (w : World) (za0_0 : a0_0.size ≤ 140737488351232) (za0_1 : a0_1.size ≤ 140737488351232) (la1_0 : -9223372036854775808 ≤ a1_0) (ua1_0 : a1_0 ≤ 9223372036854775807) (la1_1 : -9223372036854775808 ≤ a1_1) (ua1_1 : a1_1 ≤ 9223372036854775807) (za1_2 : a1_2.size ≤ 140737488351232) (la1_3 : -9223372036854775808 ≤ a1_3) (ua1_3 : a1_3 ≤ 9223372036854775807) (la1_5 : -9223372036854775808 ≤ a1_5) (ua1_5 : a1_5 ≤ 9223372036854775807) (la1_6 : -9223372036854775808 ≤ a1_6) (ua1_6 : a1_6 ≤ 9223372036854775807) (ha1_7 : AddrsAt w a1_7 la1_7) (qa1_7 : la1_7.length ≤ maxLen) (ha1_8 : RecsAt w a1_8 la1_8) (qa1_8 : la1_8.length ≤ maxLen) (sa1_8 : ∀ r ∈ la1_8, r.srcs.length ≤ maxLen) :
    Calls Try.prog 3 #[.agg #[.string a0_0, .string a0_1], .agg #[.int .i64 a1_0, .int .i64 a1_1, .string a1_2, .int .i64 a1_3, .bool a1_4, .int .i64 a1_5, .int .i64 a1_6, a1_7, a1_8]] w fun e w' => e = .returned (.bool true) ∧ Below w.heap.size w w' := by
  unfold maxLen at qa1_7 qa1_8 sa1_8
  obtain ⟨p7, c7, rfl⟩ := ha1_7.slice
  have HF : FewH a1_0 a1_1 a1_2 a1_3 a1_4 a1_5 a1_6 (.slice p7 la1_7.length c7) a1_8 la1_8 (few9B la1_7.length la1_8) := fun U h => few9_c a1_0 a1_1 a1_2 a1_3 a1_4 a1_5 a1_6 p7 la1_7.length c7 a1_8 la1_8 U qa1_8 h
  obtain ⟨p8, c8, rfl⟩ := ha1_8.slice
  rcases hfb : few9B la1_7.length la1_8 with _ | _
  · rw [hfb] at HF
    exact walk_live _ _ _ _ _ _ _ _ _ p7 _ c7 p8 _ c8 la1_8 w (Lib.hid HF) (Lib.hid ha1_8)
  · rw [hfb] at HF
    obtain ⟨f1, f2⟩ := few9_le hfb
    obtain ⟨m, hm⟩ : ∃ m : Msg, m = ⟨a1_0, a1_1, a1_2, a1_3, a1_4, a1_5, a1_6, la1_7, la1_8⟩ := ⟨_, rfl⟩
    have HE : ∀ S c, encD a0_0 a0_1 m = (S, c) → EncH a0_0 a0_1 a1_0 a1_1 a1_2 a1_3 a1_4 a1_5 a1_6 (.slice p7 la1_7.length c7) (.slice p8 la1_8.length c8) la1_7 la1_8 S c := fun S c hc U h1 h2 => by
      have := menc_c a0_0 a0_1 m (.slice p7 la1_7.length c7) (.slice p8 la1_8.length c8) U (by rw [hm]; simp only; omega) (by rw [hm]; simp only; omega) (by rw [hm]; exact sa1_8) (by rw [hm]; exact h1) (by rw [hm]; exact h2) (by rw [hm]; omega) (by rw [hm]; omega) (by rw [hm]; omega) (by rw [hm]; omega) (by rw [hm]; omega)
      rw [hc, hm] at this
      exact this
    by_cases hok : mayD m = true ∧ (aheadI a0_0 a0_1 (msgD m).length).2 = 0
    · obtain ⟨S, e1, zS, z8, z9, h0, hd⟩ := back_D a0_0 a0_1 m hok.1 hok.2
      refine walk_yes _ _ _ _ _ _ _ _ _ la1_7 p7 c7 p8 c8 la1_8 S w qa1_7 qa1_8 sa1_8 (Lib.hid HF) (Lib.hid (HE _ _ e1)) (Lib.hid ha1_7) (Lib.hid ha1_8) (Lib.hid fun U => ?_)
      have := mdec_c a0_0 a0_1 S U (by omega)
      rw [hd, hm] at this
      exact this
    · exact walk_no _ _ _ _ _ _ _ _ _ p7 _ c7 p8 _ c8 la1_7 la1_8 w (Lib.hid HF) (Lib.hid (HE _ _ (encD_no _ _ _ hok))) (Lib.hid ha1_7) (Lib.hid ha1_8)

theorem own : ownKnob Try.prog.godebug = none := by kernel_rfl
theorem laidOut : laidOutB Try.prog = true := by kernel_rfl

set_option maxHeartbeats 1000000 in
set_option maxRecDepth 100000 in
theorem lifted (os : Os) (started : os.Started) (H : Type) (enc : TypeId × Value → H) :
    ReturnsInHanded {} Try.checked os 3 .any (Rows.mldBackSpec.pre6 enc Try.prog Try.f3 Rows.mldBackRow.domain false) (Rows.mldBackSpec.post enc Try.prog Try.f3 false true false false) := by
  refine returnsInHanded_of_change_sized (C := Try.checked) own started (by kernel_rfl) Try.func3
    (ChangeSpec.witness6 (enc := enc) (C := Try.checked) false ⟨#[], #[.agg #[.string ByteArray.empty, .string ByteArray.empty], .agg #[.int .i64 0, .int .i64 0, .string ByteArray.empty, .int .i64 0, .bool false, .int .i64 0, .int .i64 0, .slice none 0 0, .slice none 0 0]], []⟩ 8 (by kernel_rfl) (by kernel_rfl) (by kernel_rfl) (by kernel_rfl)) ?_
  intro W base args ds gs before hval0 hW hcnd hsz0 hholds
  have hval : ∀ (j : Nat) t v, Try.f3.params[j]? = some t → args[j]? = some v → Value.okWide Try.prog W .any base t v := hval0
  have hsz : (DataW.weightsEach Try.prog (Try.f3.params.toList ++ Rows.mldBackSpec.plain.varTypes Try.prog) (ds ++ gs)).all (· ≤ reachBytes) = true := hsz0
  have hW' := hW
  obtain ⟨p, q, hA0, hV, rfl, hfz, hnd⟩ := hW
  have hA : DataW.TrodAll enc Try.prog W 0 (fun _ => true) true Try.f3.params.toList args.toList ds p := hA0
  rw [Try.params3] at hA hval hsz
  obtain ⟨v0, vs0, d0, ds0, p0, q0, hargs, rfl, rfl, h0, r0⟩ := trodAll_cons hA
  obtain ⟨v1, vs1, d1, ds1, p1, q1, rfl, rfl, rfl, h1, r1⟩ := trodAll_cons r0
  obtain ⟨rfl, rfl, rfl⟩ := trodAll_nil r1
  obtain rfl : args = #[v0, v1] := by cases args; simp_all
  obtain ⟨rfl, rfl⟩ := trodVars_none hV
  have k0 := h0
  have lt0 : ∀ x ∈ p0, x.block < W.heap.size := by obtain ⟨m, hm⟩ := k0; exact DataW.trod_lt m _ _ _ hm
  have k1 := h1
  have lt1 : ∀ x ∈ p1, x.block < W.heap.size := by obtain ⟨m, hm⟩ := k1; exact DataW.trod_lt m _ _ _ hm
  obtain ⟨cs0, rfl, hz0⟩ := okWide_struct Try.underlying24 (hval 0 24 v0 rfl rfl)
  obtain ⟨l0⟩ := cs0
  obtain ⟨c0_0, c0_1, rfl⟩ := list2 l0 (hz0.trans (by kernel_rfl))
  obtain ⟨fu0, hf0⟩ := h0
  obtain ⟨xs0, m0, -, hx0, -, hn0, hg0⟩ := DataW.trod_struct Try.underlying24 hf0
  obtain ⟨y0_0, y0_1, rfl⟩ := list2 xs0 hn0
  simp only [Prod.mk.injEq] at hx0
  obtain ⟨rfl, rfl⟩ := hx0
  have g0_0 : DataW.trod enc Try.prog W 0 (fun _ => true) true m0 22 (List.take (Try.prog.cellsOf 22) (List.drop 0 [c0_0, c0_1])) = some y0_0 := hg0 0 _ rfl
  rw [show Try.prog.cellsOf 22 = 1 from by kernel_rfl] at g0_0
  replace g0_0 : DataW.trod enc Try.prog W 0 (fun _ => true) true m0 22 [c0_0] = some y0_0 := g0_0
  have g0_1 : DataW.trod enc Try.prog W 0 (fun _ => true) true m0 22 (List.take (Try.prog.cellsOf 22) (List.drop 1 [c0_0, c0_1])) = some y0_1 := hg0 1 _ rfl
  rw [show Try.prog.cellsOf 22 = 1 from by kernel_rfl] at g0_1
  replace g0_1 : DataW.trod enc Try.prog W 0 (fun _ => true) true m0 22 [c0_1] = some y0_1 := g0_1
  clear hg0
  obtain ⟨a0_0, e0_0, rfl, w0_0⟩ := DataW.trod_string Try.underlying22 g0_0
  simp at e0_0
  subst e0_0
  obtain ⟨a0_1, e0_1, rfl, w0_1⟩ := DataW.trod_string Try.underlying22 g0_1
  simp at e0_1
  subst e0_1
  obtain ⟨cs1, rfl, hz1⟩ := okWide_struct Try.underlying28 (hval 1 28 v1 rfl rfl)
  obtain ⟨l1⟩ := cs1
  obtain ⟨c1_0, c1_1, c1_2, c1_3, c1_4, c1_5, c1_6, c1_7, c1_8, rfl⟩ := list9 l1 (hz1.trans (by kernel_rfl))
  obtain ⟨fu1, hf1⟩ := h1
  obtain ⟨xs1, m1, -, hx1, -, hn1, hg1⟩ := DataW.trod_struct Try.underlying28 hf1
  obtain ⟨y1_0, y1_1, y1_2, y1_3, y1_4, y1_5, y1_6, y1_7, y1_8, rfl⟩ := list9 xs1 hn1
  simp only [Prod.mk.injEq] at hx1
  obtain ⟨rfl, rfl⟩ := hx1
  have g1_0 : DataW.trod enc Try.prog W 0 (fun _ => true) true m1 3 (List.take (Try.prog.cellsOf 3) (List.drop 0 [c1_0, c1_1, c1_2, c1_3, c1_4, c1_5, c1_6, c1_7, c1_8])) = some y1_0 := hg1 0 _ rfl
  rw [show Try.prog.cellsOf 3 = 1 from by kernel_rfl] at g1_0
  replace g1_0 : DataW.trod enc Try.prog W 0 (fun _ => true) true m1 3 [c1_0] = some y1_0 := g1_0
  have g1_1 : DataW.trod enc Try.prog W 0 (fun _ => true) true m1 3 (List.take (Try.prog.cellsOf 3) (List.drop 1 [c1_0, c1_1, c1_2, c1_3, c1_4, c1_5, c1_6, c1_7, c1_8])) = some y1_1 := hg1 1 _ rfl
  rw [show Try.prog.cellsOf 3 = 1 from by kernel_rfl] at g1_1
  replace g1_1 : DataW.trod enc Try.prog W 0 (fun _ => true) true m1 3 [c1_1] = some y1_1 := g1_1
  have g1_2 : DataW.trod enc Try.prog W 0 (fun _ => true) true m1 22 (List.take (Try.prog.cellsOf 22) (List.drop 2 [c1_0, c1_1, c1_2, c1_3, c1_4, c1_5, c1_6, c1_7, c1_8])) = some y1_2 := hg1 2 _ rfl
  rw [show Try.prog.cellsOf 22 = 1 from by kernel_rfl] at g1_2
  replace g1_2 : DataW.trod enc Try.prog W 0 (fun _ => true) true m1 22 [c1_2] = some y1_2 := g1_2
  have g1_3 : DataW.trod enc Try.prog W 0 (fun _ => true) true m1 3 (List.take (Try.prog.cellsOf 3) (List.drop 3 [c1_0, c1_1, c1_2, c1_3, c1_4, c1_5, c1_6, c1_7, c1_8])) = some y1_3 := hg1 3 _ rfl
  rw [show Try.prog.cellsOf 3 = 1 from by kernel_rfl] at g1_3
  replace g1_3 : DataW.trod enc Try.prog W 0 (fun _ => true) true m1 3 [c1_3] = some y1_3 := g1_3
  have g1_4 : DataW.trod enc Try.prog W 0 (fun _ => true) true m1 4 (List.take (Try.prog.cellsOf 4) (List.drop 4 [c1_0, c1_1, c1_2, c1_3, c1_4, c1_5, c1_6, c1_7, c1_8])) = some y1_4 := hg1 4 _ rfl
  rw [show Try.prog.cellsOf 4 = 1 from by kernel_rfl] at g1_4
  replace g1_4 : DataW.trod enc Try.prog W 0 (fun _ => true) true m1 4 [c1_4] = some y1_4 := g1_4
  have g1_5 : DataW.trod enc Try.prog W 0 (fun _ => true) true m1 3 (List.take (Try.prog.cellsOf 3) (List.drop 5 [c1_0, c1_1, c1_2, c1_3, c1_4, c1_5, c1_6, c1_7, c1_8])) = some y1_5 := hg1 5 _ rfl
  rw [show Try.prog.cellsOf 3 = 1 from by kernel_rfl] at g1_5
  replace g1_5 : DataW.trod enc Try.prog W 0 (fun _ => true) true m1 3 [c1_5] = some y1_5 := g1_5
  have g1_6 : DataW.trod enc Try.prog W 0 (fun _ => true) true m1 3 (List.take (Try.prog.cellsOf 3) (List.drop 6 [c1_0, c1_1, c1_2, c1_3, c1_4, c1_5, c1_6, c1_7, c1_8])) = some y1_6 := hg1 6 _ rfl
  rw [show Try.prog.cellsOf 3 = 1 from by kernel_rfl] at g1_6
  replace g1_6 : DataW.trod enc Try.prog W 0 (fun _ => true) true m1 3 [c1_6] = some y1_6 := g1_6
  have g1_7 : DataW.trod enc Try.prog W 0 (fun _ => true) true m1 25 (List.take (Try.prog.cellsOf 25) (List.drop 7 [c1_0, c1_1, c1_2, c1_3, c1_4, c1_5, c1_6, c1_7, c1_8])) = some y1_7 := hg1 7 _ rfl
  rw [show Try.prog.cellsOf 25 = 1 from by kernel_rfl] at g1_7
  replace g1_7 : DataW.trod enc Try.prog W 0 (fun _ => true) true m1 25 [c1_7] = some y1_7 := g1_7
  have g1_8 : DataW.trod enc Try.prog W 0 (fun _ => true) true m1 26 (List.take (Try.prog.cellsOf 26) (List.drop 8 [c1_0, c1_1, c1_2, c1_3, c1_4, c1_5, c1_6, c1_7, c1_8])) = some y1_8 := hg1 8 _ rfl
  rw [show Try.prog.cellsOf 26 = 1 from by kernel_rfl] at g1_8
  replace g1_8 : DataW.trod enc Try.prog W 0 (fun _ => true) true m1 26 [c1_8] = some y1_8 := g1_8
  clear hg1
  obtain ⟨a1_0, e1_0, rfl, w1_0⟩ := DataW.trod_int Try.underlying3 g1_0
  simp at e1_0
  subst e1_0
  obtain ⟨a1_1, e1_1, rfl, w1_1⟩ := DataW.trod_int Try.underlying3 g1_1
  simp at e1_1
  subst e1_1
  obtain ⟨a1_2, e1_2, rfl, w1_2⟩ := DataW.trod_string Try.underlying22 g1_2
  simp at e1_2
  subst e1_2
  obtain ⟨a1_3, e1_3, rfl, w1_3⟩ := DataW.trod_int Try.underlying3 g1_3
  simp at e1_3
  subst e1_3
  obtain ⟨a1_4, e1_4, rfl⟩ := DataW.trod_bool Try.underlying4 g1_4
  simp at e1_4
  subst e1_4
  obtain ⟨a1_5, e1_5, rfl, w1_5⟩ := DataW.trod_int Try.underlying3 g1_5
  simp at e1_5
  subst e1_5
  obtain ⟨a1_6, e1_6, rfl, w1_6⟩ := DataW.trod_int Try.underlying3 g1_6
  simp at e1_6
  subst e1_6
  obtain ⟨v1_7, L1_7, e1_7, hh1_7, qq1_7⟩ := addrs_open g1_7
  simp at e1_7
  subst e1_7
  obtain ⟨v1_8, L1_8, e1_8, hh1_8, qq1_8, ss1_8⟩ := recs_open g1_8
  simp at e1_8
  subst e1_8
  have za0_0 : a0_0.size ≤ 140737488351232 := by
    have h := List.all_eq_true.1 hsz _ (DataW.weights_mem_each (j := 0) (t := 24) rfl rfl a0_0.data.toList.length (by simp [DataW.weights, DataW.weightsEach, Try.underlying24]))
    simpa [reachBytes] using of_decide_eq_true h
  have za0_1 : a0_1.size ≤ 140737488351232 := by
    have h := List.all_eq_true.1 hsz _ (DataW.weights_mem_each (j := 0) (t := 24) rfl rfl a0_1.data.toList.length (by simp [DataW.weights, DataW.weightsEach, Try.underlying24]))
    simpa [reachBytes] using of_decide_eq_true h
  have ba1_0 := bounds_i64 w1_0
  have ba1_1 := bounds_i64 w1_1
  have za1_2 : a1_2.size ≤ 140737488351232 := by
    have h := List.all_eq_true.1 hsz _ (DataW.weights_mem_each (j := 1) (t := 28) rfl rfl a1_2.data.toList.length (by simp [DataW.weights, DataW.weightsEach, Try.underlying28]))
    simpa [reachBytes] using of_decide_eq_true h
  have ba1_3 := bounds_i64 w1_3
  have ba1_5 := bounds_i64 w1_5
  have ba1_6 := bounds_i64 w1_6
  clear hA0 hval0
  refine (walk a0_0 a0_1 a1_0 a1_1 a1_2 a1_3 a1_4 a1_5 a1_6 c1_7 L1_7 c1_8 L1_8 W za0_0 za0_1 ba1_0.1 ba1_0.2 ba1_1.1 ba1_1.2 za1_2 ba1_3.1 ba1_3.2 ba1_5.1 ba1_5.2 ba1_6.1 ba1_6.2 hh1_7 qq1_7 hh1_8 qq1_8 ss1_8).mono fun e W' ⟨he, bel⟩ => ?_
  subst he
  exact ⟨_, rfl, _, _, _, [], _, [], hW', trodAll_mk1 (shut_bool Try.underlying4 _), (trodAll_cons_mk (Below.trod laidOut (by kernel_rfl) (of_decide_eq_true (by kernel_rfl)) k0 bel lt0) (trodAll_cons_mk (Below.trod laidOut (by kernel_rfl) (of_decide_eq_true (by kernel_rfl)) k1 bel lt1) trodAll_mk0)), rfl, bel.frame _, fun h => by cases h⟩

theorem over : Rows.mldBackRow.holds Try.pinned (OpenSpec.ofChange Rows.mldBackSpec) :=
  OpenClaim.holds_of_wide 3 Try.f3 rfl rfl rfl rfl rfl rfl rfl ⟨rfl, rfl, rfl, rfl, rfl⟩ rfl rfl rfl rfl rfl (by kernel_rfl) Try.func3 (by kernel_rfl)
    (of_decide_eq_true (by kernel_rfl)) (by unfold Func.isWrapper; first | (rw [if_pos (by decide +kernel)]; kernel_rfl) | (rw [if_neg (by decide +kernel)]; exact ⟨rfl, rfl⟩))
    (fun os started H enc _ => lifted os started H enc)

/-- The statement. -/
theorem proved : Rows.MldBackSaid := over
#print axioms proved
end Go.Proofs.Ytnfngmclomjimaa.mldBackLaw
