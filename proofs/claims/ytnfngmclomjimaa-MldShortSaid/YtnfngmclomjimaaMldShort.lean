/-
  'siphonlaw09.MldShort' returns true, whatever the input, and each argument reads behind the call as it read before. Conditions: none beyond those that the row itself states.
-/
import Derived.Test.YtnfngmclomjimaaRows
import Derived.Test.YtnfngmclomjimaaLive9
import Derived.Test.YtnfngmclomjimaaMdM
import Derived.Test.YtnfngmclomjimaaTrod
import Derived.Test.YtnfngmclomjimaaRegW
import Derived.WalkKit
import Derived.ProofKit
import Derived.OpenShut
import Derived.ShutString
import Derived.ChangeOld
import Derived.Below
import Derived.Carry
import Derived.SizedLaws
import Derived.Lib.SmallJoins
import Derived.ChangeArms
import Derived.WideShapes
namespace Go.Proofs.Ytnfngmclomjimaa.mldShortLaw
open Go.ChangeShapes Go.WideShapes Go.ChangeAt Go.RowKit Go.Joins
open Go.ChangeMaps (open_string shut_string)
set_option linter.unusedVariables false

theorem list2 {α : Type} (l : List α) (h : l.length = 2) : ∃ x0 x1 : α, l = [x0, x1] := by
  match l, h with
  | [x0, x1], _ => exact ⟨x0, x1, rfl⟩

theorem list9 {α : Type} (l : List α) (h : l.length = 9) : ∃ x0 x1 x2 x3 x4 x5 x6 x7 x8 : α, l = [x0, x1, x2, x3, x4, x5, x6, x7, x8] := by
  match l, h with
  | [x0, x1, x2, x3, x4, x5, x6, x7, x8], _ => exact ⟨x0, x1, x2, x3, x4, x5, x6, x7, x8, rfl⟩

theorem below_then {w W w5 : World} (h : Below w.heap.size w W) (h5 : Below W.heap.size W w5) : Below w.heap.size w w5 := h.trans (h5.mono h.size)
/-- What Encode answers. -/
def EncH (src dst : ByteArray) (k v : Int) (g : ByteArray) (mx : Int) (q : Bool) (rob ev : Int) (S : ByteArray) (c : Int) : Prop :=
  ∀ U, Calls Try.prog 8 #[.string src, .string dst, .agg #[.int .i64 k, .int .i64 v, .string g, .int .i64 mx, .bool q, .int .i64 rob, .int .i64 ev, .slice none 0 0, .slice none 0 0]] U fun e w' => e = .returned (.tuple #[.string S, .int .i64 c]) ∧ Below U.heap.size U w'

set_option maxHeartbeats 8000000 in
set_option maxRecDepth 100000 in
theorem walk_live (src dst : ByteArray) (k v : Int) (g : ByteArray) (mx : Int) (q : Bool) (rob ev : Int) (p7 : Option Addr) (n7 c7 : Nat) (p8 : Option Addr) (n8 c8 : Nat) (a2 : Int) (S : ByteArray) (c : Int) (w : World) (HE : Hid (EncH src dst k v g mx q rob ev S c)) (hc : (c != 0) = true ∨ ((c != 0) = false ∧ (S.size : Int) < 24)) :
    Calls Try.prog 5 #[.agg #[.string src, .string dst], .agg #[.int .i64 k, .int .i64 v, .string g, .int .i64 mx, .bool q, .int .i64 rob, .int .i64 ev, .slice p7 n7 c7, .slice p8 n8 c8], .int .i64 a2] w fun e w' => e = .returned (.bool true) ∧ Below w.heap.size w w' := by
  unfold EncH at HE
  have HL := Lib.hid fun U => live9_c U
  have B0 := Lib.hid (B2.start w #[.string src, .string dst] #[.int .i64 k, .int .i64 v, .string g, .int .i64 mx, .bool q, .int .i64 rob, .int .i64 ev, .slice none 0 0, .slice none 0 0])
  rcases hc with h1 | ⟨h1, h2⟩
  all_goals
    go_enter Try.func5, Try.ntmps5
    go_wp2_with fail
    ((with_reducible refine (HE.out _).mono ?_); rintro e w1 ⟨rfl, h3⟩)
    have B := Lib.hid (B0.out.below h3)
    clear h3
    go_wp2_with fail
    ((with_reducible refine (HL.out _).mono ?_); rintro e w5 ⟨rfl, h5⟩)
    go_wp2_with fail
    go_ret
    exact ⟨rfl, (B.out.below h5).2.2⟩

set_option maxHeartbeats 8000000 in
set_option maxRecDepth 100000 in
theorem walk_cut (src dst : ByteArray) (k v : Int) (g : ByteArray) (mx : Int) (q : Bool) (rob ev : Int) (p7 : Option Addr) (n7 c7 : Nat) (p8 : Option Addr) (n8 c8 : Nat) (a2 : Int) (S : ByteArray) (w : World) (HE : Hid (EncH src dst k v g mx q rob ev S 0)) (l1 : -9223372036854775808 ≤ a2) (u1 : a2 ≤ 9223372036854775807)
    (b n : Nat) (hab : a2 = b ∨ a2 < 0 ∧ -(a2 + 1) = (b : Int)) (hn : (b : Int) % 8 = (n : Int)) (n8' : n < 8) (hS : 24 ≤ S.size) (hS2 : S.size ≤ 1000000)
    (HD : Hid (∀ U, Calls Try.prog 9 #[.string src, .string dst, .string (S.extract 0 n)] U (MsgPost (2, zeroM) U))) :
    Calls Try.prog 5 #[.agg #[.string src, .string dst], .agg #[.int .i64 k, .int .i64 v, .string g, .int .i64 mx, .bool q, .int .i64 rob, .int .i64 ev, .slice p7 n7 c7, .slice p8 n8 c8], .int .i64 a2] w fun e w' => e = .returned (.bool true) ∧ Below w.heap.size w w' := by
  unfold EncH at HE
  have HL := Lib.hid fun U => live9_c U
  have B0 := Lib.hid (B2.start w #[.string src, .string dst] #[.int .i64 k, .int .i64 v, .string g, .int .i64 mx, .bool q, .int .i64 rob, .int .i64 ev, .slice none 0 0, .slice none 0 0])
  unfold MsgPost at HD
  simp only [Msg.val, zeroM] at HD
  have q1 : ¬ (S.size : Int) < 24 := by omega
  have q2 : (S.size : Int) ≤ 1000000 := by omega
  have q3 : (n : Int) ≤ (S.size : Int) := by omega
  have q4 : n ≤ S.size := by omega
  have q5 : (n : Int) < 8 := by omega
  have t1 : (b : Int).tmod 8 = (n : Int) := by rw [Int.tmod_eq_emod_of_nonneg (by omega), hn]
  rcases hab with rfl | ⟨ha, he⟩
  all_goals
    go_enter Try.func5, Try.ntmps5
    go_wp2_with fail
    ((with_reducible refine (HE.out _).mono ?_); rintro e w1 ⟨rfl, h3⟩)
    have B := Lib.hid (B0.out.below h3)
    clear h3
    go_upto_region 8 with fail
    have x0 := B.out.x 0 rfl
    have x1 := B.out.x 1 rfl
    have hz1 : w.heap.size < w1.heap.size := lt_of_block B.out.1
    go_region_with (go_at_call 9; refine (HD.out _).mono ?_; rintro e w2 ⟨vs2, vr2, rfl, hvs2, hvr2, h4⟩; obtain ⟨p3, c3, rfl⟩ := hvs2.slice; obtain ⟨p4, c4, rfl⟩ := hvr2.slice; clear hvs2 hvr2; obtain ⟨hc4, hf4⟩ := below_cells h4)
    all_goals
      have D0 : Below w.heap.size w w2 := by
        have k1 := B.out.2.2
        have k2 := k1.size
        have k3 : w.heap.size ≤ w1.drew.heap.size := k2
        first
          | with_reducible exact (k1.drew).trans (h4.mono k3)
          | with_reducible exact ((k1.drew).alloc k3 _).trans (h4.mono (by simp; omega))
          | with_reducible exact ((k1.alloc k2 _).drew).trans (h4.mono (by simp; omega))
      have hle : w.heap.size ≤ w1.heap.size := B.out.2.2.size
      have hsz := D0.size
      clear h4 x0 x1 B hc4 hf4
      go_wp2_with fail
      ((with_reducible refine (HL.out _).mono ?_); rintro e w5 ⟨rfl, h5⟩)
      go_wp2_with fail
      go_ret
      refine ⟨rfl, below_then ?_ h5⟩
      first
        | with_reducible exact D0.alloc hsz _
        | with_reducible exact ((((((((D0.setCell (p := ⟨w1.heap.size, 0, none⟩) hle _).setCell (p := ⟨w1.heap.size, 1, none⟩) hle _).setCell (p := ⟨w1.heap.size, 2, none⟩) hle _).setCell (p := ⟨w1.heap.size, 3, none⟩) hle _).setCell (p := ⟨w1.heap.size, 4, none⟩) hle _).setCell (p := ⟨w1.heap.size, 5, none⟩) hle _).setCell (p := ⟨w1.heap.size, 6, none⟩) hle _).setCell (p := ⟨w1.heap.size, 7, none⟩) hle _).setCell (p := ⟨w1.heap.size, 8, none⟩) hle _

theorem walk (a0_0 : ByteArray) (a0_1 : ByteArray) (a1_0 : Int) (a1_1 : Int) (a1_2 : ByteArray) (a1_3 : Int) (a1_4 : Bool) (a1_5 : Int) (a1_6 : Int) (a1_7 : Value) (la1_7 : List ByteArray) (a1_8 : Value) (la1_8 : List Rec) (a2 : Int) (w : World) (za0_0 : a0_0.size ≤ 140737488351232) (za0_1 : a0_1.size ≤ 140737488351232) (la1_0 : -9223372036854775808 ≤ a1_0) (ua1_0 : a1_0 ≤ 9223372036854775807) (la1_1 : -9223372036854775808 ≤ a1_1) (ua1_1 : a1_1 ≤ 9223372036854775807) (za1_2 : a1_2.size ≤ 140737488351232) (la1_3 : -9223372036854775808 ≤ a1_3) (ua1_3 : a1_3 ≤ 9223372036854775807) (la1_5 : -9223372036854775808 ≤ a1_5) (ua1_5 : a1_5 ≤ 9223372036854775807) (la1_6 : -9223372036854775808 ≤ a1_6) (ua1_6 : a1_6 ≤ 9223372036854775807) (ha1_7 : AddrsAt w a1_7 la1_7) (qa1_7 : la1_7.length ≤ maxLen) (ha1_8 : RecsAt w a1_8 la1_8) (qa1_8 : la1_8.length ≤ maxLen) (sa1_8 : ∀ r ∈ la1_8, r.srcs.length ≤ maxLen) (la2 : -9223372036854775808 ≤ a2) (ua2 : a2 ≤ 9223372036854775807) :
    Calls Try.prog 5 #[.agg #[.string a0_0, .string a0_1], .agg #[.int .i64 a1_0, .int .i64 a1_1, .string a1_2, .int .i64 a1_3, .bool a1_4, .int .i64 a1_5, .int .i64 a1_6, a1_7, a1_8], .int .i64 a2] w fun e w' => e = .returned (.bool true) ∧ Below w.heap.size w w' := by
  unfold maxLen at qa1_7 qa1_8 sa1_8
  obtain ⟨p7, c7, rfl⟩ := ha1_7.slice
  obtain ⟨p8, c8, rfl⟩ := ha1_8.slice
  obtain ⟨m, hm⟩ : ∃ m : Msg, m = ⟨a1_0, a1_1, a1_2, a1_3, a1_4, a1_5, a1_6, [], []⟩ := ⟨_, rfl⟩
  have HE : ∀ S c, encD a0_0 a0_1 m = (S, c) → EncH a0_0 a0_1 a1_0 a1_1 a1_2 a1_3 a1_4 a1_5 a1_6 S c := fun S c hc U => by
    have := menc_c a0_0 a0_1 m (.slice none 0 0) (.slice none 0 0) U (by rw [hm]; simp) (by rw [hm]; simp) (by rw [hm]; simp) (by rw [hm]; exact AddrsG.nil _ _ _) (by rw [hm]; exact RecsG.nil _ _ _) (by rw [hm]; omega) (by rw [hm]; omega) (by rw [hm]; omega) (by rw [hm]; omega) (by rw [hm]; omega)
    rw [hc, hm] at this
    exact this
  by_cases hok : mayD m = true ∧ (aheadI a0_0 a0_1 (msgD m).length).2 = 0
  · obtain ⟨z1, z2⟩ := msgD_len m hok.1
    obtain ⟨s1, s2, -, -⟩ := ahead_ok hok.2
    have he : encD a0_0 a0_1 m = fillSpec (aheadI a0_0 a0_1 (msgD m).length).1 ⟨(msgD m).toArray⟩ 2 := if_pos hok
    have hX : (⟨(msgD m).toArray⟩ : ByteArray).size = (msgD m).length := by rw [ByteArray.size_mk', List.size_toArray]
    obtain ⟨S, c, hSc⟩ : ∃ S c, encD a0_0 a0_1 m = (S, c) := ⟨_, _, rfl⟩
    have hSz : S.size ≤ 1000000 := by
      rw [he] at hSc
      unfold fillSpec at hSc
      split at hSc
      · obtain ⟨rfl, -⟩ := Prod.mk.inj hSc; decide
      · obtain ⟨rfl, -⟩ := Prod.mk.inj hSc
        rw [show ((2 : Int)).toNat = 2 from rfl, filled_size _ _ _ (by rw [hX]; omega), hX]; omega
    by_cases hc : c = 0 ∧ 24 ≤ S.size
    · obtain ⟨rfl, h24⟩ := hc
      obtain ⟨b, hb⟩ : ∃ b : Nat, a2 = b ∨ a2 < 0 ∧ -(a2 + 1) = (b : Int) := by
        by_cases c : a2 < 0
        · exact ⟨(-(a2 + 1)).toNat, .inr ⟨c, by omega⟩⟩
        · exact ⟨a2.toNat, .inl (by omega)⟩
      refine walk_cut _ _ _ _ _ _ _ _ _ p7 _ c7 p8 _ c8 a2 S w (Lib.hid (HE _ _ hSc)) la2 ua2 b (b % 8) hb (by omega) (Nat.mod_lt _ (by omega)) h24 hSz (Lib.hid fun U => ?_)
      have hz : (S.extract 0 (b % 8)).size = b % 8 := by rw [ByteArray.size_extract]; omega
      have := mdec_c a0_0 a0_1 (S.extract 0 (b % 8)) U (by rw [hz]; omega)
      have hd : decD a0_0 a0_1 (S.extract 0 (b % 8)) = (2, zeroM) := by
        unfold decD
        rw [if_neg (by rw [ahead_yes s1 s2 (by omega) (by rw [hz]; omega)]; simp), if_pos (by rw [hz]; omega)]
      rw [hd] at this
      exact this
    · refine walk_live _ _ _ _ _ _ _ _ _ p7 _ c7 p8 _ c8 a2 S c w (Lib.hid (HE _ _ hSc)) ?_
      by_cases h0 : c = 0
      · exact .inr ⟨by simp [h0], by have := fun h => hc ⟨h0, h⟩; omega⟩
      · exact .inl (by simp [h0])
  · have he : encD a0_0 a0_1 m = (⟨#[]⟩, 1) := if_neg hok
    exact walk_live _ _ _ _ _ _ _ _ _ p7 _ c7 p8 _ c8 a2 _ _ w (Lib.hid (HE _ _ he)) (.inl rfl)

theorem own : ownKnob Try.prog.godebug = none := by kernel_rfl
theorem laidOut : laidOutB Try.prog = true := by kernel_rfl

set_option maxHeartbeats 1000000 in
set_option maxRecDepth 100000 in
theorem lifted (os : Os) (started : os.Started) (H : Type) (enc : TypeId × Value → H) :
    ReturnsInHanded {} Try.checked os 5 .any (Rows.mldShortSpec.pre6 enc Try.prog Try.f5 Rows.mldShortRow.domain false) (Rows.mldShortSpec.post enc Try.prog Try.f5 false true false false) := by
  refine returnsInHanded_of_change_sized (C := Try.checked) own started (by kernel_rfl) Try.func5
    (ChangeSpec.witness6 (enc := enc) (C := Try.checked) false ⟨#[], #[.agg #[.string ByteArray.empty, .string ByteArray.empty], .agg #[.int .i64 0, .int .i64 0, .string ByteArray.empty, .int .i64 0, .bool false, .int .i64 0, .int .i64 0, .slice none 0 0, .slice none 0 0], .int .i64 0], []⟩ 8 (by kernel_rfl) (by kernel_rfl) (by kernel_rfl) (by kernel_rfl)) ?_
  intro W base args ds gs before hval0 hW hcnd hsz0 hholds
  have hval : ∀ (j : Nat) t v, Try.f5.params[j]? = some t → args[j]? = some v → Value.okWide Try.prog W .any base t v := hval0
  have hsz : (DataW.weightsEach Try.prog (Try.f5.params.toList ++ Rows.mldShortSpec.plain.varTypes Try.prog) (ds ++ gs)).all (· ≤ reachBytes) = true := hsz0
  have hW' := hW
  obtain ⟨p, q, hA0, hV, rfl, hfz, hnd⟩ := hW
  have hA : DataW.TrodAll enc Try.prog W 0 (fun _ => true) true Try.f5.params.toList args.toList ds p := hA0
  rw [Try.params5] at hA hval hsz
  obtain ⟨v0, vs0, d0, ds0, p0, q0, hargs, rfl, rfl, h0, r0⟩ := trodAll_cons hA
  obtain ⟨v1, vs1, d1, ds1, p1, q1, rfl, rfl, rfl, h1, r1⟩ := trodAll_cons r0
  obtain ⟨v2, vs2, d2, ds2, p2, q2, rfl, rfl, rfl, h2, r2⟩ := trodAll_cons r1
  obtain ⟨rfl, rfl, rfl⟩ := trodAll_nil r2
  obtain rfl : args = #[v0, v1, v2] := by cases args; simp_all
  obtain ⟨rfl, rfl⟩ := trodVars_none hV
  have k0 := h0
  have lt0 : ∀ x ∈ p0, x.block < W.heap.size := by obtain ⟨m, hm⟩ := k0; exact DataW.trod_lt m _ _ _ hm
  have k1 := h1
  have lt1 : ∀ x ∈ p1, x.block < W.heap.size := by obtain ⟨m, hm⟩ := k1; exact DataW.trod_lt m _ _ _ hm
  have k2 := h2
  have lt2 : ∀ x ∈ p2, x.block < W.heap.size := by obtain ⟨m, hm⟩ := k2; exact DataW.trod_lt m _ _ _ hm
  obtain ⟨cs0, rfl, hz0⟩ := okWide_struct Try.underlying24 (hval 0 24 v0 rfl rfl)
  obtain ⟨l0⟩ := cs0
  obtain ⟨c0_0, c0_1, rfl⟩ := list2 l0 (hz0.trans (by kernel_rfl))
  obtain ⟨fu0, hf0⟩ := h0
  obtain ⟨xs0, m0, -, hx0, -, hn0, hg0⟩ := DataW.trod_struct Try.underlying24 hf0
  obtain ⟨y0_0, y0_1, rfl⟩ := list2 xs0 hn0
  simp only [Prod.mk.injEq] at hx0
  obtain ⟨rfl, rfl⟩ := hx0
  have g0_0 : DataW.trod enc Try.prog W 0 (fun _ => true) true m0 22 (List.take (Try.prog.cellsOf 22) (List.drop 0 [c0_0, c0_1])) = some y0_0 := hg0 0 _ rfl
  rw [show Try.prog.cellsOf 22 = 1 from by kernel_rfl] at g0_0
  replace g0_0 : DataW.trod enc Try.prog W 0 (fun _ => true) true m0 22 [c0_0] = some y0_0 := g0_0
  have g0_1 : DataW.trod enc Try.prog W 0 (fun _ => true) true m0 22 (List.take (Try.prog.cellsOf 22) (List.drop 1 [c0_0, c0_1])) = some y0_1 := hg0 1 _ rfl
  rw [show Try.prog.cellsOf 22 = 1 from by kernel_rfl] at g0_1
  replace g0_1 : DataW.trod enc Try.prog W 0 (fun _ => true) true m0 22 [c0_1] = some y0_1 := g0_1
  clear hg0
  obtain ⟨a0_0, e0_0, rfl, w0_0⟩ := DataW.trod_string Try.underlying22 g0_0
  simp at e0_0
  subst e0_0
  obtain ⟨a0_1, e0_1, rfl, w0_1⟩ := DataW.trod_string Try.underlying22 g0_1
  simp at e0_1
  subst e0_1
  obtain ⟨cs1, rfl, hz1⟩ := okWide_struct Try.underlying28 (hval 1 28 v1 rfl rfl)
  obtain ⟨l1⟩ := cs1
  obtain ⟨c1_0, c1_1, c1_2, c1_3, c1_4, c1_5, c1_6, c1_7, c1_8, rfl⟩ := list9 l1 (hz1.trans (by kernel_rfl))
  obtain ⟨fu1, hf1⟩ := h1
  obtain ⟨xs1, m1, -, hx1, -, hn1, hg1⟩ := DataW.trod_struct Try.underlying28 hf1
  obtain ⟨y1_0, y1_1, y1_2, y1_3, y1_4, y1_5, y1_6, y1_7, y1_8, rfl⟩ := list9 xs1 hn1
  simp only [Prod.mk.injEq] at hx1
  obtain ⟨rfl, rfl⟩ := hx1
  have g1_0 : DataW.trod enc Try.prog W 0 (fun _ => true) true m1 3 (List.take (Try.prog.cellsOf 3) (List.drop 0 [c1_0, c1_1, c1_2, c1_3, c1_4, c1_5, c1_6, c1_7, c1_8])) = some y1_0 := hg1 0 _ rfl
  rw [show Try.prog.cellsOf 3 = 1 from by kernel_rfl] at g1_0
  replace g1_0 : DataW.trod enc Try.prog W 0 (fun _ => true) true m1 3 [c1_0] = some y1_0 := g1_0
  have g1_1 : DataW.trod enc Try.prog W 0 (fun _ => true) true m1 3 (List.take (Try.prog.cellsOf 3) (List.drop 1 [c1_0, c1_1, c1_2, c1_3, c1_4, c1_5, c1_6, c1_7, c1_8])) = some y1_1 := hg1 1 _ rfl
  rw [show Try.prog.cellsOf 3 = 1 from by kernel_rfl] at g1_1
  replace g1_1 : DataW.trod enc Try.prog W 0 (fun _ => true) true m1 3 [c1_1] = some y1_1 := g1_1
  have g1_2 : DataW.trod enc Try.prog W 0 (fun _ => true) true m1 22 (List.take (Try.prog.cellsOf 22) (List.drop 2 [c1_0, c1_1, c1_2, c1_3, c1_4, c1_5, c1_6, c1_7, c1_8])) = some y1_2 := hg1 2 _ rfl
  rw [show Try.prog.cellsOf 22 = 1 from by kernel_rfl] at g1_2
  replace g1_2 : DataW.trod enc Try.prog W 0 (fun _ => true) true m1 22 [c1_2] = some y1_2 := g1_2
  have g1_3 : DataW.trod enc Try.prog W 0 (fun _ => true) true m1 3 (List.take (Try.prog.cellsOf 3) (List.drop 3 [c1_0, c1_1, c1_2, c1_3, c1_4, c1_5, c1_6, c1_7, c1_8])) = some y1_3 := hg1 3 _ rfl
  rw [show Try.prog.cellsOf 3 = 1 from by kernel_rfl] at g1_3
  replace g1_3 : DataW.trod enc Try.prog W 0 (fun _ => true) true m1 3 [c1_3] = some y1_3 := g1_3
  have g1_4 : DataW.trod enc Try.prog W 0 (fun _ => true) true m1 4 (List.take (Try.prog.cellsOf 4) (List.drop 4 [c1_0, c1_1, c1_2, c1_3, c1_4, c1_5, c1_6, c1_7, c1_8])) = some y1_4 := hg1 4 _ rfl
  rw [show Try.prog.cellsOf 4 = 1 from by kernel_rfl] at g1_4
  replace g1_4 : DataW.trod enc Try.prog W 0 (fun _ => true) true m1 4 [c1_4] = some y1_4 := g1_4
  have g1_5 : DataW.trod enc Try.prog W 0 (fun _ => true) true m1 3 (List.take (Try.prog.cellsOf 3) (List.drop 5 [c1_0, c1_1, c1_2, c1_3, c1_4, c1_5, c1_6, c1_7, c1_8])) = some y1_5 := hg1 5 _ rfl
  rw [show Try.prog.cellsOf 3 = 1 from by kernel_rfl] at g1_5
  replace g1_5 : DataW.trod enc Try.prog W 0 (fun _ => true) true m1 3 [c1_5] = some y1_5 := g1_5
  have g1_6 : DataW.trod enc Try.prog W 0 (fun _ => true) true m1 3 (List.take (Try.prog.cellsOf 3) (List.drop 6 [c1_0, c1_1, c1_2, c1_3, c1_4, c1_5, c1_6, c1_7, c1_8])) = some y1_6 := hg1 6 _ rfl
  rw [show Try.prog.cellsOf 3 = 1 from by kernel_rfl] at g1_6
  replace g1_6 : DataW.trod enc Try.prog W 0 (fun _ => true) true m1 3 [c1_6] = some y1_6 := g1_6
  have g1_7 : DataW.trod enc Try.prog W 0 (fun _ => true) true m1 25 (List.take (Try.prog.cellsOf 25) (List.drop 7 [c1_0, c1_1, c1_2, c1_3, c1_4, c1_5, c1_6, c1_7, c1_8])) = some y1_7 := hg1 7 _ rfl
  rw [show Try.prog.cellsOf 25 = 1 from by kernel_rfl] at g1_7
  replace g1_7 : DataW.trod enc Try.prog W 0 (fun _ => true) true m1 25 [c1_7] = some y1_7 := g1_7
  have g1_8 : DataW.trod enc Try.prog W 0 (fun _ => true) true m1 26 (List.take (Try.prog.cellsOf 26) (List.drop 8 [c1_0, c1_1, c1_2, c1_3, c1_4, c1_5, c1_6, c1_7, c1_8])) = some y1_8 := hg1 8 _ rfl
  rw [show Try.prog.cellsOf 26 = 1 from by kernel_rfl] at g1_8
  replace g1_8 : DataW.trod enc Try.prog W 0 (fun _ => true) true m1 26 [c1_8] = some y1_8 := g1_8
  clear hg1
  obtain ⟨a1_0, e1_0, rfl, w1_0⟩ := DataW.trod_int Try.underlying3 g1_0
  simp at e1_0
  subst e1_0
  obtain ⟨a1_1, e1_1, rfl, w1_1⟩ := DataW.trod_int Try.underlying3 g1_1
  simp at e1_1
  subst e1_1
  obtain ⟨a1_2, e1_2, rfl, w1_2⟩ := DataW.trod_string Try.underlying22 g1_2
  simp at e1_2
  subst e1_2
  obtain ⟨a1_3, e1_3, rfl, w1_3⟩ := DataW.trod_int Try.underlying3 g1_3
  simp at e1_3
  subst e1_3
  obtain ⟨a1_4, e1_4, rfl⟩ := DataW.trod_bool Try.underlying4 g1_4
  simp at e1_4
  subst e1_4
  obtain ⟨a1_5, e1_5, rfl, w1_5⟩ := DataW.trod_int Try.underlying3 g1_5
  simp at e1_5
  subst e1_5
  obtain ⟨a1_6, e1_6, rfl, w1_6⟩ := DataW.trod_int Try.underlying3 g1_6
  simp at e1_6
  subst e1_6
  obtain ⟨v1_7, L1_7, e1_7, hh1_7, qq1_7⟩ := addrs_open g1_7
  simp at e1_7
  subst e1_7
  obtain ⟨v1_8, L1_8, e1_8, hh1_8, qq1_8, ss1_8⟩ := recs_open g1_8
  simp at e1_8
  subst e1_8
  obtain ⟨a2, rfl, rfl, rfl, w2⟩ := open_int Try.underlying3 (hval 2 3 v2 rfl rfl) h2
  have za0_0 : a0_0.size ≤ 140737488351232 := by
    have h := List.all_eq_true.1 hsz _ (DataW.weights_mem_each (j := 0) (t := 24) rfl rfl a0_0.data.toList.length (by simp [DataW.weights, DataW.weightsEach, Try.underlying24]))
    simpa [reachBytes] using of_decide_eq_true h
  have za0_1 : a0_1.size ≤ 140737488351232 := by
    have h := List.all_eq_true.1 hsz _ (DataW.weights_mem_each (j := 0) (t := 24) rfl rfl a0_1.data.toList.length (by simp [DataW.weights, DataW.weightsEach, Try.underlying24]))
    simpa [reachBytes] using of_decide_eq_true h
  have ba1_0 := bounds_i64 w1_0
  have ba1_1 := bounds_i64 w1_1
  have za1_2 : a1_2.size ≤ 140737488351232 := by
    have h := List.all_eq_true.1 hsz _ (DataW.weights_mem_each (j := 1) (t := 28) rfl rfl a1_2.data.toList.length (by simp [DataW.weights, DataW.weightsEach, Try.underlying28]))
    simpa [reachBytes] using of_decide_eq_true h
  have ba1_3 := bounds_i64 w1_3
  have ba1_5 := bounds_i64 w1_5
  have ba1_6 := bounds_i64 w1_6
  have ba2 := bounds_i64 w2
  clear hA0 hval0
  refine (walk a0_0 a0_1 a1_0 a1_1 a1_2 a1_3 a1_4 a1_5 a1_6 c1_7 L1_7 c1_8 L1_8 a2 W za0_0 za0_1 ba1_0.1 ba1_0.2 ba1_1.1 ba1_1.2 za1_2 ba1_3.1 ba1_3.2 ba1_5.1 ba1_5.2 ba1_6.1 ba1_6.2 hh1_7 qq1_7 hh1_8 qq1_8 ss1_8 ba2.1 ba2.2).mono fun e W' ⟨he, bel⟩ => ?_
  subst he
  exact ⟨_, rfl, _, _, _, [], _, [], hW', trodAll_mk1 (shut_bool Try.underlying4 _), (trodAll_cons_mk (Below.trod laidOut (by kernel_rfl) (of_decide_eq_true (by kernel_rfl)) k0 bel lt0) (trodAll_cons_mk (Below.trod laidOut (by kernel_rfl) (of_decide_eq_true (by kernel_rfl)) k1 bel lt1) (trodAll_cons_mk (Below.trod laidOut (by kernel_rfl) (of_decide_eq_true (by kernel_rfl)) k2 bel lt2) trodAll_mk0))), rfl, bel.frame _, fun h => by cases h⟩

theorem over : Rows.mldShortRow.holds Try.pinned (OpenSpec.ofChange Rows.mldShortSpec) :=
  OpenClaim.holds_of_wide 5 Try.f5 rfl rfl rfl rfl rfl rfl rfl ⟨rfl, rfl, rfl, rfl, rfl⟩ rfl rfl rfl rfl rfl (by kernel_rfl) Try.func5 (by kernel_rfl)
    (of_decide_eq_true (by kernel_rfl)) (by unfold Func.isWrapper; first | (rw [if_pos (by decide +kernel)]; kernel_rfl) | (rw [if_neg (by decide +kernel)]; exact ⟨rfl, rfl⟩))
    (fun os started H enc _ => lifted os started H enc)

/-- The statement. -/
theorem proved : Rows.MldShortSaid := over
#print axioms proved
end Go.Proofs.Ytnfngmclomjimaa.mldShortLaw
