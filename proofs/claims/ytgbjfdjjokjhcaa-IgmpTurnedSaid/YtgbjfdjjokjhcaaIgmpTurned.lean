/-
  'siphonlaw08.IgmpTurned' returns true, whatever the input, and each argument reads behind the call as it read before. Conditions: none beyond those that the row itself states.
-/
import Derived.Test.YtgbjfdjjokjhcaaRows
import Derived.Test.YtgbjfdjjokjhcaaLive8
import Derived.Test.YtgbjfdjjokjhcaaIgZ
import Derived.Test.YtgbjfdjjokjhcaaTrod
import Derived.Test.YtgbjfdjjokjhcaaPsum
import Derived.WalkKit
import Derived.ProofKit
import Derived.OpenShut
import Derived.ShutString
import Derived.ChangeOld
import Derived.Below
import Derived.Carry
import Derived.SizedLaws
import Derived.Lib.SmallJoins
import Derived.ChangeArms
import Derived.WideShapes
namespace Go.Proofs.Ytgbjfdjjokjhcaa.igmpTurnedLaw
open Go.ChangeShapes Go.WideShapes Go.ChangeAt Go.RowKit Go.Joins
open Go.ChangeMaps (open_string shut_string)
set_option linter.unusedVariables false

theorem list9 {α : Type} (l : List α) (h : l.length = 9) : ∃ x0 x1 x2 x3 x4 x5 x6 x7 x8 : α, l = [x0, x1, x2, x3, x4, x5, x6, x7, x8] := by
  match l, h with
  | [x0, x1, x2, x3, x4, x5, x6, x7, x8], _ => exact ⟨x0, x1, x2, x3, x4, x5, x6, x7, x8, rfl⟩

/-- What the law is given: few or not. -/
def FewH (k v : Int) (g : ByteArray) (mx : Int) (q : Bool) (rob ev : Int) (vs vr : Value) (L : List Rec) (b : Bool) : Prop :=
  ∀ U, RecsAt U vr L → Calls Try.prog 6 #[.agg #[.int .i64 k, .int .i64 v, .string g, .int .i64 mx, .bool q, .int .i64 rob, .int .i64 ev, vs, vr]] U fun e w' => e = .returned (.bool b) ∧ Below U.heap.size U w'
/-- What Encode answers. -/
def EncH (k v : Int) (g : ByteArray) (mx : Int) (q : Bool) (rob ev : Int) (vs vr : Value) (ss : List ByteArray) (L : List Rec) (S : ByteArray) (c : Int) : Prop :=
  ∀ U, AddrsAt U vs ss → RecsAt U vr L → Calls Try.prog 9 #[.agg #[.int .i64 k, .int .i64 v, .string g, .int .i64 mx, .bool q, .int .i64 rob, .int .i64 ev, vs, vr]] U fun e w' => e = .returned (.tuple #[.string S, .int .i64 c]) ∧ Below U.heap.size U w'

set_option maxHeartbeats 1000000 in
set_option maxRecDepth 100000 in
theorem walk_live (k v : Int) (g : ByteArray) (mx : Int) (q : Bool) (rob ev : Int) (p7 : Option Addr) (n7 c7 : Nat) (p8 : Option Addr) (n8 c8 : Nat) (L : List Rec) (w : World) (HF : Hid (FewH k v g mx q rob ev (.slice p7 n7 c7) (.slice p8 n8 c8) L false)) (HA : Hid (RecsAt w (.slice p8 n8 c8) L)) (a1 : Int) :
    Calls Try.prog 5 #[.agg #[.int .i64 k, .int .i64 v, .string g, .int .i64 mx, .bool q, .int .i64 rob, .int .i64 ev, .slice p7 n7 c7, .slice p8 n8 c8], .int .i64 a1] w fun e w' => e = .returned (.bool true) ∧ Below w.heap.size w w' := by
  unfold FewH at HF
  have HL := Lib.hid fun U => live8_c U
  have B0 := Lib.hid (Box.start w #[.int .i64 k, .int .i64 v, .string g, .int .i64 mx, .bool q, .int .i64 rob, .int .i64 ev, .slice p7 n7 c7, .slice p8 n8 c8] 26)
  have A1 := HA.out.below B0.out.2
  go_enter Try.func5, Try.ntmps5
  go_wp2_with fail
  ((with_reducible refine (HF.out _ A1).mono ?_); rintro e w1 ⟨rfl, h1⟩)
  have B := Lib.hid (B0.out.below h1)
  clear h1
  go_wp2_with fail
  ((with_reducible refine (HL.out _).mono ?_); rintro e w5 ⟨rfl, h5⟩)
  go_wp2_with fail
  go_ret
  exact ⟨rfl, (B.out.below h5).2⟩

set_option maxHeartbeats 1000000 in
set_option maxRecDepth 100000 in
theorem walk_no (k v : Int) (g : ByteArray) (mx : Int) (q : Bool) (rob ev : Int) (p7 : Option Addr) (n7 c7 : Nat) (p8 : Option Addr) (n8 c8 : Nat) (ss : List ByteArray) (L : List Rec) (w : World) (HF : Hid (FewH k v g mx q rob ev (.slice p7 n7 c7) (.slice p8 n8 c8) L true)) (HE : Hid (EncH k v g mx q rob ev (.slice p7 n7 c7) (.slice p8 n8 c8) ss L ⟨#[]⟩ 1)) (HS : Hid (AddrsAt w (.slice p7 n7 c7) ss)) (HA : Hid (RecsAt w (.slice p8 n8 c8) L)) (a1 : Int) :
    Calls Try.prog 5 #[.agg #[.int .i64 k, .int .i64 v, .string g, .int .i64 mx, .bool q, .int .i64 rob, .int .i64 ev, .slice p7 n7 c7, .slice p8 n8 c8], .int .i64 a1] w fun e w' => e = .returned (.bool true) ∧ Below w.heap.size w w' := by
  unfold FewH at HF
  unfold EncH at HE
  have HL := Lib.hid fun U => live8_c U
  have B0 := Lib.hid (Box.start w #[.int .i64 k, .int .i64 v, .string g, .int .i64 mx, .bool q, .int .i64 rob, .int .i64 ev, .slice p7 n7 c7, .slice p8 n8 c8] 26)
  have A1 := HA.out.below B0.out.2
  go_enter Try.func5, Try.ntmps5
  go_wp2_with fail
  ((with_reducible refine (HF.out _ A1).mono ?_); rintro e w1 ⟨rfl, h1⟩)
  have B := Lib.hid (B0.out.below h1)
  clear h1 A1
  have A2 := HA.out.below B.out.2
  have A3 := HS.out.below B.out.2
  have x0 := B.out.cell 0 rfl
  have x1 := B.out.cell 1 rfl
  have x2 := B.out.cell 2 rfl
  have x3 := B.out.cell 3 rfl
  have x4 := B.out.cell 4 rfl
  have x5 := B.out.cell 5 rfl
  have x6 := B.out.cell 6 rfl
  have x7 := B.out.cell 7 rfl
  have x8 := B.out.cell 8 rfl
  go_wp2_with fail
  ((with_reducible refine (HE.out _ A3 A2).mono ?_); rintro e w2 ⟨rfl, h2⟩)
  replace B := Lib.hid (B.out.below h2)
  clear h2 A2 A3 x0 x1 x2 x3 x4 x5 x6 x7 x8
  go_wp2_with fail
  ((with_reducible refine (HL.out _).mono ?_); rintro e w5 ⟨rfl, h5⟩)
  go_wp2_with fail
  go_ret
  exact ⟨rfl, (B.out.below h5).2⟩

set_option maxHeartbeats 2000000 in
set_option maxRecDepth 100000 in
theorem walk_yes (k0 v0 : Int) (g : ByteArray) (mx : Int) (q : Bool) (rob ev : Int) (ss : List ByteArray) (p7 : Option Addr) (c7 : Nat) (p8 : Option Addr) (c8 : Nat) (L : List Rec) (S : ByteArray) (a1 : Int) (w : World)
    (l1 : -9223372036854775808 ≤ a1) (u1 : a1 ≤ 9223372036854775807)
    (M b r p m : Nat) (hab : a1 = b ∨ a1 < 0 ∧ -(a1 + 1) = (b : Int)) (z8 : 8 ≤ S.size) (z9 : S.size ≤ 40000) (hM : (8 : Int) * (S.size : Int) = (M : Int))
    (hr : (b : Int) % (M : Int) = (r : Int)) (hp : (r : Int) / 8 = (p : Int)) (hm : (r : Int) % 8 = (m : Int)) (pn : p < S.size) (m8 : m < 8)
    (HF : Hid (FewH k0 v0 g mx q rob ev (.slice p7 ss.length c7) (.slice p8 L.length c8) L true)) (HE : Hid (EncH k0 v0 g mx q rob ev (.slice p7 ss.length c7) (.slice p8 L.length c8) ss L S 0)) (HS : Hid (AddrsAt w (.slice p7 ss.length c7) ss)) (HA : Hid (RecsAt w (.slice p8 L.length c8) L))
    (H3 : ∀ v : UInt8, v.toNat = (S.data.toList.getD p 0).toNat ^^^ 2 ^ m → ∀ U, Calls Try.prog 12 #[.string ⟨(S.data.toList.set p v).toArray⟩] U (MsgPost (4, zeroM) U)) :
    Calls Try.prog 5 #[.agg #[.int .i64 k0, .int .i64 v0, .string g, .int .i64 mx, .bool q, .int .i64 rob, .int .i64 ev, .slice p7 ss.length c7, .slice p8 L.length c8], .int .i64 a1] w fun e w' => e = .returned (.bool true) ∧ Below w.heap.size w w' := by
  unfold FewH at HF
  unfold EncH at HE
  have HL := Lib.hid fun U => live8_c U
  have B0 := Lib.hid (Box.start w #[.int .i64 k0, .int .i64 v0, .string g, .int .i64 mx, .bool q, .int .i64 rob, .int .i64 ev, .slice p7 ss.length c7, .slice p8 L.length c8] 26)
  have A1 := HA.out.below B0.out.2
  have t1 : (b : Int).tmod (M : Int) = (r : Int) := by rw [Int.tmod_eq_emod_of_nonneg (by omega), hr]
  have q4 : (p : Int) < (S.size : Int) := by omega
  have mz : (m : Int) < 8 := by omega
  have M1 : (64 : Int) ≤ (M : Int) := by omega
  have M2 : (M : Int) ≤ 320000 := by omega
  obtain ⟨q5, q6⟩ := ne_t (show (M : Int) ≠ 0 by omega)
  obtain ⟨q7, q8⟩ := ne_t (show (S.size : Int) ≠ 0 by omega)
  have zL : S.data.toList.length = S.size := vlen S
  have hpl : p < S.data.toList.length := by omega
  obtain ⟨x, hx⟩ : ∃ x, x = S.data.toList[p] := ⟨_, rfl⟩
  have hgd : S.data.toList.getD p 0 = x := by rw [getD_at _ _ _ hpl, hx]
  rw [hgd] at H3
  have hxl := x.toNat_lt
  have hm256 : 2 ^ m < 256 := Nat.lt_of_lt_of_le (Nat.pow_lt_pow_right (by omega) m8) (Nat.le_of_eq (by decide))
  have hvl : x.toNat ^^^ 2 ^ m < 256 := Nat.xor_lt_two_pow (n := 8) hxl hm256
  obtain ⟨v, hv⟩ : ∃ v : UInt8, v.toNat = x.toNat ^^^ 2 ^ m := ⟨UInt8.ofNat (x.toNat ^^^ 2 ^ m), by rw [UInt8.toNat_ofNat', Nat.mod_eq_of_lt hvl]⟩
  have hxor : bits BinOp.xor IntKind.u8 (x.toNat : Int) (2 ^ m % 256) = (v.toNat : Int) := by
    have e : ((2 : Int) ^ m % 256) = ((2 ^ m : Nat) : Int) := by
      rw [show ((2 : Int) ^ m) = ((2 ^ m : Nat) : Int) from by simp]
      exact Int.emod_eq_of_lt (Int.natCast_nonneg _) (by exact_mod_cast hm256)
    rw [e, u8_xor_nat _ _ hxl hm256, hv]
  have H4 := Lib.hid (H3 v hv)
  unfold MsgPost at H4
  simp only [Msg.val, zeroM] at H4
  have HX := Lib.hid hx
  have ZL := Lib.hid zL
  clear H3 hx hgd hv hvl hm256 zL
  rcases hab with rfl | ⟨ha, he⟩
  all_goals
    go_enter Try.func5, Try.ntmps5
    go_wp2_with fail
    ((with_reducible refine (HF.out _ A1).mono ?_); rintro e w1 ⟨rfl, h1⟩)
    have B := Lib.hid (B0.out.below h1)
    clear h1 A1
    have A2 := HA.out.below B.out.2
    have A3 := HS.out.below B.out.2
    have x0 := B.out.cell 0 rfl
    have x1 := B.out.cell 1 rfl
    have x2 := B.out.cell 2 rfl
    have x3 := B.out.cell 3 rfl
    have x4 := B.out.cell 4 rfl
    have x5 := B.out.cell 5 rfl
    have x6 := B.out.cell 6 rfl
    have x7 := B.out.cell 7 rfl
    have x8 := B.out.cell 8 rfl
    go_wp2_with fail
    ((with_reducible refine (HE.out _ A3 A2).mono ?_); rintro e w2 ⟨rfl, h2⟩)
    replace B := Lib.hid (B.out.below h2)
    clear h2 A2 A3 x0 x1 x2 x3 x4 x5 x6 x7 x8
    go_upto_region 8 with fail
    obtain ⟨cap, sp, hcv⟩ := bytes_new (P := Try.prog) w2 9 37 5 S Try.underlying9 Try.underlying37 Try.underlying5
    obtain ⟨N, hN⟩ : ∃ N, N = (S.data.toList ++ sp).length := ⟨_, rfl⟩
    have hNs : S.size ≤ N := by rw [hN, List.length_append, ZL.out]; omega
    rw [← hN] at hcv
    have hb0 := heap_new w2 (.cells (byteRow (S.data.toList ++ sp)) 5 (N, N + 1))
    have br := byteRow_at (S.data.toList ++ sp) p (by rw [← hN]; omega)
    rw [List.getElem_append_left hpl, ← HX.out] at br
    have c1 := cell_of_block hb0 br
    have f1 := free_below hb0 (j := p) (by omega)
    have hR := heap_store (j := p) (v := .int .u8 (v.toNat : Int)) hb0
    rw [byteRow_set, List.set_append_left _ _ hpl] at hR
    have HC := Lib.hid fun (U : World) (hU : U.heap[w2.heap.size]? = some (.cells (byteRow (S.data.toList.set p v ++ sp)) 5 (N, N + 1))) =>
      run_string_of_prefix (P := Try.prog) (cap := cap) 37 9 5 hU Try.underlying37 Try.underlying5 Try.underlying9 S.size (by rw [List.length_set, ZL.out])
    have HR := Lib.hid hR
    clear hN hR br hb0
    have kZ := Lib.hid B.out.2
    go_upto_region 11 with fail
    have hbl : Below w.heap.size w ((w2.alloc (.cells (byteRow (S.data.toList ++ sp)) 5 (N, N + 1))).setCell ⟨w2.heap.size, p, none⟩ (.int .u8 (v.toNat : Int))).drew :=
      ((kZ.out.alloc kZ.out.size _).setCell (p := ⟨w2.heap.size, p, none⟩) kZ.out.size _).drew
    have hR2 : ((w2.alloc (.cells (byteRow (S.data.toList ++ sp)) 5 (N, N + 1))).setCell ⟨w2.heap.size, p, none⟩ (.int .u8 (v.toNat : Int))).drew.heap[w2.heap.size]? = some (.cells (byteRow (S.data.toList.set p v ++ sp)) 5 (N, N + 1)) := HR.out
    generalize ((w2.alloc (.cells (byteRow (S.data.toList ++ sp)) 5 (N, N + 1))).setCell ⟨w2.heap.size, p, none⟩ (.int .u8 (v.toNat : Int))).drew = W2 at hbl hR2 ⊢
    have hc0 := HC.out W2 hR2
    clear c1 f1 hcv hxor
    go_wp2_with fail
    ((with_reducible refine (H4.out _).mono ?_); rintro e w3 ⟨vs2, vr2, rfl, hvs2, hvr2, h3⟩)
    obtain ⟨p3, c3, rfl⟩ := hvs2.slice
    obtain ⟨p4, c4, rfl⟩ := hvr2.slice
    clear hvs2 hvr2
    go_wp2_with fail
    ((with_reducible refine (HL.out _).mono ?_); rintro e w4 ⟨rfl, h4⟩)
    go_wp2_with fail
    go_ret
    exact ⟨rfl, below_then (below_then hbl h3) (vboxed h4)⟩

theorem turned_M (S : ByteArray) (h0 : sumN S.data.toList = 0) (p m : Nat) (hp : p < S.size) (m8 : m < 8) (h8 : 8 ≤ S.size) (v : UInt8) (hv : v.toNat = (S.data.toList.getD p 0).toNat ^^^ 2 ^ m) :
    decM ⟨(S.data.toList.set p v).toArray⟩ = (4, zeroM) := by
  have hl : p < S.data.toList.length := by rw [vlen]; omega
  rw [getD_at _ _ _ hl] at hv
  have ht := sumN_turn S.data.toList p m hl m8 v hv
  rw [h0] at ht
  have zT : (⟨(S.data.toList.set p v).toArray⟩ : ByteArray).size = S.size := by rw [ByteArray.size_mk', List.size_toArray, List.length_set, vlen]
  unfold decM
  rw [zT, if_neg (by omega), if_pos]
  intro g
  exact ht (by rw [show (⟨(S.data.toList.set p v).toArray⟩ : ByteArray).data.toList = S.data.toList.set p v from rfl] at g; rw [g])

theorem walk (a0_0 : Int) (a0_1 : Int) (a0_2 : ByteArray) (a0_3 : Int) (a0_4 : Bool) (a0_5 : Int) (a0_6 : Int) (a0_7 : Value) (la0_7 : List ByteArray) (a0_8 : Value) (la0_8 : List Rec) (a1 : Int) (w : World) (la0_0 : -9223372036854775808 ≤ a0_0) (ua0_0 : a0_0 ≤ 9223372036854775807) (la0_1 : -9223372036854775808 ≤ a0_1) (ua0_1 : a0_1 ≤ 9223372036854775807) (za0_2 : a0_2.size ≤ 140737488351232) (la0_3 : -9223372036854775808 ≤ a0_3) (ua0_3 : a0_3 ≤ 9223372036854775807) (la0_5 : -9223372036854775808 ≤ a0_5) (ua0_5 : a0_5 ≤ 9223372036854775807) (la0_6 : -9223372036854775808 ≤ a0_6) (ua0_6 : a0_6 ≤ 9223372036854775807) (ha0_7 : AddrsAt w a0_7 la0_7) (qa0_7 : la0_7.length ≤ maxLen) (ha0_8 : RecsAt w a0_8 la0_8) (qa0_8 : la0_8.length ≤ maxLen) (sa0_8 : ∀ r ∈ la0_8, r.srcs.length ≤ maxLen) (la1 : -9223372036854775808 ≤ a1) (ua1 : a1 ≤ 9223372036854775807) :
    Calls Try.prog 5 #[.agg #[.int .i64 a0_0, .int .i64 a0_1, .string a0_2, .int .i64 a0_3, .bool a0_4, .int .i64 a0_5, .int .i64 a0_6, a0_7, a0_8], .int .i64 a1] w fun e w' => e = .returned (.bool true) ∧ Below w.heap.size w w' := by
  unfold maxLen at qa0_7 qa0_8 sa0_8
  obtain ⟨p7, c7, rfl⟩ := ha0_7.slice
  have HF : FewH a0_0 a0_1 a0_2 a0_3 a0_4 a0_5 a0_6 (.slice p7 la0_7.length c7) a0_8 la0_8 (fewB la0_7.length la0_8) := fun U h => few_c a0_0 a0_1 a0_2 a0_3 a0_4 a0_5 a0_6 p7 la0_7.length c7 a0_8 la0_8 U qa0_8 h
  obtain ⟨p8, c8, rfl⟩ := ha0_8.slice
  rcases hfb : fewB la0_7.length la0_8 with _ | _
  · rw [hfb] at HF
    exact walk_live _ _ _ _ _ _ _ p7 _ c7 p8 _ c8 la0_8 w (Lib.hid HF) (Lib.hid ha0_8) a1
  · rw [hfb] at HF
    obtain ⟨m, hm⟩ : ∃ m : Msg, m = ⟨a0_0, a0_1, a0_2, a0_3, a0_4, a0_5, a0_6, la0_7, la0_8⟩ := ⟨_, rfl⟩
    have HE : ∀ S c, encM m = (S, c) → EncH a0_0 a0_1 a0_2 a0_3 a0_4 a0_5 a0_6 (.slice p7 la0_7.length c7) (.slice p8 la0_8.length c8) la0_7 la0_8 S c := fun S c hc U h1 h2 => by
      have := ienc_c m (.slice p7 la0_7.length c7) (.slice p8 la0_8.length c8) U (by rw [hm]; omega) (by rw [hm]; omega) (by rw [hm]; omega) (by rw [hm]; omega) (by rw [hm]; exact sa0_8) (by rw [hm]; exact h1) (by rw [hm]; exact h2)
      rw [hc, hm] at this
      exact this
    rcases hmb : mayM m with _ | _
    · exact walk_no _ _ _ _ _ _ _ p7 _ c7 p8 _ c8 la0_7 la0_8 w (Lib.hid HF) (Lib.hid (HE _ _ (encM_no m hmb))) (Lib.hid ha0_7) (Lib.hid ha0_8) a1
    · obtain ⟨S, e1, z8, z9, h0, hd⟩ := back_M m hmb
      obtain ⟨b, hb⟩ : ∃ b : Nat, a1 = b ∨ a1 < 0 ∧ -(a1 + 1) = (b : Int) := by
        by_cases c : a1 < 0
        · exact ⟨(-(a1 + 1)).toNat, .inr ⟨c, by omega⟩⟩
        · exact ⟨a1.toNat, .inl (by omega)⟩
      have hr : b % (8 * S.size) < 8 * S.size := Nat.mod_lt _ (by omega)
      refine walk_yes _ _ _ _ _ _ _ la0_7 p7 c7 p8 c8 la0_8 S a1 w la1 ua1 (8 * S.size) b (b % (8 * S.size)) (b % (8 * S.size) / 8) (b % (8 * S.size) % 8) hb z8 z9 (by omega) (by omega) rfl rfl (Nat.div_lt_of_lt_mul hr) (Nat.mod_lt _ (by omega))
        (Lib.hid HF) (Lib.hid (HE _ _ e1)) (Lib.hid ha0_7) (Lib.hid ha0_8) fun v hv U => ?_
      have := decode_c ⟨(S.data.toList.set (b % (8 * S.size) / 8) v).toArray⟩ U (by rw [ByteArray.size_mk', List.size_toArray, List.length_set, vlen]; omega)
      rw [turned_M S h0 _ _ (Nat.div_lt_of_lt_mul hr) (Nat.mod_lt _ (by omega)) z8 v hv] at this
      exact this

theorem own : ownKnob Try.prog.godebug = none := by kernel_rfl
theorem laidOut : laidOutB Try.prog = true := by kernel_rfl

set_option maxHeartbeats 1000000 in
set_option maxRecDepth 100000 in
theorem lifted (os : Os) (started : os.Started) (H : Type) (enc : TypeId × Value → H) :
    ReturnsInHanded {} Try.checked os 5 .any (Rows.igmpTurnedSpec.pre6 enc Try.prog Try.f5 Rows.igmpTurnedRow.domain false) (Rows.igmpTurnedSpec.post enc Try.prog Try.f5 false true false false) := by
  refine returnsInHanded_of_change_sized (C := Try.checked) own started (by kernel_rfl) Try.func5
    (ChangeSpec.witness6 (enc := enc) (C := Try.checked) false ⟨#[], #[.agg #[.int .i64 0, .int .i64 0, .string ByteArray.empty, .int .i64 0, .bool false, .int .i64 0, .int .i64 0, .slice none 0 0, .slice none 0 0], .int .i64 0], []⟩ 8 (by kernel_rfl) (by kernel_rfl) (by kernel_rfl) (by kernel_rfl)) ?_
  intro W base args ds gs before hval0 hW hcnd hsz0 hholds
  have hval : ∀ (j : Nat) t v, Try.f5.params[j]? = some t → args[j]? = some v → Value.okWide Try.prog W .any base t v := hval0
  have hsz : (DataW.weightsEach Try.prog (Try.f5.params.toList ++ Rows.igmpTurnedSpec.plain.varTypes Try.prog) (ds ++ gs)).all (· ≤ reachBytes) = true := hsz0
  have hW' := hW
  obtain ⟨p, q, hA0, hV, rfl, hfz, hnd⟩ := hW
  have hA : DataW.TrodAll enc Try.prog W 0 (fun _ => true) true Try.f5.params.toList args.toList ds p := hA0
  rw [Try.params5] at hA hval hsz
  obtain ⟨v0, vs0, d0, ds0, p0, q0, hargs, rfl, rfl, h0, r0⟩ := trodAll_cons hA
  obtain ⟨v1, vs1, d1, ds1, p1, q1, rfl, rfl, rfl, h1, r1⟩ := trodAll_cons r0
  obtain ⟨rfl, rfl, rfl⟩ := trodAll_nil r1
  obtain rfl : args = #[v0, v1] := by cases args; simp_all
  obtain ⟨rfl, rfl⟩ := trodVars_none hV
  have k0 := h0
  have lt0 : ∀ x ∈ p0, x.block < W.heap.size := by obtain ⟨m, hm⟩ := k0; exact DataW.trod_lt m _ _ _ hm
  have k1 := h1
  have lt1 : ∀ x ∈ p1, x.block < W.heap.size := by obtain ⟨m, hm⟩ := k1; exact DataW.trod_lt m _ _ _ hm
  obtain ⟨cs0, rfl, hz0⟩ := okWide_struct Try.underlying26 (hval 0 26 v0 rfl rfl)
  obtain ⟨l0⟩ := cs0
  obtain ⟨c0_0, c0_1, c0_2, c0_3, c0_4, c0_5, c0_6, c0_7, c0_8, rfl⟩ := list9 l0 (hz0.trans (by kernel_rfl))
  obtain ⟨fu0, hf0⟩ := h0
  obtain ⟨xs0, m0, -, hx0, -, hn0, hg0⟩ := DataW.trod_struct Try.underlying26 hf0
  obtain ⟨y0_0, y0_1, y0_2, y0_3, y0_4, y0_5, y0_6, y0_7, y0_8, rfl⟩ := list9 xs0 hn0
  simp only [Prod.mk.injEq] at hx0
  obtain ⟨rfl, rfl⟩ := hx0
  have g0_0 : DataW.trod enc Try.prog W 0 (fun _ => true) true m0 3 (List.take (Try.prog.cellsOf 3) (List.drop 0 [c0_0, c0_1, c0_2, c0_3, c0_4, c0_5, c0_6, c0_7, c0_8])) = some y0_0 := hg0 0 _ rfl
  rw [show Try.prog.cellsOf 3 = 1 from by kernel_rfl] at g0_0
  replace g0_0 : DataW.trod enc Try.prog W 0 (fun _ => true) true m0 3 [c0_0] = some y0_0 := g0_0
  have g0_1 : DataW.trod enc Try.prog W 0 (fun _ => true) true m0 3 (List.take (Try.prog.cellsOf 3) (List.drop 1 [c0_0, c0_1, c0_2, c0_3, c0_4, c0_5, c0_6, c0_7, c0_8])) = some y0_1 := hg0 1 _ rfl
  rw [show Try.prog.cellsOf 3 = 1 from by kernel_rfl] at g0_1
  replace g0_1 : DataW.trod enc Try.prog W 0 (fun _ => true) true m0 3 [c0_1] = some y0_1 := g0_1
  have g0_2 : DataW.trod enc Try.prog W 0 (fun _ => true) true m0 22 (List.take (Try.prog.cellsOf 22) (List.drop 2 [c0_0, c0_1, c0_2, c0_3, c0_4, c0_5, c0_6, c0_7, c0_8])) = some y0_2 := hg0 2 _ rfl
  rw [show Try.prog.cellsOf 22 = 1 from by kernel_rfl] at g0_2
  replace g0_2 : DataW.trod enc Try.prog W 0 (fun _ => true) true m0 22 [c0_2] = some y0_2 := g0_2
  have g0_3 : DataW.trod enc Try.prog W 0 (fun _ => true) true m0 3 (List.take (Try.prog.cellsOf 3) (List.drop 3 [c0_0, c0_1, c0_2, c0_3, c0_4, c0_5, c0_6, c0_7, c0_8])) = some y0_3 := hg0 3 _ rfl
  rw [show Try.prog.cellsOf 3 = 1 from by kernel_rfl] at g0_3
  replace g0_3 : DataW.trod enc Try.prog W 0 (fun _ => true) true m0 3 [c0_3] = some y0_3 := g0_3
  have g0_4 : DataW.trod enc Try.prog W 0 (fun _ => true) true m0 4 (List.take (Try.prog.cellsOf 4) (List.drop 4 [c0_0, c0_1, c0_2, c0_3, c0_4, c0_5, c0_6, c0_7, c0_8])) = some y0_4 := hg0 4 _ rfl
  rw [show Try.prog.cellsOf 4 = 1 from by kernel_rfl] at g0_4
  replace g0_4 : DataW.trod enc Try.prog W 0 (fun _ => true) true m0 4 [c0_4] = some y0_4 := g0_4
  have g0_5 : DataW.trod enc Try.prog W 0 (fun _ => true) true m0 3 (List.take (Try.prog.cellsOf 3) (List.drop 5 [c0_0, c0_1, c0_2, c0_3, c0_4, c0_5, c0_6, c0_7, c0_8])) = some y0_5 := hg0 5 _ rfl
  rw [show Try.prog.cellsOf 3 = 1 from by kernel_rfl] at g0_5
  replace g0_5 : DataW.trod enc Try.prog W 0 (fun _ => true) true m0 3 [c0_5] = some y0_5 := g0_5
  have g0_6 : DataW.trod enc Try.prog W 0 (fun _ => true) true m0 3 (List.take (Try.prog.cellsOf 3) (List.drop 6 [c0_0, c0_1, c0_2, c0_3, c0_4, c0_5, c0_6, c0_7, c0_8])) = some y0_6 := hg0 6 _ rfl
  rw [show Try.prog.cellsOf 3 = 1 from by kernel_rfl] at g0_6
  replace g0_6 : DataW.trod enc Try.prog W 0 (fun _ => true) true m0 3 [c0_6] = some y0_6 := g0_6
  have g0_7 : DataW.trod enc Try.prog W 0 (fun _ => true) true m0 23 (List.take (Try.prog.cellsOf 23) (List.drop 7 [c0_0, c0_1, c0_2, c0_3, c0_4, c0_5, c0_6, c0_7, c0_8])) = some y0_7 := hg0 7 _ rfl
  rw [show Try.prog.cellsOf 23 = 1 from by kernel_rfl] at g0_7
  replace g0_7 : DataW.trod enc Try.prog W 0 (fun _ => true) true m0 23 [c0_7] = some y0_7 := g0_7
  have g0_8 : DataW.trod enc Try.prog W 0 (fun _ => true) true m0 24 (List.take (Try.prog.cellsOf 24) (List.drop 8 [c0_0, c0_1, c0_2, c0_3, c0_4, c0_5, c0_6, c0_7, c0_8])) = some y0_8 := hg0 8 _ rfl
  rw [show Try.prog.cellsOf 24 = 1 from by kernel_rfl] at g0_8
  replace g0_8 : DataW.trod enc Try.prog W 0 (fun _ => true) true m0 24 [c0_8] = some y0_8 := g0_8
  clear hg0
  obtain ⟨a0_0, e0_0, rfl, w0_0⟩ := DataW.trod_int Try.underlying3 g0_0
  simp at e0_0
  subst e0_0
  obtain ⟨a0_1, e0_1, rfl, w0_1⟩ := DataW.trod_int Try.underlying3 g0_1
  simp at e0_1
  subst e0_1
  obtain ⟨a0_2, e0_2, rfl, w0_2⟩ := DataW.trod_string Try.underlying22 g0_2
  simp at e0_2
  subst e0_2
  obtain ⟨a0_3, e0_3, rfl, w0_3⟩ := DataW.trod_int Try.underlying3 g0_3
  simp at e0_3
  subst e0_3
  obtain ⟨a0_4, e0_4, rfl⟩ := DataW.trod_bool Try.underlying4 g0_4
  simp at e0_4
  subst e0_4
  obtain ⟨a0_5, e0_5, rfl, w0_5⟩ := DataW.trod_int Try.underlying3 g0_5
  simp at e0_5
  subst e0_5
  obtain ⟨a0_6, e0_6, rfl, w0_6⟩ := DataW.trod_int Try.underlying3 g0_6
  simp at e0_6
  subst e0_6
  obtain ⟨v0_7, L0_7, e0_7, hh0_7, qq0_7⟩ := addrs_open g0_7
  simp at e0_7
  subst e0_7
  obtain ⟨v0_8, L0_8, e0_8, hh0_8, qq0_8, ss0_8⟩ := recs_open g0_8
  simp at e0_8
  subst e0_8
  obtain ⟨a1, rfl, rfl, rfl, w1⟩ := open_int Try.underlying3 (hval 1 3 v1 rfl rfl) h1
  have ba0_0 := bounds_i64 w0_0
  have ba0_1 := bounds_i64 w0_1
  have za0_2 : a0_2.size ≤ 140737488351232 := by
    have h := List.all_eq_true.1 hsz _ (DataW.weights_mem_each (j := 0) (t := 26) rfl rfl a0_2.data.toList.length (by simp [DataW.weights, DataW.weightsEach, Try.underlying26]))
    simpa [reachBytes] using of_decide_eq_true h
  have ba0_3 := bounds_i64 w0_3
  have ba0_5 := bounds_i64 w0_5
  have ba0_6 := bounds_i64 w0_6
  have ba1 := bounds_i64 w1
  clear hA0 hval0
  refine (walk a0_0 a0_1 a0_2 a0_3 a0_4 a0_5 a0_6 c0_7 L0_7 c0_8 L0_8 a1 W ba0_0.1 ba0_0.2 ba0_1.1 ba0_1.2 za0_2 ba0_3.1 ba0_3.2 ba0_5.1 ba0_5.2 ba0_6.1 ba0_6.2 hh0_7 qq0_7 hh0_8 qq0_8 ss0_8 ba1.1 ba1.2).mono fun e W' ⟨he, bel⟩ => ?_
  subst he
  exact ⟨_, rfl, _, _, _, [], _, [], hW', trodAll_mk1 (shut_bool Try.underlying4 _), (trodAll_cons_mk (Below.trod laidOut (by kernel_rfl) (of_decide_eq_true (by kernel_rfl)) k0 bel lt0) (trodAll_cons_mk (Below.trod laidOut (by kernel_rfl) (of_decide_eq_true (by kernel_rfl)) k1 bel lt1) trodAll_mk0)), rfl, bel.frame _, fun h => by cases h⟩

theorem over : Rows.igmpTurnedRow.holds Try.pinned (OpenSpec.ofChange Rows.igmpTurnedSpec) :=
  OpenClaim.holds_of_wide 5 Try.f5 rfl rfl rfl rfl rfl rfl rfl ⟨rfl, rfl, rfl, rfl, rfl⟩ rfl rfl rfl rfl rfl (by kernel_rfl) Try.func5 (by kernel_rfl)
    (of_decide_eq_true (by kernel_rfl)) (by unfold Func.isWrapper; first | (rw [if_pos (by decide +kernel)]; kernel_rfl) | (rw [if_neg (by decide +kernel)]; exact ⟨rfl, rfl⟩))
    (fun os started H enc _ => lifted os started H enc)

/-- The statement. -/
theorem proved : Rows.IgmpTurnedSaid := over
#print axioms proved
end Go.Proofs.Ytgbjfdjjokjhcaa.igmpTurnedLaw
