/-
  'siphonlaw09.MldTurned' returns true, whatever the input, and each argument reads behind the call as it read before. Conditions: none beyond those that the row itself states.
-/
import Derived.Test.YtnfngmclomjimaaRows
import Derived.Test.YtnfngmclomjimaaLive9
import Derived.Test.YtnfngmclomjimaaMdM
import Derived.Test.YtnfngmclomjimaaPsum
import Derived.Test.YtnfngmclomjimaaTrod
import Derived.Test.YtnfngmclomjimaaRegW
import Derived.WalkKit
import Derived.ProofKit
import Derived.OpenShut
import Derived.ShutString
import Derived.ChangeOld
import Derived.Below
import Derived.Carry
import Derived.SizedLaws
import Derived.Lib.SmallJoins
import Derived.ChangeArms
import Derived.Deep.RegionHeld3
import Derived.WideShapes
namespace Go.Proofs.Ytnfngmclomjimaa.mldTurnedLaw
open Go.ChangeShapes Go.WideShapes Go.ChangeAt Go.RowKit Go.Joins
open Go.ChangeMaps (open_string shut_string)
set_option linter.unusedVariables false

theorem list2 {α : Type} (l : List α) (h : l.length = 2) : ∃ x0 x1 : α, l = [x0, x1] := by
  match l, h with
  | [x0, x1], _ => exact ⟨x0, x1, rfl⟩

theorem list9 {α : Type} (l : List α) (h : l.length = 9) : ∃ x0 x1 x2 x3 x4 x5 x6 x7 x8 : α, l = [x0, x1, x2, x3, x4, x5, x6, x7, x8] := by
  match l, h with
  | [x0, x1, x2, x3, x4, x5, x6, x7, x8], _ => exact ⟨x0, x1, x2, x3, x4, x5, x6, x7, x8, rfl⟩

/-- What the law is given: few or not. -/
def FewH (k v : Int) (g : ByteArray) (mx : Int) (q : Bool) (rob ev : Int) (vs vr : Value) (L : List Rec) (b : Bool) : Prop :=
  ∀ U, RecsAt U vr L → Calls Try.prog 6 #[.agg #[.int .i64 k, .int .i64 v, .string g, .int .i64 mx, .bool q, .int .i64 rob, .int .i64 ev, vs, vr]] U fun e w' => e = .returned (.bool b) ∧ Below U.heap.size U w'
/-- What Encode answers. -/
def EncH (src dst : ByteArray) (k v : Int) (g : ByteArray) (mx : Int) (q : Bool) (rob ev : Int) (vs vr : Value) (ss : List ByteArray) (L : List Rec) (S : ByteArray) (c : Int) : Prop :=
  ∀ U, AddrsAt U vs ss → RecsAt U vr L → Calls Try.prog 8 #[.string src, .string dst, .agg #[.int .i64 k, .int .i64 v, .string g, .int .i64 mx, .bool q, .int .i64 rob, .int .i64 ev, vs, vr]] U fun e w' => e = .returned (.tuple #[.string S, .int .i64 c]) ∧ Below U.heap.size U w'

theorem below_then {w W w5 : World} (h : Below w.heap.size w W) (h5 : Below W.heap.size W w5) : Below w.heap.size w w5 := h.trans (h5.mono h.size)

theorem k_alloc {W w : World} (h : Below W.heap.size W w) (o : Obj) : Below W.heap.size W (w.alloc o) := h.alloc h.size o
theorem k_call {W w w' : World} (h : Below W.heap.size W w) (k : Below w.heap.size w w') : Below W.heap.size W w' := h.trans (k.mono h.size)
theorem k_nine {W w : World} {c : Nat} (h : Below W.heap.size W w) (hc : W.heap.size ≤ c) (v0 v1 v2 v3 v4 v5 v6 v7 v8 : Value) :
    Below W.heap.size W (((((((((w.setCell ⟨c, 0, none⟩ v0).setCell ⟨c, 1, none⟩ v1).setCell ⟨c, 2, none⟩ v2).setCell ⟨c, 3, none⟩ v3).setCell ⟨c, 4, none⟩ v4).setCell ⟨c, 5, none⟩ v5).setCell ⟨c, 6, none⟩ v6).setCell ⟨c, 7, none⟩ v7).setCell ⟨c, 8, none⟩ v8) :=
  ((((((((h.setCell (p := ⟨c, 0, none⟩) hc _).setCell (p := ⟨c, 1, none⟩) hc _).setCell (p := ⟨c, 2, none⟩) hc _).setCell (p := ⟨c, 3, none⟩) hc _).setCell (p := ⟨c, 4, none⟩) hc _).setCell (p := ⟨c, 5, none⟩) hc _).setCell (p := ⟨c, 6, none⟩) hc _).setCell (p := ⟨c, 7, none⟩) hc _).setCell (p := ⟨c, 8, none⟩) hc _

theorem turned_D (src dst S : ByteArray) (s1 : src.size = 16) (s2 : dst.size = 16) (z8 : 8 ≤ S.size) (z9 : S.size ≤ 40000) (h0 : sumN ((aheadI src dst S.size).1 ++ S).data.toList = 0) (la lb : List UInt8) (p m : Nat) (hp : p < (src.data.toList ++ S.data.toList).length) (m8 : m < 8) (v : UInt8) (hv : v.toNat = (src.data.toList ++ S.data.toList)[p].toNat ^^^ 2 ^ m)
    (hl : (src.data.toList ++ S.data.toList).set p v = la ++ lb) (ha : la.length = 16) :
    decD ⟨la.toArray⟩ dst ⟨lb.toArray⟩ = (4, zeroM) := by
  have e16 := vlen src
  have eS := vlen S
  have hlen := congrArg List.length hl
  rw [List.length_set, List.length_append, List.length_append] at hlen
  have zl : (⟨la.toArray⟩ : ByteArray).size = 16 := by rw [ByteArray.size_mk', List.size_toArray, ha]
  have zb : (⟨lb.toArray⟩ : ByteArray).size = S.size := by rw [ByteArray.size_mk', List.size_toArray]; omega
  obtain ⟨M, hM⟩ : ∃ M : List UInt8, M = dst.data.toList ++ bytesOf S.size 4 ++ [0, 0, 0] ++ bytesOf 58 1 := ⟨_, rfl⟩
  have hMl : M.length = 24 := by
    rw [hM]
    have := vlen dst
    simp only [List.length_append, bytesOf_length, List.length_cons, List.length_nil]
    omega
  have t1 : ((aheadI src dst S.size).1 ++ S).data.toList = src.data.toList ++ M ++ S.data.toList := by
    rw [ahead_is s1 s2 (by omega) (by omega), hM]
    simp [ByteArray.data_append]
  have t2 : ((aheadI ⟨la.toArray⟩ dst S.size).1 ++ ⟨lb.toArray⟩).data.toList = la ++ M ++ lb := by
    rw [ahead_is zl s2 (by omega) (by omega), hM]
    simp [ByteArray.data_append]
  have key : ∃ k, ∃ hk : k < (src.data.toList ++ M ++ S.data.toList).length, la ++ M ++ lb = (src.data.toList ++ M ++ S.data.toList).set k v ∧ (src.data.toList ++ M ++ S.data.toList)[k] = (src.data.toList ++ S.data.toList)[p] := by
    by_cases hp16 : p < 16
    · have h1 : (src.data.toList ++ S.data.toList).set p v = src.data.toList.set p v ++ S.data.toList := List.set_append_left _ _ (by omega)
      rw [h1] at hl
      obtain ⟨e1, e2⟩ := List.append_inj hl (by rw [List.length_set]; omega)
      refine ⟨p, by simp only [List.length_append]; omega, ?_, ?_⟩
      · rw [← e1, ← e2, List.append_assoc, List.append_assoc, List.set_append_left _ _ (by omega)]
      · rw [List.getElem_append_left (by simp only [List.length_append]; omega), List.getElem_append_left (by omega), List.getElem_append_left (by omega)]
    · have h1 : (src.data.toList ++ S.data.toList).set p v = src.data.toList ++ S.data.toList.set (p - src.data.toList.length) v := List.set_append_right _ _ (by omega)
      rw [h1] at hl
      obtain ⟨e1, e2⟩ := List.append_inj hl (by omega)
      rw [List.length_append] at hp
      refine ⟨p + 24, by simp only [List.length_append]; omega, ?_, ?_⟩
      · rw [← e1, ← e2, List.set_append_right _ _ (by simp only [List.length_append]; omega)]
        congr 2
        simp only [List.length_append]
        omega
      · rw [List.getElem_append_right (by simp only [List.length_append]; omega), List.getElem_append_right (by omega)]
        congr 1
        simp only [List.length_append]
        omega
  obtain ⟨k, hk, k1, k2⟩ := key
  have ht := sumN_turn (src.data.toList ++ M ++ S.data.toList) k m hk m8 v (by rw [k2]; exact hv)
  rw [t1] at h0
  rw [h0, ← k1] at ht
  unfold decD
  rw [zb, if_neg (by rw [ahead_yes zl s2 (by omega) (by omega)]; simp), if_neg (by omega), if_pos]
  rw [t2]
  intro g
  exact ht (by rw [g])

/-- '[]byte(s)', with its room. -/
theorem bytes_newc {P : Program} (w : World) (src dst e : TypeId) (s : ByteArray) (hs : P.underlying src = some .string) (hd : P.underlying dst = some (.slice e)) (he : P.underlying e = some (.int .u8)) :
    ∃ (cap : Nat) (sp : List UInt8), s.size ≤ cap ∧ (convert src dst (.string s)).run P w = .ok (.slice (some ⟨w.heap.size, 0, none⟩) s.size cap)
      (w.drew.alloc (.cells (byteRow (s.data.toList ++ sp)) e ((s.data.toList ++ sp).length, (s.data.toList ++ sp).length + 1))) := by
  refine ⟨grownCap w s.size 0 e, List.replicate (grownCap w s.size 0 e - s.size) 0, grownCap_ge w s.size 0 e, ?_⟩
  have hb : bytesRow s (grownCap w s.size 0 e) = byteRow (s.data.toList ++ List.replicate (grownCap w s.size 0 e - s.size) 0) := by
    unfold bytesRow byteRow
    apply Array.ext'
    simp
  have h := run_bytes_of_string (P := P) w src dst e s hs hd he
  rw [hb, byteRow_size] at h
  exact h

/-- 'string(b[k:])' of a block. -/
theorem run_string_of_rest {P : Program} {w : World} {b cap k : Nat} {la lb sp : List UInt8} {t : TypeId} {f : Nat × Nat} (src dst e : TypeId) (h : w.heap[b]? = some (.cells (byteRow (la ++ lb ++ sp)) t f))
    (hs : P.underlying src = some (.slice e)) (he : P.underlying e = some (.int .u8)) (hd : P.underlying dst = some .string) (hk : la.length = k) (n : Nat) (hn : n = lb.length) :
    (convert src dst (.slice (some ⟨b, k, none⟩) n cap)).run P w = .ok (.string ⟨lb.toArray⟩) w := by
  subst hn
  refine run_convert_bytes_back w src dst e _ cap lb hs he hd fun j hj => ?_
  have : (⟨b, k, none⟩ : Addr).add j = ⟨b, k + j, none⟩ := by unfold Addr.add; split <;> simp_all
  rw [this]
  refine cell_of_block h ?_
  rw [byteRow_at _ (k + j) (by rw [List.length_append, List.length_append]; omega), List.getElem_append_left (by rw [List.length_append]; omega), List.getElem_append_right (by omega)]
  simp only [hk, Nat.add_sub_cancel_left]

set_option maxHeartbeats 8000000 in
set_option maxRecDepth 100000 in
theorem walk_live (src dst : ByteArray) (k v : Int) (g : ByteArray) (mx : Int) (q : Bool) (rob ev : Int) (p7 : Option Addr) (n7 c7 : Nat) (p8 : Option Addr) (n8 c8 : Nat) (L : List Rec) (w : World) (HF : Hid (FewH k v g mx q rob ev (.slice p7 n7 c7) (.slice p8 n8 c8) L false)) (HA : Hid (RecsAt w (.slice p8 n8 c8) L)) (a2 : Int) :
    Calls Try.prog 4 #[.agg #[.string src, .string dst], .agg #[.int .i64 k, .int .i64 v, .string g, .int .i64 mx, .bool q, .int .i64 rob, .int .i64 ev, .slice p7 n7 c7, .slice p8 n8 c8], .int .i64 a2] w fun e w' => e = .returned (.bool true) ∧ Below w.heap.size w w' := by
  unfold FewH at HF
  have HL := Lib.hid fun U => live9_c U
  have B0 := Lib.hid (B2.start w #[.string src, .string dst] #[.int .i64 k, .int .i64 v, .string g, .int .i64 mx, .bool q, .int .i64 rob, .int .i64 ev, .slice p7 n7 c7, .slice p8 n8 c8])
  have A1 := HA.out.below B0.out.2.2
  go_enter Try.func4, Try.ntmps4
  go_wp2_with fail
  ((with_reducible refine (HF.out _ A1).mono ?_); rintro e w1 ⟨rfl, h1⟩)
  have B := Lib.hid (B0.out.below h1)
  clear h1
  go_wp2_with fail
  ((with_reducible refine (HL.out _).mono ?_); rintro e w5 ⟨rfl, h5⟩)
  go_wp2_with fail
  go_ret
  exact ⟨rfl, (B.out.below h5).2.2⟩

set_option maxHeartbeats 8000000 in
set_option maxRecDepth 100000 in
theorem walk_no (src dst : ByteArray) (k v : Int) (g : ByteArray) (mx : Int) (q : Bool) (rob ev : Int) (p7 : Option Addr) (n7 c7 : Nat) (p8 : Option Addr) (n8 c8 : Nat) (ss : List ByteArray) (L : List Rec) (w : World) (HF : Hid (FewH k v g mx q rob ev (.slice p7 n7 c7) (.slice p8 n8 c8) L true)) (HE : Hid (EncH src dst k v g mx q rob ev (.slice p7 n7 c7) (.slice p8 n8 c8) ss L ⟨#[]⟩ 1)) (HS : Hid (AddrsAt w (.slice p7 n7 c7) ss)) (HA : Hid (RecsAt w (.slice p8 n8 c8) L)) (a2 : Int) :
    Calls Try.prog 4 #[.agg #[.string src, .string dst], .agg #[.int .i64 k, .int .i64 v, .string g, .int .i64 mx, .bool q, .int .i64 rob, .int .i64 ev, .slice p7 n7 c7, .slice p8 n8 c8], .int .i64 a2] w fun e w' => e = .returned (.bool true) ∧ Below w.heap.size w w' := by
  unfold FewH at HF
  unfold EncH at HE
  have HL := Lib.hid fun U => live9_c U
  have B0 := Lib.hid (B2.start w #[.string src, .string dst] #[.int .i64 k, .int .i64 v, .string g, .int .i64 mx, .bool q, .int .i64 rob, .int .i64 ev, .slice p7 n7 c7, .slice p8 n8 c8])
  have A1 := HA.out.below B0.out.2.2
  go_enter Try.func4, Try.ntmps4
  go_wp2_with fail
  ((with_reducible refine (HF.out _ A1).mono ?_); rintro e w1 ⟨rfl, h1⟩)
  have B := Lib.hid (B0.out.below h1)
  clear h1 A1
  have A2 := HA.out.below B.out.2.2
  have A3 := HS.out.below B.out.2.2
  have x0 := B.out.x 0 rfl
  have x1 := B.out.x 1 rfl
  have y0 := B.out.y 0 rfl
  have y1 := B.out.y 1 rfl
  have y2 := B.out.y 2 rfl
  have y3 := B.out.y 3 rfl
  have y4 := B.out.y 4 rfl
  have y5 := B.out.y 5 rfl
  have y6 := B.out.y 6 rfl
  have y7 := B.out.y 7 rfl
  have y8 := B.out.y 8 rfl
  go_wp2_with fail
  ((with_reducible refine (HE.out _ A3 A2).mono ?_); rintro e w2 ⟨rfl, h2⟩)
  replace B := Lib.hid (B.out.below h2)
  clear h2 A2 A3 x0 x1 y0 y1 y2 y3 y4 y5 y6 y7 y8
  go_wp2_with fail
  ((with_reducible refine (HL.out _).mono ?_); rintro e w5 ⟨rfl, h5⟩)
  go_wp2_with fail
  go_ret
  exact ⟨rfl, (B.out.below h5).2.2⟩

set_option maxHeartbeats 8000000 in
set_option maxRecDepth 100000 in
theorem walk_yes (src dst : ByteArray) (k v : Int) (g : ByteArray) (mx : Int) (q : Bool) (rob ev : Int) (ss : List ByteArray) (p7 : Option Addr) (c7 : Nat) (p8 : Option Addr) (c8 : Nat) (L : List Rec) (S : ByteArray) (a2 : Int) (w : World)
    (l1 : -9223372036854775808 ≤ a2) (u1 : a2 ≤ 9223372036854775807)
    (M b r p m : Nat) (hab : a2 = b ∨ a2 < 0 ∧ -(a2 + 1) = (b : Int)) (s1 : src.size = 16) (z8 : 8 ≤ S.size) (z9 : S.size ≤ 40000) (hM : (8 : Int) * (16 + (S.size : Int)) = (M : Int))
    (hr : (b : Int) % (M : Int) = (r : Int)) (hp : (r : Int) / 8 = (p : Int)) (hm : (r : Int) % 8 = (m : Int)) (pn : p < 16 + S.size) (m8 : m < 8) (hpl' : p < (src.data.toList ++ S.data.toList).length)
    (HF : Hid (FewH k v g mx q rob ev (.slice p7 ss.length c7) (.slice p8 L.length c8) L true)) (HE : Hid (EncH src dst k v g mx q rob ev (.slice p7 ss.length c7) (.slice p8 L.length c8) ss L S 0)) (HS : Hid (AddrsAt w (.slice p7 ss.length c7) ss)) (HA : Hid (RecsAt w (.slice p8 L.length c8) L))
    (H3 : ∀ (la lb : List UInt8) (v0 : UInt8) (p m : Nat) (hp : p < (src.data.toList ++ S.data.toList).length), m < 8 → v0.toNat = (src.data.toList ++ S.data.toList)[p].toNat ^^^ 2 ^ m → (src.data.toList ++ S.data.toList).set p v0 = la ++ lb → la.length = 16 → ∀ U, Calls Try.prog 9 #[.string ⟨la.toArray⟩, .string dst, .string ⟨lb.toArray⟩] U (MsgPost (4, zeroM) U)) :
    Calls Try.prog 4 #[.agg #[.string src, .string dst], .agg #[.int .i64 k, .int .i64 v, .string g, .int .i64 mx, .bool q, .int .i64 rob, .int .i64 ev, .slice p7 ss.length c7, .slice p8 L.length c8], .int .i64 a2] w fun e w' => e = .returned (.bool true) ∧ Below w.heap.size w w' := by
  unfold FewH at HF
  unfold EncH at HE
  have HL := Lib.hid fun U => live9_c U
  have B0 := Lib.hid (B2.start w #[.string src, .string dst] #[.int .i64 k, .int .i64 v, .string g, .int .i64 mx, .bool q, .int .i64 rob, .int .i64 ev, .slice p7 ss.length c7, .slice p8 L.length c8])
  have A1 := HA.out.below B0.out.2.2
  have t1 : (b : Int).tmod (M : Int) = (r : Int) := by rw [Int.tmod_eq_emod_of_nonneg (by omega), hr]
  have mz : (m : Int) < 8 := by omega
  have M1 : (64 : Int) ≤ (M : Int) := by omega
  have M2 : (M : Int) ≤ 400000 := by omega
  obtain ⟨q5, q6⟩ := ne_t (show (M : Int) ≠ 0 by omega)
  obtain ⟨q7, q8⟩ := ne_t (show (S.size : Int) ≠ 0 by omega)
  have hn0 : ¬ (9223372036854775807 < src.size + S.size) := by omega
  obtain ⟨T, hT⟩ : ∃ T, src ++ S = T := ⟨_, rfl⟩
  have hTl : T.data.toList = src.data.toList ++ S.data.toList := by rw [← hT]; simp [ByteArray.data_append]
  have hTz : T.size = 16 + S.size := by rw [← hT, ByteArray.size_append, s1]
  have q4 : (p : Int) < (T.size : Int) := by omega
  have q9 : (16 : Int) ≤ (T.size : Int) := by omega
  have hM' : (8 : Int) * (T.size : Int) = (M : Int) := by omega
  have zL : T.data.toList.length = T.size := vlen T
  have hpl : p < T.data.toList.length := by omega
  obtain ⟨x, hx⟩ : ∃ x, x = T.data.toList[p] := ⟨_, rfl⟩
  have hxs : (src.data.toList ++ S.data.toList)[p]'hpl' = x := by rw [hx]; simp only [hTl]
  have hxl := x.toNat_lt
  have hm256 : 2 ^ m < 256 := Nat.lt_of_lt_of_le (Nat.pow_lt_pow_right (by omega) m8) (Nat.le_of_eq (by decide))
  have hvl : x.toNat ^^^ 2 ^ m < 256 := Nat.xor_lt_two_pow (n := 8) hxl hm256
  obtain ⟨v0, hv⟩ : ∃ v : UInt8, v.toNat = x.toNat ^^^ 2 ^ m := ⟨UInt8.ofNat (x.toNat ^^^ 2 ^ m), by rw [UInt8.toNat_ofNat', Nat.mod_eq_of_lt hvl]⟩
  have hxor : bits BinOp.xor IntKind.u8 (x.toNat : Int) (2 ^ m % 256) = (v0.toNat : Int) := by
    have e : ((2 : Int) ^ m % 256) = ((2 ^ m : Nat) : Int) := by
      rw [show ((2 : Int) ^ m) = ((2 ^ m : Nat) : Int) from by simp]
      exact Int.emod_eq_of_lt (Int.natCast_nonneg _) (by exact_mod_cast hm256)
    rw [e, u8_xor_nat _ _ hxl hm256, hv]
  obtain ⟨la, hla⟩ : ∃ la, la = (T.data.toList.set p v0).take 16 := ⟨_, rfl⟩
  obtain ⟨lb, hlb⟩ : ∃ lb, lb = (T.data.toList.set p v0).drop 16 := ⟨_, rfl⟩
  have hab' : T.data.toList.set p v0 = la ++ lb := by rw [hla, hlb, List.take_append_drop]
  have hla16 : la.length = 16 := by rw [hla, List.length_take, List.length_set]; omega
  have hlbz : lb.length = S.size := by rw [hlb, List.length_drop, List.length_set, zL]; omega
  have H4 := Lib.hid (H3 la lb v0 p m hpl' m8 (by rw [hxs]; exact hv) (by rw [← hTl]; exact hab') hla16)
  unfold MsgPost at H4
  simp only [Msg.val, zeroM] at H4
  have HX := Lib.hid hx
  have ZL := Lib.hid zL
  have HAB := Lib.hid hab'
  have HLA := Lib.hid hla16
  have HLB := Lib.hid hlbz
  clear H3 hx hxs hv hvl hm256 zL hla hlb hab' hla16 hlbz hTl
  rcases hab with rfl | ⟨ha, he⟩
  all_goals
    go_enter Try.func4, Try.ntmps4
    go_wp2_with fail
    ((with_reducible refine (HF.out _ A1).mono ?_); rintro e w1 ⟨rfl, h1⟩)
    have B := Lib.hid (B0.out.below h1)
    clear h1 A1
    have A2 := HA.out.below B.out.2.2
    have A3 := HS.out.below B.out.2.2
    have x0 := B.out.x 0 rfl
    have x1 := B.out.x 1 rfl
    have y0 := B.out.y 0 rfl
    have y1 := B.out.y 1 rfl
    have y2 := B.out.y 2 rfl
    have y3 := B.out.y 3 rfl
    have y4 := B.out.y 4 rfl
    have y5 := B.out.y 5 rfl
    have y6 := B.out.y 6 rfl
    have y7 := B.out.y 7 rfl
    have y8 := B.out.y 8 rfl
    go_wp2_with fail
    ((with_reducible refine (HE.out _ A3 A2).mono ?_); rintro e w2 ⟨rfl, h2⟩)
    replace B := Lib.hid (B.out.below h2)
    clear h2 A2 A3 x0 x1 y0 y1 y2 y3 y4 y5 y6 y7 y8
    have x0 := B.out.x 0 rfl
    go_upto_region 8 with fail
    obtain ⟨cap, sp, hcap, hcv⟩ := bytes_newc (P := Try.prog) w2 9 38 5 T Try.underlying9 Try.underlying38 Try.underlying5
    obtain ⟨N, hN⟩ : ∃ N, N = (T.data.toList ++ sp).length := ⟨_, rfl⟩
    have hNs : T.size ≤ N := by rw [hN, List.length_append, ZL.out]; omega
    rw [← hN] at hcv
    have hb0 := heap_new w2 (.cells (byteRow (T.data.toList ++ sp)) 5 (N, N + 1))
    have br := byteRow_at (T.data.toList ++ sp) p (by rw [← hN]; omega)
    rw [List.getElem_append_left hpl, ← HX.out] at br
    have c1 := cell_of_block hb0 br
    have f1 := free_below hb0 (j := p) (by omega)
    have hR := heap_store (j := p) (v := .int .u8 (v0.toNat : Int)) hb0
    rw [byteRow_set, List.set_append_left _ _ hpl, HAB.out] at hR
    have HR := Lib.hid hR
    have k0 : ¬ cap = 0 := by omega
    have k16 : ¬ cap = 16 := by omega
    have kc : (16 : Int) ≤ (cap : Int) := by omega
    have HC1 := Lib.hid fun (U : World) (hU : U.heap[w2.heap.size]? = some (.cells (byteRow (la ++ lb ++ sp)) 5 (N, N + 1))) =>
      run_string_of_prefix (P := Try.prog) (cap := cap) (l := la) (sp := lb ++ sp) 38 22 5 (by rw [← List.append_assoc]; exact hU) Try.underlying38 Try.underlying5 Try.underlying22 16 HLA.out.symm
    have HC2 := Lib.hid fun (U : World) (hU : U.heap[w2.heap.size]? = some (.cells (byteRow (la ++ lb ++ sp)) 5 (N, N + 1))) =>
      run_string_of_rest (P := Try.prog) (cap := cap - 16) (k := 16) 38 9 5 hU Try.underlying38 Try.underlying5 Try.underlying9 HLA.out S.size HLB.out.symm
    have q10 := Lib.hid (show (16 : Int) ≤ 16 + (S.size : Int) by omega)
    have q11 := Lib.hid (show (16 : Int) + (S.size : Int) ≤ (cap : Int) by omega)
    have q12 := Lib.hid (show 16 + S.size ≤ cap by omega)
    clear hN hR br hb0 hcap
    have kZ := Lib.hid (show B2 w #[.string src, .string dst] #[.int .i64 k, .int .i64 v, .string g, .int .i64 mx, .bool q, .int .i64 rob, .int .i64 ev, .slice p7 ss.length c7, .slice p8 L.length c8] w2 from B.out)
    go_upto_region 11 with fail
    have hbl : Below w2.heap.size w2 ((w2.alloc (.cells (byteRow (T.data.toList ++ sp)) 5 (N, N + 1))).setCell ⟨w2.heap.size, p, none⟩ (.int .u8 (v0.toNat : Int))).drew :=
      (((Below.refl _ w2).alloc (Nat.le_refl _) _).setCell (p := ⟨w2.heap.size, p, none⟩) (Nat.le_refl _) _).drew
    have hR2 : ((w2.alloc (.cells (byteRow (T.data.toList ++ sp)) 5 (N, N + 1))).setCell ⟨w2.heap.size, p, none⟩ (.int .u8 (v0.toNat : Int))).drew.heap[w2.heap.size]? = some (.cells (byteRow (la ++ lb ++ sp)) 5 (N, N + 1)) := HR.out
    replace B := Lib.hid (kZ.out.below hbl)
    generalize ((w2.alloc (.cells (byteRow (T.data.toList ++ sp)) 5 (N, N + 1))).setCell ⟨w2.heap.size, p, none⟩ (.int .u8 (v0.toNat : Int))).drew = W2 at B hR2 ⊢
    clear c1 f1 hcv hxor hbl x0 HR kZ
    have KD := Lib.hid fun (U : World) (k : Below W2.heap.size W2 U) => B.out.2.2.trans (k.mono B.out.2.2.size)
    have KF := Lib.hid fun (U : World) (k : Below W2.heap.size W2 U) =>
      (⟨(B.out.below k).x 1 rfl, HC1.out U (below_block k (lt_of_block hR2) hR2), HC2.out U (below_block k (lt_of_block hR2) hR2), k⟩ : U.cell? ⟨w.heap.size, 1, none⟩ = some (.string dst) ∧ (convert 38 22 (.slice (some ⟨w2.heap.size, 0, none⟩) 16 cap)).run Try.prog U = .ok (.string ⟨la.toArray⟩) U ∧ (convert 38 9 (.slice (some ⟨w2.heap.size, 16, none⟩) S.size (cap - 16))).run Try.prog U = .ok (.string ⟨lb.toArray⟩) U ∧ Below W2.heap.size W2 U)
    have k0' := Below.refl W2.heap.size W2
    have kl0 : W2.heap.size ≤ W2.heap.size := Nat.le_refl _
    have kl1 : W2.heap.size ≤ W2.drew.heap.size := Nat.le_refl _
    obtain ⟨x1, x2, x3, -⟩ := KF.out W2 k0'
    clear hR2 B
    have p10 := q10.out
    have p11 := q11.out
    have p12 := q12.out
    go_region_held3 (fun U => U.cell? ⟨w.heap.size, 1, none⟩ = some (.string dst) ∧ (convert 38 22 (.slice (some ⟨w2.heap.size, 0, none⟩) 16 cap)).run Try.prog U = .ok (.string ⟨la.toArray⟩) U ∧ (convert 38 9 (.slice (some ⟨w2.heap.size, 16, none⟩) S.size (cap - 16))).run Try.prog U = .ok (.string ⟨lb.toArray⟩) U ∧ Below W2.heap.size W2 U)
      (first
        | with_reducible exact KF.out _ (k_nine k4 kl0 _ _ _ _ _ _ _ _ _)
        | with_reducible exact KF.out _ (k_alloc k4 _)
        | with_reducible exact KF.out _ k4
        | with_reducible exact KF.out _ (k_alloc k0'.drew _)
        | with_reducible exact KF.out _ (k_alloc k0' _).drew
        | with_reducible exact KF.out _ (k_alloc k0' _)
        | with_reducible exact KF.out _ k0'.drew
        | with_reducible exact KF.out _ k0')
      (first
        | (go_at_call 9; (with_reducible refine (H4.out _).mono ?_); rintro e w3 ⟨vs2, vr2, rfl, hvs2, hvr2, h4⟩; obtain ⟨p3, c3, rfl⟩ := hvs2.slice; obtain ⟨p4, c4, rfl⟩ := hvr2.slice; clear hvs2 hvr2; obtain ⟨hc4, hf4⟩ := below_cells h4; have k4 : Below W2.heap.size W2 w3 := (by first | with_reducible exact k_call k0' h4 | with_reducible exact k_call k0'.drew h4 | with_reducible exact k_call (k_alloc k0' _) h4 | with_reducible exact k_call (k_alloc k0' _).drew h4 | with_reducible exact k_call (k_alloc k0'.drew _) h4)))
    all_goals
      go_wp2_with fail
      ((with_reducible refine (HL.out _).mono ?_); rintro e w5 ⟨rfl, h5⟩)
      go_wp2_with fail
      go_ret
      refine ⟨rfl, below_then ?_ h5⟩
      first
        | with_reducible exact KD.out _ (k_nine k4 kl0 _ _ _ _ _ _ _ _ _)
        | with_reducible exact KD.out _ (k_alloc k4 _)
        | with_reducible exact KD.out _ (k_nine k4 kl0 _ _ _ _ _ _ _ _ _).drew
        | with_reducible exact KD.out _ (k_alloc k4 _).drew

theorem walk (a0_0 : ByteArray) (a0_1 : ByteArray) (a1_0 : Int) (a1_1 : Int) (a1_2 : ByteArray) (a1_3 : Int) (a1_4 : Bool) (a1_5 : Int) (a1_6 : Int) (a1_7 : Value) (la1_7 : List ByteArray) (a1_8 : Value) (la1_8 : List Rec) (a2 : Int) (w : World) (za0_0 : a0_0.size ≤ 140737488351232) (za0_1 : a0_1.size ≤ 140737488351232) (la1_0 : -9223372036854775808 ≤ a1_0) (ua1_0 : a1_0 ≤ 9223372036854775807) (la1_1 : -9223372036854775808 ≤ a1_1) (ua1_1 : a1_1 ≤ 9223372036854775807) (za1_2 : a1_2.size ≤ 140737488351232) (la1_3 : -9223372036854775808 ≤ a1_3) (ua1_3 : a1_3 ≤ 9223372036854775807) (la1_5 : -9223372036854775808 ≤ a1_5) (ua1_5 : a1_5 ≤ 9223372036854775807) (la1_6 : -9223372036854775808 ≤ a1_6) (ua1_6 : a1_6 ≤ 9223372036854775807) (ha1_7 : AddrsAt w a1_7 la1_7) (qa1_7 : la1_7.length ≤ maxLen) (ha1_8 : RecsAt w a1_8 la1_8) (qa1_8 : la1_8.length ≤ maxLen) (sa1_8 : ∀ r ∈ la1_8, r.srcs.length ≤ maxLen) (la2 : -9223372036854775808 ≤ a2) (ua2 : a2 ≤ 9223372036854775807) :
    Calls Try.prog 4 #[.agg #[.string a0_0, .string a0_1], .agg #[.int .i64 a1_0, .int .i64 a1_1, .string a1_2, .int .i64 a1_3, .bool a1_4, .int .i64 a1_5, .int .i64 a1_6, a1_7, a1_8], .int .i64 a2] w fun e w' => e = .returned (.bool true) ∧ Below w.heap.size w w' := by
  unfold maxLen at qa1_7 qa1_8 sa1_8
  obtain ⟨p7, c7, rfl⟩ := ha1_7.slice
  have HF : FewH a1_0 a1_1 a1_2 a1_3 a1_4 a1_5 a1_6 (.slice p7 la1_7.length c7) a1_8 la1_8 (few9B la1_7.length la1_8) := fun U h => few9_c a1_0 a1_1 a1_2 a1_3 a1_4 a1_5 a1_6 p7 la1_7.length c7 a1_8 la1_8 U qa1_8 h
  obtain ⟨p8, c8, rfl⟩ := ha1_8.slice
  rcases hfb : few9B la1_7.length la1_8 with _ | _
  · rw [hfb] at HF
    exact walk_live _ _ _ _ _ _ _ _ _ p7 _ c7 p8 _ c8 la1_8 w (Lib.hid HF) (Lib.hid ha1_8) a2
  · rw [hfb] at HF
    obtain ⟨f1, f2⟩ := few9_le hfb
    obtain ⟨m, hm⟩ : ∃ m : Msg, m = ⟨a1_0, a1_1, a1_2, a1_3, a1_4, a1_5, a1_6, la1_7, la1_8⟩ := ⟨_, rfl⟩
    have HE : ∀ S c, encD a0_0 a0_1 m = (S, c) → EncH a0_0 a0_1 a1_0 a1_1 a1_2 a1_3 a1_4 a1_5 a1_6 (.slice p7 la1_7.length c7) (.slice p8 la1_8.length c8) la1_7 la1_8 S c := fun S c hc U h1 h2 => by
      have := menc_c a0_0 a0_1 m (.slice p7 la1_7.length c7) (.slice p8 la1_8.length c8) U (by rw [hm]; simp only; omega) (by rw [hm]; simp only; omega) (by rw [hm]; exact sa1_8) (by rw [hm]; exact h1) (by rw [hm]; exact h2) (by rw [hm]; omega) (by rw [hm]; omega) (by rw [hm]; omega) (by rw [hm]; omega) (by rw [hm]; omega)
      rw [hc, hm] at this
      exact this
    by_cases hok : mayD m = true ∧ (aheadI a0_0 a0_1 (msgD m).length).2 = 0
    · obtain ⟨S, e1, zS, z8, z9, h0, hd⟩ := back_D a0_0 a0_1 m hok.1 hok.2
      obtain ⟨s1, s2, -, -⟩ := ahead_ok hok.2
      obtain ⟨b, hb⟩ : ∃ b : Nat, a2 = b ∨ a2 < 0 ∧ -(a2 + 1) = (b : Int) := by
        by_cases c : a2 < 0
        · exact ⟨(-(a2 + 1)).toNat, .inr ⟨c, by omega⟩⟩
        · exact ⟨a2.toNat, .inl (by omega)⟩
      have hr : b % (8 * (16 + S.size)) < 8 * (16 + S.size) := Nat.mod_lt _ (by omega)
      have hpd := Nat.div_lt_of_lt_mul hr
      have e1' := vlen a0_0
      have e2' := vlen S
      refine walk_yes _ _ _ _ _ _ _ _ _ la1_7 p7 c7 p8 c8 la1_8 S a2 w la2 ua2 (8 * (16 + S.size)) b (b % (8 * (16 + S.size))) (b % (8 * (16 + S.size)) / 8) (b % (8 * (16 + S.size)) % 8) hb s1 z8 z9 (by omega) (by omega) rfl rfl hpd (Nat.mod_lt _ (by omega)) (by rw [List.length_append]; omega)
        (Lib.hid HF) (Lib.hid (HE _ _ e1)) (Lib.hid ha1_7) (Lib.hid ha1_8) fun la lb v0 p m hp m8 hv hl hla U => ?_
      have hlb := congrArg List.length hl
      rw [List.length_set, List.length_append, List.length_append] at hlb
      have := mdec_c ⟨la.toArray⟩ a0_1 ⟨lb.toArray⟩ U (by rw [ByteArray.size_mk', List.size_toArray]; omega)
      rw [turned_D a0_0 a0_1 S s1 s2 z8 z9 h0 la lb p m hp m8 v0 hv hl hla] at this
      exact this
    · exact walk_no _ _ _ _ _ _ _ _ _ p7 _ c7 p8 _ c8 la1_7 la1_8 w (Lib.hid HF) (Lib.hid (HE _ _ (encD_no _ _ _ hok))) (Lib.hid ha1_7) (Lib.hid ha1_8) a2

theorem own : ownKnob Try.prog.godebug = none := by kernel_rfl
theorem laidOut : laidOutB Try.prog = true := by kernel_rfl

set_option maxHeartbeats 1000000 in
set_option maxRecDepth 100000 in
theorem lifted (os : Os) (started : os.Started) (H : Type) (enc : TypeId × Value → H) :
    ReturnsInHanded {} Try.checked os 4 .any (Rows.mldTurnedSpec.pre6 enc Try.prog Try.f4 Rows.mldTurnedRow.domain false) (Rows.mldTurnedSpec.post enc Try.prog Try.f4 false true false false) := by
  refine returnsInHanded_of_change_sized (C := Try.checked) own started (by kernel_rfl) Try.func4
    (ChangeSpec.witness6 (enc := enc) (C := Try.checked) false ⟨#[], #[.agg #[.string ByteArray.empty, .string ByteArray.empty], .agg #[.int .i64 0, .int .i64 0, .string ByteArray.empty, .int .i64 0, .bool false, .int .i64 0, .int .i64 0, .slice none 0 0, .slice none 0 0], .int .i64 0], []⟩ 8 (by kernel_rfl) (by kernel_rfl) (by kernel_rfl) (by kernel_rfl)) ?_
  intro W base args ds gs before hval0 hW hcnd hsz0 hholds
  have hval : ∀ (j : Nat) t v, Try.f4.params[j]? = some t → args[j]? = some v → Value.okWide Try.prog W .any base t v := hval0
  have hsz : (DataW.weightsEach Try.prog (Try.f4.params.toList ++ Rows.mldTurnedSpec.plain.varTypes Try.prog) (ds ++ gs)).all (· ≤ reachBytes) = true := hsz0
  have hW' := hW
  obtain ⟨p, q, hA0, hV, rfl, hfz, hnd⟩ := hW
  have hA : DataW.TrodAll enc Try.prog W 0 (fun _ => true) true Try.f4.params.toList args.toList ds p := hA0
  rw [Try.params4] at hA hval hsz
  obtain ⟨v0, vs0, d0, ds0, p0, q0, hargs, rfl, rfl, h0, r0⟩ := trodAll_cons hA
  obtain ⟨v1, vs1, d1, ds1, p1, q1, rfl, rfl, rfl, h1, r1⟩ := trodAll_cons r0
  obtain ⟨v2, vs2, d2, ds2, p2, q2, rfl, rfl, rfl, h2, r2⟩ := trodAll_cons r1
  obtain ⟨rfl, rfl, rfl⟩ := trodAll_nil r2
  obtain rfl : args = #[v0, v1, v2] := by cases args; simp_all
  obtain ⟨rfl, rfl⟩ := trodVars_none hV
  have k0 := h0
  have lt0 : ∀ x ∈ p0, x.block < W.heap.size := by obtain ⟨m, hm⟩ := k0; exact DataW.trod_lt m _ _ _ hm
  have k1 := h1
  have lt1 : ∀ x ∈ p1, x.block < W.heap.size := by obtain ⟨m, hm⟩ := k1; exact DataW.trod_lt m _ _ _ hm
  have k2 := h2
  have lt2 : ∀ x ∈ p2, x.block < W.heap.size := by obtain ⟨m, hm⟩ := k2; exact DataW.trod_lt m _ _ _ hm
  obtain ⟨cs0, rfl, hz0⟩ := okWide_struct Try.underlying24 (hval 0 24 v0 rfl rfl)
  obtain ⟨l0⟩ := cs0
  obtain ⟨c0_0, c0_1, rfl⟩ := list2 l0 (hz0.trans (by kernel_rfl))
  obtain ⟨fu0, hf0⟩ := h0
  obtain ⟨xs0, m0, -, hx0, -, hn0, hg0⟩ := DataW.trod_struct Try.underlying24 hf0
  obtain ⟨y0_0, y0_1, rfl⟩ := list2 xs0 hn0
  simp only [Prod.mk.injEq] at hx0
  obtain ⟨rfl, rfl⟩ := hx0
  have g0_0 : DataW.trod enc Try.prog W 0 (fun _ => true) true m0 22 (List.take (Try.prog.cellsOf 22) (List.drop 0 [c0_0, c0_1])) = some y0_0 := hg0 0 _ rfl
  rw [show Try.prog.cellsOf 22 = 1 from by kernel_rfl] at g0_0
  replace g0_0 : DataW.trod enc Try.prog W 0 (fun _ => true) true m0 22 [c0_0] = some y0_0 := g0_0
  have g0_1 : DataW.trod enc Try.prog W 0 (fun _ => true) true m0 22 (List.take (Try.prog.cellsOf 22) (List.drop 1 [c0_0, c0_1])) = some y0_1 := hg0 1 _ rfl
  rw [show Try.prog.cellsOf 22 = 1 from by kernel_rfl] at g0_1
  replace g0_1 : DataW.trod enc Try.prog W 0 (fun _ => true) true m0 22 [c0_1] = some y0_1 := g0_1
  clear hg0
  obtain ⟨a0_0, e0_0, rfl, w0_0⟩ := DataW.trod_string Try.underlying22 g0_0
  simp at e0_0
  subst e0_0
  obtain ⟨a0_1, e0_1, rfl, w0_1⟩ := DataW.trod_string Try.underlying22 g0_1
  simp at e0_1
  subst e0_1
  obtain ⟨cs1, rfl, hz1⟩ := okWide_struct Try.underlying28 (hval 1 28 v1 rfl rfl)
  obtain ⟨l1⟩ := cs1
  obtain ⟨c1_0, c1_1, c1_2, c1_3, c1_4, c1_5, c1_6, c1_7, c1_8, rfl⟩ := list9 l1 (hz1.trans (by kernel_rfl))
  obtain ⟨fu1, hf1⟩ := h1
  obtain ⟨xs1, m1, -, hx1, -, hn1, hg1⟩ := DataW.trod_struct Try.underlying28 hf1
  obtain ⟨y1_0, y1_1, y1_2, y1_3, y1_4, y1_5, y1_6, y1_7, y1_8, rfl⟩ := list9 xs1 hn1
  simp only [Prod.mk.injEq] at hx1
  obtain ⟨rfl, rfl⟩ := hx1
  have g1_0 : DataW.trod enc Try.prog W 0 (fun _ => true) true m1 3 (List.take (Try.prog.cellsOf 3) (List.drop 0 [c1_0, c1_1, c1_2, c1_3, c1_4, c1_5, c1_6, c1_7, c1_8])) = some y1_0 := hg1 0 _ rfl
  rw [show Try.prog.cellsOf 3 = 1 from by kernel_rfl] at g1_0
  replace g1_0 : DataW.trod enc Try.prog W 0 (fun _ => true) true m1 3 [c1_0] = some y1_0 := g1_0
  have g1_1 : DataW.trod enc Try.prog W 0 (fun _ => true) true m1 3 (List.take (Try.prog.cellsOf 3) (List.drop 1 [c1_0, c1_1, c1_2, c1_3, c1_4, c1_5, c1_6, c1_7, c1_8])) = some y1_1 := hg1 1 _ rfl
  rw [show Try.prog.cellsOf 3 = 1 from by kernel_rfl] at g1_1
  replace g1_1 : DataW.trod enc Try.prog W 0 (fun _ => true) true m1 3 [c1_1] = some y1_1 := g1_1
  have g1_2 : DataW.trod enc Try.prog W 0 (fun _ => true) true m1 22 (List.take (Try.prog.cellsOf 22) (List.drop 2 [c1_0, c1_1, c1_2, c1_3, c1_4, c1_5, c1_6, c1_7, c1_8])) = some y1_2 := hg1 2 _ rfl
  rw [show Try.prog.cellsOf 22 = 1 from by kernel_rfl] at g1_2
  replace g1_2 : DataW.trod enc Try.prog W 0 (fun _ => true) true m1 22 [c1_2] = some y1_2 := g1_2
  have g1_3 : DataW.trod enc Try.prog W 0 (fun _ => true) true m1 3 (List.take (Try.prog.cellsOf 3) (List.drop 3 [c1_0, c1_1, c1_2, c1_3, c1_4, c1_5, c1_6, c1_7, c1_8])) = some y1_3 := hg1 3 _ rfl
  rw [show Try.prog.cellsOf 3 = 1 from by kernel_rfl] at g1_3
  replace g1_3 : DataW.trod enc Try.prog W 0 (fun _ => true) true m1 3 [c1_3] = some y1_3 := g1_3
  have g1_4 : DataW.trod enc Try.prog W 0 (fun _ => true) true m1 4 (List.take (Try.prog.cellsOf 4) (List.drop 4 [c1_0, c1_1, c1_2, c1_3, c1_4, c1_5, c1_6, c1_7, c1_8])) = some y1_4 := hg1 4 _ rfl
  rw [show Try.prog.cellsOf 4 = 1 from by kernel_rfl] at g1_4
  replace g1_4 : DataW.trod enc Try.prog W 0 (fun _ => true) true m1 4 [c1_4] = some y1_4 := g1_4
  have g1_5 : DataW.trod enc Try.prog W 0 (fun _ => true) true m1 3 (List.take (Try.prog.cellsOf 3) (List.drop 5 [c1_0, c1_1, c1_2, c1_3, c1_4, c1_5, c1_6, c1_7, c1_8])) = some y1_5 := hg1 5 _ rfl
  rw [show Try.prog.cellsOf 3 = 1 from by kernel_rfl] at g1_5
  replace g1_5 : DataW.trod enc Try.prog W 0 (fun _ => true) true m1 3 [c1_5] = some y1_5 := g1_5
  have g1_6 : DataW.trod enc Try.prog W 0 (fun _ => true) true m1 3 (List.take (Try.prog.cellsOf 3) (List.drop 6 [c1_0, c1_1, c1_2, c1_3, c1_4, c1_5, c1_6, c1_7, c1_8])) = some y1_6 := hg1 6 _ rfl
  rw [show Try.prog.cellsOf 3 = 1 from by kernel_rfl] at g1_6
  replace g1_6 : DataW.trod enc Try.prog W 0 (fun _ => true) true m1 3 [c1_6] = some y1_6 := g1_6
  have g1_7 : DataW.trod enc Try.prog W 0 (fun _ => true) true m1 25 (List.take (Try.prog.cellsOf 25) (List.drop 7 [c1_0, c1_1, c1_2, c1_3, c1_4, c1_5, c1_6, c1_7, c1_8])) = some y1_7 := hg1 7 _ rfl
  rw [show Try.prog.cellsOf 25 = 1 from by kernel_rfl] at g1_7
  replace g1_7 : DataW.trod enc Try.prog W 0 (fun _ => true) true m1 25 [c1_7] = some y1_7 := g1_7
  have g1_8 : DataW.trod enc Try.prog W 0 (fun _ => true) true m1 26 (List.take (Try.prog.cellsOf 26) (List.drop 8 [c1_0, c1_1, c1_2, c1_3, c1_4, c1_5, c1_6, c1_7, c1_8])) = some y1_8 := hg1 8 _ rfl
  rw [show Try.prog.cellsOf 26 = 1 from by kernel_rfl] at g1_8
  replace g1_8 : DataW.trod enc Try.prog W 0 (fun _ => true) true m1 26 [c1_8] = some y1_8 := g1_8
  clear hg1
  obtain ⟨a1_0, e1_0, rfl, w1_0⟩ := DataW.trod_int Try.underlying3 g1_0
  simp at e1_0
  subst e1_0
  obtain ⟨a1_1, e1_1, rfl, w1_1⟩ := DataW.trod_int Try.underlying3 g1_1
  simp at e1_1
  subst e1_1
  obtain ⟨a1_2, e1_2, rfl, w1_2⟩ := DataW.trod_string Try.underlying22 g1_2
  simp at e1_2
  subst e1_2
  obtain ⟨a1_3, e1_3, rfl, w1_3⟩ := DataW.trod_int Try.underlying3 g1_3
  simp at e1_3
  subst e1_3
  obtain ⟨a1_4, e1_4, rfl⟩ := DataW.trod_bool Try.underlying4 g1_4
  simp at e1_4
  subst e1_4
  obtain ⟨a1_5, e1_5, rfl, w1_5⟩ := DataW.trod_int Try.underlying3 g1_5
  simp at e1_5
  subst e1_5
  obtain ⟨a1_6, e1_6, rfl, w1_6⟩ := DataW.trod_int Try.underlying3 g1_6
  simp at e1_6
  subst e1_6
  obtain ⟨v1_7, L1_7, e1_7, hh1_7, qq1_7⟩ := addrs_open g1_7
  simp at e1_7
  subst e1_7
  obtain ⟨v1_8, L1_8, e1_8, hh1_8, qq1_8, ss1_8⟩ := recs_open g1_8
  simp at e1_8
  subst e1_8
  obtain ⟨a2, rfl, rfl, rfl, w2⟩ := open_int Try.underlying3 (hval 2 3 v2 rfl rfl) h2
  have za0_0 : a0_0.size ≤ 140737488351232 := by
    have h := List.all_eq_true.1 hsz _ (DataW.weights_mem_each (j := 0) (t := 24) rfl rfl a0_0.data.toList.length (by simp [DataW.weights, DataW.weightsEach, Try.underlying24]))
    simpa [reachBytes] using of_decide_eq_true h
  have za0_1 : a0_1.size ≤ 140737488351232 := by
    have h := List.all_eq_true.1 hsz _ (DataW.weights_mem_each (j := 0) (t := 24) rfl rfl a0_1.data.toList.length (by simp [DataW.weights, DataW.weightsEach, Try.underlying24]))
    simpa [reachBytes] using of_decide_eq_true h
  have ba1_0 := bounds_i64 w1_0
  have ba1_1 := bounds_i64 w1_1
  have za1_2 : a1_2.size ≤ 140737488351232 := by
    have h := List.all_eq_true.1 hsz _ (DataW.weights_mem_each (j := 1) (t := 28) rfl rfl a1_2.data.toList.length (by simp [DataW.weights, DataW.weightsEach, Try.underlying28]))
    simpa [reachBytes] using of_decide_eq_true h
  have ba1_3 := bounds_i64 w1_3
  have ba1_5 := bounds_i64 w1_5
  have ba1_6 := bounds_i64 w1_6
  have ba2 := bounds_i64 w2
  clear hA0 hval0
  refine (walk a0_0 a0_1 a1_0 a1_1 a1_2 a1_3 a1_4 a1_5 a1_6 c1_7 L1_7 c1_8 L1_8 a2 W za0_0 za0_1 ba1_0.1 ba1_0.2 ba1_1.1 ba1_1.2 za1_2 ba1_3.1 ba1_3.2 ba1_5.1 ba1_5.2 ba1_6.1 ba1_6.2 hh1_7 qq1_7 hh1_8 qq1_8 ss1_8 ba2.1 ba2.2).mono fun e W' ⟨he, bel⟩ => ?_
  subst he
  exact ⟨_, rfl, _, _, _, [], _, [], hW', trodAll_mk1 (shut_bool Try.underlying4 _), (trodAll_cons_mk (Below.trod laidOut (by kernel_rfl) (of_decide_eq_true (by kernel_rfl)) k0 bel lt0) (trodAll_cons_mk (Below.trod laidOut (by kernel_rfl) (of_decide_eq_true (by kernel_rfl)) k1 bel lt1) (trodAll_cons_mk (Below.trod laidOut (by kernel_rfl) (of_decide_eq_true (by kernel_rfl)) k2 bel lt2) trodAll_mk0))), rfl, bel.frame _, fun h => by cases h⟩

theorem over : Rows.mldTurnedRow.holds Try.pinned (OpenSpec.ofChange Rows.mldTurnedSpec) :=
  OpenClaim.holds_of_wide 4 Try.f4 rfl rfl rfl rfl rfl rfl rfl ⟨rfl, rfl, rfl, rfl, rfl⟩ rfl rfl rfl rfl rfl (by kernel_rfl) Try.func4 (by kernel_rfl)
    (of_decide_eq_true (by kernel_rfl)) (by unfold Func.isWrapper; first | (rw [if_pos (by decide +kernel)]; kernel_rfl) | (rw [if_neg (by decide +kernel)]; exact ⟨rfl, rfl⟩))
    (fun os started H enc _ => lifted os started H enc)

/-- The statement. -/
theorem proved : Rows.MldTurnedSaid := over
#print axioms proved
end Go.Proofs.Ytnfngmclomjimaa.mldTurnedLaw
