/-
  'siphonlaw04.Ipv4Turned' returns true, whatever the input, and each argument reads behind the call as it read before. Conditions: none beyond those that the row itself states.
-/
import Derived.Test.YtolgakgimcbkpaaRows
import Derived.Test.YtolgakgimcbkpaaPsum
import Derived.Test.YtolgakgimcbkpaaLive4
import Derived.Test.YtolgakgimcbkpaaV4Math
import Derived.WalkKit
import Derived.ProofKit
import Derived.OpenShut
import Derived.ShutString
import Derived.ChangeOld
import Derived.Below
import Derived.Carry
import Derived.SizedLaws
import Derived.Lib.SmallJoins
import Derived.ChangeArms
import Derived.WideShapes
namespace Go.Proofs.Ytolgakgimcbkpaa.ipv4TurnedLaw
open Go.ChangeShapes Go.WideShapes Go.ChangeAt Go.RowKit Go.Joins
open Go.ChangeMaps (open_string shut_string)
set_option linter.unusedVariables false

theorem list7 {α : Type} (l : List α) (h : l.length = 7) : ∃ x0 x1 x2 x3 x4 x5 x6 : α, l = [x0, x1, x2, x3, x4, x5, x6] := by
  match l, h with
  | [x0, x1, x2, x3, x4, x5, x6], _ => exact ⟨x0, x1, x2, x3, x4, x5, x6, rfl⟩

theorem turned_v (i t p : Int) (s d o x : ByteArray) (h : VOk i t p s d o x) (k m : Nat) (k1 : 1 ≤ k) (kn : k < 20 + o.size) (m8 : m < 8) (v : UInt8) (hv : v.toNat = ((encVB i t p s d o x).data.toList.getD k 0).toNat ^^^ 2 ^ m) :
    decV ⟨((encVB i t p s d o x).data.toList.set k v).toArray⟩ = (.zero, 4) := by
  have hz := headL_len i t p s d o x h
  have hl : (⟨(headL i t p s d o x).toArray⟩ : ByteArray).data.toList = tenB i t p o x 0 ++ [0, 0] ++ (s.data.toList ++ d.data.toList ++ o.data.toList) := by
    show headL i t p s d o x = _
    simp [headL, tenB]
  obtain ⟨q, hq⟩ := filled_ten _ _ _ (tenB_len i t p o x 0) rfl _ hl
  have h0 := filled_zero (⟨(headL i t p s d o x).toArray⟩ : ByteArray) (by rw [ByteArray.size_mk', List.size_toArray]; omega)
  have zF : (filled ⟨#[]⟩ ⟨(headL i t p s d o x).toArray⟩ 10).size = 20 + o.size := by
    rw [filled_size _ _ _ (by rw [ByteArray.size_mk', List.size_toArray]; omega), ByteArray.size_mk', List.size_toArray, hz]
  unfold VOk at h
  have lS : (encVB i t p s d o x).data.toList = (filled ⟨#[]⟩ ⟨(headL i t p s d o x).toArray⟩ 10).data.toList ++ x.data.toList := by
    unfold encVB; simp [ByteArray.data_append]
  rw [lS] at hv ⊢
  obtain ⟨F, hF⟩ : ∃ F, F = filled ⟨#[]⟩ ⟨(headL i t p s d o x).toArray⟩ 10 := ⟨_, rfl⟩
  rw [← hF] at hq h0 zF hv ⊢
  have lF : F.data.toList.length = 20 + o.size := by rw [vlen, zF]
  have kF : k < F.data.toList.length := by omega
  rw [List.set_append_left _ _ kF]
  rw [getD_at _ _ _ (by rw [List.length_append]; omega), List.getElem_append_left kF] at hv
  have ht := sumN_turn F.data.toList k m kF m8 v hv
  rw [h0] at ht
  obtain ⟨T, hT⟩ : ∃ T : ByteArray, T = ⟨(F.data.toList.set k v ++ x.data.toList).toArray⟩ := ⟨_, rfl⟩
  rw [← hT]
  have lT : T.data.toList = F.data.toList.set k v ++ x.data.toList := by rw [hT]
  have lx := vlen x
  have zT : T.size = 20 + o.size + x.size := by rw [← vlen T, lT, List.length_append, List.length_set, lF, lx]
  have e0 : subs T 0 1 = bytesOf (64 + (20 + o.size) / 4) 1 := by
    unfold subs
    rw [List.drop_zero, lT, List.take_append_of_le_length (by rw [List.length_set]; omega), List.take_set_of_le (by omega), hq]
    simp [tenB, bytesOf_length]
  have b0 : numv T 0 1 = ((64 + (20 + o.size) / 4 : Nat) : Int) := by
    have := numv_of T 0 1 (by omega) (by omega) (by omega)
    rw [e0, be_nat _ 1 (by omega)] at this
    exact this
  have hk : hsz T = 20 + o.size := by unfold hsz; rw [b0, Int.toNat_natCast]; omega
  have sF : T.extract 0 (20 + o.size) = ⟨(F.data.toList.set k v).toArray⟩ :=
    ext_mid T [] (F.data.toList.set k v) x.data.toList 0 (20 + o.size) (by rw [lT]; simp) rfl (by rw [List.length_set]; omega)
  have hh : headV T = (⟨#[]⟩, 4) := by
    unfold headV
    rw [hk, b0, sF, if_neg (by omega), if_neg (by omega), if_neg (by omega), if_pos]
    intro g
    exact ht (by rw [show (⟨(F.data.toList.set k v).toArray⟩ : ByteArray).data.toList = F.data.toList.set k v from rfl] at g; rw [g])
  unfold decV
  rw [hh]
  rfl

set_option maxHeartbeats 1000000 in
set_option maxRecDepth 100000 in
theorem walk_no (a0_0 a0_1 a0_2 : Int) (a0_3 a0_4 a0_5 a0_6 : ByteArray) (a1 : Int) (w : World)
    (H1 : Hid (∀ U, Calls Try.prog 8 #[.agg #[.int .i64 a0_0, .int .i64 a0_1, .int .i64 a0_2, .string a0_3, .string a0_4, .string a0_5, .string a0_6]] U fun e w' => e = .returned (.tuple #[.string ⟨#[]⟩, .int .i64 1]) ∧ Below U.heap.size U w')) :
    Calls Try.prog 4 #[.agg #[.int .i64 a0_0, .int .i64 a0_1, .int .i64 a0_2, .string a0_3, .string a0_4, .string a0_5, .string a0_6], .int .i64 a1] w fun e w' => e = .returned (.bool true) ∧ Below w.heap.size w w' := by
  go_enter Try.func4, Try.ntmps4
  go_wp2_with fail
  refine (H1.out _).mono ?_
  rintro e w1 ⟨rfl, h1⟩
  go_wp2_with fail
  refine (live4_c _).mono ?_
  rintro e w3 ⟨rfl, h3⟩
  go_wp2_with fail
  go_ret
  exact ⟨rfl, below_then (vboxed h1) h3⟩

set_option maxHeartbeats 2000000 in
set_option maxRecDepth 100000 in
theorem walk_yes (a0_0 a0_1 a0_2 : Int) (a0_3 a0_4 a0_5 a0_6 : ByteArray) (a1 : Int) (S : ByteArray) (w : World) (l1 : -9223372036854775808 ≤ a1) (u1 : a1 ≤ 9223372036854775807)
    (n n8 M b r k p m : Nat) (hab : a1 = b ∨ a1 < 0 ∧ -(a1 + 1) = (b : Int)) (hn : (20 : Int) + (a0_5.size : Int) = (n : Int)) (n20 : 20 ≤ n) (n60 : n ≤ 60) (h8 : (8 : Int) * (n : Int) = (n8 : Int)) (hM : (n8 : Int) - 8 = (M : Int)) (M1 : 152 ≤ M) (M2 : M ≤ 472)
    (hr : (b : Int) % (M : Int) = (r : Int)) (hr2 : r < M) (hk : (8 : Int) + (r : Int) = (k : Int)) (hp : (k : Int) / 8 = (p : Int)) (hm : (k : Int) % 8 = (m : Int)) (pn : p < n) (m8 : m < 8)
    (zS : n ≤ S.size) (zS2 : S.size ≤ 65535)
    (H1 : Hid (∀ U, Calls Try.prog 8 #[.agg #[.int .i64 a0_0, .int .i64 a0_1, .int .i64 a0_2, .string a0_3, .string a0_4, .string a0_5, .string a0_6]] U fun e w' => e = .returned (.tuple #[.string S, .int .i64 0]) ∧ Below U.heap.size U w'))
    (H3 : ∀ v : UInt8, v.toNat = (S.data.toList.getD p 0).toNat ^^^ 2 ^ m → ∀ U, Calls Try.prog 10 #[.string ⟨(S.data.toList.set p v).toArray⟩] U fun e w' => e = .returned (.tuple #[.agg #[.int .i64 0, .int .i64 0, .int .i64 0, .string ⟨#[]⟩, .string ⟨#[]⟩, .string ⟨#[]⟩, .string ⟨#[]⟩], .int .i64 4]) ∧ Below U.heap.size U w') :
    Calls Try.prog 4 #[.agg #[.int .i64 a0_0, .int .i64 a0_1, .int .i64 a0_2, .string a0_3, .string a0_4, .string a0_5, .string a0_6], .int .i64 a1] w fun e w' => e = .returned (.bool true) ∧ Below w.heap.size w w' := by
  have t1 : (b : Int).tmod (M : Int) = (r : Int) := by rw [Int.tmod_eq_emod_of_nonneg (by omega), hr]
  have q3 : (n : Int) ≤ (S.size : Int) := by omega
  have q4 : (p : Int) < (S.size : Int) := by omega
  have mz : (m : Int) < 8 := by omega
  obtain ⟨q5, q6⟩ := ne_t (show (M : Int) ≠ 0 by omega)
  have zL : S.data.toList.length = S.size := vlen S
  have hpl : p < S.data.toList.length := by omega
  obtain ⟨x, hx⟩ : ∃ x, x = S.data.toList[p] := ⟨_, rfl⟩
  have hgd : S.data.toList.getD p 0 = x := by rw [getD_at _ _ _ hpl, hx]
  rw [hgd] at H3
  have hxl := x.toNat_lt
  have hm256 : 2 ^ m < 256 := Nat.lt_of_lt_of_le (Nat.pow_lt_pow_right (by omega) m8) (Nat.le_of_eq (by decide))
  have hvl : x.toNat ^^^ 2 ^ m < 256 := Nat.xor_lt_two_pow (n := 8) hxl hm256
  obtain ⟨v, hv⟩ : ∃ v : UInt8, v.toNat = x.toNat ^^^ 2 ^ m := ⟨UInt8.ofNat (x.toNat ^^^ 2 ^ m), by rw [UInt8.toNat_ofNat', Nat.mod_eq_of_lt hvl]⟩
  have hxor : bits BinOp.xor IntKind.u8 (x.toNat : Int) (2 ^ m % 256) = (v.toNat : Int) := by
    have e : ((2 : Int) ^ m % 256) = ((2 ^ m : Nat) : Int) := by
      rw [show ((2 : Int) ^ m) = ((2 ^ m : Nat) : Int) from by simp]
      exact Int.emod_eq_of_lt (Int.natCast_nonneg _) (by exact_mod_cast hm256)
    rw [e, u8_xor_nat _ _ hxl hm256, hv]
  have H4 := Lib.hid (H3 v hv)
  have HX := Lib.hid hx
  have ZL := Lib.hid zL
  clear H3 hx hgd hv hvl hm256 zL
  rcases hab with rfl | ⟨ha, he⟩
  all_goals
    go_enter Try.func4, Try.ntmps4
    go_wp2_with fail
    refine (H1.out _).mono ?_
    rintro e w1 ⟨rfl, h1⟩
    obtain ⟨hc1, hf1⟩ := below_cells h1
    go_upto_region 9 with fail
    have kZ := vboxed h1
    clear hc1 hf1 h1
    obtain ⟨cap, sp, hcv⟩ := bytes_new (P := Try.prog) w1 9 31 5 S Try.underlying9 Try.underlying31 Try.underlying5
    obtain ⟨N, hN⟩ : ∃ N, N = (S.data.toList ++ sp).length := ⟨_, rfl⟩
    have hNs : S.size ≤ N := by rw [hN, List.length_append, ZL.out]; omega
    rw [← hN] at hcv
    have hb0 := heap_new w1 (.cells (byteRow (S.data.toList ++ sp)) 5 (N, N + 1))
    have br := byteRow_at (S.data.toList ++ sp) p (by rw [← hN]; omega)
    rw [List.getElem_append_left hpl, ← HX.out] at br
    have c1 := cell_of_block hb0 br
    have f1 := free_below hb0 (j := p) (by omega)
    have hR := heap_store (j := p) (v := .int .u8 (v.toNat : Int)) hb0
    rw [byteRow_set, List.set_append_left _ _ hpl] at hR
    have HC := Lib.hid fun (U : World) (hU : U.heap[w1.heap.size]? = some (.cells (byteRow (S.data.toList.set p v ++ sp)) 5 (N, N + 1))) =>
      run_string_of_prefix (P := Try.prog) (cap := cap) 31 9 5 hU Try.underlying31 Try.underlying5 Try.underlying9 S.size (by rw [List.length_set, ZL.out])
    have HR := Lib.hid hR
    clear hN hR br hb0
    go_upto_region 12 with fail
    have hbl : Below w.heap.size w ((w1.alloc (.cells (byteRow (S.data.toList ++ sp)) 5 (N, N + 1))).setCell ⟨w1.heap.size, p, none⟩ (.int .u8 (v.toNat : Int))).drew :=
      ((kZ.alloc kZ.size _).setCell (p := ⟨w1.heap.size, p, none⟩) kZ.size _).drew
    have hR2 : ((w1.alloc (.cells (byteRow (S.data.toList ++ sp)) 5 (N, N + 1))).setCell ⟨w1.heap.size, p, none⟩ (.int .u8 (v.toNat : Int))).drew.heap[w1.heap.size]? = some (.cells (byteRow (S.data.toList.set p v ++ sp)) 5 (N, N + 1)) := HR.out
    generalize ((w1.alloc (.cells (byteRow (S.data.toList ++ sp)) 5 (N, N + 1))).setCell ⟨w1.heap.size, p, none⟩ (.int .u8 (v.toNat : Int))).drew = W2 at hbl hR2 ⊢
    have hc0 := HC.out W2 hR2
    clear c1 f1 hcv hxor
    go_wp2_with fail
    refine (H4.out _).mono ?_
    rintro e w3 ⟨rfl, h3⟩
    go_wp2_with fail
    refine (live4_c _).mono ?_
    rintro e w4 ⟨rfl, h4⟩
    go_wp2_with fail
    go_ret
    exact ⟨rfl, below_then (below_then hbl h3) (vboxed h4)⟩

theorem walk (a0_0 : Int) (a0_1 : Int) (a0_2 : Int) (a0_3 : ByteArray) (a0_4 : ByteArray) (a0_5 : ByteArray) (a0_6 : ByteArray) (a1 : Int) (w : World) (la0_0 : -9223372036854775808 ≤ a0_0) (ua0_0 : a0_0 ≤ 9223372036854775807) (la0_1 : -9223372036854775808 ≤ a0_1) (ua0_1 : a0_1 ≤ 9223372036854775807) (la0_2 : -9223372036854775808 ≤ a0_2) (ua0_2 : a0_2 ≤ 9223372036854775807) (za0_3 : a0_3.size ≤ 140737488351232) (za0_4 : a0_4.size ≤ 140737488351232) (za0_5 : a0_5.size ≤ 140737488351232) (za0_6 : a0_6.size ≤ 140737488351232) (la1 : -9223372036854775808 ≤ a1) (ua1 : a1 ≤ 9223372036854775807) :
    Calls Try.prog 4 #[.agg #[.int .i64 a0_0, .int .i64 a0_1, .int .i64 a0_2, .string a0_3, .string a0_4, .string a0_5, .string a0_6], .int .i64 a1] w fun e w' => e = .returned (.bool true) ∧ Below w.heap.size w w' := by
  have H1 := Lib.hid fun U => venc_c a0_0 a0_1 a0_2 a0_3 a0_4 a0_5 a0_6 U za0_3 za0_4 za0_5 za0_6
  by_cases h : VOk a0_0 a0_1 a0_2 a0_3 a0_4 a0_5 a0_6
  · have hv : encV a0_0 a0_1 a0_2 a0_3 a0_4 a0_5 a0_6 = (encVB a0_0 a0_1 a0_2 a0_3 a0_4 a0_5 a0_6, 0) := if_pos h
    have hz := encVB_size a0_0 a0_1 a0_2 a0_3 a0_4 a0_5 a0_6 h
    rw [hv] at H1
    have h2 := h
    unfold VOk at h2
    obtain ⟨b, hb⟩ : ∃ b : Nat, a1 = b ∨ a1 < 0 ∧ -(a1 + 1) = (b : Int) := by
      by_cases c : a1 < 0
      · exact ⟨(-(a1 + 1)).toNat, .inr ⟨c, by omega⟩⟩
      · exact ⟨a1.toNat, .inl (by omega)⟩
    have hr : b % (8 * (20 + a0_5.size) - 8) < 8 * (20 + a0_5.size) - 8 := Nat.mod_lt _ (by omega)
    refine walk_yes a0_0 a0_1 a0_2 a0_3 a0_4 a0_5 a0_6 a1 _ w la1 ua1 (20 + a0_5.size) (8 * (20 + a0_5.size)) (8 * (20 + a0_5.size) - 8) b (b % (8 * (20 + a0_5.size) - 8)) (8 + b % (8 * (20 + a0_5.size) - 8)) ((8 + b % (8 * (20 + a0_5.size) - 8)) / 8) ((8 + b % (8 * (20 + a0_5.size) - 8)) % 8)
      hb (by omega) (by omega) (by omega) (by omega) (by omega) (by omega) (by omega) rfl hr (by omega) (by omega) (by omega) (by omega) (by omega) (by rw [hz]; omega) (by rw [hz]; omega) H1 ?_
    intro v hv U
    have := vdec_c ⟨((encVB a0_0 a0_1 a0_2 a0_3 a0_4 a0_5 a0_6).data.toList.set ((8 + b % (8 * (20 + a0_5.size) - 8)) / 8) v).toArray⟩ U (by rw [ByteArray.size_mk', List.size_toArray, List.length_set, vlen, hz]; omega)
    rw [turned_v a0_0 a0_1 a0_2 a0_3 a0_4 a0_5 a0_6 h _ _ (by omega) (by omega) (Nat.mod_lt _ (by omega)) v hv] at this
    exact this
  · have hv : encV a0_0 a0_1 a0_2 a0_3 a0_4 a0_5 a0_6 = (⟨#[]⟩, 1) := if_neg h
    rw [hv] at H1
    exact walk_no a0_0 a0_1 a0_2 a0_3 a0_4 a0_5 a0_6 a1 w H1

theorem own : ownKnob Try.prog.godebug = none := by kernel_rfl
theorem laidOut : laidOutB Try.prog = true := by kernel_rfl

set_option maxRecDepth 100000 in
theorem lifted (os : Os) (started : os.Started) (H : Type) (enc : TypeId × Value → H) :
    ReturnsInHanded {} Try.checked os 4 .any (Rows.ipv4TurnedSpec.pre6 enc Try.prog Try.f4 Rows.ipv4TurnedRow.domain false) (Rows.ipv4TurnedSpec.post enc Try.prog Try.f4 false true false false) := by
  refine returnsInHanded_of_change_sized (C := Try.checked) own started (by kernel_rfl) Try.func4
    (ChangeSpec.witness6 (enc := enc) (C := Try.checked) false ⟨#[], #[.agg #[.int .i64 0, .int .i64 0, .int .i64 0, .string ByteArray.empty, .string ByteArray.empty, .string ByteArray.empty, .string ByteArray.empty], .int .i64 0], []⟩ 8 (by kernel_rfl) (by kernel_rfl) (by kernel_rfl) (by kernel_rfl)) ?_
  intro W base args ds gs before hval0 hW hcnd hsz0 hholds
  have hval : ∀ (j : Nat) t v, Try.f4.params[j]? = some t → args[j]? = some v → Value.okWide Try.prog W .any base t v := hval0
  have hsz : (DataW.weightsEach Try.prog (Try.f4.params.toList ++ Rows.ipv4TurnedSpec.plain.varTypes Try.prog) (ds ++ gs)).all (· ≤ reachBytes) = true := hsz0
  have hW' := hW
  obtain ⟨p, q, hA0, hV, rfl, hfz, hnd⟩ := hW
  have hA : DataW.TrodAll enc Try.prog W 0 (fun _ => true) true Try.f4.params.toList args.toList ds p := hA0
  rw [Try.params4] at hA hval hsz
  obtain ⟨v0, vs0, d0, ds0, p0, q0, hargs, rfl, rfl, h0, r0⟩ := trodAll_cons hA
  obtain ⟨v1, vs1, d1, ds1, p1, q1, rfl, rfl, rfl, h1, r1⟩ := trodAll_cons r0
  obtain ⟨rfl, rfl, rfl⟩ := trodAll_nil r1
  obtain rfl : args = #[v0, v1] := by cases args; simp_all
  obtain ⟨rfl, rfl⟩ := trodVars_none hV
  have k0 := h0
  have lt0 : ∀ x ∈ p0, x.block < W.heap.size := by obtain ⟨m, hm⟩ := k0; exact DataW.trod_lt m _ _ _ hm
  have k1 := h1
  have lt1 : ∀ x ∈ p1, x.block < W.heap.size := by obtain ⟨m, hm⟩ := k1; exact DataW.trod_lt m _ _ _ hm
  obtain ⟨cs0, rfl, hz0⟩ := okWide_struct Try.underlying35 (hval 0 35 v0 rfl rfl)
  obtain ⟨l0⟩ := cs0
  obtain ⟨c0_0, c0_1, c0_2, c0_3, c0_4, c0_5, c0_6, rfl⟩ := list7 l0 (hz0.trans (by kernel_rfl))
  obtain ⟨fu0, hf0⟩ := h0
  obtain ⟨xs0, m0, -, hx0, -, hn0, hg0⟩ := DataW.trod_struct Try.underlying35 hf0
  obtain ⟨y0_0, y0_1, y0_2, y0_3, y0_4, y0_5, y0_6, rfl⟩ := list7 xs0 hn0
  simp only [Prod.mk.injEq] at hx0
  obtain ⟨rfl, rfl⟩ := hx0
  have g0_0 : DataW.trod enc Try.prog W 0 (fun _ => true) true m0 3 (List.take (Try.prog.cellsOf 3) (List.drop 0 [c0_0, c0_1, c0_2, c0_3, c0_4, c0_5, c0_6])) = some y0_0 := hg0 0 _ rfl
  rw [show Try.prog.cellsOf 3 = 1 from by kernel_rfl] at g0_0
  replace g0_0 : DataW.trod enc Try.prog W 0 (fun _ => true) true m0 3 [c0_0] = some y0_0 := g0_0
  have g0_1 : DataW.trod enc Try.prog W 0 (fun _ => true) true m0 3 (List.take (Try.prog.cellsOf 3) (List.drop 1 [c0_0, c0_1, c0_2, c0_3, c0_4, c0_5, c0_6])) = some y0_1 := hg0 1 _ rfl
  rw [show Try.prog.cellsOf 3 = 1 from by kernel_rfl] at g0_1
  replace g0_1 : DataW.trod enc Try.prog W 0 (fun _ => true) true m0 3 [c0_1] = some y0_1 := g0_1
  have g0_2 : DataW.trod enc Try.prog W 0 (fun _ => true) true m0 3 (List.take (Try.prog.cellsOf 3) (List.drop 2 [c0_0, c0_1, c0_2, c0_3, c0_4, c0_5, c0_6])) = some y0_2 := hg0 2 _ rfl
  rw [show Try.prog.cellsOf 3 = 1 from by kernel_rfl] at g0_2
  replace g0_2 : DataW.trod enc Try.prog W 0 (fun _ => true) true m0 3 [c0_2] = some y0_2 := g0_2
  have g0_3 : DataW.trod enc Try.prog W 0 (fun _ => true) true m0 30 (List.take (Try.prog.cellsOf 30) (List.drop 3 [c0_0, c0_1, c0_2, c0_3, c0_4, c0_5, c0_6])) = some y0_3 := hg0 3 _ rfl
  rw [show Try.prog.cellsOf 30 = 1 from by kernel_rfl] at g0_3
  replace g0_3 : DataW.trod enc Try.prog W 0 (fun _ => true) true m0 30 [c0_3] = some y0_3 := g0_3
  have g0_4 : DataW.trod enc Try.prog W 0 (fun _ => true) true m0 30 (List.take (Try.prog.cellsOf 30) (List.drop 4 [c0_0, c0_1, c0_2, c0_3, c0_4, c0_5, c0_6])) = some y0_4 := hg0 4 _ rfl
  rw [show Try.prog.cellsOf 30 = 1 from by kernel_rfl] at g0_4
  replace g0_4 : DataW.trod enc Try.prog W 0 (fun _ => true) true m0 30 [c0_4] = some y0_4 := g0_4
  have g0_5 : DataW.trod enc Try.prog W 0 (fun _ => true) true m0 9 (List.take (Try.prog.cellsOf 9) (List.drop 5 [c0_0, c0_1, c0_2, c0_3, c0_4, c0_5, c0_6])) = some y0_5 := hg0 5 _ rfl
  rw [show Try.prog.cellsOf 9 = 1 from by kernel_rfl] at g0_5
  replace g0_5 : DataW.trod enc Try.prog W 0 (fun _ => true) true m0 9 [c0_5] = some y0_5 := g0_5
  have g0_6 : DataW.trod enc Try.prog W 0 (fun _ => true) true m0 9 (List.take (Try.prog.cellsOf 9) (List.drop 6 [c0_0, c0_1, c0_2, c0_3, c0_4, c0_5, c0_6])) = some y0_6 := hg0 6 _ rfl
  rw [show Try.prog.cellsOf 9 = 1 from by kernel_rfl] at g0_6
  replace g0_6 : DataW.trod enc Try.prog W 0 (fun _ => true) true m0 9 [c0_6] = some y0_6 := g0_6
  clear hg0
  obtain ⟨a0_0, e0_0, rfl, w0_0⟩ := DataW.trod_int Try.underlying3 g0_0
  simp at e0_0
  subst e0_0
  obtain ⟨a0_1, e0_1, rfl, w0_1⟩ := DataW.trod_int Try.underlying3 g0_1
  simp at e0_1
  subst e0_1
  obtain ⟨a0_2, e0_2, rfl, w0_2⟩ := DataW.trod_int Try.underlying3 g0_2
  simp at e0_2
  subst e0_2
  obtain ⟨a0_3, e0_3, rfl, w0_3⟩ := DataW.trod_string Try.underlying30 g0_3
  simp at e0_3
  subst e0_3
  obtain ⟨a0_4, e0_4, rfl, w0_4⟩ := DataW.trod_string Try.underlying30 g0_4
  simp at e0_4
  subst e0_4
  obtain ⟨a0_5, e0_5, rfl, w0_5⟩ := DataW.trod_string Try.underlying9 g0_5
  simp at e0_5
  subst e0_5
  obtain ⟨a0_6, e0_6, rfl, w0_6⟩ := DataW.trod_string Try.underlying9 g0_6
  simp at e0_6
  subst e0_6
  obtain ⟨a1, rfl, rfl, rfl, w1⟩ := open_int Try.underlying3 (hval 1 3 v1 rfl rfl) h1
  have ba0_0 := bounds_i64 w0_0
  have ba0_1 := bounds_i64 w0_1
  have ba0_2 := bounds_i64 w0_2
  have za0_3 : a0_3.size ≤ 140737488351232 := by
    have h := List.all_eq_true.1 hsz _ (DataW.weights_mem_each (j := 0) (t := 35) rfl rfl a0_3.data.toList.length (by simp [DataW.weights, DataW.weightsEach, Try.underlying35]))
    simpa [reachBytes] using of_decide_eq_true h
  have za0_4 : a0_4.size ≤ 140737488351232 := by
    have h := List.all_eq_true.1 hsz _ (DataW.weights_mem_each (j := 0) (t := 35) rfl rfl a0_4.data.toList.length (by simp [DataW.weights, DataW.weightsEach, Try.underlying35]))
    simpa [reachBytes] using of_decide_eq_true h
  have za0_5 : a0_5.size ≤ 140737488351232 := by
    have h := List.all_eq_true.1 hsz _ (DataW.weights_mem_each (j := 0) (t := 35) rfl rfl a0_5.data.toList.length (by simp [DataW.weights, DataW.weightsEach, Try.underlying35]))
    simpa [reachBytes] using of_decide_eq_true h
  have za0_6 : a0_6.size ≤ 140737488351232 := by
    have h := List.all_eq_true.1 hsz _ (DataW.weights_mem_each (j := 0) (t := 35) rfl rfl a0_6.data.toList.length (by simp [DataW.weights, DataW.weightsEach, Try.underlying35]))
    simpa [reachBytes] using of_decide_eq_true h
  have ba1 := bounds_i64 w1
  clear hA0 hval0
  refine (walk a0_0 a0_1 a0_2 a0_3 a0_4 a0_5 a0_6 a1 W ba0_0.1 ba0_0.2 ba0_1.1 ba0_1.2 ba0_2.1 ba0_2.2 za0_3 za0_4 za0_5 za0_6 ba1.1 ba1.2).mono fun e W' ⟨he, bel⟩ => ?_
  subst he
  exact ⟨_, rfl, _, _, _, [], _, [], hW', trodAll_mk1 (shut_bool Try.underlying4 _), (trodAll_cons_mk (Below.trod laidOut (by kernel_rfl) (of_decide_eq_true (by kernel_rfl)) k0 bel lt0) (trodAll_cons_mk (Below.trod laidOut (by kernel_rfl) (of_decide_eq_true (by kernel_rfl)) k1 bel lt1) trodAll_mk0)), rfl, bel.frame _, fun h => by cases h⟩

theorem over : Rows.ipv4TurnedRow.holds Try.pinned (OpenSpec.ofChange Rows.ipv4TurnedSpec) :=
  OpenClaim.holds_of_wide 4 Try.f4 rfl rfl rfl rfl rfl rfl rfl ⟨rfl, rfl, rfl, rfl, rfl⟩ rfl rfl rfl rfl rfl (by kernel_rfl) Try.func4 (by kernel_rfl)
    (of_decide_eq_true (by kernel_rfl)) (by unfold Func.isWrapper; first | (rw [if_pos (by decide +kernel)]; kernel_rfl) | (rw [if_neg (by decide +kernel)]; exact ⟨rfl, rfl⟩))
    (fun os started H enc _ => lifted os started H enc)

/-- The statement. -/
theorem proved : Rows.Ipv4TurnedSaid := over
#print axioms proved
end Go.Proofs.Ytolgakgimcbkpaa.ipv4TurnedLaw
