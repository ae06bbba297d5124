/-
  'siphonlaw06.BpduShort' returns true, whatever the input, and each argument reads behind the call as it read before. Conditions: none beyond those that the row itself states.
-/
import Derived.Test.YtcahhkmbigjhlaaRows
import Derived.Test.YtcahhkmbigjhlaaLive6
import Derived.Test.YtcahhkmbigjhlaaBytesN
import Derived.WalkKit
import Derived.ProofKit
import Derived.OpenShut
import Derived.ShutString
import Derived.ChangeOld
import Derived.Below
import Derived.Carry
import Derived.SizedLaws
import Derived.Lib.SmallJoins
import Derived.ChangeArms
import Derived.WideShapes
namespace Go.Proofs.Ytcahhkmbigjhlaa.bpduShortLaw
open Go.ChangeShapes Go.WideShapes Go.ChangeAt Go.RowKit Go.Joins
open Go.ChangeMaps (open_string shut_string)
set_option linter.unusedVariables false

theorem list4 {α : Type} (l : List α) (h : l.length = 4) : ∃ x0 x1 x2 x3 : α, l = [x0, x1, x2, x3] := by
  match l, h with
  | [x0, x1, x2, x3], _ => exact ⟨x0, x1, x2, x3, rfl⟩

theorem list5 {α : Type} (l : List α) (h : l.length = 5) : ∃ x0 x1 x2 x3 x4 : α, l = [x0, x1, x2, x3, x4] := by
  match l, h with
  | [x0, x1, x2, x3, x4], _ => exact ⟨x0, x1, x2, x3, x4, rfl⟩

theorem list8 {α : Type} (l : List α) (h : l.length = 8) : ∃ x0 x1 x2 x3 x4 x5 x6 x7 : α, l = [x0, x1, x2, x3, x4, x5, x6, x7] := by
  match l, h with
  | [x0, x1, x2, x3, x4, x5, x6, x7], _ => exact ⟨x0, x1, x2, x3, x4, x5, x6, x7, rfl⟩

/-- The first seven bytes with one of them turned are others. -/
theorem front_set (p : Nat) (hp : p < 7) (x v : UInt8) (hx : frontB[p]? = some x) (hv : v ≠ x) : frontB.set p v ≠ frontB := by
  intro h
  have : (frontB.set p v)[p]? = some v := by rw [List.getElem?_set_self (by simpa [frontB] using hp)]
  rw [h, hx] at this
  exact hv (Option.some.inj this).symm

theorem dec_turned (r c b q a : Int) (ch le fw : Bool) (p : Nat) (hp : p < 7) (v x : UInt8) (hx : frontB[p]? = some x) (hv : v ≠ x) (r0 : 0 ≤ r) (r1 : r ≤ 18446744073709551615) (b0 : 0 ≤ b) (b1 : b ≤ 18446744073709551615) (ok : OkB c q a) :
    decB ⟨((encBB r c b q a ch le fw).data.toList.set p v).toArray⟩ = (.zero, 3) := by
  have hl := flagB_lt ch le fw
  have e : (encBB r c b q a ch le fw).data.toList.set p v = frontB.set p v ++ [UInt8.ofNat (flagB ch le fw)] ++ backB r c b q a ++ [20, 0, 2, 0, 15, 0] ++ [0] ++ [] := by
    show (encBL r c b q a ch le fw).set p v = _
    unfold encBL
    rw [bytes_one _ hl, List.append_nil]
    simp only [List.append_assoc]
    rw [List.set_append_left _ _ (by simpa [frontB] using hp)]
  have := decB_at r c b q a (UInt8.ofNat (flagB ch le fw)) 0 (frontB.set p v) [20, 0, 2, 0, 15, 0] [] ⟨((encBB r c b q a ch le fw).data.toList.set p v).toArray⟩ r0 r1 b0 b1 ok (by simp [frontB]) rfl (by
    show (encBB r c b q a ch le fw).data.toList.set p v = _
    rw [e])
  rw [this, if_neg (fun g => front_set p hp x v hx hv g.1)]

theorem enc_front (r c b q a : Int) (ch le fw : Bool) (p : Nat) (hp : p < 7) : (encBB r c b q a ch le fw).data.toList[p]? = frontB[p]? := by
  show (encBL r c b q a ch le fw)[p]? = _
  unfold encBL
  simp only [List.append_assoc]
  rw [List.getElem?_append_left (by simpa [frontB] using hp)]

set_option maxHeartbeats 1000000 in
set_option maxRecDepth 100000 in
theorem walk_no (a0_0 a0_1 a0_2 a0_3 a0_4 : Int) (a0_5 a0_6 a0_7 : Bool) (a1 a2 : Int) (w : World)
    (H1 : Hid (∀ U, Calls Try.prog 12 #[.agg #[.int .u64 a0_0, .int .i64 a0_1, .int .u64 a0_2, .int .i64 a0_3, .int .i64 a0_4, .bool a0_5, .bool a0_6, .bool a0_7]] U fun e w' => e = .returned (.tuple #[.string ⟨#[]⟩, .int .i64 1]) ∧ Below U.heap.size U w')) :
    Calls Try.prog 7 #[.agg #[.int .u64 a0_0, .int .i64 a0_1, .int .u64 a0_2, .int .i64 a0_3, .int .i64 a0_4, .bool a0_5, .bool a0_6, .bool a0_7], .int .i64 a1, .int .u8 a2] w fun e w' => e = .returned (.bool true) ∧ Below w.heap.size w w' := by
  go_enter Try.func7, Try.ntmps7
  go_wp2_with fail
  refine (H1.out _).mono ?_
  rintro e w1 ⟨rfl, h1⟩
  go_wp2_with fail
  refine (live6_c _).mono ?_
  rintro e w3 ⟨rfl, h3⟩
  go_wp2_with fail
  go_ret
  exact ⟨rfl, below_then (vboxed h1) h3⟩

set_option maxHeartbeats 2000000 in
set_option maxRecDepth 100000 in
theorem walk_yes (a0_0 a0_1 a0_2 a0_3 a0_4 : Int) (a0_5 a0_6 a0_7 : Bool) (a1 : Int) (y : UInt8) (S : ByteArray) (w : World) (l1 : -9223372036854775808 ≤ a1) (u1 : a1 ≤ 9223372036854775807)
    (b n p : Nat) (hab : a1 = b ∨ a1 < 0 ∧ -(a1 + 1) = (b : Int)) (hn : (b : Int) % 39 = (n : Int)) (hp : (b : Int) % 7 = (p : Int)) (n39 : n < 39) (p7 : p < 7)
    (H1 : Hid (∀ U, Calls Try.prog 12 #[.agg #[.int .u64 a0_0, .int .i64 a0_1, .int .u64 a0_2, .int .i64 a0_3, .int .i64 a0_4, .bool a0_5, .bool a0_6, .bool a0_7]] U fun e w' => e = .returned (.tuple #[.string S, .int .i64 0]) ∧ Below U.heap.size U w'))
    (zS : S.size = 39)
    (H2 : Hid (∀ U, Calls Try.prog 9 #[.string (S.extract 0 n)] U fun e w' => e = .returned (.tuple #[.agg #[.int .u64 0, .int .i64 0, .int .u64 0, .int .i64 0, .int .i64 0, .bool false, .bool false, .bool false], .int .i64 2]) ∧ Below U.heap.size U w'))
    (H3 : ∀ v : UInt8, v.toNat = (S.data.toList.getD p 0).toNat ^^^ y.toNat → y ≠ 0 → ∀ U, Calls Try.prog 9 #[.string ⟨(S.data.toList.set p v).toArray⟩] U fun e w' => e = .returned (.tuple #[.agg #[.int .u64 0, .int .i64 0, .int .u64 0, .int .i64 0, .int .i64 0, .bool false, .bool false, .bool false], .int .i64 3]) ∧ Below U.heap.size U w') :
    Calls Try.prog 7 #[.agg #[.int .u64 a0_0, .int .i64 a0_1, .int .u64 a0_2, .int .i64 a0_3, .int .i64 a0_4, .bool a0_5, .bool a0_6, .bool a0_7], .int .i64 a1, .int .u8 (y.toNat : Int)] w fun e w' => e = .returned (.bool true) ∧ Below w.heap.size w w' := by
  have zS2 : (S.size : Int) = 39 := by omega
  obtain ⟨q1, q2⟩ := eq_t zS2
  have q3 : (n : Int) ≤ (S.size : Int) := by omega
  have q4 : n ≤ S.size := by omega
  have t1 : (b : Int).tmod 39 = (n : Int) := by rw [Int.tmod_eq_emod_of_nonneg (by omega), hn]
  have t2 : (b : Int).tmod 7 = (p : Int) := by rw [Int.tmod_eq_emod_of_nonneg (by omega), hp]
  have zL : S.data.toList.length = 39 := by rw [vlen, zS]
  -- the byte
  have hpl : p < S.data.toList.length := by omega
  obtain ⟨x, hx⟩ : ∃ x, x = S.data.toList[p] := ⟨_, rfl⟩
  have hgd : S.data.toList.getD p 0 = x := by rw [getD_at _ _ _ hpl, hx]
  rw [hgd] at H3
  have hxl := x.toNat_lt
  have hyl := y.toNat_lt
  have hvl : x.toNat ^^^ y.toNat < 256 := Nat.xor_lt_two_pow (n := 8) hxl hyl
  obtain ⟨v, hv⟩ : ∃ v : UInt8, v.toNat = x.toNat ^^^ y.toNat := ⟨UInt8.ofNat (x.toNat ^^^ y.toNat), by rw [UInt8.toNat_ofNat', Nat.mod_eq_of_lt hvl]⟩
  have hxor : bits BinOp.xor IntKind.u8 (x.toNat : Int) (y.toNat : Int) = (v.toNat : Int) := by rw [u8_xor_nat _ _ hxl hyl, hv]
  have HX := Lib.hid hx
  have HV := Lib.hid hv
  have H3' := Lib.hid (H3 v hv)
  have ZS := Lib.hid zS
  have ZL := Lib.hid zL
  clear H3 hx hgd hv hvl zS zS2 zL
  by_cases hy : y = 0
  · subst hy
    rw [show (((0 : UInt8).toNat : Nat) : Int) = 0 from rfl]
    clear hxor H3' HV
    rcases hab with rfl | ⟨ha, he⟩
    all_goals
      go_enter Try.func7, Try.ntmps7
      go_wp2_with fail
      refine (H1.out _).mono ?_
      rintro e w1 ⟨rfl, h1⟩
      go_wp2_with fail
      refine (H2.out _).mono ?_
      rintro e w2 ⟨rfl, h2⟩
      go_wp2_with fail
      refine (live6_c _).mono ?_
      rintro e w3 ⟨rfl, h3⟩
      go_wp2_with fail
      go_ret
      exact ⟨rfl, below_then (below_then (vboxed h1) h2) (vboxed h3)⟩
  · have H4 := Lib.hid (H3'.out hy)
    have hy0 : (y.toNat : Int) ≠ 0 := fun h => hy (UInt8.toNat_inj.1 (by rw [show (0 : UInt8).toNat = 0 from rfl]; omega))
    obtain ⟨t3, t4⟩ := ne_t hy0
    clear hy hy0 H3'
    rcases hab with rfl | ⟨ha, he⟩
    all_goals
      go_enter Try.func7, Try.ntmps7
      go_wp2_with fail
      refine (H1.out _).mono ?_
      rintro e w1 ⟨rfl, h1⟩
      go_wp2_with fail
      refine (H2.out _).mono ?_
      rintro e w2 ⟨rfl, h2⟩
      have k2 := below_then (vboxed h1) h2
      go_upto_region 11 with fail
      have kZ : Below w.heap.size w (w2.alloc (.cells #[.int .u64 0, .int .i64 0, .int .u64 0, .int .i64 0, .int .i64 0, .bool false, .bool false, .bool false] 26)) := k2.alloc k2.size _
      generalize (w2.alloc (.cells #[.int .u64 0, .int .i64 0, .int .u64 0, .int .i64 0, .int .i64 0, .bool false, .bool false, .bool false] 26)) = Z at kZ ⊢
      clear h1 h2 k2
      obtain ⟨cap, sp, hcv⟩ := bytes_new (P := Try.prog) Z 9 36 5 S Try.underlying9 Try.underlying36 Try.underlying5
      obtain ⟨N, hN⟩ : ∃ N, N = (S.data.toList ++ sp).length := ⟨_, rfl⟩
      have hNs : 39 ≤ N := by rw [hN, List.length_append, ZL.out]; omega
      rw [← hN] at hcv
      have hb0 := heap_new Z (.cells (byteRow (S.data.toList ++ sp)) 5 (N, N + 1))
      have br := byteRow_at (S.data.toList ++ sp) p (by rw [← hN]; omega)
      rw [List.getElem_append_left hpl, ← HX.out] at br
      have c1 := cell_of_block hb0 br
      have f1 := free_below hb0 (j := p) (by omega)
      have hR := heap_store (j := p) (v := .int .u8 (v.toNat : Int)) hb0
      rw [byteRow_set, List.set_append_left _ _ hpl] at hR
      have HC := Lib.hid fun (U : World) (hU : U.heap[Z.heap.size]? = some (.cells (byteRow (S.data.toList.set p v ++ sp)) 5 (N, N + 1))) =>
        run_string_of_prefix (P := Try.prog) (cap := cap) 36 9 5 hU Try.underlying36 Try.underlying5 Try.underlying9 S.size (by rw [List.length_set, ZL.out, ZS.out])
      have HR := Lib.hid hR
      have p39 : (p : Int) < (S.size : Int) := by have := ZS.out; omega
      clear hN hR br hb0
      go_upto_region 13 with fail
      have hbl : Below w.heap.size w ((Z.alloc (.cells (byteRow (S.data.toList ++ sp)) 5 (N, N + 1))).setCell ⟨Z.heap.size, p, none⟩ (.int .u8 (v.toNat : Int))).drew :=
        ((kZ.alloc kZ.size _).setCell (p := ⟨Z.heap.size, p, none⟩) kZ.size _).drew
      have hR2 : ((Z.alloc (.cells (byteRow (S.data.toList ++ sp)) 5 (N, N + 1))).setCell ⟨Z.heap.size, p, none⟩ (.int .u8 (v.toNat : Int))).drew.heap[Z.heap.size]? = some (.cells (byteRow (S.data.toList.set p v ++ sp)) 5 (N, N + 1)) := HR.out
      generalize ((Z.alloc (.cells (byteRow (S.data.toList ++ sp)) 5 (N, N + 1))).setCell ⟨Z.heap.size, p, none⟩ (.int .u8 (v.toNat : Int))).drew = W2 at hbl hR2 ⊢
      have hc0 := HC.out W2 hR2
      clear c1 f1 hcv hxor
      go_wp2_with fail
      refine (H4.out _).mono ?_
      rintro e w3 ⟨rfl, h3⟩
      go_wp2_with fail
      refine (live6_c _).mono ?_
      rintro e w4 ⟨rfl, h4⟩
      go_wp2_with fail
      go_ret
      exact ⟨rfl, below_then (below_then hbl h3) (vboxed h4)⟩

theorem walk (a0_0 : Int) (a0_1 : Int) (a0_2 : Int) (a0_3 : Int) (a0_4 : Int) (a0_5 : Bool) (a0_6 : Bool) (a0_7 : Bool) (a1 : Int) (a2 : Int) (w : World) (la0_0 : 0 ≤ a0_0) (ua0_0 : a0_0 ≤ 18446744073709551615) (la0_1 : -9223372036854775808 ≤ a0_1) (ua0_1 : a0_1 ≤ 9223372036854775807) (la0_2 : 0 ≤ a0_2) (ua0_2 : a0_2 ≤ 18446744073709551615) (la0_3 : -9223372036854775808 ≤ a0_3) (ua0_3 : a0_3 ≤ 9223372036854775807) (la0_4 : -9223372036854775808 ≤ a0_4) (ua0_4 : a0_4 ≤ 9223372036854775807) (la1 : -9223372036854775808 ≤ a1) (ua1 : a1 ≤ 9223372036854775807) (la2 : 0 ≤ a2) (ua2 : a2 ≤ 255) :
    Calls Try.prog 7 #[.agg #[.int .u64 a0_0, .int .i64 a0_1, .int .u64 a0_2, .int .i64 a0_3, .int .i64 a0_4, .bool a0_5, .bool a0_6, .bool a0_7], .int .i64 a1, .int .u8 a2] w fun e w' => e = .returned (.bool true) ∧ Below w.heap.size w w' := by
  have H1 := Lib.hid fun U => encB_c a0_0 a0_1 a0_2 a0_3 a0_4 a0_5 a0_6 a0_7 U la0_0 ua0_0 la0_1 ua0_1 la0_2 ua0_2 la0_3 ua0_3 la0_4 ua0_4
  by_cases h : OkB a0_1 a0_3 a0_4
  · have hv : encB a0_0 a0_1 a0_2 a0_3 a0_4 a0_5 a0_6 a0_7 = (encBB a0_0 a0_1 a0_2 a0_3 a0_4 a0_5 a0_6 a0_7, 0) := if_pos h
    rw [hv] at H1
    have hz := encBB_size a0_0 a0_1 a0_2 a0_3 a0_4 a0_5 a0_6 a0_7
    obtain ⟨b, hb⟩ : ∃ b : Nat, a1 = b ∨ a1 < 0 ∧ -(a1 + 1) = (b : Int) := by
      by_cases c : a1 < 0
      · exact ⟨(-(a1 + 1)).toNat, .inr ⟨c, by omega⟩⟩
      · exact ⟨a1.toNat, .inl (by omega)⟩
    obtain ⟨y, hy⟩ : ∃ y : UInt8, (y.toNat : Int) = a2 := ⟨UInt8.ofNat a2.toNat, by rw [UInt8.toNat_ofNat', Nat.mod_eq_of_lt (by omega)]; omega⟩
    subst hy
    refine walk_yes a0_0 a0_1 a0_2 a0_3 a0_4 a0_5 a0_6 a0_7 a1 y _ w la1 ua1 b (b % 39) (b % 7) hb rfl rfl (Nat.mod_lt _ (by omega)) (Nat.mod_lt _ (by omega)) H1 hz (Lib.hid ?_) ?_
    · intro U
      have := decB_c ((encBB a0_0 a0_1 a0_2 a0_3 a0_4 a0_5 a0_6 a0_7).extract 0 (b % 39)) U (by simp; omega)
      rw [short_B _ (b % 39) hz (Nat.mod_lt _ (by omega))] at this
      exact this
    · intro v hv hy U
      have p7 : b % 7 < 7 := Nat.mod_lt _ (by omega)
      have hl : b % 7 < (encBB a0_0 a0_1 a0_2 a0_3 a0_4 a0_5 a0_6 a0_7).data.toList.length := by rw [vlen, hz]; omega
      have hf := enc_front a0_0 a0_1 a0_2 a0_3 a0_4 a0_5 a0_6 a0_7 (b % 7) p7
      rw [List.getElem?_eq_getElem hl] at hf
      rw [getD_at _ _ _ hl] at hv
      have hne : v ≠ (encBB a0_0 a0_1 a0_2 a0_3 a0_4 a0_5 a0_6 a0_7).data.toList[b % 7] := by
        intro e
        rw [← e] at hv
        have h2 : y.toNat = 0 := by
          have := congrArg (v.toNat ^^^ ·) hv
          simp only [← Nat.xor_assoc, Nat.xor_self, Nat.zero_xor] at this
          exact this.symm
        exact hy (UInt8.toNat_inj.1 h2)
      have := decB_c ⟨((encBB a0_0 a0_1 a0_2 a0_3 a0_4 a0_5 a0_6 a0_7).data.toList.set (b % 7) v).toArray⟩ U (by rw [ByteArray.size_mk', List.size_toArray, List.length_set, vlen, hz]; omega)
      rw [dec_turned a0_0 a0_1 a0_2 a0_3 a0_4 a0_5 a0_6 a0_7 (b % 7) p7 v _ hf.symm hne la0_0 ua0_0 la0_2 ua0_2 h] at this
      exact this
  · have hv : encB a0_0 a0_1 a0_2 a0_3 a0_4 a0_5 a0_6 a0_7 = (⟨#[]⟩, 1) := if_neg h
    rw [hv] at H1
    exact walk_no a0_0 a0_1 a0_2 a0_3 a0_4 a0_5 a0_6 a0_7 a1 a2 w H1

theorem own : ownKnob Try.prog.godebug = none := by kernel_rfl
theorem laidOut : laidOutB Try.prog = true := by kernel_rfl

set_option maxRecDepth 100000 in
theorem lifted (os : Os) (started : os.Started) (H : Type) (enc : TypeId × Value → H) :
    ReturnsInHanded {} Try.checked os 7 .any (Rows.bpduShortSpec.pre6 enc Try.prog Try.f7 Rows.bpduShortRow.domain false) (Rows.bpduShortSpec.post enc Try.prog Try.f7 false true false false) := by
  refine returnsInHanded_of_change_sized (C := Try.checked) own started (by kernel_rfl) Try.func7
    (ChangeSpec.witness6 (enc := enc) (C := Try.checked) false ⟨#[], #[.agg #[.int .u64 0, .int .i64 0, .int .u64 0, .int .i64 0, .int .i64 0, .bool false, .bool false, .bool false], .int .i64 0, .int .u8 0], []⟩ 8 (by kernel_rfl) (by kernel_rfl) (by kernel_rfl) (by kernel_rfl)) ?_
  intro W base args ds gs before hval0 hW hcnd hsz0 hholds
  have hval : ∀ (j : Nat) t v, Try.f7.params[j]? = some t → args[j]? = some v → Value.okWide Try.prog W .any base t v := hval0
  have hsz : (DataW.weightsEach Try.prog (Try.f7.params.toList ++ Rows.bpduShortSpec.plain.varTypes Try.prog) (ds ++ gs)).all (· ≤ reachBytes) = true := hsz0
  have hW' := hW
  obtain ⟨p, q, hA0, hV, rfl, hfz, hnd⟩ := hW
  have hA : DataW.TrodAll enc Try.prog W 0 (fun _ => true) true Try.f7.params.toList args.toList ds p := hA0
  rw [Try.params7] at hA hval hsz
  obtain ⟨v0, vs0, d0, ds0, p0, q0, hargs, rfl, rfl, h0, r0⟩ := trodAll_cons hA
  obtain ⟨v1, vs1, d1, ds1, p1, q1, rfl, rfl, rfl, h1, r1⟩ := trodAll_cons r0
  obtain ⟨v2, vs2, d2, ds2, p2, q2, rfl, rfl, rfl, h2, r2⟩ := trodAll_cons r1
  obtain ⟨rfl, rfl, rfl⟩ := trodAll_nil r2
  obtain rfl : args = #[v0, v1, v2] := by cases args; simp_all
  obtain ⟨rfl, rfl⟩ := trodVars_none hV
  have k0 := h0
  have lt0 : ∀ x ∈ p0, x.block < W.heap.size := by obtain ⟨m, hm⟩ := k0; exact DataW.trod_lt m _ _ _ hm
  have k1 := h1
  have lt1 : ∀ x ∈ p1, x.block < W.heap.size := by obtain ⟨m, hm⟩ := k1; exact DataW.trod_lt m _ _ _ hm
  have k2 := h2
  have lt2 : ∀ x ∈ p2, x.block < W.heap.size := by obtain ⟨m, hm⟩ := k2; exact DataW.trod_lt m _ _ _ hm
  obtain ⟨cs0, rfl, hz0⟩ := okWide_struct Try.underlying26 (hval 0 26 v0 rfl rfl)
  obtain ⟨l0⟩ := cs0
  obtain ⟨c0_0, c0_1, c0_2, c0_3, c0_4, c0_5, c0_6, c0_7, rfl⟩ := list8 l0 (hz0.trans (by kernel_rfl))
  obtain ⟨fu0, hf0⟩ := h0
  obtain ⟨xs0, m0, -, hx0, -, hn0, hg0⟩ := DataW.trod_struct Try.underlying26 hf0
  obtain ⟨y0_0, y0_1, y0_2, y0_3, y0_4, rfl⟩ := list5 xs0 hn0
  simp only [Prod.mk.injEq] at hx0
  obtain ⟨rfl, rfl⟩ := hx0
  have g0_0 : DataW.trod enc Try.prog W 0 (fun _ => true) true m0 24 (List.take (Try.prog.cellsOf 24) (List.drop 0 [c0_0, c0_1, c0_2, c0_3, c0_4, c0_5, c0_6, c0_7])) = some y0_0 := hg0 0 _ rfl
  rw [show Try.prog.cellsOf 24 = 4 from by kernel_rfl] at g0_0
  replace g0_0 : DataW.trod enc Try.prog W 0 (fun _ => true) true m0 24 [c0_0, c0_1, c0_2, c0_3] = some y0_0 := g0_0
  have g0_1 : DataW.trod enc Try.prog W 0 (fun _ => true) true m0 3 (List.take (Try.prog.cellsOf 3) (List.drop 4 [c0_0, c0_1, c0_2, c0_3, c0_4, c0_5, c0_6, c0_7])) = some y0_1 := hg0 1 _ rfl
  rw [show Try.prog.cellsOf 3 = 1 from by kernel_rfl] at g0_1
  replace g0_1 : DataW.trod enc Try.prog W 0 (fun _ => true) true m0 3 [c0_4] = some y0_1 := g0_1
  have g0_2 : DataW.trod enc Try.prog W 0 (fun _ => true) true m0 4 (List.take (Try.prog.cellsOf 4) (List.drop 5 [c0_0, c0_1, c0_2, c0_3, c0_4, c0_5, c0_6, c0_7])) = some y0_2 := hg0 2 _ rfl
  rw [show Try.prog.cellsOf 4 = 1 from by kernel_rfl] at g0_2
  replace g0_2 : DataW.trod enc Try.prog W 0 (fun _ => true) true m0 4 [c0_5] = some y0_2 := g0_2
  have g0_3 : DataW.trod enc Try.prog W 0 (fun _ => true) true m0 4 (List.take (Try.prog.cellsOf 4) (List.drop 6 [c0_0, c0_1, c0_2, c0_3, c0_4, c0_5, c0_6, c0_7])) = some y0_3 := hg0 3 _ rfl
  rw [show Try.prog.cellsOf 4 = 1 from by kernel_rfl] at g0_3
  replace g0_3 : DataW.trod enc Try.prog W 0 (fun _ => true) true m0 4 [c0_6] = some y0_3 := g0_3
  have g0_4 : DataW.trod enc Try.prog W 0 (fun _ => true) true m0 4 (List.take (Try.prog.cellsOf 4) (List.drop 7 [c0_0, c0_1, c0_2, c0_3, c0_4, c0_5, c0_6, c0_7])) = some y0_4 := hg0 4 _ rfl
  rw [show Try.prog.cellsOf 4 = 1 from by kernel_rfl] at g0_4
  replace g0_4 : DataW.trod enc Try.prog W 0 (fun _ => true) true m0 4 [c0_7] = some y0_4 := g0_4
  clear hg0
  obtain ⟨xs0_0, m0_0, -, hx0_0, -, hn0_0, hg0_0⟩ := DataW.trod_struct Try.underlying24 g0_0
  obtain ⟨y0_0_0, y0_0_1, y0_0_2, y0_0_3, rfl⟩ := list4 xs0_0 hn0_0
  subst hx0_0
  have g0_0_0 : DataW.trod enc Try.prog W 0 (fun _ => true) true m0_0 22 (List.take (Try.prog.cellsOf 22) (List.drop 0 [c0_0, c0_1, c0_2, c0_3])) = some y0_0_0 := hg0_0 0 _ rfl
  rw [show Try.prog.cellsOf 22 = 1 from by kernel_rfl] at g0_0_0
  replace g0_0_0 : DataW.trod enc Try.prog W 0 (fun _ => true) true m0_0 22 [c0_0] = some y0_0_0 := g0_0_0
  have g0_0_1 : DataW.trod enc Try.prog W 0 (fun _ => true) true m0_0 3 (List.take (Try.prog.cellsOf 3) (List.drop 1 [c0_0, c0_1, c0_2, c0_3])) = some y0_0_1 := hg0_0 1 _ rfl
  rw [show Try.prog.cellsOf 3 = 1 from by kernel_rfl] at g0_0_1
  replace g0_0_1 : DataW.trod enc Try.prog W 0 (fun _ => true) true m0_0 3 [c0_1] = some y0_0_1 := g0_0_1
  have g0_0_2 : DataW.trod enc Try.prog W 0 (fun _ => true) true m0_0 22 (List.take (Try.prog.cellsOf 22) (List.drop 2 [c0_0, c0_1, c0_2, c0_3])) = some y0_0_2 := hg0_0 2 _ rfl
  rw [show Try.prog.cellsOf 22 = 1 from by kernel_rfl] at g0_0_2
  replace g0_0_2 : DataW.trod enc Try.prog W 0 (fun _ => true) true m0_0 22 [c0_2] = some y0_0_2 := g0_0_2
  have g0_0_3 : DataW.trod enc Try.prog W 0 (fun _ => true) true m0_0 3 (List.take (Try.prog.cellsOf 3) (List.drop 3 [c0_0, c0_1, c0_2, c0_3])) = some y0_0_3 := hg0_0 3 _ rfl
  rw [show Try.prog.cellsOf 3 = 1 from by kernel_rfl] at g0_0_3
  replace g0_0_3 : DataW.trod enc Try.prog W 0 (fun _ => true) true m0_0 3 [c0_3] = some y0_0_3 := g0_0_3
  clear hg0_0
  obtain ⟨a0_0, e0_0, rfl, w0_0⟩ := DataW.trod_int Try.underlying22 g0_0_0
  simp at e0_0
  subst e0_0
  obtain ⟨a0_1, e0_1, rfl, w0_1⟩ := DataW.trod_int Try.underlying3 g0_0_1
  simp at e0_1
  subst e0_1
  obtain ⟨a0_2, e0_2, rfl, w0_2⟩ := DataW.trod_int Try.underlying22 g0_0_2
  simp at e0_2
  subst e0_2
  obtain ⟨a0_3, e0_3, rfl, w0_3⟩ := DataW.trod_int Try.underlying3 g0_0_3
  simp at e0_3
  subst e0_3
  obtain ⟨a0_4, e0_4, rfl, w0_4⟩ := DataW.trod_int Try.underlying3 g0_1
  simp at e0_4
  subst e0_4
  obtain ⟨a0_5, e0_5, rfl⟩ := DataW.trod_bool Try.underlying4 g0_2
  simp at e0_5
  subst e0_5
  obtain ⟨a0_6, e0_6, rfl⟩ := DataW.trod_bool Try.underlying4 g0_3
  simp at e0_6
  subst e0_6
  obtain ⟨a0_7, e0_7, rfl⟩ := DataW.trod_bool Try.underlying4 g0_4
  simp at e0_7
  subst e0_7
  obtain ⟨a1, rfl, rfl, rfl, w1⟩ := open_int Try.underlying3 (hval 1 3 v1 rfl rfl) h1
  obtain ⟨a2, rfl, rfl, rfl, w2⟩ := open_int Try.underlying5 (hval 2 5 v2 rfl rfl) h2
  have ba0_0 := bounds_u64 w0_0
  have ba0_1 := bounds_i64 w0_1
  have ba0_2 := bounds_u64 w0_2
  have ba0_3 := bounds_i64 w0_3
  have ba0_4 := bounds_i64 w0_4
  have ba1 := bounds_i64 w1
  have ba2 := bounds_u8 w2
  clear hA0 hval0
  refine (walk a0_0 a0_1 a0_2 a0_3 a0_4 a0_5 a0_6 a0_7 a1 a2 W ba0_0.1 ba0_0.2 ba0_1.1 ba0_1.2 ba0_2.1 ba0_2.2 ba0_3.1 ba0_3.2 ba0_4.1 ba0_4.2 ba1.1 ba1.2 ba2.1 ba2.2).mono fun e W' ⟨he, bel⟩ => ?_
  subst he
  exact ⟨_, rfl, _, _, _, [], _, [], hW', trodAll_mk1 (shut_bool Try.underlying4 _), (trodAll_cons_mk (Below.trod laidOut (by kernel_rfl) (of_decide_eq_true (by kernel_rfl)) k0 bel lt0) (trodAll_cons_mk (Below.trod laidOut (by kernel_rfl) (of_decide_eq_true (by kernel_rfl)) k1 bel lt1) (trodAll_cons_mk (Below.trod laidOut (by kernel_rfl) (of_decide_eq_true (by kernel_rfl)) k2 bel lt2) trodAll_mk0))), rfl, bel.frame _, fun h => by cases h⟩

theorem over : Rows.bpduShortRow.holds Try.pinned (OpenSpec.ofChange Rows.bpduShortSpec) :=
  OpenClaim.holds_of_wide 7 Try.f7 rfl rfl rfl rfl rfl rfl rfl ⟨rfl, rfl, rfl, rfl, rfl⟩ rfl rfl rfl rfl rfl (by kernel_rfl) Try.func7 (by kernel_rfl)
    (of_decide_eq_true (by kernel_rfl)) (by unfold Func.isWrapper; first | (rw [if_pos (by decide +kernel)]; kernel_rfl) | (rw [if_neg (by decide +kernel)]; exact ⟨rfl, rfl⟩))
    (fun os started H enc _ => lifted os started H enc)

/-- The statement. -/
theorem proved : Rows.BpduShortSaid := over
#print axioms proved
end Go.Proofs.Ytcahhkmbigjhlaa.bpduShortLaw
