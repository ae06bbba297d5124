/-
  'siphonlaw06.BpduFree' returns true, whatever the input, and each argument reads behind the call as it read before. Conditions: none beyond those that the row itself states.
-/
import Derived.Test.YtcahhkmbigjhlaaRows
import Derived.Test.YtcahhkmbigjhlaaLive6
import Derived.Test.YtcahhkmbigjhlaaBytesN
import Derived.WalkKit
import Derived.ProofKit
import Derived.OpenShut
import Derived.ShutString
import Derived.ChangeOld
import Derived.Below
import Derived.Carry
import Derived.SizedLaws
import Derived.Lib.SmallJoins
import Derived.ChangeArms
import Derived.WideShapes
namespace Go.Proofs.Ytcahhkmbigjhlaa.bpduFreeLaw
open Go.ChangeShapes Go.WideShapes Go.ChangeAt Go.RowKit Go.Joins
open Go.ChangeMaps (open_string shut_string)
set_option linter.unusedVariables false

theorem list4 {α : Type} (l : List α) (h : l.length = 4) : ∃ x0 x1 x2 x3 : α, l = [x0, x1, x2, x3] := by
  match l, h with
  | [x0, x1, x2, x3], _ => exact ⟨x0, x1, x2, x3, rfl⟩

theorem list5 {α : Type} (l : List α) (h : l.length = 5) : ∃ x0 x1 x2 x3 x4 : α, l = [x0, x1, x2, x3, x4] := by
  match l, h with
  | [x0, x1, x2, x3, x4], _ => exact ⟨x0, x1, x2, x3, x4, rfl⟩

theorem list6 {α : Type} (l : List α) (h : l.length = 6) : ∃ x0 x1 x2 x3 x4 x5 : α, l = [x0, x1, x2, x3, x4, x5] := by
  match l, h with
  | [x0, x1, x2, x3, x4, x5], _ => exact ⟨x0, x1, x2, x3, x4, x5, rfl⟩

theorem list8 {α : Type} (l : List α) (h : l.length = 8) : ∃ x0 x1 x2 x3 x4 x5 x6 x7 : α, l = [x0, x1, x2, x3, x4, x5, x6, x7] := by
  match l, h with
  | [x0, x1, x2, x3, x4, x5, x6, x7], _ => exact ⟨x0, x1, x2, x3, x4, x5, x6, x7, rfl⟩

theorem okWide_arr {P : Program} {w : World} {r : Reach} {base n : Nat} {t e : TypeId} {v : Value} (ht : P.underlying t = some (.array n e)) (h : Value.okWide P w r base t v) : ∃ cs, v = .agg cs ∧ cs.size = P.cellsOf t := by
  simp only [Value.okWide, ht] at h
  obtain ⟨cs, h1, h2, _⟩ := h
  exact ⟨cs, h1, h2⟩

theorem bit_free (F y k : Nat) (h : (206 : Nat).testBit k = false) : (F ^^^ (y &&& 206)) / 2 ^ k % 2 = F / 2 ^ k % 2 := by
  rw [← Nat.toNat_testBit, ← Nat.toNat_testBit, Nat.testBit_xor, Nat.testBit_and, h, Bool.and_false, Bool.xor_false]

/-- The first j of m stand at 32. -/
def setsL (l m : List UInt8) (j : Nat) : List UInt8 := l.take 32 ++ m.take j ++ l.drop (32 + j)
theorem setsL_zero (l m : List UInt8) : setsL l m 0 = l := by simp [setsL]
theorem setsL_len (l m : List UInt8) (j : Nat) (hl : l.length = 39) (hm : m.length = 6) (hj : j ≤ 6) : (setsL l m j).length = 39 := by
  unfold setsL
  simp only [List.length_append, List.length_take, List.length_drop, hl, hm]
  omega
theorem setsL_succ (l m : List UInt8) (j : Nat) (hl : l.length = 39) (hm : m.length = 6) (hj : j < m.length) : (setsL l m j).set (32 + j) m[j] = setsL l m (j + 1) := by
  unfold setsL
  have h1 : (l.take 32 ++ m.take j).length = 32 + j := by simp only [List.length_append, List.length_take, hl, hm]; omega
  rw [List.set_append_right _ _ (by omega), h1, Nat.sub_self, List.take_succ_eq_append_getElem hj, List.drop_eq_getElem_cons (show 32 + j < l.length by omega), List.set_cons_zero]
  simp only [List.append_assoc, List.cons_append, List.nil_append]
  rfl

theorem dec_free (r c b q a : Int) (ch le fw : Bool) (y v : UInt8) (m : List UInt8) (hm : m.length = 6) (hv : v.toNat = flagB ch le fw ^^^ (y.toNat &&& 206)) (r0 : 0 ≤ r) (r1 : r ≤ 18446744073709551615) (b0 : 0 ≤ b) (b1 : b ≤ 18446744073709551615) (ok : OkB c q a) :
    decB ⟨(setsL ((encBB r c b q a ch le fw).data.toList.set 7 v) m 6).toArray⟩ = (⟨r, c, b, q, a, ch, le, fw⟩, 0) := by
  have hl := flagB_lt ch le fw
  have hk := backB_len r c b q a
  have e : setsL ((encBB r c b q a ch le fw).data.toList.set 7 v) m 6 = frontB ++ [v] ++ backB r c b q a ++ m ++ [0] ++ [] := by
    have e1 : (encBB r c b q a ch le fw).data.toList.set 7 v = (frontB ++ [v] ++ backB r c b q a) ++ [20, 0, 2, 0, 15, 0] ++ [0] := by
      show (encBL r c b q a ch le fw).set 7 v = _
      unfold encBL
      rw [bytes_one _ hl]
      simp [frontB]
    have e2 : (frontB ++ [v] ++ backB r c b q a).length = 32 := by simp [frontB, hk]
    rw [e1]
    unfold setsL
    rw [List.append_assoc _ [20, 0, 2, 0, 15, 0] [0], List.take_left' e2, List.take_of_length_le (by omega), ← List.append_assoc _ [20, 0, 2, 0, 15, 0] [0], List.drop_left' (by rw [List.length_append, e2]; rfl)]
    simp
  have := decB_at r c b q a v 0 frontB m [] ⟨(setsL ((encBB r c b q a ch le fw).data.toList.set 7 v) m 6).toArray⟩ r0 r1 b0 b1 ok rfl hm (by show setsL _ m 6 = _; rw [e])
  obtain ⟨g1, g2, g3⟩ := flag_bits ch le fw
  have k0 := bit_free (flagB ch le fw) y.toNat 0 (by decide)
  have k4 := bit_free (flagB ch le fw) y.toNat 4 (by decide)
  have k5 := bit_free (flagB ch le fw) y.toNat 5 (by decide)
  rw [← hv] at k0 k4 k5
  simp only [Nat.pow_zero, Nat.div_one] at k0
  rw [show (2 : Nat) ^ 4 = 16 from rfl] at k4
  rw [show (2 : Nat) ^ 5 = 32 from rfl] at k5
  rw [this, if_pos ⟨rfl, rfl⟩, k0, k4, k5, g1, g2, g3]

theorem enc_flag (r c b q a : Int) (ch le fw : Bool) (h : 7 < (encBB r c b q a ch le fw).data.toList.length) : ((encBB r c b q a ch le fw).data.toList[7]).toNat = flagB ch le fw := by
  have hl := flagB_lt ch le fw
  have e : (encBB r c b q a ch le fw).data.toList[7]? = some (UInt8.ofNat (flagB ch le fw)) := by
    show (encBL r c b q a ch le fw)[7]? = _
    unfold encBL
    rw [bytes_one _ hl]
    simp [frontB]
  rw [List.getElem?_eq_getElem h] at e
  rw [Option.some.inj e, UInt8.toNat_ofNat', Nat.mod_eq_of_lt hl]

set_option maxHeartbeats 1000000 in
set_option maxRecDepth 100000 in
theorem walk_no (a0_0 a0_1 a0_2 a0_3 a0_4 : Int) (a0_5 a0_6 a0_7 : Bool) (a1 : Int) (x0 x1 x2 x3 x4 x5 : Int) (w : World)
    (H1 : Hid (∀ U, Calls Try.prog 12 #[.agg #[.int .u64 a0_0, .int .i64 a0_1, .int .u64 a0_2, .int .i64 a0_3, .int .i64 a0_4, .bool a0_5, .bool a0_6, .bool a0_7]] U fun e w' => e = .returned (.tuple #[.string ⟨#[]⟩, .int .i64 1]) ∧ Below U.heap.size U w')) :
    Calls Try.prog 8 #[.agg #[.int .u64 a0_0, .int .i64 a0_1, .int .u64 a0_2, .int .i64 a0_3, .int .i64 a0_4, .bool a0_5, .bool a0_6, .bool a0_7], .int .u8 a1, .agg #[.int .u8 x0, .int .u8 x1, .int .u8 x2, .int .u8 x3, .int .u8 x4, .int .u8 x5]] w fun e w' => e = .returned (.bool true) ∧ Below w.heap.size w w' := by
  go_enter Try.func8, Try.ntmps8
  go_wp2_with fail
  refine (H1.out _).mono ?_
  rintro e w1 ⟨rfl, h1⟩
  go_wp2_with fail
  refine (live6_c _).mono ?_
  rintro e w3 ⟨rfl, h3⟩
  go_wp2_with fail
  go_ret
  exact ⟨rfl, below_then (vboxed (vboxed h1)) h3⟩

/-- The message and the numbers in their boxes, the bytes in their row. -/
def FreeS (w : World) (P tb N : Nat) (vs : Array Value) (m bytes sp : List UInt8) (W : World) : Prop :=
  W.heap[P]? = some (.cells vs 26 (0, 0)) ∧ W.heap[P + 1]? = some (.cells (byteRow m) 38 (0, 0)) ∧ W.heap[tb]? = some (.cells (byteRow (bytes ++ sp)) 5 (N, N + 1)) ∧ P + 1 < tb ∧ Below P w W
theorem FreeS.drew {w W : World} {P tb N : Nat} {vs : Array Value} {m bytes sp : List UInt8} (h : FreeS w P tb N vs m bytes sp W) : FreeS w P tb N vs m bytes sp W.drew := ⟨h.1, h.2.1, h.2.2.1, h.2.2.2.1, h.2.2.2.2.drew⟩
theorem FreeS.store {w W : World} {P tb N : Nat} {vs : Array Value} {m bytes sp : List UInt8} (k : Nat) (v : UInt8) (hk : k < bytes.length) (h : FreeS w P tb N vs m bytes sp W) : FreeS w P tb N vs m (bytes.set k v) sp (W.setCell ⟨tb, k, none⟩ (.int .u8 (v.toNat : Int))) := by
  obtain ⟨h1, h2, h3, h4, h5⟩ := h
  have hR := heap_store (j := k) (v := .int .u8 (v.toNat : Int)) h3
  rw [byteRow_set, List.set_append_left _ _ hk] at hR
  exact ⟨heap_store_other h1 (by omega), heap_store_other h2 (by omega), hR, h4, h5.setCell (p := ⟨tb, k, none⟩) (by show P ≤ tb; omega) _⟩

set_option maxHeartbeats 2000000 in
set_option maxRecDepth 100000 in
theorem walk_yes (a0_0 a0_1 a0_2 a0_3 a0_4 : Int) (a0_5 a0_6 a0_7 : Bool) (y : UInt8) (m : List UInt8) (S : ByteArray) (w : World) (hm : m.length = 6)
    (H1 : Hid (∀ U, Calls Try.prog 12 #[.agg #[.int .u64 a0_0, .int .i64 a0_1, .int .u64 a0_2, .int .i64 a0_3, .int .i64 a0_4, .bool a0_5, .bool a0_6, .bool a0_7]] U fun e w' => e = .returned (.tuple #[.string S, .int .i64 0]) ∧ Below U.heap.size U w'))
    (zS : S.size = 39)
    (H3 : ∀ v : UInt8, v.toNat = (S.data.toList.getD 7 0).toNat ^^^ (y.toNat &&& 206) → ∀ U, Calls Try.prog 9 #[.string ⟨(setsL (S.data.toList.set 7 v) m 6).toArray⟩] U fun e w' => e = .returned (.tuple #[.agg #[.int .u64 a0_0, .int .i64 a0_1, .int .u64 a0_2, .int .i64 a0_3, .int .i64 a0_4, .bool a0_5, .bool a0_6, .bool a0_7], .int .i64 0]) ∧ Below U.heap.size U w') :
    Calls Try.prog 8 #[.agg #[.int .u64 a0_0, .int .i64 a0_1, .int .u64 a0_2, .int .i64 a0_3, .int .i64 a0_4, .bool a0_5, .bool a0_6, .bool a0_7], .int .u8 (y.toNat : Int), .agg (byteRow m)] w fun e w' => e = .returned (.bool true) ∧ Below w.heap.size w w' := by
  have zS2 : (S.size : Int) = 39 := by omega
  obtain ⟨q1, q2⟩ := eq_t zS2
  have zL : S.data.toList.length = 39 := by rw [vlen, zS]
  have hpl : 7 < S.data.toList.length := by omega
  obtain ⟨x, hx⟩ : ∃ x, x = S.data.toList[7] := ⟨_, rfl⟩
  have hgd : S.data.toList.getD 7 0 = x := by rw [getD_at _ _ _ hpl, hx]
  rw [hgd] at H3
  have hxl := x.toNat_lt
  have hyl := y.toNat_lt
  have hzl : y.toNat &&& 206 < 256 := Nat.lt_of_le_of_lt Nat.and_le_left hyl
  obtain ⟨z, hz⟩ : ∃ z : UInt8, z.toNat = y.toNat &&& 206 := ⟨UInt8.ofNat (y.toNat &&& 206), by rw [UInt8.toNat_ofNat', Nat.mod_eq_of_lt hzl]⟩
  have hand : bits BinOp.and IntKind.u8 (y.toNat : Int) 206 = (z.toNat : Int) := by rw [show (206 : Int) = ((206 : Nat) : Int) from rfl, u8_and_nat _ _ hyl (by omega), hz]
  have hvl : x.toNat ^^^ z.toNat < 256 := Nat.xor_lt_two_pow (n := 8) hxl z.toNat_lt
  obtain ⟨v, hv⟩ : ∃ v : UInt8, v.toNat = x.toNat ^^^ z.toNat := ⟨UInt8.ofNat (x.toNat ^^^ z.toNat), by rw [UInt8.toNat_ofNat', Nat.mod_eq_of_lt hvl]⟩
  have hxor : bits BinOp.xor IntKind.u8 (x.toNat : Int) (z.toNat : Int) = (v.toNat : Int) := by rw [u8_xor_nat _ _ hxl z.toNat_lt, hv]
  have H4 := Lib.hid (H3 v (by rw [hv, hz]))
  have HX := Lib.hid hx
  have ZS := Lib.hid zS
  have ZL := Lib.hid zL
  have HM := Lib.hid hm
  have q7 : (7 : Int) < (S.size : Int) := by omega
  clear H3 hx hgd hv hvl hz hzl zS zS2 zL hm
  go_enter Try.func8, Try.ntmps8
  go_wp2_with fail
  refine (H1.out _).mono ?_
  rintro e w1 ⟨rfl, h1⟩
  go_upto_region 4 with fail
  have a1 := below_block h1 (b := w.heap.size) (by simp; omega) (heap_old (heap_new _ _))
  have a2 := below_block h1 (b := w.heap.size + 1) (by simp) (by simpa using heap_new (w.alloc (.cells #[.int .u64 a0_0, .int .i64 a0_1, .int .u64 a0_2, .int .i64 a0_3, .int .i64 a0_4, .bool a0_5, .bool a0_6, .bool a0_7] 26)) (.cells (byteRow m) 38))
  have a3 := vboxed (vboxed h1)
  clear h1
  obtain ⟨cap, sp, hcv⟩ := bytes_new (P := Try.prog) w1 9 36 5 S Try.underlying9 Try.underlying36 Try.underlying5
  obtain ⟨N, hN⟩ : ∃ N, N = (S.data.toList ++ sp).length := ⟨_, rfl⟩
  have hNs : 39 ≤ N := by rw [hN, List.length_append, ZL.out]; omega
  rw [← hN] at hcv
  have hb0 := heap_new w1 (.cells (byteRow (S.data.toList ++ sp)) 5 (N, N + 1))
  have br := byteRow_at (S.data.toList ++ sp) 7 (by rw [← hN]; omega)
  rw [List.getElem_append_left hpl, ← HX.out] at br
  have c1 := cell_of_block hb0 br
  have f1 := free_below hb0 (j := 7) (by omega)
  have F0 : FreeS w w.heap.size w1.heap.size N #[.int .u64 a0_0, .int .i64 a0_1, .int .u64 a0_2, .int .i64 a0_3, .int .i64 a0_4, .bool a0_5, .bool a0_6, .bool a0_7] m S.data.toList sp (w1.alloc (.cells (byteRow (S.data.toList ++ sp)) 5 (N, N + 1))) :=
    ⟨heap_old a1, heap_old a2, hb0, lt_of_block a2, a3.alloc a3.size _⟩
  have F1 := (F0.store 7 v hpl).drew
  have HF := Lib.hid F1
  have HC := Lib.hid fun (U : World) (hU : U.heap[w1.heap.size]? = some (.cells (byteRow (setsL (S.data.toList.set 7 v) m 6 ++ sp)) 5 (N, N + 1))) =>
    run_string_of_prefix (P := Try.prog) (cap := cap) 36 9 5 hU Try.underlying36 Try.underlying5 Try.underlying9 S.size (by rw [setsL_len _ _ _ (by rw [List.length_set, ZL.out]) HM.out (Nat.le_refl _), ZS.out])
  clear hN br hb0 F0 F1 a1 a2 a3
  go_upto_region 6 with fail
  replace HF : Hid (FreeS w w.heap.size w1.heap.size N #[.int .u64 a0_0, .int .i64 a0_1, .int .u64 a0_2, .int .i64 a0_3, .int .i64 a0_4, .bool a0_5, .bool a0_6, .bool a0_7] m (S.data.toList.set 7 v) sp ((w1.alloc (.cells (byteRow (S.data.toList ++ sp)) 5 (N, N + 1))).setCell ⟨w1.heap.size, 7, none⟩ (.int .u8 (v.toNat : Int))).drew) := HF
  generalize ((w1.alloc (.cells (byteRow (S.data.toList ++ sp)) 5 (N, N + 1))).setCell ⟨w1.heap.size, 7, none⟩ (.int .u8 (v.toNat : Int))).drew = W2 at HF ⊢
  clear c1 f1 hcv hxor hand
  generalize w1.heap.size = tb at HF HC ⊢
  have hL7 : (S.data.toList.set 7 v).length = 39 := by rw [List.length_set, ZL.out]
  generalize S.data.toList.set 7 v = L7 at HF HC H4 hL7 ⊢
  have HL7 := Lib.hid hL7
  have ZI := Lib.hid (show (S.size : Int) = 39 by rw [ZS.out]; rfl)
  clear hL7 HX hpl hxl hyl
  go_wp2_with fail
  go_loopw [10] (fun i wr => ∃ j : Nat, j ≤ 6 ∧ i = .int .i64 (j : Int) ∧ Hid (FreeS w w.heap.size tb N #[.int .u64 a0_0, .int .i64 a0_1, .int .u64 a0_2, .int .i64 a0_3, .int .i64 a0_4, .bool a0_5, .bool a0_6, .bool a0_7] m (setsL L7 m j) sp wr))
    (fun i _ => 6 - (intOf i).toNat)
  case atStart => exact ⟨0, by omega, rfl, by rw [setsL_zero]; exact HF⟩
  case round =>
    obtain ⟨j, hj, rfl, hE⟩ := hrel
    clear HF
    by_cases hlt : j < 6
    · have hjm : j < m.length := by rw [HM.out]; exact hlt
      have cn := cell_of_block hE.out.2.1 (byteRow_at m j hjm)
      have hl39 := setsL_len L7 m j HL7.out HM.out hj
      obtain ⟨k, hk⟩ : ∃ k : Nat, k = 32 + j := ⟨_, rfl⟩
      have hkl : k < (setsL L7 m j).length := by omega
      have br := byteRow_at (setsL L7 m j ++ sp) k (by rw [List.length_append]; omega)
      obtain ⟨cv, ct⟩ : ∃ cv, wr.cell? ⟨tb, k, none⟩ = some cv := ⟨_, cell_of_block hE.out.2.2.1 br⟩
      have ft := free_below hE.out.2.2.1 (j := k) (by omega)
      have q8 : (32 : Int) + (j : Int) = (k : Int) := by omega
      have q9 : (k : Int) < (S.size : Int) := by rw [ZI.out]; omega
      have j6 : (j : Int) < 6 := by omega
      have HN := Lib.hid ((hE.out.store k m[j] hkl))
      have HN2 : Hid (FreeS w w.heap.size tb N #[.int .u64 a0_0, .int .i64 a0_1, .int .u64 a0_2, .int .i64 a0_3, .int .i64 a0_4, .bool a0_5, .bool a0_6, .bool a0_7] m (setsL L7 m (j + 1)) sp (wr.setCell ⟨tb, k, none⟩ (.int .u8 (m[j].toNat : Int)))) := by
        have e := setsL_succ L7 m j HL7.out HM.out hjm
        have := HN.out
        rw [hk, e, ← hk] at this
        exact this
      generalize (m[j].toNat : Int) = mj at cn HN2 ⊢
      clear br hk hkl hl39 HN hjm
      go_wp2_with fail
      go_roundw
      case rel => exact ⟨j + 1, by omega, by go_num, HN2⟩
      case measure => simp [intOf]; omega
    · obtain rfl : j = 6 := by omega
      have hc0 := HC.out wr hE.out.2.2.1
      have d0 := cell_of_block (j := 0) hE.out.1 rfl
      have d1 := cell_of_block (j := 1) hE.out.1 rfl
      have d2 := cell_of_block (j := 2) hE.out.1 rfl
      have d3 := cell_of_block (j := 3) hE.out.1 rfl
      have d4 := cell_of_block (j := 4) hE.out.1 rfl
      have d5 := cell_of_block (j := 5) hE.out.1 rfl
      have d6 := cell_of_block (j := 6) hE.out.1 rfl
      have d7 := cell_of_block (j := 7) hE.out.1 rfl
      have g0 := lt_of_block hE.out.1
      have kZ := hE.out.2.2.2.2
      clear hE
      go_wp2_with fail
      refine (H4.out _).mono ?_
      rintro e w3 ⟨rfl, h3⟩
      obtain ⟨hc3, hf3⟩ := below_cells h3
      have g3 : w.heap.size < w3.heap.size := by have := h3.size; omega
      go_wp2_with fail
      refine (live6_c _).mono ?_
      rintro e w4 ⟨rfl, h4⟩
      go_wp2_with fail
      go_ret
      exact ⟨rfl, below_then (below_then kZ h3) (vboxed h4)⟩

theorem walk (a0_0 : Int) (a0_1 : Int) (a0_2 : Int) (a0_3 : Int) (a0_4 : Int) (a0_5 : Bool) (a0_6 : Bool) (a0_7 : Bool) (a1 : Int) (a2_0 : Int) (a2_1 : Int) (a2_2 : Int) (a2_3 : Int) (a2_4 : Int) (a2_5 : Int) (w : World) (la0_0 : 0 ≤ a0_0) (ua0_0 : a0_0 ≤ 18446744073709551615) (la0_1 : -9223372036854775808 ≤ a0_1) (ua0_1 : a0_1 ≤ 9223372036854775807) (la0_2 : 0 ≤ a0_2) (ua0_2 : a0_2 ≤ 18446744073709551615) (la0_3 : -9223372036854775808 ≤ a0_3) (ua0_3 : a0_3 ≤ 9223372036854775807) (la0_4 : -9223372036854775808 ≤ a0_4) (ua0_4 : a0_4 ≤ 9223372036854775807) (la1 : 0 ≤ a1) (ua1 : a1 ≤ 255) (la2_0 : 0 ≤ a2_0) (ua2_0 : a2_0 ≤ 255) (la2_1 : 0 ≤ a2_1) (ua2_1 : a2_1 ≤ 255) (la2_2 : 0 ≤ a2_2) (ua2_2 : a2_2 ≤ 255) (la2_3 : 0 ≤ a2_3) (ua2_3 : a2_3 ≤ 255) (la2_4 : 0 ≤ a2_4) (ua2_4 : a2_4 ≤ 255) (la2_5 : 0 ≤ a2_5) (ua2_5 : a2_5 ≤ 255) :
    Calls Try.prog 8 #[.agg #[.int .u64 a0_0, .int .i64 a0_1, .int .u64 a0_2, .int .i64 a0_3, .int .i64 a0_4, .bool a0_5, .bool a0_6, .bool a0_7], .int .u8 a1, .agg #[.int .u8 a2_0, .int .u8 a2_1, .int .u8 a2_2, .int .u8 a2_3, .int .u8 a2_4, .int .u8 a2_5]] w fun e w' => e = .returned (.bool true) ∧ Below w.heap.size w w' := by
  have H1 := Lib.hid fun U => encB_c a0_0 a0_1 a0_2 a0_3 a0_4 a0_5 a0_6 a0_7 U la0_0 ua0_0 la0_1 ua0_1 la0_2 ua0_2 la0_3 ua0_3 la0_4 ua0_4
  by_cases h : OkB a0_1 a0_3 a0_4
  · have hv : encB a0_0 a0_1 a0_2 a0_3 a0_4 a0_5 a0_6 a0_7 = (encBB a0_0 a0_1 a0_2 a0_3 a0_4 a0_5 a0_6 a0_7, 0) := if_pos h
    rw [hv] at H1
    have hz := encBB_size a0_0 a0_1 a0_2 a0_3 a0_4 a0_5 a0_6 a0_7
    have nat8 : ∀ x : Int, 0 ≤ x → x ≤ 255 → ∃ y : UInt8, (y.toNat : Int) = x := fun x h0 h1 => ⟨UInt8.ofNat x.toNat, by rw [UInt8.toNat_ofNat', Nat.mod_eq_of_lt (by omega)]; omega⟩
    obtain ⟨y, hy⟩ := nat8 a1 la1 ua1
    obtain ⟨y0, hy0⟩ := nat8 a2_0 la2_0 ua2_0
    obtain ⟨y1, hy1⟩ := nat8 a2_1 la2_1 ua2_1
    obtain ⟨y2, hy2⟩ := nat8 a2_2 la2_2 ua2_2
    obtain ⟨y3, hy3⟩ := nat8 a2_3 la2_3 ua2_3
    obtain ⟨y4, hy4⟩ := nat8 a2_4 la2_4 ua2_4
    obtain ⟨y5, hy5⟩ := nat8 a2_5 la2_5 ua2_5
    subst hy hy0 hy1 hy2 hy3 hy4 hy5
    refine walk_yes a0_0 a0_1 a0_2 a0_3 a0_4 a0_5 a0_6 a0_7 y [y0, y1, y2, y3, y4, y5] _ w rfl H1 hz ?_
    intro v hv U
    have hl : 7 < (encBB a0_0 a0_1 a0_2 a0_3 a0_4 a0_5 a0_6 a0_7).data.toList.length := by rw [vlen, hz]; omega
    rw [getD_at _ _ _ hl, enc_flag a0_0 a0_1 a0_2 a0_3 a0_4 a0_5 a0_6 a0_7 hl] at hv
    have := decB_c ⟨(setsL ((encBB a0_0 a0_1 a0_2 a0_3 a0_4 a0_5 a0_6 a0_7).data.toList.set 7 v) [y0, y1, y2, y3, y4, y5] 6).toArray⟩ U (by rw [ByteArray.size_mk', List.size_toArray, setsL_len _ _ _ (by rw [List.length_set, vlen, hz]) rfl (Nat.le_refl _)]; omega)
    rw [dec_free a0_0 a0_1 a0_2 a0_3 a0_4 a0_5 a0_6 a0_7 y v [y0, y1, y2, y3, y4, y5] rfl hv la0_0 ua0_0 la0_2 ua0_2 h] at this
    exact this
  · have hv : encB a0_0 a0_1 a0_2 a0_3 a0_4 a0_5 a0_6 a0_7 = (⟨#[]⟩, 1) := if_neg h
    rw [hv] at H1
    exact walk_no a0_0 a0_1 a0_2 a0_3 a0_4 a0_5 a0_6 a0_7 a1 _ _ _ _ _ _ w H1

theorem own : ownKnob Try.prog.godebug = none := by kernel_rfl
theorem laidOut : laidOutB Try.prog = true := by kernel_rfl

set_option maxRecDepth 100000 in
theorem lifted (os : Os) (started : os.Started) (H : Type) (enc : TypeId × Value → H) :
    ReturnsInHanded {} Try.checked os 8 .any (Rows.bpduFreeSpec.pre6 enc Try.prog Try.f8 Rows.bpduFreeRow.domain false) (Rows.bpduFreeSpec.post enc Try.prog Try.f8 false true false false) := by
  refine returnsInHanded_of_change_sized (C := Try.checked) own started (by kernel_rfl) Try.func8
    (ChangeSpec.witness6 (enc := enc) (C := Try.checked) false ⟨#[], #[.agg #[.int .u64 0, .int .i64 0, .int .u64 0, .int .i64 0, .int .i64 0, .bool false, .bool false, .bool false], .int .u8 0, .agg #[.int .u8 0, .int .u8 0, .int .u8 0, .int .u8 0, .int .u8 0, .int .u8 0]], []⟩ 8 (by kernel_rfl) (by kernel_rfl) (by kernel_rfl) (by kernel_rfl)) ?_
  intro W base args ds gs before hval0 hW hcnd hsz0 hholds
  have hval : ∀ (j : Nat) t v, Try.f8.params[j]? = some t → args[j]? = some v → Value.okWide Try.prog W .any base t v := hval0
  have hsz : (DataW.weightsEach Try.prog (Try.f8.params.toList ++ Rows.bpduFreeSpec.plain.varTypes Try.prog) (ds ++ gs)).all (· ≤ reachBytes) = true := hsz0
  have hW' := hW
  obtain ⟨p, q, hA0, hV, rfl, hfz, hnd⟩ := hW
  have hA : DataW.TrodAll enc Try.prog W 0 (fun _ => true) true Try.f8.params.toList args.toList ds p := hA0
  rw [Try.params8] at hA hval hsz
  obtain ⟨v0, vs0, d0, ds0, p0, q0, hargs, rfl, rfl, h0, r0⟩ := trodAll_cons hA
  obtain ⟨v1, vs1, d1, ds1, p1, q1, rfl, rfl, rfl, h1, r1⟩ := trodAll_cons r0
  obtain ⟨v2, vs2, d2, ds2, p2, q2, rfl, rfl, rfl, h2, r2⟩ := trodAll_cons r1
  obtain ⟨rfl, rfl, rfl⟩ := trodAll_nil r2
  obtain rfl : args = #[v0, v1, v2] := by cases args; simp_all
  obtain ⟨rfl, rfl⟩ := trodVars_none hV
  have k0 := h0
  have lt0 : ∀ x ∈ p0, x.block < W.heap.size := by obtain ⟨m, hm⟩ := k0; exact DataW.trod_lt m _ _ _ hm
  have k1 := h1
  have lt1 : ∀ x ∈ p1, x.block < W.heap.size := by obtain ⟨m, hm⟩ := k1; exact DataW.trod_lt m _ _ _ hm
  have k2 := h2
  have lt2 : ∀ x ∈ p2, x.block < W.heap.size := by obtain ⟨m, hm⟩ := k2; exact DataW.trod_lt m _ _ _ hm
  obtain ⟨cs0, rfl, hz0⟩ := okWide_struct Try.underlying26 (hval 0 26 v0 rfl rfl)
  obtain ⟨l0⟩ := cs0
  obtain ⟨c0_0, c0_1, c0_2, c0_3, c0_4, c0_5, c0_6, c0_7, rfl⟩ := list8 l0 (hz0.trans (by kernel_rfl))
  obtain ⟨fu0, hf0⟩ := h0
  obtain ⟨xs0, m0, -, hx0, -, hn0, hg0⟩ := DataW.trod_struct Try.underlying26 hf0
  obtain ⟨y0_0, y0_1, y0_2, y0_3, y0_4, rfl⟩ := list5 xs0 hn0
  simp only [Prod.mk.injEq] at hx0
  obtain ⟨rfl, rfl⟩ := hx0
  have g0_0 : DataW.trod enc Try.prog W 0 (fun _ => true) true m0 24 (List.take (Try.prog.cellsOf 24) (List.drop 0 [c0_0, c0_1, c0_2, c0_3, c0_4, c0_5, c0_6, c0_7])) = some y0_0 := hg0 0 _ rfl
  rw [show Try.prog.cellsOf 24 = 4 from by kernel_rfl] at g0_0
  replace g0_0 : DataW.trod enc Try.prog W 0 (fun _ => true) true m0 24 [c0_0, c0_1, c0_2, c0_3] = some y0_0 := g0_0
  have g0_1 : DataW.trod enc Try.prog W 0 (fun _ => true) true m0 3 (List.take (Try.prog.cellsOf 3) (List.drop 4 [c0_0, c0_1, c0_2, c0_3, c0_4, c0_5, c0_6, c0_7])) = some y0_1 := hg0 1 _ rfl
  rw [show Try.prog.cellsOf 3 = 1 from by kernel_rfl] at g0_1
  replace g0_1 : DataW.trod enc Try.prog W 0 (fun _ => true) true m0 3 [c0_4] = some y0_1 := g0_1
  have g0_2 : DataW.trod enc Try.prog W 0 (fun _ => true) true m0 4 (List.take (Try.prog.cellsOf 4) (List.drop 5 [c0_0, c0_1, c0_2, c0_3, c0_4, c0_5, c0_6, c0_7])) = some y0_2 := hg0 2 _ rfl
  rw [show Try.prog.cellsOf 4 = 1 from by kernel_rfl] at g0_2
  replace g0_2 : DataW.trod enc Try.prog W 0 (fun _ => true) true m0 4 [c0_5] = some y0_2 := g0_2
  have g0_3 : DataW.trod enc Try.prog W 0 (fun _ => true) true m0 4 (List.take (Try.prog.cellsOf 4) (List.drop 6 [c0_0, c0_1, c0_2, c0_3, c0_4, c0_5, c0_6, c0_7])) = some y0_3 := hg0 3 _ rfl
  rw [show Try.prog.cellsOf 4 = 1 from by kernel_rfl] at g0_3
  replace g0_3 : DataW.trod enc Try.prog W 0 (fun _ => true) true m0 4 [c0_6] = some y0_3 := g0_3
  have g0_4 : DataW.trod enc Try.prog W 0 (fun _ => true) true m0 4 (List.take (Try.prog.cellsOf 4) (List.drop 7 [c0_0, c0_1, c0_2, c0_3, c0_4, c0_5, c0_6, c0_7])) = some y0_4 := hg0 4 _ rfl
  rw [show Try.prog.cellsOf 4 = 1 from by kernel_rfl] at g0_4
  replace g0_4 : DataW.trod enc Try.prog W 0 (fun _ => true) true m0 4 [c0_7] = some y0_4 := g0_4
  clear hg0
  obtain ⟨xs0_0, m0_0, -, hx0_0, -, hn0_0, hg0_0⟩ := DataW.trod_struct Try.underlying24 g0_0
  obtain ⟨y0_0_0, y0_0_1, y0_0_2, y0_0_3, rfl⟩ := list4 xs0_0 hn0_0
  subst hx0_0
  have g0_0_0 : DataW.trod enc Try.prog W 0 (fun _ => true) true m0_0 22 (List.take (Try.prog.cellsOf 22) (List.drop 0 [c0_0, c0_1, c0_2, c0_3])) = some y0_0_0 := hg0_0 0 _ rfl
  rw [show Try.prog.cellsOf 22 = 1 from by kernel_rfl] at g0_0_0
  replace g0_0_0 : DataW.trod enc Try.prog W 0 (fun _ => true) true m0_0 22 [c0_0] = some y0_0_0 := g0_0_0
  have g0_0_1 : DataW.trod enc Try.prog W 0 (fun _ => true) true m0_0 3 (List.take (Try.prog.cellsOf 3) (List.drop 1 [c0_0, c0_1, c0_2, c0_3])) = some y0_0_1 := hg0_0 1 _ rfl
  rw [show Try.prog.cellsOf 3 = 1 from by kernel_rfl] at g0_0_1
  replace g0_0_1 : DataW.trod enc Try.prog W 0 (fun _ => true) true m0_0 3 [c0_1] = some y0_0_1 := g0_0_1
  have g0_0_2 : DataW.trod enc Try.prog W 0 (fun _ => true) true m0_0 22 (List.take (Try.prog.cellsOf 22) (List.drop 2 [c0_0, c0_1, c0_2, c0_3])) = some y0_0_2 := hg0_0 2 _ rfl
  rw [show Try.prog.cellsOf 22 = 1 from by kernel_rfl] at g0_0_2
  replace g0_0_2 : DataW.trod enc Try.prog W 0 (fun _ => true) true m0_0 22 [c0_2] = some y0_0_2 := g0_0_2
  have g0_0_3 : DataW.trod enc Try.prog W 0 (fun _ => true) true m0_0 3 (List.take (Try.prog.cellsOf 3) (List.drop 3 [c0_0, c0_1, c0_2, c0_3])) = some y0_0_3 := hg0_0 3 _ rfl
  rw [show Try.prog.cellsOf 3 = 1 from by kernel_rfl] at g0_0_3
  replace g0_0_3 : DataW.trod enc Try.prog W 0 (fun _ => true) true m0_0 3 [c0_3] = some y0_0_3 := g0_0_3
  clear hg0_0
  obtain ⟨a0_0, e0_0, rfl, w0_0⟩ := DataW.trod_int Try.underlying22 g0_0_0
  simp at e0_0
  subst e0_0
  obtain ⟨a0_1, e0_1, rfl, w0_1⟩ := DataW.trod_int Try.underlying3 g0_0_1
  simp at e0_1
  subst e0_1
  obtain ⟨a0_2, e0_2, rfl, w0_2⟩ := DataW.trod_int Try.underlying22 g0_0_2
  simp at e0_2
  subst e0_2
  obtain ⟨a0_3, e0_3, rfl, w0_3⟩ := DataW.trod_int Try.underlying3 g0_0_3
  simp at e0_3
  subst e0_3
  obtain ⟨a0_4, e0_4, rfl, w0_4⟩ := DataW.trod_int Try.underlying3 g0_1
  simp at e0_4
  subst e0_4
  obtain ⟨a0_5, e0_5, rfl⟩ := DataW.trod_bool Try.underlying4 g0_2
  simp at e0_5
  subst e0_5
  obtain ⟨a0_6, e0_6, rfl⟩ := DataW.trod_bool Try.underlying4 g0_3
  simp at e0_6
  subst e0_6
  obtain ⟨a0_7, e0_7, rfl⟩ := DataW.trod_bool Try.underlying4 g0_4
  simp at e0_7
  subst e0_7
  obtain ⟨a1, rfl, rfl, rfl, w1⟩ := open_int Try.underlying5 (hval 1 5 v1 rfl rfl) h1
  obtain ⟨cs2, rfl, hz2⟩ := okWide_arr Try.underlying38 (hval 2 38 v2 rfl rfl)
  obtain ⟨l2⟩ := cs2
  obtain ⟨c2_0, c2_1, c2_2, c2_3, c2_4, c2_5, rfl⟩ := list6 l2 (hz2.trans (by kernel_rfl))
  obtain ⟨fu2, hf2⟩ := h2
  obtain ⟨xs2, m2, -, hx2, -, hn2, hg2⟩ := DataW.trod_array Try.underlying38 hf2
  obtain ⟨y2_0, y2_1, y2_2, y2_3, y2_4, y2_5, rfl⟩ := list6 xs2 hn2
  simp only [Prod.mk.injEq] at hx2
  obtain ⟨rfl, rfl⟩ := hx2
  have g2_0 : DataW.trod enc Try.prog W 0 (fun _ => true) true m2 5 (List.take (Try.prog.cellsOf 5) (List.drop (0 * Try.prog.cellsOf 5) [c2_0, c2_1, c2_2, c2_3, c2_4, c2_5])) = some y2_0 := hg2 0 (by omega)
  rw [show Try.prog.cellsOf 5 = 1 from by kernel_rfl] at g2_0
  replace g2_0 : DataW.trod enc Try.prog W 0 (fun _ => true) true m2 5 [c2_0] = some y2_0 := g2_0
  have g2_1 : DataW.trod enc Try.prog W 0 (fun _ => true) true m2 5 (List.take (Try.prog.cellsOf 5) (List.drop (1 * Try.prog.cellsOf 5) [c2_0, c2_1, c2_2, c2_3, c2_4, c2_5])) = some y2_1 := hg2 1 (by omega)
  rw [show Try.prog.cellsOf 5 = 1 from by kernel_rfl] at g2_1
  replace g2_1 : DataW.trod enc Try.prog W 0 (fun _ => true) true m2 5 [c2_1] = some y2_1 := g2_1
  have g2_2 : DataW.trod enc Try.prog W 0 (fun _ => true) true m2 5 (List.take (Try.prog.cellsOf 5) (List.drop (2 * Try.prog.cellsOf 5) [c2_0, c2_1, c2_2, c2_3, c2_4, c2_5])) = some y2_2 := hg2 2 (by omega)
  rw [show Try.prog.cellsOf 5 = 1 from by kernel_rfl] at g2_2
  replace g2_2 : DataW.trod enc Try.prog W 0 (fun _ => true) true m2 5 [c2_2] = some y2_2 := g2_2
  have g2_3 : DataW.trod enc Try.prog W 0 (fun _ => true) true m2 5 (List.take (Try.prog.cellsOf 5) (List.drop (3 * Try.prog.cellsOf 5) [c2_0, c2_1, c2_2, c2_3, c2_4, c2_5])) = some y2_3 := hg2 3 (by omega)
  rw [show Try.prog.cellsOf 5 = 1 from by kernel_rfl] at g2_3
  replace g2_3 : DataW.trod enc Try.prog W 0 (fun _ => true) true m2 5 [c2_3] = some y2_3 := g2_3
  have g2_4 : DataW.trod enc Try.prog W 0 (fun _ => true) true m2 5 (List.take (Try.prog.cellsOf 5) (List.drop (4 * Try.prog.cellsOf 5) [c2_0, c2_1, c2_2, c2_3, c2_4, c2_5])) = some y2_4 := hg2 4 (by omega)
  rw [show Try.prog.cellsOf 5 = 1 from by kernel_rfl] at g2_4
  replace g2_4 : DataW.trod enc Try.prog W 0 (fun _ => true) true m2 5 [c2_4] = some y2_4 := g2_4
  have g2_5 : DataW.trod enc Try.prog W 0 (fun _ => true) true m2 5 (List.take (Try.prog.cellsOf 5) (List.drop (5 * Try.prog.cellsOf 5) [c2_0, c2_1, c2_2, c2_3, c2_4, c2_5])) = some y2_5 := hg2 5 (by omega)
  rw [show Try.prog.cellsOf 5 = 1 from by kernel_rfl] at g2_5
  replace g2_5 : DataW.trod enc Try.prog W 0 (fun _ => true) true m2 5 [c2_5] = some y2_5 := g2_5
  clear hg2
  obtain ⟨a2_0, e2_0, rfl, w2_0⟩ := DataW.trod_int Try.underlying5 g2_0
  simp at e2_0
  subst e2_0
  obtain ⟨a2_1, e2_1, rfl, w2_1⟩ := DataW.trod_int Try.underlying5 g2_1
  simp at e2_1
  subst e2_1
  obtain ⟨a2_2, e2_2, rfl, w2_2⟩ := DataW.trod_int Try.underlying5 g2_2
  simp at e2_2
  subst e2_2
  obtain ⟨a2_3, e2_3, rfl, w2_3⟩ := DataW.trod_int Try.underlying5 g2_3
  simp at e2_3
  subst e2_3
  obtain ⟨a2_4, e2_4, rfl, w2_4⟩ := DataW.trod_int Try.underlying5 g2_4
  simp at e2_4
  subst e2_4
  obtain ⟨a2_5, e2_5, rfl, w2_5⟩ := DataW.trod_int Try.underlying5 g2_5
  simp at e2_5
  subst e2_5
  have ba0_0 := bounds_u64 w0_0
  have ba0_1 := bounds_i64 w0_1
  have ba0_2 := bounds_u64 w0_2
  have ba0_3 := bounds_i64 w0_3
  have ba0_4 := bounds_i64 w0_4
  have ba1 := bounds_u8 w1
  have ba2_0 := bounds_u8 w2_0
  have ba2_1 := bounds_u8 w2_1
  have ba2_2 := bounds_u8 w2_2
  have ba2_3 := bounds_u8 w2_3
  have ba2_4 := bounds_u8 w2_4
  have ba2_5 := bounds_u8 w2_5
  clear hA0 hval0
  refine (walk a0_0 a0_1 a0_2 a0_3 a0_4 a0_5 a0_6 a0_7 a1 a2_0 a2_1 a2_2 a2_3 a2_4 a2_5 W ba0_0.1 ba0_0.2 ba0_1.1 ba0_1.2 ba0_2.1 ba0_2.2 ba0_3.1 ba0_3.2 ba0_4.1 ba0_4.2 ba1.1 ba1.2 ba2_0.1 ba2_0.2 ba2_1.1 ba2_1.2 ba2_2.1 ba2_2.2 ba2_3.1 ba2_3.2 ba2_4.1 ba2_4.2 ba2_5.1 ba2_5.2).mono fun e W' ⟨he, bel⟩ => ?_
  subst he
  exact ⟨_, rfl, _, _, _, [], _, [], hW', trodAll_mk1 (shut_bool Try.underlying4 _), (trodAll_cons_mk (Below.trod laidOut (by kernel_rfl) (of_decide_eq_true (by kernel_rfl)) k0 bel lt0) (trodAll_cons_mk (Below.trod laidOut (by kernel_rfl) (of_decide_eq_true (by kernel_rfl)) k1 bel lt1) (trodAll_cons_mk (Below.trod laidOut (by kernel_rfl) (of_decide_eq_true (by kernel_rfl)) k2 bel lt2) trodAll_mk0))), rfl, bel.frame _, fun h => by cases h⟩

theorem over : Rows.bpduFreeRow.holds Try.pinned (OpenSpec.ofChange Rows.bpduFreeSpec) :=
  OpenClaim.holds_of_wide 8 Try.f8 rfl rfl rfl rfl rfl rfl rfl ⟨rfl, rfl, rfl, rfl, rfl⟩ rfl rfl rfl rfl rfl (by kernel_rfl) Try.func8 (by kernel_rfl)
    (of_decide_eq_true (by kernel_rfl)) (by unfold Func.isWrapper; first | (rw [if_pos (by decide +kernel)]; kernel_rfl) | (rw [if_neg (by decide +kernel)]; exact ⟨rfl, rfl⟩))
    (fun os started H enc _ => lifted os started H enc)

/-- The statement. -/
theorem proved : Rows.BpduFreeSaid := over
#print axioms proved
end Go.Proofs.Ytcahhkmbigjhlaa.bpduFreeLaw
