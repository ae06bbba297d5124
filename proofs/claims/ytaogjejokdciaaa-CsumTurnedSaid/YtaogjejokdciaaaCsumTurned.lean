/-
  'siphonlaw02.CsumTurned' returns true, whatever the input, and each argument reads behind the call as it read before. Conditions: none beyond those that the row itself states.
-/
import Derived.Test.YtaogjejokdciaaaRows
import Derived.Test.YtaogjejokdciaaaPsum
import Derived.Test.YtaogjejokdciaaaLive2
import Derived.Test.YtaogjejokdciaaaRegW
import Derived.WalkKit
import Derived.ProofKit
import Derived.OpenShut
import Derived.ShutString
import Derived.ChangeOld
import Derived.Below
import Derived.Carry
import Derived.SizedLaws
import Derived.Lib.SmallJoins
namespace Go.Proofs.Ytaogjejokdciaaa.csumTurnedLaw
open Go.ChangeShapes Go.WideShapes Go.ChangeAt Go.RowKit Go.Joins
open Go.ChangeMaps (open_string shut_string)
set_option linter.unusedVariables false

set_option maxHeartbeats 1000000 in
set_option maxRecDepth 100000 in
theorem walk_nil (s : ByteArray) (a : Int) (w : World) (h : s.size = 0) :
    Calls Try.prog 14 #[.string s, .int .i64 a] w fun e w' => e = .returned (.bool true) ∧ Below w.heap.size w w' := by
  obtain ⟨q1, q2⟩ := eq_t (show (s.size : Int) = 0 by omega)
  clear h
  go_enter Try.func14, Try.ntmps14
  go_wp2_with fail
  refine (live2_c _).mono ?_
  rintro e w3 ⟨rfl, h3⟩
  go_wp2_with fail
  go_ret
  exact ⟨rfl, h3⟩

set_option maxHeartbeats 2000000 in
set_option maxRecDepth 100000 in
theorem walk_in (s : ByteArray) (a : Int) (w : World) (zs : s.size ≤ 140737488351232) (b r p m : Nat) (hab : a = b ∨ a < 0 ∧ -(a + 1) = (b : Int)) (ub : (b : Int) ≤ 9223372036854775807) (la : -9223372036854775808 ≤ a)
    (hr : (b : Int) % (8 * (s.size : Int)) = (r : Int)) (hd : (r : Int) / 8 = (p : Int)) (hm : (r : Int) % 8 = (m : Int)) (hp : p < s.size) (hm8 : m < 8) :
    Calls Try.prog 14 #[.string s, .int .i64 a] w fun e w' => e = .returned (.bool true) ∧ Below w.heap.size w w' := by
  obtain ⟨q1, q2⟩ := ne_t (show (s.size : Int) ≠ 0 by omega)
  obtain ⟨cap, sp, hcv⟩ := bytes_new (P := Try.prog) w 9 54 5 s Try.underlying9 Try.underlying54 Try.underlying5
  obtain ⟨N, hN⟩ : ∃ N, N = (s.data.toList ++ sp).length := ⟨_, rfl⟩
  have hNs : s.size ≤ N := by rw [hN, List.length_append]; simp
  rw [← hN] at hcv
  have hl : s.data.toList.length = s.size := by simp
  have hb0 := heap_new w (.cells (byteRow (s.data.toList ++ sp)) 5 (N, N + 1))
  have br := byteRow_at (s.data.toList ++ sp) p (by rw [← hN]; omega)
  rw [List.getElem_append_left (by omega)] at br
  obtain ⟨x, hx⟩ : ∃ x, x = s.data.toList[p] := ⟨_, rfl⟩
  rw [← hx] at br
  have c1 := cell_of_block hb0 br
  have f1 := free_below hb0 (j := p) (by omega)
  have hp2 : (p : Int) < s.size := by omega
  have hm2 : (m : Int) < 8 := by omega
  have hx2 : (x.toNat : Int) < 256 := by have := x.toNat_lt; omega
  -- the turned byte
  have hm256 : 2 ^ m < 256 := Nat.lt_of_lt_of_le (Nat.pow_lt_pow_right (by omega) hm8) (Nat.le_of_eq (by decide))
  have hxb := xor_bit ⟨x.toNat, x.toNat_lt⟩ ⟨m, hm8⟩
  simp only at hxb
  obtain ⟨v, hv⟩ : ∃ v : UInt8, v.toNat = x.toNat ^^^ 2 ^ m := ⟨UInt8.ofNat (x.toNat ^^^ 2 ^ m), by rw [UInt8.toNat_ofNat', Nat.mod_eq_of_lt hxb.1]⟩
  have hxor : bits BinOp.xor IntKind.u8 (x.toNat : Int) (2 ^ m % 256) = (v.toNat : Int) := by
    have e : ((2 : Int) ^ m % 256) = ((2 ^ m : Nat) : Int) := by
      rw [show ((2 : Int) ^ m) = ((2 ^ m : Nat) : Int) from by simp]
      exact Int.emod_eq_of_lt (Int.natCast_nonneg _) (by exact_mod_cast hm256)
    rw [e, u8_xor_nat _ _ x.toNat_lt hm256, hv]
  -- the turned text
  have hR := heap_store (j := p) (v := .int .u8 (v.toNat : Int)) hb0
  rw [byteRow_set, List.set_append_left _ _ (by omega)] at hR
  obtain ⟨S, hS⟩ : ∃ S : ByteArray, S = ⟨(s.data.toList.set p v).toArray⟩ := ⟨_, rfl⟩
  have hz : S.size = s.size := by rw [hS, ByteArray.size_mk', List.size_toArray, List.length_set, hl]
  have hC : ∀ U : World, U.heap[w.heap.size]? = some (.cells (byteRow (s.data.toList.set p v ++ sp)) 5 (N, N + 1)) →
      (convert 54 9 (.slice (some ⟨w.heap.size, 0, none⟩) s.size cap)).run Try.prog U = .ok (.string S) U := fun U hU => by
    have := run_string_of_prefix (P := Try.prog) (cap := cap) 54 9 5 hU Try.underlying54 Try.underlying5 Try.underlying9 s.size (by rw [List.length_set, hl])
    rw [← hS] at this
    exact this
  have HC := Lib.hid hC
  have H1 := Lib.hid fun U => sum_c s U (by omega)
  have H2 := Lib.hid fun U => sum_c S U (by omega)
  have hne := sumN_turn s.data.toList p m (by omega) hm8 v (by rw [← hx]; exact hv)
  have hSl : S.data.toList = s.data.toList.set p v := by rw [hS]
  rw [← hSl] at hne
  have l1 := sumN_le s.data.toList
  have l2 := sumN_le S.data.toList
  obtain ⟨y, hy⟩ : ∃ y, y = sumN s.data.toList := ⟨_, rfl⟩
  obtain ⟨z, hzz⟩ : ∃ z, z = sumN S.data.toList := ⟨_, rfl⟩
  rw [← hy] at H1 hne l1
  rw [← hzz] at H2 hne l2
  obtain ⟨ym, hym⟩ : ∃ ym, ym = y % 65535 := ⟨_, rfl⟩
  obtain ⟨zm, hzm⟩ : ∃ zm, zm = z % 65535 := ⟨_, rfl⟩
  rw [← hym, ← hzm] at hne
  have t1 : (y : Int).tmod 65535 = (ym : Int) := by rw [IntWalk.rem_in _ _ (by omega), hym]; rfl
  have t2 : (z : Int).tmod 65535 = (zm : Int) := by rw [IntWalk.rem_in _ _ (by omega), hzm]; rfl
  have t3 : (y : Int) % 65535 = (ym : Int) := by rw [hym]; rfl
  have t4 : (z : Int) % 65535 = (zm : Int) := by rw [hzm]; rfl
  obtain ⟨n1, n2⟩ := ne_t (show (ym : Int) ≠ (zm : Int) by omega)
  have HR := Lib.hid hR
  clear hl hN hx hv hxb hR hS hz hC hSl hy hzz hym hzm hne hm256
  rcases hab with rfl | ⟨ha, he⟩
  all_goals
    go_enter Try.func14, Try.ntmps14
    go_wp2_with fail
    have hbl : Below w.heap.size w ((w.alloc (.cells (byteRow (s.data.toList ++ sp)) 5 (N, N + 1))).setCell ⟨w.heap.size, p, none⟩ (.int .u8 (v.toNat : Int))).drew :=
      (((Below.refl _ w).alloc (Nat.le_refl _) _).setCell (p := ⟨w.heap.size, p, none⟩) (Nat.le_refl _) _).drew
    have hR : ((w.alloc (.cells (byteRow (s.data.toList ++ sp)) 5 (N, N + 1))).setCell ⟨w.heap.size, p, none⟩ (.int .u8 (v.toNat : Int))).drew.heap[w.heap.size]? = some (.cells (byteRow (s.data.toList.set p v ++ sp)) 5 (N, N + 1)) := HR.out
    generalize ((w.alloc (.cells (byteRow (s.data.toList ++ sp)) 5 (N, N + 1))).setCell ⟨w.heap.size, p, none⟩ (.int .u8 (v.toNat : Int))).drew = W2 at hbl hR ⊢
    have hc0 := HC.out W2.drew hR
    clear c1 f1 br hb0 hcv hxor
    go_region_with (first
      | (go_at_call_of 28 s; refine (H1.out _).mono ?_; rintro e w1 ⟨rfl, h1⟩; have hc1 := HC.out w1 (below_block h1 (lt_of_block hR) hR))
      | (go_at_call_of 28 S; refine (H2.out _).mono ?_; rintro e w2 ⟨rfl, h2⟩)
      | (go_at_call 30; refine (live2_c _).mono ?_; rintro e w3 ⟨rfl, h3⟩))
    all_goals
      go_wp2
      go_ret
      exact ⟨rfl, below_then (below_then (below_then hbl.drew h1) h2) h3⟩

theorem walk (a0 : ByteArray) (a1 : Int) (w : World) (za0 : a0.size ≤ 140737488351232) (la1 : -9223372036854775808 ≤ a1) (ua1 : a1 ≤ 9223372036854775807) :
    Calls Try.prog 14 #[.string a0, .int .i64 a1] w fun e w' => e = .returned (.bool true) ∧ Below w.heap.size w w' := by
  by_cases h : a0.size = 0
  · exact walk_nil _ _ _ h
  · obtain ⟨b, hb⟩ : ∃ b : Nat, a1 = b ∨ a1 < 0 ∧ -(a1 + 1) = (b : Int) := by
      by_cases c : a1 < 0
      · exact ⟨(-(a1 + 1)).toNat, .inr ⟨c, by omega⟩⟩
      · exact ⟨a1.toNat, .inl (by omega)⟩
    have h8 : b % (8 * a0.size) < 8 * a0.size := Nat.mod_lt _ (by omega)
    refine walk_in _ _ _ za0 b (b % (8 * a0.size)) (b % (8 * a0.size) / 8) (b % (8 * a0.size) % 8) hb (by omega) la1 ?_ ?_ ?_ ?_ ?_
    · rfl
    · rfl
    · rfl
    · exact Nat.div_lt_of_lt_mul h8
    · exact Nat.mod_lt _ (by omega)

theorem own : ownKnob Try.prog.godebug = none := by kernel_rfl
theorem laidOut : laidOutB Try.prog = true := by kernel_rfl

set_option maxRecDepth 100000 in
theorem lifted (os : Os) (started : os.Started) (H : Type) (enc : TypeId × Value → H) :
    ReturnsInHanded {} Try.checked os 14 .any (Rows.csumTurnedSpec.pre6 enc Try.prog Try.f14 Rows.csumTurnedRow.domain false) (Rows.csumTurnedSpec.post enc Try.prog Try.f14 false true false false) := by
  refine returnsInHanded_of_change_sized (C := Try.checked) own started (by kernel_rfl) Try.func14
    (ChangeSpec.witness6 (enc := enc) (C := Try.checked) false ⟨#[], #[.string ByteArray.empty, .int .i64 0], []⟩ 8 (by kernel_rfl) (by kernel_rfl) (by kernel_rfl) (by kernel_rfl)) ?_
  intro W base args ds gs before hval0 hW hcnd hsz0 hholds
  have hval : ∀ (j : Nat) t v, Try.f14.params[j]? = some t → args[j]? = some v → Value.okWide Try.prog W .any base t v := hval0
  have hsz : (DataW.weightsEach Try.prog (Try.f14.params.toList ++ Rows.csumTurnedSpec.plain.varTypes Try.prog) (ds ++ gs)).all (· ≤ reachBytes) = true := hsz0
  have hW' := hW
  obtain ⟨p, q, hA0, hV, rfl, hfz, hnd⟩ := hW
  have hA : DataW.TrodAll enc Try.prog W 0 (fun _ => true) true Try.f14.params.toList args.toList ds p := hA0
  rw [Try.params14] at hA hval hsz
  obtain ⟨v0, vs0, d0, ds0, p0, q0, hargs, rfl, rfl, h0, r0⟩ := trodAll_cons hA
  obtain ⟨v1, vs1, d1, ds1, p1, q1, rfl, rfl, rfl, h1, r1⟩ := trodAll_cons r0
  obtain ⟨rfl, rfl, rfl⟩ := trodAll_nil r1
  obtain rfl : args = #[v0, v1] := by cases args; simp_all
  obtain ⟨rfl, rfl⟩ := trodVars_none hV
  have k0 := h0
  have lt0 : ∀ x ∈ p0, x.block < W.heap.size := by obtain ⟨m, hm⟩ := k0; exact DataW.trod_lt m _ _ _ hm
  have k1 := h1
  have lt1 : ∀ x ∈ p1, x.block < W.heap.size := by obtain ⟨m, hm⟩ := k1; exact DataW.trod_lt m _ _ _ hm
  obtain ⟨a0, rfl, rfl, rfl, w0⟩ := open_string Try.underlying9 (hval 0 9 v0 rfl rfl) h0
  obtain ⟨a1, rfl, rfl, rfl, w1⟩ := open_int Try.underlying3 (hval 1 3 v1 rfl rfl) h1
  have za0 : a0.size ≤ 140737488351232 := by
    have h := sized_string hsz (j := 0) (t := 9) rfl rfl
    simpa [reachBytes] using h
  have ba1 := bounds_i64 w1
  clear hA0 hval0
  refine (walk a0 a1 W za0 ba1.1 ba1.2).mono fun e W' ⟨he, bel⟩ => ?_
  subst he
  exact ⟨_, rfl, _, _, _, [], _, [], hW', trodAll_mk1 (shut_bool Try.underlying4 _), (trodAll_cons_mk (Below.trod laidOut (by kernel_rfl) (of_decide_eq_true (by kernel_rfl)) k0 bel lt0) (trodAll_cons_mk (Below.trod laidOut (by kernel_rfl) (of_decide_eq_true (by kernel_rfl)) k1 bel lt1) trodAll_mk0)), rfl, bel.frame _, fun h => by cases h⟩

theorem over : Rows.csumTurnedRow.holds Try.pinned (OpenSpec.ofChange Rows.csumTurnedSpec) :=
  OpenClaim.holds_of_wide 14 Try.f14 rfl rfl rfl rfl rfl rfl rfl ⟨rfl, rfl, rfl, rfl, rfl⟩ rfl rfl rfl rfl rfl (by kernel_rfl) Try.func14 (by kernel_rfl)
    (of_decide_eq_true (by kernel_rfl)) (by unfold Func.isWrapper; first | (rw [if_pos (by decide +kernel)]; kernel_rfl) | (rw [if_neg (by decide +kernel)]; exact ⟨rfl, rfl⟩))
    (fun os started H enc _ => lifted os started H enc)

/-- The statement. -/
theorem proved : Rows.CsumTurnedSaid := over
#print axioms proved
end Go.Proofs.Ytaogjejokdciaaa.csumTurnedLaw
