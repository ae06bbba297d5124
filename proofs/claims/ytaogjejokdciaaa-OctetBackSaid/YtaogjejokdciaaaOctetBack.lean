/-
  'siphonlaw01.OctetBack' returns true, whatever the input, and each argument reads behind the call as it read before. Conditions: none beyond those that the row itself states.
-/
import Derived.Test.YtaogjejokdciaaaRows
import Derived.Test.YtaogjejokdciaaaLive1
import Derived.WalkKit
import Derived.ProofKit
import Derived.OpenShut
import Derived.ShutString
import Derived.ChangeOld
import Derived.Below
import Derived.Carry
import Derived.SizedLaws
import Derived.Lib.SmallJoins
namespace Go.Proofs.Ytaogjejokdciaaa.octetBackLaw
open Go.ChangeShapes Go.WideShapes Go.ChangeAt Go.RowKit Go.Joins
open Go.ChangeMaps (open_string shut_string)
set_option linter.unusedVariables false

set_option maxHeartbeats 1000000 in
set_option maxRecDepth 100000 in
theorem walk_no (a0_0 : ByteArray) (a0_1 : Int) (a0_2 : Int) (a0_3 : ByteArray) (w : World) (ln : -9223372036854775808 ≤ a0_1) (un : a0_1 ≤ 9223372036854775807) (h : a0_2 < 1 ∨ 4 < a0_2 ∨ a0_1 < 0 ∨ (256 ^ a0_2.toNat : Nat) ≤ a0_1) :
    Calls Try.prog 7 #[.agg #[.string a0_0, .int .i64 a0_1, .int .i64 a0_2, .string a0_3]] w fun e w' => e = .returned (.bool true) ∧ Below w.heap.size w w' := by
  have H1 := Lib.hid fun U => put_c a0_1 a0_2 U ln un
  have hv : putSpec a0_1 a0_2 = (⟨#[]⟩, 1) := by unfold putSpec; rw [if_pos h]
  rw [hv] at H1
  clear h hv
  go_enter Try.func7, Try.ntmps7
  go_wp2_with fail
  go_quiet (fail)
  go_wp2_with fail
  refine (H1.out _).mono ?_
  rintro e w1 ⟨rfl, h1⟩
  go_wp2_with fail
  refine (live1_c _).mono ?_
  rintro e w3 ⟨rfl, h3⟩
  go_wp2_with fail
  go_ret
  exact ⟨rfl, below_then (below_then (below_drewN ((Below.refl _ w).alloc (Nat.le_refl _) _) _) h1) h3⟩

theorem subs_mid (a s b : ByteArray) (n : Nat) (hn : n = s.size) : subs (a ++ s ++ b) a.size n = s.data.toList := by
  subst hn
  unfold subs
  have e : (a ++ s ++ b).data.toList = a.data.toList ++ (s.data.toList ++ b.data.toList) := by
    simp [ByteArray.data_append]
  rw [e, List.drop_append_of_le_length (by simp), List.drop_of_length_le (by simp), List.nil_append, List.take_append_of_le_length (by simp), List.take_of_length_le (by simp)]

theorem get_mid (a s b : ByteArray) (W : Nat) (hn : W = s.size) (h1 : 1 ≤ W) (h4 : W ≤ 4) : getSpec (a ++ s ++ b) a.size W = ((be s.data.toList : Int), 0) := by
  unfold getSpec
  rw [if_neg (by omega), if_neg (by rw [ByteArray.size_append, ByteArray.size_append]; omega), Int.toNat_natCast, Int.toNat_natCast, subs_mid a s b W hn]

theorem wide_end (a s : ByteArray) (hn : s.size = 8) : wideSpec (a ++ s) a.size = ((be s.data.toList : Int), 0) := by
  unfold wideSpec
  rw [if_neg (by omega), if_neg (by rw [ByteArray.size_append]; omega), Int.toNat_natCast]
  have := subs_mid a s ⟨#[]⟩ 8 hn.symm
  have e : a ++ s ++ ⟨#[]⟩ = a ++ s := by apply ByteArray.ext; simp [ByteArray.data_append]
  rw [e] at this
  rw [this]

theorem walk_yes_lemmas (N W : Nat) (h : N < 256 ^ W) (hp : 256 ^ W ≤ 4294967296) :
    be (bytesOf N W) = N ∧ be (bytesOf N 8) = N ∧ getSpec ⟨(bytesOf N 8).toArray⟩ 0 4 = (0, 0) ∧ getSpec ⟨(bytesOf N 8).toArray⟩ 4 4 = ((N : Int), 0) := by
  have e8 : bytesOf N 8 = bytesOf (N / 256 ^ 4) 4 ++ bytesOf N 4 := bytesOf_add N 4 4
  have z : N / 256 ^ 4 = 0 := Nat.div_eq_of_lt (by omega)
  have l4 : ∀ n, (bytesOf n 4).length = 4 := fun n => bytesOf_length n 4
  refine ⟨by rw [be_bytesOf, Nat.mod_eq_of_lt h], by rw [be_bytesOf, Nat.mod_eq_of_lt (by omega)], ?_, ?_⟩
  · unfold getSpec
    rw [if_neg (by omega), if_neg (by rw [ByteArray.size_mk', List.size_toArray, bytesOf_length]; omega)]
    have : subs ⟨(bytesOf N 8).toArray⟩ (0 : Int).toNat (4 : Int).toNat = bytesOf (N / 256 ^ 4) 4 := by
      unfold subs
      rw [e8]
      show List.take 4 (List.drop 0 _) = _
      rw [List.drop_zero, List.take_append_of_le_length (by rw [l4]; omega), List.take_of_length_le (by rw [l4]; omega)]
    rw [this, z, be_bytesOf]
    rfl
  · unfold getSpec
    rw [if_neg (by omega), if_neg (by rw [ByteArray.size_mk', List.size_toArray, bytesOf_length]; omega)]
    have : subs ⟨(bytesOf N 8).toArray⟩ (4 : Int).toNat (4 : Int).toNat = bytesOf N 4 := by
      unfold subs
      rw [e8]
      show List.take 4 (List.drop 4 _) = _
      rw [List.drop_append_of_le_length (by rw [l4]; omega), List.drop_of_length_le (by rw [l4]; omega), List.nil_append, List.take_of_length_le (by rw [l4]; omega)]
    rw [this, be_bytesOf, Nat.mod_eq_of_lt (by omega)]

set_option maxHeartbeats 1000000 in
set_option maxRecDepth 100000 in
theorem walk_yes (a0_0 : ByteArray) (N W : Nat) (a0_3 : ByteArray) (w : World) (z0 : a0_0.size ≤ 140737488351232) (z3 : a0_3.size ≤ 140737488351232) (h1 : 1 ≤ W) (h4 : W ≤ 4) (hN : N < 256 ^ W) :
    Calls Try.prog 7 #[.agg #[.string a0_0, .int .i64 (N : Int), .int .i64 (W : Int), .string a0_3]] w fun e w' => e = .returned (.bool true) ∧ Below w.heap.size w w' := by
  have hp : 256 ^ W ≤ 4294967296 := Nat.le_trans (Nat.pow_le_pow_right (by omega) h4) (Nat.le_of_eq (by decide))
  have H1 := Lib.hid fun U => put_c N W U (by omega) (by omega)
  have hv : putSpec N W = (⟨(bytesOf N W).toArray⟩, 0) := by
    unfold putSpec
    rw [if_neg (by rw [Int.toNat_natCast]; intro h; rcases h with h | h | h | h <;> first | omega | exact Nat.lt_irrefl _ (Nat.lt_of_lt_of_le hN (by exact_mod_cast h)))]
    rfl
  rw [hv] at H1
  clear hv
  obtain ⟨m1, m2, m3, m4⟩ := walk_yes_lemmas N W hN hp
  obtain ⟨S, hS⟩ : ∃ S : ByteArray, S = ⟨(bytesOf N W).toArray⟩ := ⟨_, rfl⟩
  obtain ⟨T, hT⟩ : ∃ T : ByteArray, T = ⟨(bytesOf N 8).toArray⟩ := ⟨_, rfl⟩
  have sS : S.size = W := by rw [hS, ByteArray.size_mk', List.size_toArray, bytesOf_length]
  have sT : T.size = 8 := by rw [hT, ByteArray.size_mk', List.size_toArray, bytesOf_length]
  have bS : be S.data.toList = N := by rw [hS]; exact m1
  have bT : be T.data.toList = N := by rw [hT]; exact m2
  have H2 := Lib.hid fun U => get_c (a0_0 ++ S ++ a0_3) a0_0.size W U (by rw [ByteArray.size_append, ByteArray.size_append]; omega) (by omega) (by omega)
  rw [get_mid a0_0 S a0_3 W sS.symm h1 h4, bS] at H2
  have H3 := Lib.hid fun U => eight_c (N : Int) U (by omega)
  rw [Int.toNat_natCast, ← hT] at H3
  have H4 := Lib.hid fun U => wide_c (a0_0 ++ T) a0_0.size U (by rw [ByteArray.size_append]; omega) (by omega) (by omega)
  rw [wide_end a0_0 T sT, bT] at H4
  have H5 := Lib.hid fun U => get_c T 0 4 U (by omega) (by omega) (by omega)
  have H6 := Lib.hid fun U => get_c T 4 4 U (by omega) (by omega) (by omega)
  rw [← hT] at m3 m4
  rw [m3] at H5
  rw [m4] at H6
  rw [← hS] at H1
  have q1 : ((S.size : Int) == (W : Int)) = true := by rw [sS]; simp
  have q2 : ((S.size : Int) != (W : Int)) = false := by rw [sS]; simp
  have i1 : S.size ≤ 4 := by omega
  have i2 : T.size ≤ 8 := by omega
  have i3 : (N : Int) ≤ 4294967295 := by omega
  clear m1 m2 m3 m4 hS hT sS sT bS bT hN hp
  go_enter Try.func7, Try.ntmps7
  go_wp2_with fail
  go_quiet (fail)
  go_wp2_with fail
  refine (H1.out _).mono ?_
  rintro e w1 ⟨rfl, h1⟩
  go_wp2_with fail
  refine (H2.out _).mono ?_
  rintro e w2 ⟨rfl, h2⟩
  go_wp2_with fail
  refine (H3.out _).mono ?_
  rintro e w3 ⟨rfl, h3⟩
  go_wp2_with fail
  refine (H4.out _).mono ?_
  rintro e w4 ⟨rfl, h4⟩
  go_wp2_with fail
  refine (H5.out _).mono ?_
  rintro e w5 ⟨rfl, h5⟩
  go_wp2_with fail
  refine (H6.out _).mono ?_
  rintro e w6 ⟨rfl, h6⟩
  go_wp2_with fail
  refine (live1_c _).mono ?_
  rintro e w7 ⟨rfl, h7⟩
  go_wp2_with fail
  go_ret
  exact ⟨rfl, below_then (below_then (below_then (below_then (below_then (below_then (below_then (below_drewN ((Below.refl _ w).alloc (Nat.le_refl _) _) _) h1) h2) h3) h4) h5) h6) h7⟩

theorem walk (a0_0 : ByteArray) (a0_1 : Int) (a0_2 : Int) (a0_3 : ByteArray) (w : World) (za0_0 : a0_0.size ≤ 140737488351232) (la0_1 : -9223372036854775808 ≤ a0_1) (ua0_1 : a0_1 ≤ 9223372036854775807) (la0_2 : -9223372036854775808 ≤ a0_2) (ua0_2 : a0_2 ≤ 9223372036854775807) (za0_3 : a0_3.size ≤ 140737488351232) :
    Calls Try.prog 7 #[.agg #[.string a0_0, .int .i64 a0_1, .int .i64 a0_2, .string a0_3]] w fun e w' => e = .returned (.bool true) ∧ Below w.heap.size w w' := by
  by_cases h : a0_2 < 1 ∨ 4 < a0_2 ∨ a0_1 < 0 ∨ (256 ^ a0_2.toNat : Nat) ≤ a0_1
  · exact walk_no _ _ _ _ _ la0_1 ua0_1 h
  · obtain ⟨N, rfl⟩ := Int.eq_ofNat_of_zero_le (show 0 ≤ a0_1 by omega)
    obtain ⟨W, rfl⟩ := Int.eq_ofNat_of_zero_le (show 0 ≤ a0_2 by omega)
    rw [Int.toNat_natCast] at h
    exact walk_yes _ _ _ _ _ za0_0 za0_3 (by omega) (by omega) (Nat.lt_of_not_le fun g => h (.inr (.inr (.inr (by exact_mod_cast g)))))

theorem own : ownKnob Try.prog.godebug = none := by kernel_rfl
theorem laidOut : laidOutB Try.prog = true := by kernel_rfl

set_option maxRecDepth 100000 in
theorem lifted (os : Os) (started : os.Started) (H : Type) (enc : TypeId × Value → H) :
    ReturnsInHanded {} Try.checked os 7 .any (Rows.octetBackSpec.pre6 enc Try.prog Try.f7 Rows.octetBackRow.domain false) (Rows.octetBackSpec.post enc Try.prog Try.f7 false true false false) := by
  refine returnsInHanded_of_change_sized (C := Try.checked) own started (by kernel_rfl) Try.func7
    (ChangeSpec.witness6 (enc := enc) (C := Try.checked) false ⟨#[], #[.agg #[.string ByteArray.empty, .int .i64 0, .int .i64 0, .string ByteArray.empty]], []⟩ 8 (by kernel_rfl) (by kernel_rfl) (by kernel_rfl) (by kernel_rfl)) ?_
  intro W base args ds gs before hval0 hW hcnd hsz0 hholds
  have hval : ∀ (j : Nat) t v, Try.f7.params[j]? = some t → args[j]? = some v → Value.okWide Try.prog W .any base t v := hval0
  have hsz : (DataW.weightsEach Try.prog (Try.f7.params.toList ++ Rows.octetBackSpec.plain.varTypes Try.prog) (ds ++ gs)).all (· ≤ reachBytes) = true := hsz0
  have hW' := hW
  obtain ⟨p, q, hA0, hV, rfl, hfz, hnd⟩ := hW
  have hA : DataW.TrodAll enc Try.prog W 0 (fun _ => true) true Try.f7.params.toList args.toList ds p := hA0
  rw [Try.params7] at hA hval hsz
  obtain ⟨v0, vs0, d0, ds0, p0, q0, hargs, rfl, rfl, h0, r0⟩ := trodAll_cons hA
  obtain ⟨rfl, rfl, rfl⟩ := trodAll_nil r0
  obtain rfl : args = #[v0] := by cases args; simp_all
  obtain ⟨rfl, rfl⟩ := trodVars_none hV
  have k0 := h0
  have lt0 : ∀ x ∈ p0, x.block < W.heap.size := by obtain ⟨m, hm⟩ := k0; exact DataW.trod_lt m _ _ _ hm
  obtain ⟨c0_0, c0_1, c0_2, c0_3, y0_0, y0_1, y0_2, y0_3, n0, rfl, rfl, rfl, g0_0, g0_1, g0_2, g0_3⟩ := open_agg4 Try.underlying37 (by kernel_rfl) (by kernel_rfl) (hval 0 37 v0 rfl rfl) h0
  obtain ⟨a0_0, e0_0, rfl, w0_0⟩ := DataW.trod_string Try.underlying9 g0_0
  simp at e0_0
  subst e0_0
  obtain ⟨a0_1, e0_1, rfl, w0_1⟩ := DataW.trod_int Try.underlying3 g0_1
  simp at e0_1
  subst e0_1
  obtain ⟨a0_2, e0_2, rfl, w0_2⟩ := DataW.trod_int Try.underlying3 g0_2
  simp at e0_2
  subst e0_2
  obtain ⟨a0_3, e0_3, rfl, w0_3⟩ := DataW.trod_string Try.underlying9 g0_3
  simp at e0_3
  subst e0_3
  have za0_0 : a0_0.size ≤ 140737488351232 := by
    have h := List.all_eq_true.1 hsz _ (DataW.weights_mem_each (j := 0) (t := 37) rfl rfl a0_0.data.toList.length (by simp [DataW.weights, DataW.weightsEach, Try.underlying37]))
    simpa [reachBytes] using of_decide_eq_true h
  have ba0_1 := bounds_i64 w0_1
  have ba0_2 := bounds_i64 w0_2
  have za0_3 : a0_3.size ≤ 140737488351232 := by
    have h := List.all_eq_true.1 hsz _ (DataW.weights_mem_each (j := 0) (t := 37) rfl rfl a0_3.data.toList.length (by simp [DataW.weights, DataW.weightsEach, Try.underlying37]))
    simpa [reachBytes] using of_decide_eq_true h
  clear hA0 hval0
  refine (walk a0_0 a0_1 a0_2 a0_3 W za0_0 ba0_1.1 ba0_1.2 ba0_2.1 ba0_2.2 za0_3).mono fun e W' ⟨he, bel⟩ => ?_
  subst he
  exact ⟨_, rfl, _, _, _, [], _, [], hW', trodAll_mk1 (shut_bool Try.underlying4 _), (trodAll_cons_mk (Below.trod laidOut (by kernel_rfl) (of_decide_eq_true (by kernel_rfl)) k0 bel lt0) trodAll_mk0), rfl, bel.frame _, fun h => by cases h⟩

theorem over : Rows.octetBackRow.holds Try.pinned (OpenSpec.ofChange Rows.octetBackSpec) :=
  OpenClaim.holds_of_wide 7 Try.f7 rfl rfl rfl rfl rfl rfl rfl ⟨rfl, rfl, rfl, rfl, rfl⟩ rfl rfl rfl rfl rfl (by kernel_rfl) Try.func7 (by kernel_rfl)
    (of_decide_eq_true (by kernel_rfl)) (by unfold Func.isWrapper; first | (rw [if_pos (by decide +kernel)]; kernel_rfl) | (rw [if_neg (by decide +kernel)]; exact ⟨rfl, rfl⟩))
    (fun os started H enc _ => lifted os started H enc)

/-- The statement. -/
theorem proved : Rows.OctetBackSaid := over
#print axioms proved
end Go.Proofs.Ytaogjejokdciaaa.octetBackLaw
