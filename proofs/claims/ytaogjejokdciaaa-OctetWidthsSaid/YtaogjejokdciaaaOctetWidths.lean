/-
  'siphonlaw01.OctetWidths' returns true, whatever the input, and each argument reads behind the call as it read before. Conditions: none beyond those that the row itself states.
-/
import Derived.Test.YtaogjejokdciaaaRows
import Derived.Test.YtaogjejokdciaaaLive1
import Derived.WalkKit
import Derived.ProofKit
import Derived.OpenShut
import Derived.ShutString
import Derived.ChangeOld
import Derived.Below
import Derived.Carry
import Derived.SizedLaws
import Derived.Lib.SmallJoins
namespace Go.Proofs.Ytaogjejokdciaaa.octetWidthsLaw
open Go.ChangeShapes Go.WideShapes Go.ChangeAt Go.RowKit Go.Joins
open Go.ChangeMaps (open_string shut_string)
set_option linter.unusedVariables false

theorem put_no (n W : Int) (h : W < 1 ∨ 4 < W ∨ n < 0 ∨ (256 ^ W.toNat : Nat) ≤ n) : putSpec n W = (⟨#[]⟩, 1) := by unfold putSpec; rw [if_pos h]
theorem put_ok (N W : Nat) (h1 : 1 ≤ W) (h4 : W ≤ 4) (hN : N < 256 ^ W) : putSpec N W = (⟨(bytesOf N W).toArray⟩, 0) := by
  unfold putSpec
  rw [if_neg (by rw [Int.toNat_natCast]; intro h; rcases h with h | h | h | h <;> first | omega | exact Nat.lt_irrefl _ (Nat.lt_of_lt_of_le hN (by exact_mod_cast h)))]
  rfl

set_option maxHeartbeats 4000000 in
set_option maxRecDepth 100000 in
theorem walk_a (n W : Int) (s : ByteArray) (t : Int) (w : World) (ln : -9223372036854775808 ≤ n) (un : n ≤ 9223372036854775807) (zs : s.size ≤ 140737488351232) (lt : -9223372036854775808 ≤ t) (ut : t ≤ 9223372036854775807)
    (h : W < 1 ∨ 4 < W ∨ n < 0 ∨ (256 ^ W.toNat : Nat) ≤ n) :
    Calls Try.prog 9 #[.agg #[.int .i64 n, .int .i64 W, .string s, .int .i64 t]] w fun e w' => e = .returned (.bool true) ∧ Below w.heap.size w w' := by
  have H1 := Lib.hid fun U => put_c n W U ln un
  rw [put_no n W h] at H1
  clear h
  have H3 := Lib.hid fun U => get_c s t 1 U (by omega) lt ut
  by_cases c1 : t < 0
  · have hv : getSpec s t 1 = (0, 1) := by unfold getSpec; rw [if_pos (by omega)]
    rw [hv] at H3
    clear hv
    go_enter Try.func9, Try.ntmps9
    go_wp2_with fail
    go_quiet (fail)
    go_wp2_with fail
    refine (H1.out _).mono ?_
    rintro e w1 ⟨rfl, h1⟩
    go_wp2_with fail
    refine (H3.out _).mono ?_
    rintro e w3 ⟨rfl, h3⟩
    go_wp2_with fail
    refine (live1_c _).mono ?_
    rintro e w4 ⟨rfl, h4⟩
    go_wp2_with fail
    go_ret
    exact ⟨rfl, below_then (below_then (below_then (below_drewN ((Below.refl _ w).alloc (Nat.le_refl _) _) _) h1) h3) h4⟩
  · by_cases c2 : (s.size : Int) ≤ t
    · have hv : getSpec s t 1 = (0, 2) := by unfold getSpec; rw [if_neg (by omega), if_pos (by omega)]
      rw [hv] at H3
      clear hv
      go_enter Try.func9, Try.ntmps9
      go_wp2_with fail
      go_quiet (fail)
      go_wp2_with fail
      refine (H1.out _).mono ?_
      rintro e w1 ⟨rfl, h1⟩
      go_wp2_with fail
      refine (H3.out _).mono ?_
      rintro e w3 ⟨rfl, h3⟩
      go_wp2_with fail
      refine (live1_c _).mono ?_
      rintro e w4 ⟨rfl, h4⟩
      go_wp2_with fail
      go_ret
      exact ⟨rfl, below_then (below_then (below_then (below_drewN ((Below.refl _ w).alloc (Nat.le_refl _) _) _) h1) h3) h4⟩
    · obtain ⟨T, rfl⟩ := Int.eq_ofNat_of_zero_le (show 0 ≤ t by omega)
      have hT : T < s.size := by omega
      have hv : getSpec s T 1 = ((s[T].toNat : Int), 0) := by
        unfold getSpec
        rw [if_neg (by omega), if_neg (by omega)]
        have e : subs s ((T : Int)).toNat (1 : Int).toNat = [s[T]] := by
          have := subs_succ s T 0 hT
          simpa [subs] using this
        rw [e]
        simp [be]
      rw [hv] at H3
      have c3 : (T : Int) < s.size := by omega
      have c4 : (s[T].toNat : Int) < 256 := by have := s[T].toNat_lt; omega
      clear hv c1 c2
      go_enter Try.func9, Try.ntmps9
      go_wp2_with fail
      go_quiet (fail)
      go_wp2_with fail
      refine (H1.out _).mono ?_
      rintro e w1 ⟨rfl, h1⟩
      go_wp2_with fail
      refine (H3.out _).mono ?_
      rintro e w3 ⟨rfl, h3⟩
      go_wp2_with fail
      refine (live1_c _).mono ?_
      rintro e w4 ⟨rfl, h4⟩
      go_wp2_with fail
      go_ret
      exact ⟨rfl, below_then (below_then (below_then (below_drewN ((Below.refl _ w).alloc (Nat.le_refl _) _) _) h1) h3) h4⟩

set_option maxHeartbeats 4000000 in
set_option maxRecDepth 100000 in
theorem walk_b (N : Nat) (s : ByteArray) (t : Int) (w : World) (zs : s.size ≤ 140737488351232) (lt : -9223372036854775808 ≤ t) (ut : t ≤ 9223372036854775807) (hN : N < 256 ^ 4) :
    Calls Try.prog 9 #[.agg #[.int .i64 (N : Int), .int .i64 4, .string s, .int .i64 t]] w fun e w' => e = .returned (.bool true) ∧ Below w.heap.size w w' := by
  have H1 := Lib.hid fun U => put_c N 4 U (by omega) (by omega)
  have hv : putSpec N 4 = (⟨(bytesOf N 4).toArray⟩, 0) := put_ok N 4 (by omega) (by omega) hN
  rw [hv] at H1
  clear hv hN
  have H3 := Lib.hid fun U => get_c s t 1 U (by omega) lt ut
  by_cases c1 : t < 0
  · have hv : getSpec s t 1 = (0, 1) := by unfold getSpec; rw [if_pos (by omega)]
    rw [hv] at H3
    clear hv
    go_enter Try.func9, Try.ntmps9
    go_wp2_with fail
    go_quiet (fail)
    go_wp2_with fail
    refine (H1.out _).mono ?_
    rintro e w1 ⟨rfl, h1⟩
    go_wp2_with fail
    refine (H3.out _).mono ?_
    rintro e w3 ⟨rfl, h3⟩
    go_wp2_with fail
    refine (live1_c _).mono ?_
    rintro e w4 ⟨rfl, h4⟩
    go_wp2_with fail
    go_ret
    exact ⟨rfl, below_then (below_then (below_then (below_drewN ((Below.refl _ w).alloc (Nat.le_refl _) _) _) h1) h3) h4⟩
  · by_cases c2 : (s.size : Int) ≤ t
    · have hv : getSpec s t 1 = (0, 2) := by unfold getSpec; rw [if_neg (by omega), if_pos (by omega)]
      rw [hv] at H3
      clear hv
      go_enter Try.func9, Try.ntmps9
      go_wp2_with fail
      go_quiet (fail)
      go_wp2_with fail
      refine (H1.out _).mono ?_
      rintro e w1 ⟨rfl, h1⟩
      go_wp2_with fail
      refine (H3.out _).mono ?_
      rintro e w3 ⟨rfl, h3⟩
      go_wp2_with fail
      refine (live1_c _).mono ?_
      rintro e w4 ⟨rfl, h4⟩
      go_wp2_with fail
      go_ret
      exact ⟨rfl, below_then (below_then (below_then (below_drewN ((Below.refl _ w).alloc (Nat.le_refl _) _) _) h1) h3) h4⟩
    · obtain ⟨T, rfl⟩ := Int.eq_ofNat_of_zero_le (show 0 ≤ t by omega)
      have hT : T < s.size := by omega
      have hv : getSpec s T 1 = ((s[T].toNat : Int), 0) := by
        unfold getSpec
        rw [if_neg (by omega), if_neg (by omega)]
        have e : subs s ((T : Int)).toNat (1 : Int).toNat = [s[T]] := by
          have := subs_succ s T 0 hT
          simpa [subs] using this
        rw [e]
        simp [be]
      rw [hv] at H3
      have c3 : (T : Int) < s.size := by omega
      have c4 : (s[T].toNat : Int) < 256 := by have := s[T].toNat_lt; omega
      clear hv c1 c2
      go_enter Try.func9, Try.ntmps9
      go_wp2_with fail
      go_quiet (fail)
      go_wp2_with fail
      refine (H1.out _).mono ?_
      rintro e w1 ⟨rfl, h1⟩
      go_wp2_with fail
      refine (H3.out _).mono ?_
      rintro e w3 ⟨rfl, h3⟩
      go_wp2_with fail
      refine (live1_c _).mono ?_
      rintro e w4 ⟨rfl, h4⟩
      go_wp2_with fail
      go_ret
      exact ⟨rfl, below_then (below_then (below_then (below_drewN ((Below.refl _ w).alloc (Nat.le_refl _) _) _) h1) h3) h4⟩

theorem put_more (N W : Nat) (hN : N < 256 ^ W) : (⟨(bytesOf N (W + 1)).toArray⟩ : ByteArray) = ⟨#[0]⟩ ++ ⟨(bytesOf N W).toArray⟩ := by
  have e : bytesOf N (W + 1) = 0 :: bytesOf N W := by
    rw [Nat.add_comm, bytesOf_add, Nat.div_eq_of_lt hN]
    rfl
  rw [e]
  apply ByteArray.ext
  simp [ByteArray.data_append]

set_option maxHeartbeats 4000000 in
set_option maxRecDepth 100000 in
theorem walk_c (N W : Nat) (s : ByteArray) (t : Int) (w : World) (zs : s.size ≤ 140737488351232) (lt : -9223372036854775808 ≤ t) (ut : t ≤ 9223372036854775807) (b1 : 1 ≤ W) (b2 : W < 4) (hN : N < 256 ^ W) :
    Calls Try.prog 9 #[.agg #[.int .i64 (N : Int), .int .i64 (W : Int), .string s, .int .i64 t]] w fun e w' => e = .returned (.bool true) ∧ Below w.heap.size w w' := by
  have p : 256 ^ W ≤ 256 ^ 4 := Nat.pow_le_pow_right (by omega) (by omega)
  have p2 : 256 ^ W ≤ 256 ^ (W + 1) := Nat.pow_le_pow_right (by omega) (by omega)
  have H1 := Lib.hid fun U => put_c N W U (by omega) (by omega)
  rw [put_ok N W b1 (by omega) hN] at H1
  have H2 := Lib.hid fun U => put_c N ((W : Int) + 1) U (by omega) (by omega)
  have hv : putSpec N ((W : Int) + 1) = (⟨#[0]⟩ ++ ⟨(bytesOf N W).toArray⟩, 0) := by
    rw [← put_more N W hN]
    exact put_ok N (W + 1) (by omega) (by omega) (by omega)
  rw [hv] at H2
  obtain ⟨S, hS⟩ : ∃ S : ByteArray, S = ⟨(bytesOf N W).toArray⟩ := ⟨_, rfl⟩
  have sS : S.size ≤ 4 := by rw [hS, ByteArray.size_mk', List.size_toArray, bytesOf_length]; omega
  rw [← hS] at H1 H2
  have b3 : (W : Int) < 4 := by omega
  clear hv hS hN p p2
  have H3 := Lib.hid fun U => get_c s t 1 U (by omega) lt ut
  by_cases c1 : t < 0
  · have hv : getSpec s t 1 = (0, 1) := by unfold getSpec; rw [if_pos (by omega)]
    rw [hv] at H3
    clear hv
    go_enter Try.func9, Try.ntmps9
    go_wp2_with fail
    go_quiet (fail)
    go_wp2_with fail
    refine (H1.out _).mono ?_
    rintro e w1 ⟨rfl, h1⟩
    go_wp2_with fail
    refine (H2.out _).mono ?_
    rintro e w2 ⟨rfl, h2⟩
    go_wp2_with fail
    refine (H3.out _).mono ?_
    rintro e w3 ⟨rfl, h3⟩
    go_wp2_with fail
    refine (live1_c _).mono ?_
    rintro e w4 ⟨rfl, h4⟩
    go_wp2_with fail
    go_ret
    exact ⟨rfl, below_then (below_then (below_then (below_then (below_drewN ((Below.refl _ w).alloc (Nat.le_refl _) _) _) h1) h2) h3) h4⟩
  · by_cases c2 : (s.size : Int) ≤ t
    · have hv : getSpec s t 1 = (0, 2) := by unfold getSpec; rw [if_neg (by omega), if_pos (by omega)]
      rw [hv] at H3
      clear hv
      go_enter Try.func9, Try.ntmps9
      go_wp2_with fail
      go_quiet (fail)
      go_wp2_with fail
      refine (H1.out _).mono ?_
      rintro e w1 ⟨rfl, h1⟩
      go_wp2_with fail
      refine (H2.out _).mono ?_
      rintro e w2 ⟨rfl, h2⟩
      go_wp2_with fail
      refine (H3.out _).mono ?_
      rintro e w3 ⟨rfl, h3⟩
      go_wp2_with fail
      refine (live1_c _).mono ?_
      rintro e w4 ⟨rfl, h4⟩
      go_wp2_with fail
      go_ret
      exact ⟨rfl, below_then (below_then (below_then (below_then (below_drewN ((Below.refl _ w).alloc (Nat.le_refl _) _) _) h1) h2) h3) h4⟩
    · obtain ⟨T, rfl⟩ := Int.eq_ofNat_of_zero_le (show 0 ≤ t by omega)
      have hT : T < s.size := by omega
      have hv : getSpec s T 1 = ((s[T].toNat : Int), 0) := by
        unfold getSpec
        rw [if_neg (by omega), if_neg (by omega)]
        have e : subs s ((T : Int)).toNat (1 : Int).toNat = [s[T]] := by
          have := subs_succ s T 0 hT
          simpa [subs] using this
        rw [e]
        simp [be]
      rw [hv] at H3
      have c3 : (T : Int) < s.size := by omega
      have c4 : (s[T].toNat : Int) < 256 := by have := s[T].toNat_lt; omega
      clear hv c1 c2
      go_enter Try.func9, Try.ntmps9
      go_wp2_with fail
      go_quiet (fail)
      go_wp2_with fail
      refine (H1.out _).mono ?_
      rintro e w1 ⟨rfl, h1⟩
      go_wp2_with fail
      refine (H2.out _).mono ?_
      rintro e w2 ⟨rfl, h2⟩
      go_wp2_with fail
      refine (H3.out _).mono ?_
      rintro e w3 ⟨rfl, h3⟩
      go_wp2_with fail
      refine (live1_c _).mono ?_
      rintro e w4 ⟨rfl, h4⟩
      go_wp2_with fail
      go_ret
      exact ⟨rfl, below_then (below_then (below_then (below_then (below_drewN ((Below.refl _ w).alloc (Nat.le_refl _) _) _) h1) h2) h3) h4⟩

theorem walk (a0_0 : Int) (a0_1 : Int) (a0_2 : ByteArray) (a0_3 : Int) (w : World) (la0_0 : -9223372036854775808 ≤ a0_0) (ua0_0 : a0_0 ≤ 9223372036854775807) (la0_1 : -9223372036854775808 ≤ a0_1) (ua0_1 : a0_1 ≤ 9223372036854775807) (za0_2 : a0_2.size ≤ 140737488351232) (la0_3 : -9223372036854775808 ≤ a0_3) (ua0_3 : a0_3 ≤ 9223372036854775807) :
    Calls Try.prog 9 #[.agg #[.int .i64 a0_0, .int .i64 a0_1, .string a0_2, .int .i64 a0_3]] w fun e w' => e = .returned (.bool true) ∧ Below w.heap.size w w' := by
  by_cases h : a0_1 < 1 ∨ 4 < a0_1 ∨ a0_0 < 0 ∨ (256 ^ a0_1.toNat : Nat) ≤ a0_0
  · exact walk_a _ _ _ _ _ la0_0 ua0_0 za0_2 la0_3 ua0_3 h
  · obtain ⟨N, rfl⟩ := Int.eq_ofNat_of_zero_le (show 0 ≤ a0_0 by omega)
    obtain ⟨W, rfl⟩ := Int.eq_ofNat_of_zero_le (show 0 ≤ a0_1 by omega)
    rw [Int.toNat_natCast] at h
    have hN : N < 256 ^ W := Nat.lt_of_not_le fun g => h (.inr (.inr (.inr (by exact_mod_cast g))))
    by_cases c : W = 4
    · subst c
      exact walk_b _ _ _ _ za0_2 la0_3 ua0_3 hN
    · exact walk_c _ _ _ _ _ za0_2 la0_3 ua0_3 (by omega) (by omega) hN

theorem own : ownKnob Try.prog.godebug = none := by kernel_rfl
theorem laidOut : laidOutB Try.prog = true := by kernel_rfl

set_option maxRecDepth 100000 in
theorem lifted (os : Os) (started : os.Started) (H : Type) (enc : TypeId × Value → H) :
    ReturnsInHanded {} Try.checked os 9 .any (Rows.octetWidthsSpec.pre6 enc Try.prog Try.f9 Rows.octetWidthsRow.domain false) (Rows.octetWidthsSpec.post enc Try.prog Try.f9 false true false false) := by
  refine returnsInHanded_of_change_sized (C := Try.checked) own started (by kernel_rfl) Try.func9
    (ChangeSpec.witness6 (enc := enc) (C := Try.checked) false ⟨#[], #[.agg #[.int .i64 0, .int .i64 0, .string ByteArray.empty, .int .i64 0]], []⟩ 8 (by kernel_rfl) (by kernel_rfl) (by kernel_rfl) (by kernel_rfl)) ?_
  intro W base args ds gs before hval0 hW hcnd hsz0 hholds
  have hval : ∀ (j : Nat) t v, Try.f9.params[j]? = some t → args[j]? = some v → Value.okWide Try.prog W .any base t v := hval0
  have hsz : (DataW.weightsEach Try.prog (Try.f9.params.toList ++ Rows.octetWidthsSpec.plain.varTypes Try.prog) (ds ++ gs)).all (· ≤ reachBytes) = true := hsz0
  have hW' := hW
  obtain ⟨p, q, hA0, hV, rfl, hfz, hnd⟩ := hW
  have hA : DataW.TrodAll enc Try.prog W 0 (fun _ => true) true Try.f9.params.toList args.toList ds p := hA0
  rw [Try.params9] at hA hval hsz
  obtain ⟨v0, vs0, d0, ds0, p0, q0, hargs, rfl, rfl, h0, r0⟩ := trodAll_cons hA
  obtain ⟨rfl, rfl, rfl⟩ := trodAll_nil r0
  obtain rfl : args = #[v0] := by cases args; simp_all
  obtain ⟨rfl, rfl⟩ := trodVars_none hV
  have k0 := h0
  have lt0 : ∀ x ∈ p0, x.block < W.heap.size := by obtain ⟨m, hm⟩ := k0; exact DataW.trod_lt m _ _ _ hm
  obtain ⟨c0_0, c0_1, c0_2, c0_3, y0_0, y0_1, y0_2, y0_3, n0, rfl, rfl, rfl, g0_0, g0_1, g0_2, g0_3⟩ := open_agg4 Try.underlying43 (by kernel_rfl) (by kernel_rfl) (hval 0 43 v0 rfl rfl) h0
  obtain ⟨a0_0, e0_0, rfl, w0_0⟩ := DataW.trod_int Try.underlying3 g0_0
  simp at e0_0
  subst e0_0
  obtain ⟨a0_1, e0_1, rfl, w0_1⟩ := DataW.trod_int Try.underlying3 g0_1
  simp at e0_1
  subst e0_1
  obtain ⟨a0_2, e0_2, rfl, w0_2⟩ := DataW.trod_string Try.underlying9 g0_2
  simp at e0_2
  subst e0_2
  obtain ⟨a0_3, e0_3, rfl, w0_3⟩ := DataW.trod_int Try.underlying3 g0_3
  simp at e0_3
  subst e0_3
  have ba0_0 := bounds_i64 w0_0
  have ba0_1 := bounds_i64 w0_1
  have za0_2 : a0_2.size ≤ 140737488351232 := by
    have h := List.all_eq_true.1 hsz _ (DataW.weights_mem_each (j := 0) (t := 43) rfl rfl a0_2.data.toList.length (by simp [DataW.weights, DataW.weightsEach, Try.underlying43]))
    simpa [reachBytes] using of_decide_eq_true h
  have ba0_3 := bounds_i64 w0_3
  clear hA0 hval0
  refine (walk a0_0 a0_1 a0_2 a0_3 W ba0_0.1 ba0_0.2 ba0_1.1 ba0_1.2 za0_2 ba0_3.1 ba0_3.2).mono fun e W' ⟨he, bel⟩ => ?_
  subst he
  exact ⟨_, rfl, _, _, _, [], _, [], hW', trodAll_mk1 (shut_bool Try.underlying4 _), (trodAll_cons_mk (Below.trod laidOut (by kernel_rfl) (of_decide_eq_true (by kernel_rfl)) k0 bel lt0) trodAll_mk0), rfl, bel.frame _, fun h => by cases h⟩

theorem over : Rows.octetWidthsRow.holds Try.pinned (OpenSpec.ofChange Rows.octetWidthsSpec) :=
  OpenClaim.holds_of_wide 9 Try.f9 rfl rfl rfl rfl rfl rfl rfl ⟨rfl, rfl, rfl, rfl, rfl⟩ rfl rfl rfl rfl rfl (by kernel_rfl) Try.func9 (by kernel_rfl)
    (of_decide_eq_true (by kernel_rfl)) (by unfold Func.isWrapper; first | (rw [if_pos (by decide +kernel)]; kernel_rfl) | (rw [if_neg (by decide +kernel)]; exact ⟨rfl, rfl⟩))
    (fun os started H enc _ => lifted os started H enc)

/-- The statement. -/
theorem proved : Rows.OctetWidthsSaid := over
#print axioms proved
end Go.Proofs.Ytaogjejokdciaaa.octetWidthsLaw
