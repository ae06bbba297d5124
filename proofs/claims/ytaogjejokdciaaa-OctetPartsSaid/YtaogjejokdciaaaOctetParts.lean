/-
  'siphonlaw01.OctetParts' returns true, whatever the input, and each argument reads behind the call as it read before. Conditions: none beyond those that the row itself states.
-/
import Derived.Test.YtaogjejokdciaaaRows
import Derived.Test.YtaogjejokdciaaaLive1
import Derived.WalkKit
import Derived.ProofKit
import Derived.OpenShut
import Derived.ShutString
import Derived.ChangeOld
import Derived.Below
import Derived.Carry
import Derived.SizedLaws
import Derived.Lib.SmallJoins
namespace Go.Proofs.Ytaogjejokdciaaa.octetPartsLaw
open Go.ChangeShapes Go.WideShapes Go.ChangeAt Go.RowKit Go.Joins
open Go.ChangeMaps (open_string shut_string)
set_option linter.unusedVariables false

set_option maxHeartbeats 2000000 in
set_option maxRecDepth 100000 in
theorem walk_out (s : ByteArray) (a n k : Int) (w : World) (zs : s.size ≤ 140737488351232) (h : a < 0 ∨ n < 0 ∨ k < 0 ∨ (s.size : Int) < a ∨ (s.size : Int) < n ∨ n < k) :
    Calls Try.prog 8 #[.agg #[.string s, .int .i64 a, .int .i64 n, .int .i64 k]] w fun e w' => e = .returned (.bool true) ∧ Below w.heap.size w w' := by
  by_cases c1 : a < 0
  · clear h
    go_enter Try.func8, Try.ntmps8
    go_wp2_with fail
    go_quiet (fail)
    go_wp2_with fail
    refine (live1_c _).mono ?_
    rintro e w3 ⟨rfl, h3⟩
    go_wp2_with fail
    go_ret
    exact ⟨rfl, below_then (below_drewN ((Below.refl _ w).alloc (Nat.le_refl _) _) _) h3⟩
  · by_cases c2 : n < 0
    · clear h
      go_enter Try.func8, Try.ntmps8
      go_wp2_with fail
      go_quiet (fail)
      go_wp2_with fail
      refine (live1_c _).mono ?_
      rintro e w3 ⟨rfl, h3⟩
      go_wp2_with fail
      go_ret
      exact ⟨rfl, below_then (below_drewN ((Below.refl _ w).alloc (Nat.le_refl _) _) _) h3⟩
    · by_cases c3 : k < 0
      · clear h
        go_enter Try.func8, Try.ntmps8
        go_wp2_with fail
        go_quiet (fail)
        go_wp2_with fail
        refine (live1_c _).mono ?_
        rintro e w3 ⟨rfl, h3⟩
        go_wp2_with fail
        go_ret
        exact ⟨rfl, below_then (below_drewN ((Below.refl _ w).alloc (Nat.le_refl _) _) _) h3⟩
      · by_cases c4 : (s.size : Int) < a
        · clear h
          go_enter Try.func8, Try.ntmps8
          go_wp2_with fail
          go_quiet (fail)
          go_wp2_with fail
          refine (live1_c _).mono ?_
          rintro e w3 ⟨rfl, h3⟩
          go_wp2_with fail
          go_ret
          exact ⟨rfl, below_then (below_drewN ((Below.refl _ w).alloc (Nat.le_refl _) _) _) h3⟩
        · by_cases c5 : (s.size : Int) < n
          · clear h
            go_enter Try.func8, Try.ntmps8
            go_wp2_with fail
            go_quiet (fail)
            go_wp2_with fail
            refine (live1_c _).mono ?_
            rintro e w3 ⟨rfl, h3⟩
            go_wp2_with fail
            go_ret
            exact ⟨rfl, below_then (below_drewN ((Below.refl _ w).alloc (Nat.le_refl _) _) _) h3⟩
          · have c6 : n < k := by omega
            clear h
            go_enter Try.func8, Try.ntmps8
            go_wp2_with fail
            go_quiet (fail)
            go_wp2_with fail
            refine (live1_c _).mono ?_
            rintro e w3 ⟨rfl, h3⟩
            go_wp2_with fail
            go_ret
            exact ⟨rfl, below_then (below_drewN ((Below.refl _ w).alloc (Nat.le_refl _) _) _) h3⟩

theorem cut_ok (s : ByteArray) (A N : Nat) (h : A + N ≤ s.size) : cutSpec s A N = (s.extract A (A + N), 0) := by
  unfold cutSpec
  rw [if_neg (by omega), if_neg (by omega), extract_mk]; rfl

theorem parts_of (s : ByteArray) (A N K : Nat) (h : A + N ≤ s.size) (hk : K ≤ N) : ∃ SA SB : ByteArray, s.extract A (A + N) = SA ++ SB ∧ SA.size = K ∧ SB.size = N - K := by
  refine ⟨s.extract A (A + K), s.extract (A + K) (A + N), ?_, by simp; omega, by simp; omega⟩
  apply ByteArray.ext
  simp only [ByteArray.data_append, ByteArray.data_extract]
  rw [Array.extract_append_extract, Nat.min_eq_left (by omega), Nat.max_eq_right (by omega)]

theorem app_list (a b : ByteArray) : (a ++ b).data.toList = a.data.toList ++ b.data.toList := by simp [ByteArray.data_append]

theorem ba_mk (s : ByteArray) : (⟨s.data.toList.toArray⟩ : ByteArray) = s := by apply ByteArray.ext; simp

theorem cut_left (a b : ByteArray) (K : Nat) (h : a.size = K) : cutSpec (a ++ b) 0 K = (a, 0) := by
  unfold cutSpec
  have e : subs (a ++ b) (0 : Int).toNat ((K : Int)).toNat = a.data.toList := by
    unfold subs
    rw [app_list, Int.toNat_natCast]
    show List.take K (List.drop 0 _) = _
    rw [List.drop_zero, List.take_append_of_le_length (by simp; omega), List.take_of_length_le (by simp; omega)]
  rw [if_neg (by omega), if_neg (by rw [ByteArray.size_append]; omega), e, ba_mk]

theorem cut_right (a b : ByteArray) (K M : Nat) (h : a.size = K) (h2 : b.size = M) : cutSpec (a ++ b) K M = (b, 0) := by
  unfold cutSpec
  have e : subs (a ++ b) ((K : Int)).toNat ((M : Int)).toNat = b.data.toList := by
    unfold subs
    rw [app_list, Int.toNat_natCast, Int.toNat_natCast, List.drop_append_of_le_length (by simp; omega), List.drop_of_length_le (by simp; omega), List.nil_append, List.take_of_length_le (by simp; omega)]
  rw [if_neg (by omega), if_neg (by rw [ByteArray.size_append]; omega), e, ba_mk]

theorem get_whole (s : ByteArray) (K : Nat) (h : s.size = K) (h1 : 1 ≤ K) (h4 : K ≤ 4) : getSpec s 0 K = ((be s.data.toList : Int), 0) := by
  unfold getSpec
  have e : subs s (0 : Int).toNat ((K : Int)).toNat = s.data.toList := by
    unfold subs
    rw [Int.toNat_natCast]
    show List.take K (List.drop 0 _) = _
    rw [List.drop_zero, List.take_of_length_le (by simp; omega)]
  rw [if_neg (by omega), if_neg (by omega), e]

theorem get_part (s : ByteArray) (A K : Nat) (h : A + K ≤ s.size) (h1 : 1 ≤ K) (h4 : K ≤ 4) : getSpec s A K = ((be (s.extract A (A + K)).data.toList : Int), 0) := by
  unfold getSpec
  rw [if_neg (by omega), if_neg (by omega), subs_extract]; rfl

set_option maxHeartbeats 2000000 in
set_option maxRecDepth 100000 in
theorem walk_cut (s : ByteArray) (A N K : Nat) (w : World) (zs : s.size ≤ 140737488351232) (h1 : A ≤ s.size) (h2 : N ≤ s.size) (h3 : K ≤ N) (h : s.size < A + N) :
    Calls Try.prog 8 #[.agg #[.string s, .int .i64 (A : Int), .int .i64 (N : Int), .int .i64 (K : Int)]] w fun e w' => e = .returned (.bool true) ∧ Below w.heap.size w w' := by
  have H1 := Lib.hid fun U => cut_c s A N U (by omega) (by omega) (by omega)
  have hv : cutSpec s A N = (⟨#[]⟩, 2) := by unfold cutSpec; rw [if_neg (by omega), if_pos (by omega)]
  rw [hv] at H1
  clear hv
  have i1 : (s.size : Int) - A < N := by omega
  go_enter Try.func8, Try.ntmps8
  go_wp2_with fail
  go_quiet (fail)
  go_wp2_with fail
  refine (H1.out _).mono ?_
  rintro e w1 ⟨rfl, h1⟩
  go_wp2_with fail
  refine (live1_c _).mono ?_
  rintro e w3 ⟨rfl, h3⟩
  go_wp2_with fail
  go_ret
  exact ⟨rfl, below_then (below_then (below_drewN ((Below.refl _ w).alloc (Nat.le_refl _) _) _) h1) h3⟩

set_option maxHeartbeats 4000000 in
set_option maxRecDepth 100000 in
theorem walk_in (s SA SB : ByteArray) (A N K : Nat) (w : World) (zs : s.size ≤ 140737488351232) (h2 : N ≤ s.size) (h3 : K ≤ N) (h : A + N ≤ s.size)
    (he : s.extract A (A + N) = SA ++ SB) (hA : SA.size = K) (hB : SB.size = N - K) :
    Calls Try.prog 8 #[.agg #[.string s, .int .i64 (A : Int), .int .i64 (N : Int), .int .i64 (K : Int)]] w fun e w' => e = .returned (.bool true) ∧ Below w.heap.size w w' := by
  have H1 := Lib.hid fun U => cut_c s A N U (by omega) (by omega) (by omega)
  rw [cut_ok s A N h, he] at H1
  have sz : (SA ++ SB).size = N := by rw [ByteArray.size_append]; omega
  have H2 := Lib.hid fun U => cut_c (SA ++ SB) 0 K U (by omega) (by omega) (by omega)
  rw [cut_left SA SB K hA] at H2
  have H3 := Lib.hid fun U => cut_c (SA ++ SB) K ((N : Int) - (K : Int)) U (by omega) (by omega) (by omega)
  have hnk : ((N : Int) - (K : Int)) = ((N - K : Nat) : Int) := by omega
  have hv3 : cutSpec (SA ++ SB) K ((N : Int) - (K : Int)) = (SB, 0) := by rw [hnk]; exact cut_right SA SB K (N - K) hA hB
  rw [hv3] at H3
  clear hv3
  have iA : SA.size ≤ 140737488351232 := by omega
  have iB : SB.size ≤ 140737488351232 := by omega
  have i3 : (K : Int) ≤ N := by omega
  have i4 : (N : Int) ≤ s.size := by omega
  have i5 : (A : Int) + N ≤ s.size := by omega
  have i6 : ¬ (s.size : Int) < N := by omega
  by_cases c : N < 2 ∨ 4 < N ∨ K < 1 ∨ N ≤ K
  · clear he hA hB hnk sz h2 h3 h
    have c1 : (N : Int) < 2 ∨ ¬ (N : Int) < 2 ∧ ((4 : Int) < N ∨ ¬ (4 : Int) < N ∧ ((K : Int) < 1 ∨ ¬ (K : Int) < 1 ∧ (N : Int) ≤ K)) := by omega
    clear c
    rcases c1 with c | ⟨c, d | ⟨d, e | ⟨e, f⟩⟩⟩
    all_goals
      go_enter Try.func8, Try.ntmps8
      go_wp2_with fail
      go_quiet (fail)
      go_wp2_with fail
      refine (H1.out _).mono ?_
      rintro e w1 ⟨rfl, h1⟩
      go_wp2_with fail
      refine (H2.out _).mono ?_
      rintro e w2 ⟨rfl, h2⟩
      go_wp2_with fail
      refine (H3.out _).mono ?_
      rintro e w3 ⟨rfl, h3⟩
      go_wp2_with fail
      refine (live1_c _).mono ?_
      rintro e w7 ⟨rfl, h7⟩
      go_wp2_with fail
      go_ret
      exact ⟨rfl, below_then (below_then (below_then (below_then (below_drewN ((Below.refl _ w).alloc (Nat.le_refl _) _) _) h1) h2) h3) h7⟩
  · have H4 := Lib.hid fun U => get_c s A N U (by omega) (by omega) (by omega)
    rw [get_part s A N h (by omega) (by omega), he] at H4
    have H5 := Lib.hid fun U => get_c SA 0 K U (by omega) (by omega) (by omega)
    rw [get_whole SA K hA (by omega) (by omega)] at H5
    have H6 := Lib.hid fun U => get_c SB 0 ((N : Int) - (K : Int)) U (by omega) (by omega) (by omega)
    have hv6 : getSpec SB 0 ((N : Int) - (K : Int)) = ((be SB.data.toList : Int), 0) := by rw [hnk]; exact get_whole SB (N - K) hB (by omega) (by omega)
    rw [hv6] at H6
    clear hv6
    obtain ⟨x, hx⟩ : ∃ x, x = be (SA ++ SB).data.toList := ⟨_, rfl⟩
    obtain ⟨y, hy⟩ : ∃ y, y = be SA.data.toList := ⟨_, rfl⟩
    obtain ⟨z, hz⟩ : ∃ z, z = be SB.data.toList := ⟨_, rfl⟩
    have hsum : x = y * 256 ^ (N - K) + z := by
      rw [hx, app_list, be_append, ← hy, ← hz]
      congr 3
    rw [← hx] at H4
    rw [← hy] at H5
    rw [← hz] at H6
    have bx : x < 4294967296 := by
      have := be_lt (SA ++ SB).data.toList
      have e4 : (SA ++ SB).data.toList.length ≤ 4 := by simp; omega
      have e5 : 256 ^ (SA ++ SB).data.toList.length ≤ 256 ^ 4 := Nat.pow_le_pow_right (by omega) e4
      omega
    have c1 : (2 : Int) ≤ N := by omega
    have c2 : (N : Int) ≤ 4 := by omega
    have c3 : (1 : Int) ≤ K := by omega
    have c4 : (K : Int) < N := by omega
    have hm : ∀ m, m ≤ N - K → y * 256 ^ m ≤ x := fun m hmm => by
      rw [hsum]
      exact Nat.le_trans (Nat.mul_le_mul_left y (Nat.pow_le_pow_right (by omega) hmm)) (Nat.le_add_right _ _)
    have HM := Lib.hid hm
    have HS := Lib.hid hsum
    clear hm hsum
    clear hx hy hz he hnk sz c hA hB h2 h3 h
    go_enter Try.func8, Try.ntmps8
    go_wp2_with fail
    go_quiet (fail)
    go_wp2_with fail
    refine (H1.out _).mono ?_
    rintro e w1 ⟨rfl, h1⟩
    go_wp2_with fail
    refine (H2.out _).mono ?_
    rintro e w2 ⟨rfl, h2⟩
    go_wp2_with fail
    refine (H3.out _).mono ?_
    rintro e w3 ⟨rfl, h3⟩
    go_wp2_with fail
    refine (H4.out _).mono ?_
    rintro e w4 ⟨rfl, h4⟩
    go_wp2_with fail
    refine (H5.out _).mono ?_
    rintro e w5 ⟨rfl, h5⟩
    go_wp2_with fail
    refine (H6.out _).mono ?_
    rintro e w6 ⟨rfl, h6⟩
    go_wp2_with fail
    go_loop [15, 19] (fun v m => ∃ k : Nat, k ≤ N - K ∧ m = .int .i64 k ∧ v = .int .i64 ((y * 256 ^ k : Nat) : Int)) (fun _ m => (N - K) - (intOf m).toNat)
    case atStart => exact ⟨0, Nat.zero_le _, rfl, by simp⟩
    case round =>
      obtain ⟨k, hk, rfl, rfl⟩ := hrel
      by_cases hlt : k < N - K
      · have e1 : (k : Int) < (N : Int) - (K : Int) := by omega
        have e2 := HM.out (k + 1) hlt
        have e3 : y * 256 ^ (k + 1) = 256 * (y * 256 ^ k) := by rw [Nat.pow_succ, Nat.mul_comm (256 ^ k), ← Nat.mul_assoc, Nat.mul_comm y, Nat.mul_assoc]
        obtain ⟨q, hq⟩ : ∃ q, q = y * 256 ^ k := ⟨_, rfl⟩
        rw [← hq] at e3
        rw [e3] at e2
        have E3 := Lib.hid e3
        rw [← hq]
        clear e3 hq
        go_wp2
        go_round
        case rel => exact ⟨k + 1, hlt, by go_num, by rw [E3.out]; go_num⟩
        case measure => simp [intOf]; omega
      · obtain rfl : k = N - K := by omega
        have e1 : ¬ (((N - K : Nat) : Int) < (N : Int) - (K : Int)) := by omega
        obtain ⟨q, hq⟩ : ∃ q, q = y * 256 ^ (N - K) := ⟨_, rfl⟩
        have hs := HS.out
        rw [← hq] at hs
        rw [← hq]
        have e2 : ((x : Int) == (q : Int) + (z : Int)) = true := by rw [hs]; simp
        have e4 : (q : Int) + (z : Int) ≤ 4294967295 := by omega
        clear hq hs
        go_wp2_with fail
        refine (live1_c _).mono ?_
        rintro e w7 ⟨rfl, h7⟩
        go_wp2_with fail
        go_ret
        exact ⟨rfl, below_then (below_then (below_then (below_then (below_then (below_then (below_then (below_drewN ((Below.refl _ w).alloc (Nat.le_refl _) _) _) h1) h2) h3) h4) h5) h6) h7⟩

theorem walk (a0_0 : ByteArray) (a0_1 : Int) (a0_2 : Int) (a0_3 : Int) (w : World) (za0_0 : a0_0.size ≤ 140737488351232) (la0_1 : -9223372036854775808 ≤ a0_1) (ua0_1 : a0_1 ≤ 9223372036854775807) (la0_2 : -9223372036854775808 ≤ a0_2) (ua0_2 : a0_2 ≤ 9223372036854775807) (la0_3 : -9223372036854775808 ≤ a0_3) (ua0_3 : a0_3 ≤ 9223372036854775807) :
    Calls Try.prog 8 #[.agg #[.string a0_0, .int .i64 a0_1, .int .i64 a0_2, .int .i64 a0_3]] w fun e w' => e = .returned (.bool true) ∧ Below w.heap.size w w' := by
  by_cases h : a0_1 < 0 ∨ a0_2 < 0 ∨ a0_3 < 0 ∨ (a0_0.size : Int) < a0_1 ∨ (a0_0.size : Int) < a0_2 ∨ a0_2 < a0_3
  · exact walk_out _ _ _ _ _ za0_0 h
  · obtain ⟨A, rfl⟩ := Int.eq_ofNat_of_zero_le (show 0 ≤ a0_1 by omega)
    obtain ⟨N, rfl⟩ := Int.eq_ofNat_of_zero_le (show 0 ≤ a0_2 by omega)
    obtain ⟨K, rfl⟩ := Int.eq_ofNat_of_zero_le (show 0 ≤ a0_3 by omega)
    by_cases c : a0_0.size < A + N
    · exact walk_cut _ _ _ _ _ za0_0 (by omega) (by omega) (by omega) c
    · obtain ⟨SA, SB, he, hA, hB⟩ := parts_of a0_0 A N K (by omega) (by omega)
      exact walk_in _ SA SB _ _ _ _ za0_0 (by omega) (by omega) (by omega) he hA hB

theorem own : ownKnob Try.prog.godebug = none := by kernel_rfl
theorem laidOut : laidOutB Try.prog = true := by kernel_rfl

set_option maxRecDepth 100000 in
theorem lifted (os : Os) (started : os.Started) (H : Type) (enc : TypeId × Value → H) :
    ReturnsInHanded {} Try.checked os 8 .any (Rows.octetPartsSpec.pre6 enc Try.prog Try.f8 Rows.octetPartsRow.domain false) (Rows.octetPartsSpec.post enc Try.prog Try.f8 false true false false) := by
  refine returnsInHanded_of_change_sized (C := Try.checked) own started (by kernel_rfl) Try.func8
    (ChangeSpec.witness6 (enc := enc) (C := Try.checked) false ⟨#[], #[.agg #[.string ByteArray.empty, .int .i64 0, .int .i64 0, .int .i64 0]], []⟩ 8 (by kernel_rfl) (by kernel_rfl) (by kernel_rfl) (by kernel_rfl)) ?_
  intro W base args ds gs before hval0 hW hcnd hsz0 hholds
  have hval : ∀ (j : Nat) t v, Try.f8.params[j]? = some t → args[j]? = some v → Value.okWide Try.prog W .any base t v := hval0
  have hsz : (DataW.weightsEach Try.prog (Try.f8.params.toList ++ Rows.octetPartsSpec.plain.varTypes Try.prog) (ds ++ gs)).all (· ≤ reachBytes) = true := hsz0
  have hW' := hW
  obtain ⟨p, q, hA0, hV, rfl, hfz, hnd⟩ := hW
  have hA : DataW.TrodAll enc Try.prog W 0 (fun _ => true) true Try.f8.params.toList args.toList ds p := hA0
  rw [Try.params8] at hA hval hsz
  obtain ⟨v0, vs0, d0, ds0, p0, q0, hargs, rfl, rfl, h0, r0⟩ := trodAll_cons hA
  obtain ⟨rfl, rfl, rfl⟩ := trodAll_nil r0
  obtain rfl : args = #[v0] := by cases args; simp_all
  obtain ⟨rfl, rfl⟩ := trodVars_none hV
  have k0 := h0
  have lt0 : ∀ x ∈ p0, x.block < W.heap.size := by obtain ⟨m, hm⟩ := k0; exact DataW.trod_lt m _ _ _ hm
  obtain ⟨c0_0, c0_1, c0_2, c0_3, y0_0, y0_1, y0_2, y0_3, n0, rfl, rfl, rfl, g0_0, g0_1, g0_2, g0_3⟩ := open_agg4 Try.underlying40 (by kernel_rfl) (by kernel_rfl) (hval 0 40 v0 rfl rfl) h0
  obtain ⟨a0_0, e0_0, rfl, w0_0⟩ := DataW.trod_string Try.underlying9 g0_0
  simp at e0_0
  subst e0_0
  obtain ⟨a0_1, e0_1, rfl, w0_1⟩ := DataW.trod_int Try.underlying3 g0_1
  simp at e0_1
  subst e0_1
  obtain ⟨a0_2, e0_2, rfl, w0_2⟩ := DataW.trod_int Try.underlying3 g0_2
  simp at e0_2
  subst e0_2
  obtain ⟨a0_3, e0_3, rfl, w0_3⟩ := DataW.trod_int Try.underlying3 g0_3
  simp at e0_3
  subst e0_3
  have za0_0 : a0_0.size ≤ 140737488351232 := by
    have h := List.all_eq_true.1 hsz _ (DataW.weights_mem_each (j := 0) (t := 40) rfl rfl a0_0.data.toList.length (by simp [DataW.weights, DataW.weightsEach, Try.underlying40]))
    simpa [reachBytes] using of_decide_eq_true h
  have ba0_1 := bounds_i64 w0_1
  have ba0_2 := bounds_i64 w0_2
  have ba0_3 := bounds_i64 w0_3
  clear hA0 hval0
  refine (walk a0_0 a0_1 a0_2 a0_3 W za0_0 ba0_1.1 ba0_1.2 ba0_2.1 ba0_2.2 ba0_3.1 ba0_3.2).mono fun e W' ⟨he, bel⟩ => ?_
  subst he
  exact ⟨_, rfl, _, _, _, [], _, [], hW', trodAll_mk1 (shut_bool Try.underlying4 _), (trodAll_cons_mk (Below.trod laidOut (by kernel_rfl) (of_decide_eq_true (by kernel_rfl)) k0 bel lt0) trodAll_mk0), rfl, bel.frame _, fun h => by cases h⟩

theorem over : Rows.octetPartsRow.holds Try.pinned (OpenSpec.ofChange Rows.octetPartsSpec) :=
  OpenClaim.holds_of_wide 8 Try.f8 rfl rfl rfl rfl rfl rfl rfl ⟨rfl, rfl, rfl, rfl, rfl⟩ rfl rfl rfl rfl rfl (by kernel_rfl) Try.func8 (by kernel_rfl)
    (of_decide_eq_true (by kernel_rfl)) (by unfold Func.isWrapper; first | (rw [if_pos (by decide +kernel)]; kernel_rfl) | (rw [if_neg (by decide +kernel)]; exact ⟨rfl, rfl⟩))
    (fun os started H enc _ => lifted os started H enc)

/-- The statement. -/
theorem proved : Rows.OctetPartsSaid := over
#print axioms proved
end Go.Proofs.Ytaogjejokdciaaa.octetPartsLaw
