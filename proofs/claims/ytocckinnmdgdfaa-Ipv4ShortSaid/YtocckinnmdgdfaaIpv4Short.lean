/-
  'siphonlaw04.Ipv4Short' returns true, whatever the input, and each argument reads behind the call as it read before. Conditions: none beyond those that the row itself states.
-/
import Derived.Test.YtocckinnmdgdfaaRows
import Derived.Test.YtocckinnmdgdfaaLive4
import Derived.Test.YtocckinnmdgdfaaV4Math
import Derived.WalkKit
import Derived.ProofKit
import Derived.OpenShut
import Derived.ShutString
import Derived.ChangeOld
import Derived.Below
import Derived.Carry
import Derived.SizedLaws
import Derived.Lib.SmallJoins
import Derived.ChangeArms
import Derived.WideShapes
namespace Go.Proofs.Ytocckinnmdgdfaa.ipv4ShortLaw
open Go.ChangeShapes Go.WideShapes Go.ChangeAt Go.RowKit Go.Joins
open Go.ChangeMaps (open_string shut_string)
set_option linter.unusedVariables false

theorem list7 {α : Type} (l : List α) (h : l.length = 7) : ∃ x0 x1 x2 x3 x4 x5 x6 : α, l = [x0, x1, x2, x3, x4, x5, x6] := by
  match l, h with
  | [x0, x1, x2, x3, x4, x5, x6], _ => exact ⟨x0, x1, x2, x3, x4, x5, x6, rfl⟩

theorem short_v (S : ByteArray) (n K : Nat) (hn : n < S.size) (hk : hsz S = K) (hv : numv S 0 1 / 16 = 4) (h20 : 20 ≤ K) (hK : K ≤ S.size) (h2 : numv S 2 2 = (S.size : Int)) (h0 : sumN (S.extract 0 K).data.toList = 0) :
    decV (S.extract 0 n) = (.zero, 2) := by
  have hz := ext_size S 0 n (by omega)
  rw [Nat.zero_add] at hz
  obtain ⟨T, hT⟩ : ∃ T, T = S.extract 0 n := ⟨_, rfl⟩
  by_cases c1 : n < 20
  · have hh : headV T = (⟨#[]⟩, 2) := by unfold headV; rw [if_pos (by rw [hT]; omega)]
    rw [← hT]
    unfold decV
    rw [hh]
    rfl
  · have b0 : numv T 0 1 = numv S 0 1 := by rw [hT]; exact numv_head S n 0 1 (by omega) (by omega) (by omega) (by omega)
    have b2 : numv T 2 2 = numv S 2 2 := by rw [hT]; exact numv_head S n 2 2 (by omega) (by omega) (by omega) (by omega)
    have k : hsz T = K := by rw [← hk]; unfold hsz; rw [b0]
    have zT : T.size = n := by rw [hT]; exact hz
    rw [← hT]
    by_cases c2 : n < K
    · have hh : headV T = (⟨#[]⟩, 2) := by unfold headV; rw [k, b0, if_neg (by omega), if_neg (by omega), if_pos (by omega)]
      unfold decV
      rw [hh]
      rfl
    · have e : T.extract 0 K = S.extract 0 K := by
        have := subv_head S n 0 K (by omega) (by omega)
        have e2 := subv_of T 0 K (by omega)
        rw [hT] at e2 ⊢
        rw [Nat.zero_add] at this e2
        rw [← e2, this]
      have hh : headV T = (S.extract 0 K, 0) := by
        unfold headV
        rw [k, b0, e, if_neg (by omega), if_neg (by omega), if_neg (by omega), if_neg (by omega)]
      unfold decV
      rw [hh, k, b2, h2, if_neg (fun g => g rfl), if_neg (by omega), if_pos (by omega)]

theorem short_enc (i t p : Int) (s d o x : ByteArray) (n : Nat) (h : VOk i t p s d o x) (hn : n < (encVB i t p s d o x).size) : decV ((encVB i t p s d o x).extract 0 n) = (.zero, 2) := by
  have hb := back_v i t p s d o x ⟨#[]⟩ h
  have e : encVB i t p s d o x ++ ⟨#[]⟩ = encVB i t p s d o x := by apply ByteArray.ext; simp [ByteArray.data_append]
  rw [e] at hb
  obtain ⟨S, hS⟩ : ∃ S, S = encVB i t p s d o x := ⟨_, rfl⟩
  have hz := encVB_size i t p s d o x h
  rw [← hS] at hb hn hz ⊢
  have hd : ¬ (headV S).2 ≠ 0 := by
    intro g
    unfold decV at hb
    rw [if_pos g] at hb
    exact g (congrArg Prod.snd hb)
  obtain ⟨h1, h2, h3, h4, h5⟩ := headV_ok S hd
  have hk : hsz S = 20 + o.size ∧ numv S 2 2 = (S.size : Int) := by
    have e2 : (decV S).1.o = o := by rw [hb]
    have e3 : (decV S).1.x = x := by rw [hb]
    have e4 : decV S = (readV S, 0) := by
      have h6 := hb
      unfold decV at h6 ⊢
      rw [if_neg hd] at h6 ⊢
      split at h6
      · exact absurd (congrArg Prod.snd h6) (by simp)
      · next g1 =>
        rw [if_neg g1]
        split at h6
        · exact absurd (congrArg Prod.snd h6) (by simp)
        · next g2 =>
          rw [if_neg g2]
          split at h6
          · exact absurd (congrArg Prod.snd h6) (by simp)
          · next g3 => rw [if_neg g3]
    rw [e4] at e2 e3
    have z2 : (S.extract 20 (hsz S)).size = o.size := by rw [show S.extract 20 (hsz S) = o from e2]
    have z3 : (S.extract (hsz S) (numv S 2 2).toNat).size = x.size := by rw [show S.extract (hsz S) (numv S 2 2).toNat = x from e3]
    have nn := numv_le2 S 2
    have cc : ¬ (S.size : Int) < numv S 2 2 := by
      intro g
      unfold decV at hb
      rw [if_neg hd] at hb
      split at hb
      · exact absurd (congrArg Prod.snd hb) (by simp)
      · exact absurd (congrArg Prod.snd hb) (by simp)
    have cc2 : ¬ numv S 2 2 < (hsz S : Int) := by
      intro g
      unfold decV at hb
      rw [if_neg hd, if_pos g] at hb
      exact absurd (congrArg Prod.snd hb) (by simp)
    simp at z2 z3
    omega
  exact short_v S n (hsz S) hn rfl h4 h2 h3 hk.2 h5

set_option maxHeartbeats 1000000 in
set_option maxRecDepth 100000 in
theorem walk_yes (a0_0 a0_1 a0_2 : Int) (a0_3 a0_4 a0_5 a0_6 : ByteArray) (a1 : Int) (S : ByteArray) (w : World) (l1 : -9223372036854775808 ≤ a1) (u1 : a1 ≤ 9223372036854775807)
    (H1 : Hid (∀ U, Calls Try.prog 29 #[.agg #[.int .i64 a0_0, .int .i64 a0_1, .int .i64 a0_2, .string a0_3, .string a0_4, .string a0_5, .string a0_6]] U fun e w' => e = .returned (.tuple #[.string S, .int .i64 0]) ∧ Below U.heap.size U w'))
    (z1 : 20 ≤ S.size) (z2 : S.size ≤ 65535)
    (H2 : Hid (∀ (n : Nat) U, n < S.size → Calls Try.prog 26 #[.string (S.extract 0 n)] U fun e w' => e = .returned (.tuple #[.agg #[.int .i64 0, .int .i64 0, .int .i64 0, .string ⟨#[]⟩, .string ⟨#[]⟩, .string ⟨#[]⟩, .string ⟨#[]⟩], .int .i64 2]) ∧ Below U.heap.size U w')) :
    Calls Try.prog 15 #[.agg #[.int .i64 a0_0, .int .i64 a0_1, .int .i64 a0_2, .string a0_3, .string a0_4, .string a0_5, .string a0_6], .int .i64 a1] w fun e w' => e = .returned (.bool true) ∧ Below w.heap.size w w' := by
  have m1 : (1 : Int) ≤ (S.size : Int) := by omega
  by_cases hc : a1 < 0
  · obtain ⟨b, hb⟩ : ∃ b : Nat, (b : Int) = -(a1 + 1) := ⟨(-(a1 + 1)).toNat, by omega⟩
    obtain ⟨n, hn⟩ : ∃ n : Nat, n = b % S.size := ⟨_, rfl⟩
    have hn0 : n < S.size := by rw [hn]; exact Nat.mod_lt _ (by omega)
    have e1 : -(a1 + 1) % (S.size : Int) = (n : Int) := by rw [← hb, hn]; simp
    have e2 : (-(a1 + 1)).tmod (S.size : Int) = (n : Int) := by rw [Int.tmod_eq_emod_of_nonneg (by omega), e1]
    have n1 : n ≤ S.size := by omega
    have n2 : (n : Int) ≤ (S.size : Int) := by omega
    have n3 : (0 : Int) ≤ (n : Int) := by omega
    have H3 := H2.out n
    replace H2 := Lib.hid fun U => H3 U hn0
    clear H3 hn hb
    go_enter Try.func15, Try.ntmps15
    go_wp2_with fail
    refine (H1.out _).mono ?_
    rintro e w1 ⟨rfl, h1⟩
    go_wp2_with fail
    refine (H2.out _).mono ?_
    rintro e w2 ⟨rfl, h2⟩
    go_wp2_with fail
    refine (live4_c _).mono ?_
    rintro e w3 ⟨rfl, h3⟩
    go_wp2_with fail
    go_ret
    exact ⟨rfl, below_then (below_then (vboxed h1) h2) (vboxed h3)⟩
  · obtain ⟨b, hb⟩ : ∃ b : Nat, (b : Int) = a1 := ⟨a1.toNat, by omega⟩
    obtain ⟨n, hn⟩ : ∃ n : Nat, n = b % S.size := ⟨_, rfl⟩
    have hn0 : n < S.size := by rw [hn]; exact Nat.mod_lt _ (by omega)
    have e1 : a1 % (S.size : Int) = (n : Int) := by rw [← hb, hn]; simp
    have e2 : a1.tmod (S.size : Int) = (n : Int) := by rw [Int.tmod_eq_emod_of_nonneg (by omega), e1]
    have n1 : n ≤ S.size := by omega
    have n2 : (n : Int) ≤ (S.size : Int) := by omega
    have n3 : (0 : Int) ≤ (n : Int) := by omega
    have H3 := H2.out n
    replace H2 := Lib.hid fun U => H3 U hn0
    clear H3 hn hb
    go_enter Try.func15, Try.ntmps15
    go_wp2_with fail
    refine (H1.out _).mono ?_
    rintro e w1 ⟨rfl, h1⟩
    go_wp2_with fail
    refine (H2.out _).mono ?_
    rintro e w2 ⟨rfl, h2⟩
    go_wp2_with fail
    refine (live4_c _).mono ?_
    rintro e w3 ⟨rfl, h3⟩
    go_wp2_with fail
    go_ret
    exact ⟨rfl, below_then (below_then (vboxed h1) h2) (vboxed h3)⟩

set_option maxHeartbeats 1000000 in
set_option maxRecDepth 100000 in
theorem walk (a0_0 : Int) (a0_1 : Int) (a0_2 : Int) (a0_3 : ByteArray) (a0_4 : ByteArray) (a0_5 : ByteArray) (a0_6 : ByteArray) (a1 : Int) (w : World) (la0_0 : -9223372036854775808 ≤ a0_0) (ua0_0 : a0_0 ≤ 9223372036854775807) (la0_1 : -9223372036854775808 ≤ a0_1) (ua0_1 : a0_1 ≤ 9223372036854775807) (la0_2 : -9223372036854775808 ≤ a0_2) (ua0_2 : a0_2 ≤ 9223372036854775807) (za0_3 : a0_3.size ≤ 140737488351232) (za0_4 : a0_4.size ≤ 140737488351232) (za0_5 : a0_5.size ≤ 140737488351232) (za0_6 : a0_6.size ≤ 140737488351232) (la1 : -9223372036854775808 ≤ a1) (ua1 : a1 ≤ 9223372036854775807) :
    Calls Try.prog 15 #[.agg #[.int .i64 a0_0, .int .i64 a0_1, .int .i64 a0_2, .string a0_3, .string a0_4, .string a0_5, .string a0_6], .int .i64 a1] w fun e w' => e = .returned (.bool true) ∧ Below w.heap.size w w' := by
  have H1 := Lib.hid fun U => venc_c a0_0 a0_1 a0_2 a0_3 a0_4 a0_5 a0_6 U za0_3 za0_4 za0_5 za0_6
  by_cases h : VOk a0_0 a0_1 a0_2 a0_3 a0_4 a0_5 a0_6
  · have hv : encV a0_0 a0_1 a0_2 a0_3 a0_4 a0_5 a0_6 = (encVB a0_0 a0_1 a0_2 a0_3 a0_4 a0_5 a0_6, 0) := if_pos h
    have hz := encVB_size a0_0 a0_1 a0_2 a0_3 a0_4 a0_5 a0_6 h
    have hz2 : (encVB a0_0 a0_1 a0_2 a0_3 a0_4 a0_5 a0_6).size ≤ 65535 := by unfold VOk at h; omega
    rw [hv] at H1
    refine walk_yes a0_0 a0_1 a0_2 a0_3 a0_4 a0_5 a0_6 a1 (encVB a0_0 a0_1 a0_2 a0_3 a0_4 a0_5 a0_6) w la1 ua1 H1 (by omega) hz2 (Lib.hid ?_)
    intro n U hn
    have := vdec_c ((encVB a0_0 a0_1 a0_2 a0_3 a0_4 a0_5 a0_6).extract 0 n) U (by simp; omega)
    rw [short_enc a0_0 a0_1 a0_2 a0_3 a0_4 a0_5 a0_6 n h hn] at this
    exact this
  · have hv : encV a0_0 a0_1 a0_2 a0_3 a0_4 a0_5 a0_6 = (⟨#[]⟩, 1) := if_neg h
    rw [hv] at H1
    clear hv h
    go_enter Try.func15, Try.ntmps15
    go_wp2_with fail
    refine (H1.out _).mono ?_
    rintro e w1 ⟨rfl, h1⟩
    go_wp2_with fail
    refine (live4_c _).mono ?_
    rintro e w3 ⟨rfl, h3⟩
    go_wp2_with fail
    go_ret
    exact ⟨rfl, below_then (vboxed h1) h3⟩

theorem own : ownKnob Try.prog.godebug = none := by kernel_rfl
theorem laidOut : laidOutB Try.prog = true := by kernel_rfl

set_option maxRecDepth 100000 in
theorem lifted (os : Os) (started : os.Started) (H : Type) (enc : TypeId × Value → H) :
    ReturnsInHanded {} Try.checked os 15 .any (Rows.ipv4ShortSpec.pre6 enc Try.prog Try.f15 Rows.ipv4ShortRow.domain false) (Rows.ipv4ShortSpec.post enc Try.prog Try.f15 false true false false) := by
  refine returnsInHanded_of_change_sized (C := Try.checked) own started (by kernel_rfl) Try.func15
    (ChangeSpec.witness6 (enc := enc) (C := Try.checked) false ⟨#[], #[.agg #[.int .i64 0, .int .i64 0, .int .i64 0, .string ByteArray.empty, .string ByteArray.empty, .string ByteArray.empty, .string ByteArray.empty], .int .i64 0], []⟩ 8 (by kernel_rfl) (by kernel_rfl) (by kernel_rfl) (by kernel_rfl)) ?_
  intro W base args ds gs before hval0 hW hcnd hsz0 hholds
  have hval : ∀ (j : Nat) t v, Try.f15.params[j]? = some t → args[j]? = some v → Value.okWide Try.prog W .any base t v := hval0
  have hsz : (DataW.weightsEach Try.prog (Try.f15.params.toList ++ Rows.ipv4ShortSpec.plain.varTypes Try.prog) (ds ++ gs)).all (· ≤ reachBytes) = true := hsz0
  have hW' := hW
  obtain ⟨p, q, hA0, hV, rfl, hfz, hnd⟩ := hW
  have hA : DataW.TrodAll enc Try.prog W 0 (fun _ => true) true Try.f15.params.toList args.toList ds p := hA0
  rw [Try.params15] at hA hval hsz
  obtain ⟨v0, vs0, d0, ds0, p0, q0, hargs, rfl, rfl, h0, r0⟩ := trodAll_cons hA
  obtain ⟨v1, vs1, d1, ds1, p1, q1, rfl, rfl, rfl, h1, r1⟩ := trodAll_cons r0
  obtain ⟨rfl, rfl, rfl⟩ := trodAll_nil r1
  obtain rfl : args = #[v0, v1] := by cases args; simp_all
  obtain ⟨rfl, rfl⟩ := trodVars_none hV
  have k0 := h0
  have lt0 : ∀ x ∈ p0, x.block < W.heap.size := by obtain ⟨m, hm⟩ := k0; exact DataW.trod_lt m _ _ _ hm
  have k1 := h1
  have lt1 : ∀ x ∈ p1, x.block < W.heap.size := by obtain ⟨m, hm⟩ := k1; exact DataW.trod_lt m _ _ _ hm
  obtain ⟨cs0, rfl, hz0⟩ := okWide_struct Try.underlying46 (hval 0 46 v0 rfl rfl)
  obtain ⟨l0⟩ := cs0
  obtain ⟨c0_0, c0_1, c0_2, c0_3, c0_4, c0_5, c0_6, rfl⟩ := list7 l0 (hz0.trans (by kernel_rfl))
  obtain ⟨fu0, hf0⟩ := h0
  obtain ⟨xs0, m0, -, hx0, -, hn0, hg0⟩ := DataW.trod_struct Try.underlying46 hf0
  obtain ⟨y0_0, y0_1, y0_2, y0_3, y0_4, y0_5, y0_6, rfl⟩ := list7 xs0 hn0
  simp only [Prod.mk.injEq] at hx0
  obtain ⟨rfl, rfl⟩ := hx0
  have g0_0 : DataW.trod enc Try.prog W 0 (fun _ => true) true m0 3 (List.take (Try.prog.cellsOf 3) (List.drop 0 [c0_0, c0_1, c0_2, c0_3, c0_4, c0_5, c0_6])) = some y0_0 := hg0 0 _ rfl
  rw [show Try.prog.cellsOf 3 = 1 from by kernel_rfl] at g0_0
  replace g0_0 : DataW.trod enc Try.prog W 0 (fun _ => true) true m0 3 [c0_0] = some y0_0 := g0_0
  have g0_1 : DataW.trod enc Try.prog W 0 (fun _ => true) true m0 3 (List.take (Try.prog.cellsOf 3) (List.drop 1 [c0_0, c0_1, c0_2, c0_3, c0_4, c0_5, c0_6])) = some y0_1 := hg0 1 _ rfl
  rw [show Try.prog.cellsOf 3 = 1 from by kernel_rfl] at g0_1
  replace g0_1 : DataW.trod enc Try.prog W 0 (fun _ => true) true m0 3 [c0_1] = some y0_1 := g0_1
  have g0_2 : DataW.trod enc Try.prog W 0 (fun _ => true) true m0 3 (List.take (Try.prog.cellsOf 3) (List.drop 2 [c0_0, c0_1, c0_2, c0_3, c0_4, c0_5, c0_6])) = some y0_2 := hg0 2 _ rfl
  rw [show Try.prog.cellsOf 3 = 1 from by kernel_rfl] at g0_2
  replace g0_2 : DataW.trod enc Try.prog W 0 (fun _ => true) true m0 3 [c0_2] = some y0_2 := g0_2
  have g0_3 : DataW.trod enc Try.prog W 0 (fun _ => true) true m0 33 (List.take (Try.prog.cellsOf 33) (List.drop 3 [c0_0, c0_1, c0_2, c0_3, c0_4, c0_5, c0_6])) = some y0_3 := hg0 3 _ rfl
  rw [show Try.prog.cellsOf 33 = 1 from by kernel_rfl] at g0_3
  replace g0_3 : DataW.trod enc Try.prog W 0 (fun _ => true) true m0 33 [c0_3] = some y0_3 := g0_3
  have g0_4 : DataW.trod enc Try.prog W 0 (fun _ => true) true m0 33 (List.take (Try.prog.cellsOf 33) (List.drop 4 [c0_0, c0_1, c0_2, c0_3, c0_4, c0_5, c0_6])) = some y0_4 := hg0 4 _ rfl
  rw [show Try.prog.cellsOf 33 = 1 from by kernel_rfl] at g0_4
  replace g0_4 : DataW.trod enc Try.prog W 0 (fun _ => true) true m0 33 [c0_4] = some y0_4 := g0_4
  have g0_5 : DataW.trod enc Try.prog W 0 (fun _ => true) true m0 9 (List.take (Try.prog.cellsOf 9) (List.drop 5 [c0_0, c0_1, c0_2, c0_3, c0_4, c0_5, c0_6])) = some y0_5 := hg0 5 _ rfl
  rw [show Try.prog.cellsOf 9 = 1 from by kernel_rfl] at g0_5
  replace g0_5 : DataW.trod enc Try.prog W 0 (fun _ => true) true m0 9 [c0_5] = some y0_5 := g0_5
  have g0_6 : DataW.trod enc Try.prog W 0 (fun _ => true) true m0 9 (List.take (Try.prog.cellsOf 9) (List.drop 6 [c0_0, c0_1, c0_2, c0_3, c0_4, c0_5, c0_6])) = some y0_6 := hg0 6 _ rfl
  rw [show Try.prog.cellsOf 9 = 1 from by kernel_rfl] at g0_6
  replace g0_6 : DataW.trod enc Try.prog W 0 (fun _ => true) true m0 9 [c0_6] = some y0_6 := g0_6
  clear hg0
  obtain ⟨a0_0, e0_0, rfl, w0_0⟩ := DataW.trod_int Try.underlying3 g0_0
  simp at e0_0
  subst e0_0
  obtain ⟨a0_1, e0_1, rfl, w0_1⟩ := DataW.trod_int Try.underlying3 g0_1
  simp at e0_1
  subst e0_1
  obtain ⟨a0_2, e0_2, rfl, w0_2⟩ := DataW.trod_int Try.underlying3 g0_2
  simp at e0_2
  subst e0_2
  obtain ⟨a0_3, e0_3, rfl, w0_3⟩ := DataW.trod_string Try.underlying33 g0_3
  simp at e0_3
  subst e0_3
  obtain ⟨a0_4, e0_4, rfl, w0_4⟩ := DataW.trod_string Try.underlying33 g0_4
  simp at e0_4
  subst e0_4
  obtain ⟨a0_5, e0_5, rfl, w0_5⟩ := DataW.trod_string Try.underlying9 g0_5
  simp at e0_5
  subst e0_5
  obtain ⟨a0_6, e0_6, rfl, w0_6⟩ := DataW.trod_string Try.underlying9 g0_6
  simp at e0_6
  subst e0_6
  obtain ⟨a1, rfl, rfl, rfl, w1⟩ := open_int Try.underlying3 (hval 1 3 v1 rfl rfl) h1
  have ba0_0 := bounds_i64 w0_0
  have ba0_1 := bounds_i64 w0_1
  have ba0_2 := bounds_i64 w0_2
  have za0_3 : a0_3.size ≤ 140737488351232 := by
    have h := List.all_eq_true.1 hsz _ (DataW.weights_mem_each (j := 0) (t := 46) rfl rfl a0_3.data.toList.length (by simp [DataW.weights, DataW.weightsEach, Try.underlying46]))
    simpa [reachBytes] using of_decide_eq_true h
  have za0_4 : a0_4.size ≤ 140737488351232 := by
    have h := List.all_eq_true.1 hsz _ (DataW.weights_mem_each (j := 0) (t := 46) rfl rfl a0_4.data.toList.length (by simp [DataW.weights, DataW.weightsEach, Try.underlying46]))
    simpa [reachBytes] using of_decide_eq_true h
  have za0_5 : a0_5.size ≤ 140737488351232 := by
    have h := List.all_eq_true.1 hsz _ (DataW.weights_mem_each (j := 0) (t := 46) rfl rfl a0_5.data.toList.length (by simp [DataW.weights, DataW.weightsEach, Try.underlying46]))
    simpa [reachBytes] using of_decide_eq_true h
  have za0_6 : a0_6.size ≤ 140737488351232 := by
    have h := List.all_eq_true.1 hsz _ (DataW.weights_mem_each (j := 0) (t := 46) rfl rfl a0_6.data.toList.length (by simp [DataW.weights, DataW.weightsEach, Try.underlying46]))
    simpa [reachBytes] using of_decide_eq_true h
  have ba1 := bounds_i64 w1
  clear hA0 hval0
  refine (walk a0_0 a0_1 a0_2 a0_3 a0_4 a0_5 a0_6 a1 W ba0_0.1 ba0_0.2 ba0_1.1 ba0_1.2 ba0_2.1 ba0_2.2 za0_3 za0_4 za0_5 za0_6 ba1.1 ba1.2).mono fun e W' ⟨he, bel⟩ => ?_
  subst he
  exact ⟨_, rfl, _, _, _, [], _, [], hW', trodAll_mk1 (shut_bool Try.underlying4 _), (trodAll_cons_mk (Below.trod laidOut (by kernel_rfl) (of_decide_eq_true (by kernel_rfl)) k0 bel lt0) (trodAll_cons_mk (Below.trod laidOut (by kernel_rfl) (of_decide_eq_true (by kernel_rfl)) k1 bel lt1) trodAll_mk0)), rfl, bel.frame _, fun h => by cases h⟩

theorem over : Rows.ipv4ShortRow.holds Try.pinned (OpenSpec.ofChange Rows.ipv4ShortSpec) :=
  OpenClaim.holds_of_wide 15 Try.f15 rfl rfl rfl rfl rfl rfl rfl ⟨rfl, rfl, rfl, rfl, rfl⟩ rfl rfl rfl rfl rfl (by kernel_rfl) Try.func15 (by kernel_rfl)
    (of_decide_eq_true (by kernel_rfl)) (by unfold Func.isWrapper; first | (rw [if_pos (by decide +kernel)]; kernel_rfl) | (rw [if_neg (by decide +kernel)]; exact ⟨rfl, rfl⟩))
    (fun os started H enc _ => lifted os started H enc)

/-- The statement. -/
theorem proved : Rows.Ipv4ShortSaid := over
#print axioms proved
end Go.Proofs.Ytocckinnmdgdfaa.ipv4ShortLaw
