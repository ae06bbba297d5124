/-
  'siphonlaw20.QuerierAlone' returns true, whatever the input, and each argument reads behind the call as it read before. Conditions: none beyond those that the row itself states.
-/
import Derived.Test.YtlpcndmblnpjmaaDoorRows
import Derived.Test.YtlpcndmblnpjmaaDoorCards
import Derived.Test.YtlpcndmblnpjmaaDoorTie
import Derived.Test.YtlpcndmblnpjmaaDoorQrL
import Derived.LaidMore
import Derived.Lay
import Derived.SevenTiedAt
import Derived.Stop.Joined
import Derived.WalkKit
import Derived.ProofKit
import Derived.OpenShut
import Derived.ShutString
import Derived.ChangeOld
import Derived.Below
import Derived.Carry
import Derived.SizedLaws
import Derived.Lib.SmallJoins
import Derived.ChangeArms
import Derived.WideShapes
namespace Go.Proofs.YtlpcndmblnpjmaaDoor.querierAloneLaw
open Go.ChangeShapes Go.WideShapes Go.ChangeAt Go.RowKit Go.Joins
open Go.ChangeMaps (open_string shut_string)
set_option linter.unusedVariables false

theorem isB_some {s : ByteArray} (h : s.size = 4 ∨ s.size = 16) {un now : Int} (k : un ≤ now) : isB s un now = true := by
  unfold isB
  rw [show decide (s = ⟨#[]⟩) = false from decide_eq_false (by rintro rfl; rcases h with h | h <;> cases h), decide_eq_true k]
  rfl

set_option maxHeartbeats 4000000 in
set_option maxRecDepth 100000 in
theorem walk (a0 : ByteArray) (a1 : Int) (a2 : Int) (w : World) (za0 : a0.size ≤ 140737488351232) (la1 : -9223372036854775808 ≤ a1) (ua1 : a1 ≤ 9223372036854775807) (la2 : -9223372036854775808 ≤ a2) (ua2 : a2 ≤ 9223372036854775807) :
    Calls Tryd.prog 4 #[.string a0, .int .i64 a1, .int .i64 a2] w fun e w' => e = .returned (.bool true) ∧ Below w.heap.size w w' := by
  have HL := Lib.hid fun U => live20_c U
  by_cases c0 : a0.size ≠ 4 ∧ a0.size ≠ 16
  · obtain ⟨f1, f2⟩ := ne_t (show (a0.size : Int) ≠ 4 by omega)
    obtain ⟨f3, f4⟩ := ne_t (show (a0.size : Int) ≠ 16 by omega)
    clear c0
    go_enter Tryd.func4, Tryd.ntmps4
    go_wp2_with fail
    ((with_reducible refine (HL.out _).mono ?_); rintro e w2 ⟨rfl, h2⟩)
    go_wp2_with fail
    go_ret
    exact ⟨rfl, h2⟩
  · have cs : a0.size = 4 ∨ a0.size = 16 := by omega
    clear c0
    have HSB := Lib.hid (fun now (k : 0 ≤ now) => isB_some cs (un := 0) k)
    have N0 := Lib.hid (show a0.size = 0 ∨ a0.size = 4 ∨ a0.size = 16 by omega)
    rcases cs with cs | cs
    · obtain ⟨f1, f2⟩ := eq_t (show (a0.size : Int) = 4 by omega)
      clear cs
      by_cases c1 : 40 < a1
      · have d1 : decide (40 < a1) = true := decide_eq_true c1
        clear c1
        go_enter Tryd.func4, Tryd.ntmps4
        go_wp2_with fail
        ((with_reducible refine (HL.out _).mono ?_); rintro e w2 ⟨rfl, h2⟩)
        go_wp2_with fail
        go_ret
        exact ⟨rfl, h2⟩
      · have d1 : decide (40 < a1) = false := decide_eq_false c1
        by_cases c2 : a1 < 4 ∨ 100000 < a1 ∨ a2 < 1 ∨ 7 < a2
        · have N1 := Lib.hid fun U => new_no a0 a1 a2 U (.inr c2)
          clear c1 c2
          go_enter Tryd.func4, Tryd.ntmps4
          go_wp2_with fail
          ((with_reducible refine (N1.out _).mono ?_); rintro e w1 ⟨rfl, rfl⟩)
          go_wp2_with fail
          ((with_reducible refine (HL.out _).mono ?_); rintro e w2 ⟨rfl, h2⟩)
          go_wp2_with fail
          go_ret
          exact ⟨rfl, h2⟩
        · have N1 := Lib.hid fun U => new_ok a0 a1 a2 U N0.out (by omega) (by omega) (by omega) (by omega)
          have e1 : 4 ≤ a1 := by omega
          have e2 : a1 ≤ 40 := by omega
          have r1 : 1 ≤ a2 := by omega
          have r2 : a2 ≤ 7 := by omega
          have t1 : 1 ≤ Int.tdiv a1 4 := by rw [Int.tdiv_eq_ediv_of_nonneg (by omega)]; omega
          have t2 : Int.tdiv a1 4 ≤ 10 := by rw [Int.tdiv_eq_ediv_of_nonneg (by omega)]; omega
          clear c1 c2 N0
          go_enter Tryd.func4, Tryd.ntmps4
          go_wp2_with fail
          ((with_reducible refine (N1.out _).mono ?_); rintro e w1 ⟨q, rfl, hq, h1, b1⟩)
          have HQ := Lib.hid hq
          have H1 := Lib.hid h1
          have B1 := Lib.hid b1
          clear hq h1 b1 N1
          go_wp2_with fail
          go_loopw [9, 10, 11] (fun vx vn vk wr => ∃ K NX AK : Int, 0 ≤ K ∧ K ≤ 200 ∧ vk = .int .i64 K ∧ vx = .int .i64 NX ∧ vn = .int .i64 AK ∧ K ≤ NX ∧ NX ≤ 100000 ∧ 0 ≤ AK ∧ AK ≤ K ∧ Hid (HasQ wr q a0 a1 a2 0 NX AK) ∧ Hid (Below w.heap.size w wr)) (fun _ _ vk _ => (200 - intOf vk).toNat)
          case atStart => exact ⟨0, 0, 0, by omega, by omega, rfl, rfl, rfl, by omega, by omega, by omega, by omega, H1, B1⟩
          case round =>
            clear H1 B1
            obtain ⟨K, NX, AK, hK, hK2, rfl, rfl, rfl, hn1, hn2, hk1, hk2, HH, KB⟩ := hrel
            by_cases hlt : K < 200
            · have d2 : decide (K < 200) = true := decide_eq_true hlt
              have HOK := Lib.hid (okT_t hK (by omega))
              by_cases hnx : NX = K
              · subst hnx
                have C1 := Lib.hid (tick_yes HH.out NX HOK.out (HSB.out NX hK) (Int.le_refl _) e1 (by omega) hk1 (by omega))
                obtain ⟨r, hr0⟩ : ∃ r, r = (if AK + 1 < a2 then NX + Int.tdiv a1 4 else NX + a1) := ⟨_, rfl⟩
                rw [← hr0] at C1
                have HR := Lib.hid hr0
                clear hr0
                go_wp2_with fail
                ((with_reducible refine C1.out.mono ?_); rintro e w3 ⟨rfl, h3, k3⟩)
                have H3 := Lib.hid h3
                have KB3 := Lib.hid (Tw.bel KB.out HQ.out k3)
                clear h3 k3 C1 KB HH
                by_cases hr : AK + 1 < a2
                · have d4 : decide (AK + 1 < a2) = true := decide_eq_true hr
                  have HR2 := Lib.hid (HR.out.trans (if_pos hr))
                  clear hr HR
                  go_wp2_with fail
                  go_roundw
                  case rel => exact ⟨NX + 1, r, AK + 1, by omega, by omega, rfl, by rw [HR2.out], rfl, by rw [HR2.out]; omega, by rw [HR2.out]; omega, by omega, by omega, H3, KB3⟩
                  case measure => simp [intOf]; omega
                · have d4 : decide (AK + 1 < a2) = false := decide_eq_false hr
                  have HR2 := Lib.hid (HR.out.trans (if_neg hr))
                  clear hr HR
                  go_wp2_with fail
                  go_roundw
                  case rel => exact ⟨NX + 1, r, AK + 1, by omega, by omega, rfl, by rw [HR2.out], rfl, by rw [HR2.out]; omega, by rw [HR2.out]; omega, by omega, by omega, H3, KB3⟩
                  case measure => simp [intOf]; omega
              · have C1 := Lib.hid (tick_wait HH.out K HOK.out (HSB.out K hK) (by omega))
                obtain ⟨g1, g2⟩ := ne_t (show K ≠ NX from fun e => hnx e.symm)
                go_wp2_with fail
                ((with_reducible refine C1.out.mono ?_); rintro e w3 ⟨rfl, rfl⟩)
                go_wp2_with fail
                go_roundw
                case rel => exact ⟨K + 1, NX, AK, by omega, by omega, rfl, rfl, rfl, by omega, by omega, by omega, by omega, HH, KB⟩
                case measure => simp [intOf]; omega
            · have d2 : decide (K < 200) = false := decide_eq_false hlt
              clear hlt
              go_wp2_with fail
              ((with_reducible refine (HL.out _).mono ?_); rintro e w5 ⟨rfl, h5⟩)
              go_wp2_with fail
              go_ret
              exact ⟨rfl, KB.out.trans (h5.mono KB.out.size)⟩
    · obtain ⟨f1, f2⟩ := ne_t (show (a0.size : Int) ≠ 4 by omega)
      obtain ⟨f3, f4⟩ := eq_t (show (a0.size : Int) = 16 by omega)
      clear cs
      by_cases c1 : 40 < a1
      · have d1 : decide (40 < a1) = true := decide_eq_true c1
        clear c1
        go_enter Tryd.func4, Tryd.ntmps4
        go_wp2_with fail
        ((with_reducible refine (HL.out _).mono ?_); rintro e w2 ⟨rfl, h2⟩)
        go_wp2_with fail
        go_ret
        exact ⟨rfl, h2⟩
      · have d1 : decide (40 < a1) = false := decide_eq_false c1
        by_cases c2 : a1 < 4 ∨ 100000 < a1 ∨ a2 < 1 ∨ 7 < a2
        · have N1 := Lib.hid fun U => new_no a0 a1 a2 U (.inr c2)
          clear c1 c2
          go_enter Tryd.func4, Tryd.ntmps4
          go_wp2_with fail
          ((with_reducible refine (N1.out _).mono ?_); rintro e w1 ⟨rfl, rfl⟩)
          go_wp2_with fail
          ((with_reducible refine (HL.out _).mono ?_); rintro e w2 ⟨rfl, h2⟩)
          go_wp2_with fail
          go_ret
          exact ⟨rfl, h2⟩
        · have N1 := Lib.hid fun U => new_ok a0 a1 a2 U N0.out (by omega) (by omega) (by omega) (by omega)
          have e1 : 4 ≤ a1 := by omega
          have e2 : a1 ≤ 40 := by omega
          have r1 : 1 ≤ a2 := by omega
          have r2 : a2 ≤ 7 := by omega
          have t1 : 1 ≤ Int.tdiv a1 4 := by rw [Int.tdiv_eq_ediv_of_nonneg (by omega)]; omega
          have t2 : Int.tdiv a1 4 ≤ 10 := by rw [Int.tdiv_eq_ediv_of_nonneg (by omega)]; omega
          clear c1 c2 N0
          go_enter Tryd.func4, Tryd.ntmps4
          go_wp2_with fail
          ((with_reducible refine (N1.out _).mono ?_); rintro e w1 ⟨q, rfl, hq, h1, b1⟩)
          have HQ := Lib.hid hq
          have H1 := Lib.hid h1
          have B1 := Lib.hid b1
          clear hq h1 b1 N1
          go_wp2_with fail
          go_loopw [9, 10, 11] (fun vx vn vk wr => ∃ K NX AK : Int, 0 ≤ K ∧ K ≤ 200 ∧ vk = .int .i64 K ∧ vx = .int .i64 NX ∧ vn = .int .i64 AK ∧ K ≤ NX ∧ NX ≤ 100000 ∧ 0 ≤ AK ∧ AK ≤ K ∧ Hid (HasQ wr q a0 a1 a2 0 NX AK) ∧ Hid (Below w.heap.size w wr)) (fun _ _ vk _ => (200 - intOf vk).toNat)
          case atStart => exact ⟨0, 0, 0, by omega, by omega, rfl, rfl, rfl, by omega, by omega, by omega, by omega, H1, B1⟩
          case round =>
            clear H1 B1
            obtain ⟨K, NX, AK, hK, hK2, rfl, rfl, rfl, hn1, hn2, hk1, hk2, HH, KB⟩ := hrel
            by_cases hlt : K < 200
            · have d2 : decide (K < 200) = true := decide_eq_true hlt
              have HOK := Lib.hid (okT_t hK (by omega))
              by_cases hnx : NX = K
              · subst hnx
                have C1 := Lib.hid (tick_yes HH.out NX HOK.out (HSB.out NX hK) (Int.le_refl _) e1 (by omega) hk1 (by omega))
                obtain ⟨r, hr0⟩ : ∃ r, r = (if AK + 1 < a2 then NX + Int.tdiv a1 4 else NX + a1) := ⟨_, rfl⟩
                rw [← hr0] at C1
                have HR := Lib.hid hr0
                clear hr0
                go_wp2_with fail
                ((with_reducible refine C1.out.mono ?_); rintro e w3 ⟨rfl, h3, k3⟩)
                have H3 := Lib.hid h3
                have KB3 := Lib.hid (Tw.bel KB.out HQ.out k3)
                clear h3 k3 C1 KB HH
                by_cases hr : AK + 1 < a2
                · have d4 : decide (AK + 1 < a2) = true := decide_eq_true hr
                  have HR2 := Lib.hid (HR.out.trans (if_pos hr))
                  clear hr HR
                  go_wp2_with fail
                  go_roundw
                  case rel => exact ⟨NX + 1, r, AK + 1, by omega, by omega, rfl, by rw [HR2.out], rfl, by rw [HR2.out]; omega, by rw [HR2.out]; omega, by omega, by omega, H3, KB3⟩
                  case measure => simp [intOf]; omega
                · have d4 : decide (AK + 1 < a2) = false := decide_eq_false hr
                  have HR2 := Lib.hid (HR.out.trans (if_neg hr))
                  clear hr HR
                  go_wp2_with fail
                  go_roundw
                  case rel => exact ⟨NX + 1, r, AK + 1, by omega, by omega, rfl, by rw [HR2.out], rfl, by rw [HR2.out]; omega, by rw [HR2.out]; omega, by omega, by omega, H3, KB3⟩
                  case measure => simp [intOf]; omega
              · have C1 := Lib.hid (tick_wait HH.out K HOK.out (HSB.out K hK) (by omega))
                obtain ⟨g1, g2⟩ := ne_t (show K ≠ NX from fun e => hnx e.symm)
                go_wp2_with fail
                ((with_reducible refine C1.out.mono ?_); rintro e w3 ⟨rfl, rfl⟩)
                go_wp2_with fail
                go_roundw
                case rel => exact ⟨K + 1, NX, AK, by omega, by omega, rfl, rfl, rfl, by omega, by omega, by omega, by omega, HH, KB⟩
                case measure => simp [intOf]; omega
            · have d2 : decide (K < 200) = false := decide_eq_false hlt
              clear hlt
              go_wp2_with fail
              ((with_reducible refine (HL.out _).mono ?_); rintro e w5 ⟨rfl, h5⟩)
              go_wp2_with fail
              go_ret
              exact ⟨rfl, KB.out.trans (h5.mono KB.out.size)⟩

theorem own : ownKnob Tryd.prog.godebug = none := by kernel_rfl
theorem laidOut : laidOutB Tryd.prog = true := by kernel_rfl

set_option maxHeartbeats 1000000 in
set_option maxRecDepth 100000 in
theorem lifted (os : Os) (started : os.Started) (H : Type) (enc : TypeId × Value → H) :
    ReturnsInHanded {} Tryd.checked os 4 .any (fun w args => (Rows.querierAloneSpec.pre enc Tryd.prog Tryd.f4 Rows.querierAloneRow.domain false w args ∧ laidMetH Tryd.prog Rows.querierAloneRow.laid w) ∧ sizedMet enc Tryd.prog Tryd.f4 (OpenSpec.ofChange Rows.querierAloneSpec) false w args) (Rows.querierAloneSpec.post enc Tryd.prog Tryd.f4 false true false false) := by
  refine returnsInHanded_of_change_and (C := Tryd.checked) (X := fun w _ => laidMetH Tryd.prog Rows.querierAloneRow.laid w) (fun _ _ _ hh h => h.of_heap hh) own started (by kernel_rfl) Tryd.func4
    (ChangeSpec.witness_shaped (enc := enc) (C := Tryd.checked) (os := os) (X := fun w _ => laidMetH Tryd.prog Rows.querierAloneRow.laid w) false (World.laidAll Tryd.prog os Rows.querierAloneRow.laid) #[.string ByteArray.empty, .int .i64 0, .int .i64 0] 8 (World.laidAll_os _ _ _)
      (World.shaped_of_ZipB (by kernel_rfl) (by kernel_rfl)) (by kernel_rfl) (by kernel_rfl) (by kernel_rfl)
      (by rw [MakeChecks.laidMetH_plain _ _ _ (by kernel_rfl)]; exact laidMet_laidAll _ (by kernel_rfl) (by kernel_rfl))) ?_
  intro W base args ds gs before hval0 hW hcnd hsz0 hL hholds
  have hval : ∀ (j : Nat) t v, Tryd.f4.params[j]? = some t → args[j]? = some v → Value.okWide Tryd.prog W .any base t v := hval0
  have hsz : (DataW.weightsEach Tryd.prog (Tryd.f4.params.toList ++ Rows.querierAloneSpec.plain.varTypes Tryd.prog) (ds ++ gs)).all (· ≤ reachBytes) = true := hsz0
  have hW' := hW
  obtain ⟨p, q, hA0, hV, rfl, hfz, hnd⟩ := hW
  have hA : DataW.TrodAll enc Tryd.prog W 0 (fun _ => true) true Tryd.f4.params.toList args.toList ds p := hA0
  rw [Tryd.params4] at hA hval hsz
  obtain ⟨v0, vs0, d0, ds0, p0, q0, hargs, rfl, rfl, h0, r0⟩ := trodAll_cons hA
  obtain ⟨v1, vs1, d1, ds1, p1, q1, rfl, rfl, rfl, h1, r1⟩ := trodAll_cons r0
  obtain ⟨v2, vs2, d2, ds2, p2, q2, rfl, rfl, rfl, h2, r2⟩ := trodAll_cons r1
  obtain ⟨rfl, rfl, rfl⟩ := trodAll_nil r2
  obtain rfl : args = #[v0, v1, v2] := by cases args; simp_all
  obtain ⟨rfl, rfl⟩ := trodVars_none hV
  have k0 := h0
  have lt0 : ∀ x ∈ p0, x.block < W.heap.size := by obtain ⟨m, hm⟩ := k0; exact DataW.trod_lt m _ _ _ hm
  have k1 := h1
  have lt1 : ∀ x ∈ p1, x.block < W.heap.size := by obtain ⟨m, hm⟩ := k1; exact DataW.trod_lt m _ _ _ hm
  have k2 := h2
  have lt2 : ∀ x ∈ p2, x.block < W.heap.size := by obtain ⟨m, hm⟩ := k2; exact DataW.trod_lt m _ _ _ hm
  obtain ⟨a0, rfl, rfl, rfl, w0⟩ := open_string Tryd.underlying22 (hval 0 22 v0 rfl rfl) h0
  obtain ⟨a1, rfl, rfl, rfl, w1⟩ := open_int Tryd.underlying3 (hval 1 3 v1 rfl rfl) h1
  obtain ⟨a2, rfl, rfl, rfl, w2⟩ := open_int Tryd.underlying3 (hval 2 3 v2 rfl rfl) h2
  have za0 : a0.size ≤ 140737488351232 := by
    have h := sized_string hsz (j := 0) (t := 22) rfl rfl
    simpa [reachBytes] using h
  have ba1 := bounds_i64 w1
  have ba2 := bounds_i64 w2
  clear hA0 hval0
  refine (walk a0 a1 a2 W za0 ba1.1 ba1.2 ba2.1 ba2.2).mono fun e W' ⟨he, bel⟩ => ?_
  subst he
  exact ⟨_, rfl, _, _, _, [], _, [], hW', trodAll_mk1 (shut_bool Tryd.underlying4 _), (trodAll_cons_mk (Below.trod laidOut (by kernel_rfl) (of_decide_eq_true (by kernel_rfl)) k0 bel lt0) (trodAll_cons_mk (Below.trod laidOut (by kernel_rfl) (of_decide_eq_true (by kernel_rfl)) k1 bel lt1) (trodAll_cons_mk (Below.trod laidOut (by kernel_rfl) (of_decide_eq_true (by kernel_rfl)) k2 bel lt2) trodAll_mk0))), rfl, bel.frame _, fun h => by cases h⟩

theorem over : Rows.querierAloneRow.holds Tryd.pinned (OpenSpec.ofChange Rows.querierAloneSpec) :=
  OpenClaim.holds_of_wide 4 Tryd.f4 rfl rfl rfl rfl rfl rfl rfl ⟨rfl, rfl, rfl, rfl, rfl⟩ rfl rfl rfl rfl rfl (by kernel_rfl) Tryd.func4 (by kernel_rfl)
    (of_decide_eq_true (by kernel_rfl)) (by unfold Func.isWrapper; first | (rw [if_pos (by decide +kernel)]; kernel_rfl) | (rw [if_neg (by decide +kernel)]; exact ⟨rfl, rfl⟩))
    (fun os started H enc _ => lifted os started H enc)

/-- The statement: the tied card. -/
theorem proved : Rows.QuerierAloneCardSaid :=
  Claim7.holds_tied_plain_at .later [] [.data, .pinned] true _ false over (fun _ h => by cases h) (by kernel_rfl) (fun _ h => by cases h) querierAlone_row_tie rfl ⟨rfl, rfl⟩ (by kernel_rfl) rfl
    (fun f fn hf hfn => by
      obtain rfl : f = 4 := Option.some.inj ((show Tryd.prog.funcNamed "siphon/siphonlaw20.QuerierAlone" = some 4 by kernel_rfl).symm.trans hf) |>.symm
      obtain rfl : fn = Tryd.f4 := (Option.some.inj (Tryd.func4.symm.trans hfn)).symm
      exact ⟨by kernel_rfl, fun j t ht => by
        rw [Tryd.params4] at ht
        have hm : t ∈ [22, 3, 3] := by simpa using Array.mem_of_getElem? ht
        have hall : ([22, 3, 3].all fun u => !Tryd.prog.wantsStandIn u) = true := by kernel_rfl
        exact (show Tryd.prog.wantsStandIn t = false by simpa using List.all_eq_true.1 hall t hm)⟩)
    (by kernel_rfl)
#print axioms proved
end Go.Proofs.YtlpcndmblnpjmaaDoor.querierAloneLaw
