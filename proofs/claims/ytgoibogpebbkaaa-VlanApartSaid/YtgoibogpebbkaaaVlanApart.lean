/-
  'siphonlaw12.VlanApart' returns true, whatever the input, and each argument reads behind the call as it read before. Conditions: none beyond those that the row itself states.
-/
import Derived.Test.YtgoibogpebbkaaaRows
import Derived.Test.YtgoibogpebbkaaaVlK
import Derived.Test.YtgoibogpebbkaaaVlL
import Derived.Test.YtgoibogpebbkaaaVlM
import Derived.Test.YtgoibogpebbkaaaTrodI
import Derived.WalkKit
import Derived.ProofKit
import Derived.OpenShut
import Derived.ShutString
import Derived.ChangeOld
import Derived.Below
import Derived.Carry
import Derived.SizedLaws
import Derived.Lib.SmallJoins
import Derived.ChangeArms
import Derived.WideShapes
namespace Go.Proofs.Ytgoibogpebbkaaa.vlanApartLaw
open Go.ChangeShapes Go.WideShapes Go.ChangeAt Go.RowKit Go.Joins
open Go.ChangeMaps (open_string shut_string)
set_option linter.unusedVariables false

theorem list7 {α : Type} (l : List α) (h : l.length = 7) : ∃ x0 x1 x2 x3 x4 x5 x6 : α, l = [x0, x1, x2, x3, x4, x5, x6] := by
  match l, h with
  | [x0, x1, x2, x3, x4, x5, x6], _ => exact ⟨x0, x1, x2, x3, x4, x5, x6, rfl⟩

set_option maxHeartbeats 4000000 in
set_option maxRecDepth 100000 in
theorem walk (a0 : Value) (la0 : List Pt) (a1 : Int) (a2_0 : ByteArray) (a2_1 : ByteArray) (a2_2 : Bool) (a2_3 : Int) (a2_4 : Int) (a2_5 : Int) (a2_6 : ByteArray) (w : World) (ha0 : PtsAt w a0 la0) (qa0 : la0.length ≤ maxLen) (sa0 : ∀ r ∈ la0, PtW r) (la1 : -9223372036854775808 ≤ a1) (ua1 : a1 ≤ 9223372036854775807) (za2_0 : a2_0.size ≤ 140737488351232) (za2_1 : a2_1.size ≤ 140737488351232) (la2_3 : -9223372036854775808 ≤ a2_3) (ua2_3 : a2_3 ≤ 9223372036854775807) (la2_4 : -9223372036854775808 ≤ a2_4) (ua2_4 : a2_4 ≤ 9223372036854775807) (la2_5 : -9223372036854775808 ≤ a2_5) (ua2_5 : a2_5 ≤ 9223372036854775807) (za2_6 : a2_6.size ≤ 140737488351232) :
    Calls Try.prog 7 #[a0, .int .i64 a1, .agg #[.string a2_0, .string a2_1, .bool a2_2, .int .i64 a2_3, .int .i64 a2_4, .int .i64 a2_5, .string a2_6]] w fun e w' => e = .returned (.bool true) ∧ Below w.heap.size w w' := by
  unfold maxLen at qa0
  obtain ⟨p, cp, rfl⟩ := ha0.slice
  have HL := Lib.hid fun U => live12_c U
  have HF := Lib.hid fun U (h : PtsAt U (.slice p la0.length cp) la0) => fewv_c _ la0 U (by omega) h
  have HA := Lib.hid ha0
  have B0 := Lib.hid (IBox.start w #[.string a2_0, .string a2_1, .bool a2_2, .int .i64 a2_3, .int .i64 a2_4, .int .i64 a2_5, .string a2_6] 33)
  have A0 := Lib.hid fun (U : World) o => (Below.refl U.heap.size U).alloc (Nat.le_refl _) o
  replace HA := Lib.hid (HA.out.below B0.out.2)
  rcases hfw : fewV la0 with _ | _
  · rw [hfw] at HF
    clear ha0 qa0 sa0
    go_enter Try.func7, Try.ntmps7
    go_wp2_with fail
    ((with_reducible refine (HF.out _ HA.out).mono ?_); rintro e w1 ⟨rfl, rfl⟩)
    go_wp2_with fail
    ((with_reducible refine (HL.out _).mono ?_); rintro e w5 ⟨rfl, h5⟩)
    go_wp2_with fail
    go_ret
    exact ⟨rfl, (B0.out.below h5).2⟩
  · rw [hfw] at HF
    obtain ⟨hlen, hpl⟩ := few_len la0 hfw
    have H1 := Lib.hid fun U (h : PtsAt U (.slice p la0.length cp) la0) => in_c p cp la0 a1 ⟨a2_0, a2_1, a2_2, a2_3, a2_4, a2_5, a2_6⟩ U (by omega) hpl za2_6 h
    unfold FrPost at H1
    have H2 := Lib.hid fun (k : Int) (g : Fr) (hg : g.x.size ≤ 140737488351232) U (h : PtsAt U (.slice p la0.length cp) la0) => out_c p cp la0 k g U (by omega) hpl hg h
    have H3 := Lib.hid fun (v : Int) U (h : PtsAt U (.slice p la0.length cp) la0) => members_c _ la0 v U (by omega) hpl h
    unfold FrPost at H2
    unfold MemPost at H3
    rcases in_facts la0 a1 ⟨a2_0, a2_1, a2_2, a2_3, a2_4, a2_5, a2_6⟩ with ⟨n, hn, hi⟩ | ⟨N, v, hN, rfl, hc, hv, hm, hi, ho⟩
    · rw [hi] at H1
      simp only [Fr.val, Fr.zero] at H1
      obtain ⟨q1, q2⟩ := vint hn
      clear ha0 qa0 sa0 hpl hlen hfw hi hn H2 H3
      go_enter Try.func7, Try.ntmps7
      go_wp2_with fail
      ((with_reducible refine (HF.out _ HA.out).mono ?_); rintro e w1 ⟨rfl, rfl⟩)
      go_wp2_with fail
      ((with_reducible refine (H1.out _ HA.out).mono ?_); rintro e w1 ⟨rfl, h1⟩)
      replace HA := Lib.hid (HA.out.below h1)
      replace B0 := Lib.hid (B0.out.below h1)
      clear h1
      go_wp2_with fail
      ((with_reducible refine (HL.out _).mono ?_); rintro e w9 ⟨rfl, h9⟩)
      go_wp2_with fail
      go_ret
      exact ⟨rfl, ((B0.out.below (A0.out _ _)).below h9).2⟩
    · rw [hi] at H1
      simp only [Fr.val] at H1
      simp only at ho
      have H3' := Lib.hid (H3.out v)
      have H2' := Lib.hid fun k => H2.out k ⟨a2_0, a2_1, true, v, a2_4, a2_5, a2_6⟩ za2_6
      simp only [Fr.val] at H2'
      have HM := Lib.hid fun k => has_memb la0 v k
      have HN := Lib.hid (show hasB (membI la0 v) (N : Int) = true by rw [has_memb, ptAt_nat la0 N hN, hm, decide_eq_true (by omega), decide_eq_true (by omega)]; rfl)
      have HO := Lib.hid fun k (hk : k < la0.length) => out_facts la0 k hk ⟨a2_0, a2_1, true, v, a2_4, a2_5, a2_6⟩ hc ho hv
      have hml : (membI la0 v).length ≤ la0.length := membGo_length v la0 0
      have H5 := Lib.hid fun u k U h => rhas_c u (membI la0 v) k U (by omega) h
      have HPT := Lib.hid fun k (hk : k < la0.length) => ptAt_nat la0 k hk
      generalize membI la0 v = ml at H3' HM HN H5 hml
      have hlen' : (la0.length : Int) ≤ 20 := by omega
      clear qa0 sa0 hpl hfw hi hm ho hc hN H2 H3 ha0 hml
      go_enter Try.func7, Try.ntmps7
      go_wp2_with fail
      ((with_reducible refine (HF.out _ HA.out).mono ?_); rintro e w1 ⟨rfl, rfl⟩)
      go_wp2_with fail
      ((with_reducible refine (H1.out _ HA.out).mono ?_); rintro e w1 ⟨rfl, h1⟩)
      replace HA := Lib.hid (HA.out.below h1)
      replace B0 := Lib.hid (B0.out.below h1)
      clear h1
      have x0 := B0.out.lt
      clear x0
      go_wp2_with fail
      refine (H3'.out _ (HA.out.below (A0.out _ _))).mono ?_
      rintro e w2 ⟨m1, rfl, i1, h2⟩
      have I1 := Lib.hid i1
      obtain ⟨pm, cm, rfl⟩ := i1.slice
      replace HA := Lib.hid ((HA.out.below (A0.out _ _)).below h2)
      have BA := Lib.hid ((IBox.start w1 #[.string a2_0, .string a2_1, .bool true, .int .i64 v, .int .i64 a2_4, .int .i64 a2_5, .string a2_6] 33).below h2)
      replace B0 := Lib.hid (B0.out.below BA.out.2)
      clear h2 i1
      go_wp2_with fail
      go_loopw [10, 11, 12, 13] (fun i _ _ _ wr => ∃ k : Nat, k ≤ la0.length ∧ i = .int .i64 k ∧ Hid (Below w2.heap.size w2 wr)) (fun i _ _ _ _ => la0.length - (intOf i).toNat)
      case atStart => exact ⟨0, Nat.zero_le _, rfl, Lib.hid (Below.refl _ _)⟩
      case round =>
        obtain ⟨k, hk, rfl, hb⟩ := hrel
        have BA2 := Lib.hid (BA.out.below hb.out)
        by_cases hlt : k < la0.length
        · have HA2 := Lib.hid (HA.out.below hb.out)
          have I2 := Lib.hid (I1.out.below hb.out)
          have x0 := BA2.out.cell 0 rfl
          have x1 := BA2.out.cell 1 rfl
          have x2 := BA2.out.cell 2 rfl
          have x3 := BA2.out.cell 3 rfl
          have x4 := BA2.out.cell 4 rfl
          have x5 := BA2.out.cell 5 rfl
          have x6 := BA2.out.cell 6 rfl
          have xz := BA2.out.lt
          have hlt' : (k : Int) < (la0.length : Int) := by omega
          have H2k := Lib.hid (H2'.out (k : Int))
          have H5k := Lib.hid fun U h => H5.out (.slice pm ml.length cm) (k : Int) U h
          have hasK := HM.out (k : Int)
          rw [HPT.out k hlt, decide_eq_true (by omega), decide_eq_true hlt'] at hasK
          rcases HO.out k hlt with ⟨m1, m2⟩ | ⟨m1, m2 | ⟨-, m2⟩ | ⟨m3, m2⟩⟩
          · try simp only at m1
            rw [m1] at hasK
            try simp only [Bool.and_true, Bool.and_false] at hasK
            rw [m2] at H2k
            rw [hasK] at H5k
            try simp only [Fr.zero] at H2k
            clear m1 m2 hasK
            go_wp2_with fail
            refine (H2k.out _ HA2.out).mono ?_
            rintro e w3 ⟨rfl, h3⟩
            have HB3 := Lib.hid ((hb.out.trans (h3.mono hb.out.size)).trans ((A0.out w3 (.cells #[.string ⟨#[]⟩, .string ⟨#[]⟩, .bool false, .int .i64 0, .int .i64 0, .int .i64 0, .string ⟨#[]⟩] 33)).mono (hb.out.trans (h3.mono hb.out.size)).size))
            replace BA2 := Lib.hid ((BA2.out.below h3).below (A0.out w3 (.cells #[.string ⟨#[]⟩, .string ⟨#[]⟩, .bool false, .int .i64 0, .int .i64 0, .int .i64 0, .string ⟨#[]⟩] 33)))
            have I3 := I1.out.below HB3.out
            clear h3 x0 x1 x2 x3 x4 x5 x6 xz
            go_wp2_with fail
            ((with_reducible refine (H5k.out _ I3).mono ?_); rintro e w4 ⟨rfl, rfl⟩)
            have x0 := BA2.out.cell 0 rfl
            have x1 := BA2.out.cell 1 rfl
            have x2 := BA2.out.cell 2 rfl
            have x3 := BA2.out.cell 3 rfl
            have x4 := BA2.out.cell 4 rfl
            have x5 := BA2.out.cell 5 rfl
            have x6 := BA2.out.cell 6 rfl
            have xz := BA2.out.lt
            go_wp2_with fail
            go_roundw
            case rel => exact ⟨k + 1, by omega, by go_num, HB3⟩
            case measure => simp [intOf]; omega
          · try simp only at m1
            rw [m1] at hasK
            try simp only [Bool.and_true] at hasK
            rw [m2] at H2k
            rw [hasK] at H5k
            try simp only at H2k
            clear m1 m2 hasK
            go_wp2_with fail
            refine (H2k.out _ HA2.out).mono ?_
            rintro e w3 ⟨rfl, h3⟩
            have HB3 := Lib.hid ((hb.out.trans (h3.mono hb.out.size)).trans ((A0.out w3 (.cells #[.string a2_0, .string a2_1, .bool true, .int .i64 v, .int .i64 a2_4, .int .i64 a2_5, .string a2_6] 33)).mono (hb.out.trans (h3.mono hb.out.size)).size))
            replace BA2 := Lib.hid ((BA2.out.below h3).below (A0.out w3 (.cells #[.string a2_0, .string a2_1, .bool true, .int .i64 v, .int .i64 a2_4, .int .i64 a2_5, .string a2_6] 33)))
            have I3 := I1.out.below HB3.out
            clear h3 x0 x1 x2 x3 x4 x5 x6 xz
            go_wp2_with fail
            ((with_reducible refine (H5k.out _ I3).mono ?_); rintro e w4 ⟨rfl, rfl⟩)
            have x0 := BA2.out.cell 0 rfl
            have x1 := BA2.out.cell 1 rfl
            have x2 := BA2.out.cell 2 rfl
            have x3 := BA2.out.cell 3 rfl
            have x4 := BA2.out.cell 4 rfl
            have x5 := BA2.out.cell 5 rfl
            have x6 := BA2.out.cell 6 rfl
            have xz := BA2.out.lt
            go_wp2_with fail
            go_roundw
            case rel => exact ⟨k + 1, by omega, by go_num, HB3⟩
            case measure => simp [intOf]; omega
          · try simp only at m1
            rw [m1] at hasK
            try simp only [Bool.and_true] at hasK
            rw [m2] at H2k
            rw [hasK] at H5k
            try simp only at H2k
            clear m1 m2 hasK
            go_wp2_with fail
            refine (H2k.out _ HA2.out).mono ?_
            rintro e w3 ⟨rfl, h3⟩
            have HB3 := Lib.hid ((hb.out.trans (h3.mono hb.out.size)).trans ((A0.out w3 (.cells #[.string a2_0, .string a2_1, .bool false, .int .i64 0, .int .i64 0, .int .i64 a2_5, .string a2_6] 33)).mono (hb.out.trans (h3.mono hb.out.size)).size))
            replace BA2 := Lib.hid ((BA2.out.below h3).below (A0.out w3 (.cells #[.string a2_0, .string a2_1, .bool false, .int .i64 0, .int .i64 0, .int .i64 a2_5, .string a2_6] 33)))
            have I3 := I1.out.below HB3.out
            clear h3 x0 x1 x2 x3 x4 x5 x6 xz
            go_wp2_with fail
            ((with_reducible refine (H5k.out _ I3).mono ?_); rintro e w4 ⟨rfl, rfl⟩)
            have x0 := BA2.out.cell 0 rfl
            have x1 := BA2.out.cell 1 rfl
            have x2 := BA2.out.cell 2 rfl
            have x3 := BA2.out.cell 3 rfl
            have x4 := BA2.out.cell 4 rfl
            have x5 := BA2.out.cell 5 rfl
            have x6 := BA2.out.cell 6 rfl
            have xz := BA2.out.lt
            go_wp2_with fail
            go_roundw
            case rel => exact ⟨k + 1, by omega, by go_num, HB3⟩
            case measure => simp [intOf]; omega
          · try simp only at m1
            rw [m1] at hasK
            try simp only [Bool.and_true] at hasK
            rw [m2] at H2k
            rw [hasK] at H5k
            try simp only [Fr.zero] at H2k
            try simp only at m3
            obtain ⟨q1, q2⟩ := viet m3
            clear m1 m2 m3 hasK
            go_wp2_with fail
            refine (H2k.out _ HA2.out).mono ?_
            rintro e w3 ⟨rfl, h3⟩
            have HB3 := Lib.hid ((hb.out.trans (h3.mono hb.out.size)).trans ((A0.out w3 (.cells #[.string ⟨#[]⟩, .string ⟨#[]⟩, .bool false, .int .i64 0, .int .i64 0, .int .i64 0, .string ⟨#[]⟩] 33)).mono (hb.out.trans (h3.mono hb.out.size)).size))
            replace BA2 := Lib.hid ((BA2.out.below h3).below (A0.out w3 (.cells #[.string ⟨#[]⟩, .string ⟨#[]⟩, .bool false, .int .i64 0, .int .i64 0, .int .i64 0, .string ⟨#[]⟩] 33)))
            have I3 := I1.out.below HB3.out
            clear h3 x0 x1 x2 x3 x4 x5 x6 xz
            go_wp2_with fail
            ((with_reducible refine (H5k.out _ I3).mono ?_); rintro e w4 ⟨rfl, rfl⟩)
            have x0 := BA2.out.cell 0 rfl
            have x1 := BA2.out.cell 1 rfl
            have x2 := BA2.out.cell 2 rfl
            have x3 := BA2.out.cell 3 rfl
            have x4 := BA2.out.cell 4 rfl
            have x5 := BA2.out.cell 5 rfl
            have x6 := BA2.out.cell 6 rfl
            have xz := BA2.out.lt
            go_wp2_with fail
            go_roundw
            case rel => exact ⟨k + 1, by omega, by go_num, HB3⟩
            case measure => simp [intOf]; omega
        · obtain rfl : k = la0.length := by omega
          have I2 := I1.out.below hb.out
          have H5k := Lib.hid (H5.out (.slice pm ml.length cm) (N : Int) wr I2)
          rw [HN.out] at H5k
          replace B0 := Lib.hid (B0.out.below hb.out)
          clear hlt I2
          go_wp2_with fail
          ((with_reducible refine H5k.out.mono ?_); rintro e w4 ⟨rfl, rfl⟩)
          go_wp2_with fail
          ((with_reducible refine (HL.out _).mono ?_); rintro e w9 ⟨rfl, h9⟩)
          go_wp2_with fail
          go_ret
          exact ⟨rfl, (B0.out.below h9).2⟩

theorem own : ownKnob Try.prog.godebug = none := by kernel_rfl
theorem laidOut : laidOutB Try.prog = true := by kernel_rfl

set_option maxHeartbeats 1000000 in
set_option maxRecDepth 100000 in
theorem lifted (os : Os) (started : os.Started) (H : Type) (enc : TypeId × Value → H) :
    ReturnsInHanded {} Try.checked os 7 .any (Rows.vlanApartSpec.pre6 enc Try.prog Try.f7 Rows.vlanApartRow.domain false) (Rows.vlanApartSpec.post enc Try.prog Try.f7 false true false false) := by
  refine returnsInHanded_of_change_sized (C := Try.checked) own started (by kernel_rfl) Try.func7
    (ChangeSpec.witness6 (enc := enc) (C := Try.checked) false ⟨#[], #[.slice none 0 0, .int .i64 0, .agg #[.string ByteArray.empty, .string ByteArray.empty, .bool false, .int .i64 0, .int .i64 0, .int .i64 0, .string ByteArray.empty]], []⟩ 8 (by kernel_rfl) (by kernel_rfl) (by kernel_rfl) (by kernel_rfl)) ?_
  intro W base args ds gs before hval0 hW hcnd hsz0 hholds
  have hval : ∀ (j : Nat) t v, Try.f7.params[j]? = some t → args[j]? = some v → Value.okWide Try.prog W .any base t v := hval0
  have hsz : (DataW.weightsEach Try.prog (Try.f7.params.toList ++ Rows.vlanApartSpec.plain.varTypes Try.prog) (ds ++ gs)).all (· ≤ reachBytes) = true := hsz0
  have hW' := hW
  obtain ⟨p, q, hA0, hV, rfl, hfz, hnd⟩ := hW
  have hA : DataW.TrodAll enc Try.prog W 0 (fun _ => true) true Try.f7.params.toList args.toList ds p := hA0
  rw [Try.params7] at hA hval hsz
  obtain ⟨v0, vs0, d0, ds0, p0, q0, hargs, rfl, rfl, h0, r0⟩ := trodAll_cons hA
  obtain ⟨v1, vs1, d1, ds1, p1, q1, rfl, rfl, rfl, h1, r1⟩ := trodAll_cons r0
  obtain ⟨v2, vs2, d2, ds2, p2, q2, rfl, rfl, rfl, h2, r2⟩ := trodAll_cons r1
  obtain ⟨rfl, rfl, rfl⟩ := trodAll_nil r2
  obtain rfl : args = #[v0, v1, v2] := by cases args; simp_all
  obtain ⟨rfl, rfl⟩ := trodVars_none hV
  have k0 := h0
  have lt0 : ∀ x ∈ p0, x.block < W.heap.size := by obtain ⟨m, hm⟩ := k0; exact DataW.trod_lt m _ _ _ hm
  have k1 := h1
  have lt1 : ∀ x ∈ p1, x.block < W.heap.size := by obtain ⟨m, hm⟩ := k1; exact DataW.trod_lt m _ _ _ hm
  have k2 := h2
  have lt2 : ∀ x ∈ p2, x.block < W.heap.size := by obtain ⟨m, hm⟩ := k2; exact DataW.trod_lt m _ _ _ hm
  obtain ⟨sa0, sl0, sc0, rfl⟩ := okWide_slice Try.underlying22 (hval 0 22 v0 rfl rfl)
  obtain ⟨fu0, hf0⟩ := h0
  obtain ⟨vv0, L0, e0, hh0, qq0, ss0⟩ := pts_open hf0
  simp [Value.cells] at e0
  subst e0
  obtain ⟨a1, rfl, rfl, rfl, w1⟩ := open_int Try.underlying3 (hval 1 3 v1 rfl rfl) h1
  obtain ⟨cs2, rfl, hz2⟩ := okWide_struct Try.underlying33 (hval 2 33 v2 rfl rfl)
  obtain ⟨l2⟩ := cs2
  obtain ⟨c2_0, c2_1, c2_2, c2_3, c2_4, c2_5, c2_6, rfl⟩ := list7 l2 (hz2.trans (by kernel_rfl))
  obtain ⟨fu2, hf2⟩ := h2
  obtain ⟨xs2, m2, -, hx2, -, hn2, hg2⟩ := DataW.trod_struct Try.underlying33 hf2
  obtain ⟨y2_0, y2_1, y2_2, y2_3, y2_4, y2_5, y2_6, rfl⟩ := list7 xs2 hn2
  simp only [Prod.mk.injEq] at hx2
  obtain ⟨rfl, rfl⟩ := hx2
  have g2_0 : DataW.trod enc Try.prog W 0 (fun _ => true) true m2 31 (List.take (Try.prog.cellsOf 31) (List.drop 0 [c2_0, c2_1, c2_2, c2_3, c2_4, c2_5, c2_6])) = some y2_0 := hg2 0 _ rfl
  rw [show Try.prog.cellsOf 31 = 1 from by kernel_rfl] at g2_0
  replace g2_0 : DataW.trod enc Try.prog W 0 (fun _ => true) true m2 31 [c2_0] = some y2_0 := g2_0
  have g2_1 : DataW.trod enc Try.prog W 0 (fun _ => true) true m2 31 (List.take (Try.prog.cellsOf 31) (List.drop 1 [c2_0, c2_1, c2_2, c2_3, c2_4, c2_5, c2_6])) = some y2_1 := hg2 1 _ rfl
  rw [show Try.prog.cellsOf 31 = 1 from by kernel_rfl] at g2_1
  replace g2_1 : DataW.trod enc Try.prog W 0 (fun _ => true) true m2 31 [c2_1] = some y2_1 := g2_1
  have g2_2 : DataW.trod enc Try.prog W 0 (fun _ => true) true m2 4 (List.take (Try.prog.cellsOf 4) (List.drop 2 [c2_0, c2_1, c2_2, c2_3, c2_4, c2_5, c2_6])) = some y2_2 := hg2 2 _ rfl
  rw [show Try.prog.cellsOf 4 = 1 from by kernel_rfl] at g2_2
  replace g2_2 : DataW.trod enc Try.prog W 0 (fun _ => true) true m2 4 [c2_2] = some y2_2 := g2_2
  have g2_3 : DataW.trod enc Try.prog W 0 (fun _ => true) true m2 3 (List.take (Try.prog.cellsOf 3) (List.drop 3 [c2_0, c2_1, c2_2, c2_3, c2_4, c2_5, c2_6])) = some y2_3 := hg2 3 _ rfl
  rw [show Try.prog.cellsOf 3 = 1 from by kernel_rfl] at g2_3
  replace g2_3 : DataW.trod enc Try.prog W 0 (fun _ => true) true m2 3 [c2_3] = some y2_3 := g2_3
  have g2_4 : DataW.trod enc Try.prog W 0 (fun _ => true) true m2 3 (List.take (Try.prog.cellsOf 3) (List.drop 4 [c2_0, c2_1, c2_2, c2_3, c2_4, c2_5, c2_6])) = some y2_4 := hg2 4 _ rfl
  rw [show Try.prog.cellsOf 3 = 1 from by kernel_rfl] at g2_4
  replace g2_4 : DataW.trod enc Try.prog W 0 (fun _ => true) true m2 3 [c2_4] = some y2_4 := g2_4
  have g2_5 : DataW.trod enc Try.prog W 0 (fun _ => true) true m2 3 (List.take (Try.prog.cellsOf 3) (List.drop 5 [c2_0, c2_1, c2_2, c2_3, c2_4, c2_5, c2_6])) = some y2_5 := hg2 5 _ rfl
  rw [show Try.prog.cellsOf 3 = 1 from by kernel_rfl] at g2_5
  replace g2_5 : DataW.trod enc Try.prog W 0 (fun _ => true) true m2 3 [c2_5] = some y2_5 := g2_5
  have g2_6 : DataW.trod enc Try.prog W 0 (fun _ => true) true m2 9 (List.take (Try.prog.cellsOf 9) (List.drop 6 [c2_0, c2_1, c2_2, c2_3, c2_4, c2_5, c2_6])) = some y2_6 := hg2 6 _ rfl
  rw [show Try.prog.cellsOf 9 = 1 from by kernel_rfl] at g2_6
  replace g2_6 : DataW.trod enc Try.prog W 0 (fun _ => true) true m2 9 [c2_6] = some y2_6 := g2_6
  clear hg2
  obtain ⟨a2_0, e2_0, rfl, w2_0⟩ := DataW.trod_string Try.underlying31 g2_0
  simp at e2_0
  subst e2_0
  obtain ⟨a2_1, e2_1, rfl, w2_1⟩ := DataW.trod_string Try.underlying31 g2_1
  simp at e2_1
  subst e2_1
  obtain ⟨a2_2, e2_2, rfl⟩ := DataW.trod_bool Try.underlying4 g2_2
  simp at e2_2
  subst e2_2
  obtain ⟨a2_3, e2_3, rfl, w2_3⟩ := DataW.trod_int Try.underlying3 g2_3
  simp at e2_3
  subst e2_3
  obtain ⟨a2_4, e2_4, rfl, w2_4⟩ := DataW.trod_int Try.underlying3 g2_4
  simp at e2_4
  subst e2_4
  obtain ⟨a2_5, e2_5, rfl, w2_5⟩ := DataW.trod_int Try.underlying3 g2_5
  simp at e2_5
  subst e2_5
  obtain ⟨a2_6, e2_6, rfl, w2_6⟩ := DataW.trod_string Try.underlying9 g2_6
  simp at e2_6
  subst e2_6
  have ba1 := bounds_i64 w1
  have za2_0 : a2_0.size ≤ 140737488351232 := by
    have h := List.all_eq_true.1 hsz _ (DataW.weights_mem_each (j := 2) (t := 33) rfl rfl a2_0.data.toList.length (by simp [DataW.weights, DataW.weightsEach, Try.underlying33]))
    simpa [reachBytes] using of_decide_eq_true h
  have za2_1 : a2_1.size ≤ 140737488351232 := by
    have h := List.all_eq_true.1 hsz _ (DataW.weights_mem_each (j := 2) (t := 33) rfl rfl a2_1.data.toList.length (by simp [DataW.weights, DataW.weightsEach, Try.underlying33]))
    simpa [reachBytes] using of_decide_eq_true h
  have ba2_3 := bounds_i64 w2_3
  have ba2_4 := bounds_i64 w2_4
  have ba2_5 := bounds_i64 w2_5
  have za2_6 : a2_6.size ≤ 140737488351232 := by
    have h := List.all_eq_true.1 hsz _ (DataW.weights_mem_each (j := 2) (t := 33) rfl rfl a2_6.data.toList.length (by simp [DataW.weights, DataW.weightsEach, Try.underlying33]))
    simpa [reachBytes] using of_decide_eq_true h
  clear hA0 hval0
  refine (walk (.slice sa0 sl0 sc0) L0 a1 a2_0 a2_1 a2_2 a2_3 a2_4 a2_5 a2_6 W hh0 qq0 ss0 ba1.1 ba1.2 za2_0 za2_1 ba2_3.1 ba2_3.2 ba2_4.1 ba2_4.2 ba2_5.1 ba2_5.2 za2_6).mono fun e W' ⟨he, bel⟩ => ?_
  subst he
  exact ⟨_, rfl, _, _, _, [], _, [], hW', trodAll_mk1 (shut_bool Try.underlying4 _), (trodAll_cons_mk (Below.trod laidOut (by kernel_rfl) (of_decide_eq_true (by kernel_rfl)) k0 bel lt0) (trodAll_cons_mk (Below.trod laidOut (by kernel_rfl) (of_decide_eq_true (by kernel_rfl)) k1 bel lt1) (trodAll_cons_mk (Below.trod laidOut (by kernel_rfl) (of_decide_eq_true (by kernel_rfl)) k2 bel lt2) trodAll_mk0))), rfl, bel.frame _, fun h => by cases h⟩

theorem over : Rows.vlanApartRow.holds Try.pinned (OpenSpec.ofChange Rows.vlanApartSpec) :=
  OpenClaim.holds_of_wide 7 Try.f7 rfl rfl rfl rfl rfl rfl rfl ⟨rfl, rfl, rfl, rfl, rfl⟩ rfl rfl rfl rfl rfl (by kernel_rfl) Try.func7 (by kernel_rfl)
    (of_decide_eq_true (by kernel_rfl)) (by unfold Func.isWrapper; first | (rw [if_pos (by decide +kernel)]; kernel_rfl) | (rw [if_neg (by decide +kernel)]; exact ⟨rfl, rfl⟩))
    (fun os started H enc _ => lifted os started H enc)

/-- The statement. -/
theorem proved : Rows.VlanApartSaid := over
#print axioms proved
end Go.Proofs.Ytgoibogpebbkaaa.vlanApartLaw
