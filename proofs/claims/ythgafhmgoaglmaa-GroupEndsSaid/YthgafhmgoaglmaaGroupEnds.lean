/-
  'siphonlaw17.GroupEnds' returns true, whatever the input, and each argument reads behind the call as it read before. Conditions: none beyond those that the row itself states.
-/
import Derived.Test.YthgafhmgoaglmaaRows
import Derived.Test.YthgafhmgoaglmaaGrR
import Derived.Test.YthgafhmgoaglmaaRowTmd
import Derived.WalkKit
import Derived.ProofKit
import Derived.OpenShut
import Derived.ShutString
import Derived.ChangeOld
import Derived.Below
import Derived.Carry
import Derived.SizedLaws
import Derived.Lib.SmallJoins
import Derived.ChangeArms
import Derived.WideShapes
namespace Go.Proofs.Ythgafhmgoaglmaa.groupEndsLaw
open Go.ChangeShapes Go.WideShapes Go.ChangeAt Go.RowKit Go.Joins
open Go.ChangeMaps (open_string shut_string)
set_option linter.unusedVariables false

theorem list3 {α : Type} (l : List α) (h : l.length = 3) : ∃ x0 x1 x2 : α, l = [x0, x1, x2] := by
  match l, h with
  | [x0, x1, x2], _ => exact ⟨x0, x1, x2, rfl⟩

def lastP (tm : Int) (l : List Tm) : Int := l.foldl (fun m x => max m x.2) tm
theorem last_take {tm : Int} {l : List Tm} {k : Nat} {x : Tm} (h : l[k]? = some x) : lastP tm (l.take (k + 1)) = max (lastP tm (l.take k)) x.2 := by
  rw [List.take_succ_eq_append_getElem (List.getElem?_eq_some_iff.1 h).1, (List.getElem?_eq_some_iff.1 h).2]
  simp [lastP]
theorem last_ge (l : List Tm) : ∀ tm, tm ≤ lastP tm l ∧ ∀ x ∈ l, x.2 ≤ lastP tm l := by
  induction l with
  | nil => intro tm; exact ⟨Int.le_refl _, fun x hx => by cases hx⟩
  | cons y r ih =>
    intro tm
    obtain ⟨h1, h2⟩ := ih (max tm y.2)
    have e : lastP tm (y :: r) = lastP (max tm y.2) r := rfl
    rw [e]
    refine ⟨by omega, fun x hx => ?_⟩
    rcases List.mem_cons.1 hx with rfl | hx
    · omega
    · exact h2 x hx
theorem last_is (l : List Tm) : ∀ tm, lastP tm l = tm ∨ ∃ x ∈ l, lastP tm l = x.2 := by
  induction l with
  | nil => intro tm; exact .inl rfl
  | cons y r ih =>
    intro tm
    have e : lastP tm (y :: r) = lastP (max tm y.2) r := rfl
    rw [e]
    rcases ih (max tm y.2) with h | ⟨x, hx, h⟩
    · rcases Int.le_total tm y.2 with k | k
      · exact .inr ⟨y, by simp, by rw [h]; omega⟩
      · exact .inl (by rw [h]; omega)
    · exact .inr ⟨x, by simp [hx], h⟩
theorem ends_all {ex : Bool} {tm : Int} {l : List Tm} (h : okS ⟨ex, tm, l⟩ = true) : expS ⟨ex, tm, l⟩ (lastP tm l) = (⟨false, 0, []⟩, false) := by
  obtain ⟨h1, h2⟩ := last_ge l tm
  have e1 : exE ⟨ex, tm, l⟩ (lastP tm l) = false := by
    unfold exE
    rw [decide_eq_false (by show ¬ lastP tm l < tm; omega), Bool.and_false]
  have e2 : srcE ⟨ex, tm, l⟩ (lastP tm l) = [] := by
    unfold srcE
    rw [e1, List.flatMap_eq_nil_iff]
    intro x hx
    unfold keepX
    rw [if_neg (by have := h2 x hx; omega), if_neg (by simp)]
  unfold expS
  rw [if_pos h]
  unfold stE anyS
  rw [e1, e2]
  rfl
theorem ends_ahead {ex : Bool} {tm : Int} {l : List Tm} (h : okS ⟨ex, tm, l⟩ = true) (hl : lastP tm l ≠ 0) : (expS ⟨ex, tm, l⟩ (lastP tm l - 1)).2 = true := by
  obtain ⟨h1, h2⟩ := last_ge l tm
  obtain ⟨o1, o2, o3, o4, o5⟩ := (ok_iff _).1 h
  unfold expS
  rw [if_pos h]
  show anyS (stE ⟨ex, tm, l⟩ (lastP tm l - 1)) = true
  rcases last_is l tm with e | ⟨x, hx, e⟩
  · have he : exE ⟨ex, tm, l⟩ (lastP tm l - 1) = true := by
      unfold exE
      have ht : (0 : Int) < tm := by have : (0 : Int) ≤ tm := o2; omega
      have hex : ex = decide (0 < tm) := o3
      rw [decide_eq_true (show lastP tm l - 1 < tm by omega)]
      show (ex && true) = true
      rw [hex, decide_eq_true ht]
      rfl
    unfold anyS stE
    simp only
    rw [he]
    rfl
  · have hm : x ∈ srcE ⟨ex, tm, l⟩ (lastP tm l - 1) := by
      unfold srcE
      rw [List.mem_flatMap]
      refine ⟨x, hx, ?_⟩
      unfold keepX
      rw [if_pos (by omega)]
      simp
    have hp : 0 < (srcE ⟨ex, tm, l⟩ (lastP tm l - 1)).length := List.length_pos_of_mem hm
    unfold anyS stE
    simp only
    rw [decide_eq_true hp, Bool.or_true]

set_option maxHeartbeats 8000000 in
set_option maxRecDepth 100000 in
theorem walk (a0_0 : Bool) (a0_1 : Int) (a0_2 : Value) (la0_2 : List Tmd) (w : World) (la0_1 : -9223372036854775808 ≤ a0_1) (ua0_1 : a0_1 ≤ 9223372036854775807) (ha0_2 : RowsAt 2 cellsTmd w a0_2 la0_2) (qa0_2 : la0_2.length ≤ maxLen) (sa0_2 : ∀ r ∈ la0_2, GoodTmd r) :
    Calls Try.prog 8 #[.agg #[.bool a0_0, .int .i64 a0_1, a0_2]] w fun e w' => e = .returned (.bool true) ∧ Below w.heap.size w w' := by
  have HROW := Lib.hid (show RowsAt 2 cellsTm w a0_2 la0_2 from ha0_2)
  obtain ⟨p, cap, rfl⟩ := ha0_2.slice
  have HSA := Lib.hid sa0_2
  obtain ⟨n, hn⟩ : ∃ n, n = la0_2.length := ⟨_, rfl⟩
  have HNN := Lib.hid hn
  rw [← hn] at HROW qa0_2 ⊢
  have HL := Lib.hid fun U => live17_c U
  have HB0 := Lib.hid ((Below.refl w.heap.size w).alloc (Nat.le_refl _) (.cells #[.bool a0_0, .int .i64 a0_1, .slice p n cap] 24))
  have HE := Lib.hid (heap_new w (.cells #[.bool a0_0, .int .i64 a0_1, .slice p n cap] 24))
  have x0 : (w.alloc (.cells #[.bool a0_0, .int .i64 a0_1, .slice p n cap] 24)).cell? ⟨w.heap.size, 0, none⟩ = some (.bool a0_0) := cell_of_block HE.out rfl
  have x1 : (w.alloc (.cells #[.bool a0_0, .int .i64 a0_1, .slice p n cap] 24)).cell? ⟨w.heap.size, 1, none⟩ = some (.int .i64 a0_1) := cell_of_block HE.out rfl
  have x2 : (w.alloc (.cells #[.bool a0_0, .int .i64 a0_1, .slice p n cap] 24)).cell? ⟨w.heap.size, 2, none⟩ = some (.slice p n cap) := cell_of_block HE.out rfl
  have hnb : n ≤ 9223372036854775807 := qa0_2
  clear ha0_2 sa0_2 qa0_2 hn
  by_cases c1 : 100 < n
  · have d1 : decide (100 < (n : Int)) = true := decide_eq_true (by omega)
    have d2 : decide (100 < n) = true := decide_eq_true c1
    clear c1
    go_enter Try.func8, Try.ntmps8
    go_upto_region 1 with fail
    generalize w.alloc (.cells #[.bool a0_0, .int .i64 a0_1, .slice p n cap] 24) = W at HB0 HE x0 x1 x2 ⊢
    go_wp2_with fail
    ((with_reducible refine (HL.out _).mono ?_); rintro e w2 ⟨rfl, h2⟩)
    go_wp2_with fail
    go_ret
    exact ⟨rfl, gk_call HB0.out h2⟩
  · have d1 : decide (100 < (n : Int)) = false := decide_eq_false (by omega)
    have d2 : decide (100 < n) = false := decide_eq_false c1
    have hl1 : la0_2.length ≤ 1000000 := by rw [← HNN.out]; omega
    have CK := Lib.hid (fun U (hr : RowsAt 2 cellsTm U (.slice p n cap) la0_2) => gchk_c a0_0 a0_1 (.slice p n cap) la0_2 U hl1 hr)
    have XP := Lib.hid (fun U now (hr : RowsAt 2 cellsTm U (.slice p n cap) la0_2) => gexp_c a0_0 a0_1 (.slice p n cap) la0_2 now U hl1 hr)
    rcases Bool.eq_false_or_eq_true (okS ⟨a0_0, a0_1, la0_2⟩) with hok | hok
    · rw [chk_yes hok] at CK
      have E1 := Lib.hid (ends_all hok)
      have E2 := Lib.hid (fun h => ends_ahead hok h)
      have G1 := Lib.hid (fun k => (last_ge (la0_2.take k) a0_1).1)
      have HMU := Lib.hid (show lastP a0_1 la0_2 ≤ 9223372036854775807 by
        rcases last_is la0_2 a0_1 with e | ⟨x, hx, e⟩
        · rw [e]; exact ua0_1
        · rw [e]; exact (HSA.out x hx).2.2)
      have htm : 0 ≤ a0_1 := ((ok_iff _).1 hok).2.1
      clear c1 hok hl1
      go_enter Try.func8, Try.ntmps8
      go_upto_region 1 with fail
      have HRW := Lib.hid (HROW.out.below HB0.out)
      generalize w.alloc (.cells #[.bool a0_0, .int .i64 a0_1, .slice p n cap] 24) = W at HB0 HE x0 x1 x2 HRW ⊢
      go_wp2_with fail
      ((with_reducible refine (CK.out _ HRW.out).mono ?_); rintro e w2 ⟨rfl, k2⟩)
      have HE2 := Lib.hid (below_block k2 (lt_of_block HE.out) HE.out)
      have HB2 := Lib.hid (gk_call HB0.out k2)
      have HR2 := Lib.hid (HRW.out.below k2)
      clear x0 x1 x2 k2 CK HRW HE HB0
      have x0 : w2.cell? ⟨w.heap.size, 0, none⟩ = some (.bool a0_0) := cell_of_block HE2.out rfl
      have x1 : w2.cell? ⟨w.heap.size, 1, none⟩ = some (.int .i64 a0_1) := cell_of_block HE2.out rfl
      have x2 : w2.cell? ⟨w.heap.size, 2, none⟩ = some (.slice p n cap) := cell_of_block HE2.out rfl
      obtain ⟨pp, cc, b, off, hv, hp, hc⟩ := HR2.out
      simp only [Value.slice.injEq] at hv
      obtain ⟨rfl, -, rfl⟩ := hv
      have HP := Lib.hid hp
      have HC := Lib.hid hc
      clear hp hc
      go_wp2_with fail
      go_loop [3, 4] (fun m i => ∃ k : Nat, k ≤ n ∧ i = .int .i64 k ∧ m = .int .i64 (lastP a0_1 (la0_2.take k))) (fun _ i => n - (intOf i).toNat)
      case atStart => exact ⟨0, Nat.zero_le _, rfl, rfl⟩
      case round =>
        obtain ⟨k, hk, rfl, rfl⟩ := hrel
        by_cases hlt : k < n
        · obtain ⟨x, hx⟩ : ∃ x, la0_2[k]? = some x := ⟨_, List.getElem?_eq_getElem (by rw [← HNN.out]; exact hlt)⟩
          have hne : la0_2 ≠ [] := by rintro rfl; simp at hx
          obtain rfl := HP.out hne
          have HTK := Lib.hid (last_take (tm := a0_1) hx)
          have y1 : w2.cell? ⟨b, off + k * 2 + 1, none⟩ = some (.int .i64 x.2) := HC.out k _ hx 1 _ rfl
          generalize x.2 = xa at y1 HTK
          generalize lastP a0_1 (la0_2.take k) = mk0 at HTK ⊢
          have d3 : decide (k < n) = true := decide_eq_true hlt
          have d4 : decide ((k : Int) < (n : Int)) = true := decide_eq_true (by omega)
          have d5 : decide (0 ≤ (k : Int)) = true := decide_eq_true (by omega)
          clear hx hne
          go_wp2_with fail
          go_round
          case rel => exact ⟨k + 1, by omega, by go_num, by rw [HTK.out]⟩
          case measure => simp [intOf]; omega
        · obtain rfl : k = n := by omega
          have HLA := Lib.hid (show lastP a0_1 (la0_2.take k) = lastP a0_1 la0_2 by rw [List.take_of_length_le (by rw [HNN.out]; exact Nat.le_refl _)])
          have hge : 0 ≤ lastP a0_1 (la0_2.take k) := by have := G1.out k; omega
          rw [← HLA.out] at E1 E2
          have hmu : lastP a0_1 (la0_2.take k) ≤ 9223372036854775807 := by rw [HLA.out]; exact HMU.out
          generalize lastP a0_1 (la0_2.take k) = m at E1 E2 hge hmu HLA ⊢
          have d3 : decide (k < k) = false := decide_eq_false (by omega)
          have d4 : decide ((k : Int) < (k : Int)) = false := decide_eq_false (by omega)
          clear hlt G1
          have X1 := XP.out w2 m HR2.out
          rw [E1.out] at X1
          replace X1 := Lib.hid X1
          unfold StPost at X1
          go_wp2_with fail
          ((with_reducible refine X1.out.mono ?_); rintro e w3 ⟨vs, rfl, r3, k3⟩)
          obtain ⟨q3, c3, rfl⟩ := r3.slice
          have HB3 := Lib.hid (gk_call HB2.out k3)
          have HE3 := Lib.hid (below_block k3 (lt_of_block HE2.out) HE2.out)
          have HR3 := Lib.hid (HR2.out.below k3)
          clear x0 x1 x2 r3 k3 X1 E1 HE2 HB2 HR2 HC HP
          go_upto_region 9 with fail
          have k4 := (Below.refl w3.heap.size w3).alloc (Nat.le_refl _) (.cells #[.bool false, .int .i64 0, .slice q3 0 c3] 24)
          have HB4 := Lib.hid (gk_call HB3.out k4)
          have HE4 := Lib.hid (below_block k4 (lt_of_block HE3.out) HE3.out)
          have HR4 := Lib.hid (HR3.out.below k4)
          have HX4 := Lib.hid (heap_new w3 (.cells #[.bool false, .int .i64 0, .slice q3 0 c3] 24))
          clear k4 HB3 HE3 HR3
          generalize w3.alloc (.cells #[.bool false, .int .i64 0, .slice q3 0 c3] 24) = W4 at HB4 HE4 HR4 HX4 ⊢
          generalize w3.heap.size = vb at HX4 ⊢
          have y0 : W4.cell? ⟨vb, 0, none⟩ = some (.bool false) := cell_of_block HX4.out rfl
          have y2 : W4.cell? ⟨vb, 2, none⟩ = some (.slice q3 0 c3) := cell_of_block HX4.out rfl
          have x0 : W4.cell? ⟨w.heap.size, 0, none⟩ = some (.bool a0_0) := cell_of_block HE4.out rfl
          have x1 : W4.cell? ⟨w.heap.size, 1, none⟩ = some (.int .i64 a0_1) := cell_of_block HE4.out rfl
          have x2 : W4.cell? ⟨w.heap.size, 2, none⟩ = some (.slice p k cap) := cell_of_block HE4.out rfl
          by_cases hm0 : m = 0
          · obtain ⟨e5, e6⟩ := eq_t hm0
            clear hm0
            go_wp2_with fail
            ((with_reducible refine (HL.out _).mono ?_); rintro e w5 ⟨rfl, h5⟩)
            go_wp2_with fail
            go_ret
            exact ⟨rfl, gk_call HB4.out h5⟩
          · obtain ⟨e5, e6⟩ := ne_t hm0
            have X2 := XP.out W4 (m - 1) HR4.out
            unfold StPost at X2
            rw [E2.out hm0] at X2
            replace X2 := Lib.hid X2
            have hm1 : 1 ≤ m := by omega
            have hw : wrap64 (m - 1) = m - 1 := by unfold wrap64; omega
            have hw2 : IntKind.i64.wrap (m - 1) = m - 1 := IntWalk.i64_in _ (by omega)
            clear hm0
            go_wp2_with fail
            ((with_reducible refine X2.out.mono ?_); rintro e w5 ⟨vs5, rfl, r5, k5⟩)
            obtain ⟨q5, c5, rfl⟩ := r5.slice
            have HB5 := Lib.hid (gk_call HB4.out k5)
            clear x0 x1 x2 y0 y2 r5 k5 X2
            generalize (expS ⟨a0_0, a0_1, la0_2⟩ (m - 1)).1 = S5
            have HB6 := Lib.hid (HB5.out.alloc HB5.out.size (.cells #[.bool S5.ex, .int .i64 S5.tm, .slice q5 S5.src.length c5] 24))
            go_wp2_with fail
            ((with_reducible refine (HL.out _).mono ?_); rintro e w6 ⟨rfl, h6⟩)
            go_wp2_with fail
            go_ret
            exact ⟨rfl, gk_call HB6.out h6⟩
    · have hk := chk_bad hok
      rw [hk] at CK
      clear c1 hok hl1 hk
      go_enter Try.func8, Try.ntmps8
      go_upto_region 1 with fail
      have HRW := Lib.hid (HROW.out.below HB0.out)
      generalize w.alloc (.cells #[.bool a0_0, .int .i64 a0_1, .slice p n cap] 24) = W at HB0 HE x0 x1 x2 HRW ⊢
      go_wp2_with fail
      ((with_reducible refine (CK.out _ HRW.out).mono ?_); rintro e w2 ⟨rfl, k2⟩)
      go_wp2_with fail
      ((with_reducible refine (HL.out _).mono ?_); rintro e w3 ⟨rfl, h3⟩)
      go_wp2_with fail
      go_ret
      exact ⟨rfl, gk_call (gk_call HB0.out k2) h3⟩

theorem own : ownKnob Try.prog.godebug = none := by kernel_rfl
theorem laidOut : laidOutB Try.prog = true := by kernel_rfl

set_option maxHeartbeats 1000000 in
set_option maxRecDepth 100000 in
theorem lifted (os : Os) (started : os.Started) (H : Type) (enc : TypeId × Value → H) :
    ReturnsInHanded {} Try.checked os 8 .any (Rows.groupEndsSpec.pre6 enc Try.prog Try.f8 Rows.groupEndsRow.domain false) (Rows.groupEndsSpec.post enc Try.prog Try.f8 false true false false) := by
  refine returnsInHanded_of_change_sized (C := Try.checked) own started (by kernel_rfl) Try.func8
    (ChangeSpec.witness6 (enc := enc) (C := Try.checked) false ⟨#[], #[.agg #[.bool false, .int .i64 0, .slice none 0 0]], []⟩ 8 (by kernel_rfl) (by kernel_rfl) (by kernel_rfl) (by kernel_rfl)) ?_
  intro W base args ds gs before hval0 hW hcnd hsz0 hholds
  have hval : ∀ (j : Nat) t v, Try.f8.params[j]? = some t → args[j]? = some v → Value.okWide Try.prog W .any base t v := hval0
  have hsz : (DataW.weightsEach Try.prog (Try.f8.params.toList ++ Rows.groupEndsSpec.plain.varTypes Try.prog) (ds ++ gs)).all (· ≤ reachBytes) = true := hsz0
  have hW' := hW
  obtain ⟨p, q, hA0, hV, rfl, hfz, hnd⟩ := hW
  have hA : DataW.TrodAll enc Try.prog W 0 (fun _ => true) true Try.f8.params.toList args.toList ds p := hA0
  rw [Try.params8] at hA hval hsz
  obtain ⟨v0, vs0, d0, ds0, p0, q0, hargs, rfl, rfl, h0, r0⟩ := trodAll_cons hA
  obtain ⟨rfl, rfl, rfl⟩ := trodAll_nil r0
  obtain rfl : args = #[v0] := by cases args; simp_all
  obtain ⟨rfl, rfl⟩ := trodVars_none hV
  have k0 := h0
  have lt0 : ∀ x ∈ p0, x.block < W.heap.size := by obtain ⟨m, hm⟩ := k0; exact DataW.trod_lt m _ _ _ hm
  obtain ⟨cs0, rfl, hz0⟩ := okWide_struct Try.underlying24 (hval 0 24 v0 rfl rfl)
  obtain ⟨l0⟩ := cs0
  obtain ⟨c0_0, c0_1, c0_2, rfl⟩ := list3 l0 (hz0.trans (by kernel_rfl))
  obtain ⟨fu0, hf0⟩ := h0
  obtain ⟨xs0, m0, -, hx0, -, hn0, hg0⟩ := DataW.trod_struct Try.underlying24 hf0
  obtain ⟨y0_0, y0_1, y0_2, rfl⟩ := list3 xs0 hn0
  simp only [Prod.mk.injEq] at hx0
  obtain ⟨rfl, rfl⟩ := hx0
  have g0_0 : DataW.trod enc Try.prog W 0 (fun _ => true) true m0 4 (List.take (Try.prog.cellsOf 4) (List.drop 0 [c0_0, c0_1, c0_2])) = some y0_0 := hg0 0 _ rfl
  rw [show Try.prog.cellsOf 4 = 1 from by kernel_rfl] at g0_0
  replace g0_0 : DataW.trod enc Try.prog W 0 (fun _ => true) true m0 4 [c0_0] = some y0_0 := g0_0
  have g0_1 : DataW.trod enc Try.prog W 0 (fun _ => true) true m0 3 (List.take (Try.prog.cellsOf 3) (List.drop 1 [c0_0, c0_1, c0_2])) = some y0_1 := hg0 1 _ rfl
  rw [show Try.prog.cellsOf 3 = 1 from by kernel_rfl] at g0_1
  replace g0_1 : DataW.trod enc Try.prog W 0 (fun _ => true) true m0 3 [c0_1] = some y0_1 := g0_1
  have g0_2 : DataW.trod enc Try.prog W 0 (fun _ => true) true m0 22 (List.take (Try.prog.cellsOf 22) (List.drop 2 [c0_0, c0_1, c0_2])) = some y0_2 := hg0 2 _ rfl
  rw [show Try.prog.cellsOf 22 = 1 from by kernel_rfl] at g0_2
  replace g0_2 : DataW.trod enc Try.prog W 0 (fun _ => true) true m0 22 [c0_2] = some y0_2 := g0_2
  clear hg0
  obtain ⟨a0_0, e0_0, rfl⟩ := DataW.trod_bool Try.underlying4 g0_0
  simp at e0_0
  subst e0_0
  obtain ⟨a0_1, e0_1, rfl, w0_1⟩ := DataW.trod_int Try.underlying3 g0_1
  simp at e0_1
  subst e0_1
  obtain ⟨v0_2, L0_2, e0_2, hh0_2, qq0_2, ss0_2⟩ := openTmd g0_2
  simp at e0_2
  subst e0_2
  have ba0_1 := bounds_i64 w0_1
  clear hA0 hval0
  refine (walk a0_0 a0_1 c0_2 L0_2 W ba0_1.1 ba0_1.2 hh0_2 qq0_2 ss0_2).mono fun e W' ⟨he, bel⟩ => ?_
  subst he
  exact ⟨_, rfl, _, _, _, [], _, [], hW', trodAll_mk1 (shut_bool Try.underlying4 _), (trodAll_cons_mk (Below.trod laidOut (by kernel_rfl) (of_decide_eq_true (by kernel_rfl)) k0 bel lt0) trodAll_mk0), rfl, bel.frame _, fun h => by cases h⟩

theorem over : Rows.groupEndsRow.holds Try.pinned (OpenSpec.ofChange Rows.groupEndsSpec) :=
  OpenClaim.holds_of_wide 8 Try.f8 rfl rfl rfl rfl rfl rfl rfl ⟨rfl, rfl, rfl, rfl, rfl⟩ rfl rfl rfl rfl rfl (by kernel_rfl) Try.func8 (by kernel_rfl)
    (of_decide_eq_true (by kernel_rfl)) (by unfold Func.isWrapper; first | (rw [if_pos (by decide +kernel)]; kernel_rfl) | (rw [if_neg (by decide +kernel)]; exact ⟨rfl, rfl⟩))
    (fun os started H enc _ => lifted os started H enc)

/-- The statement. -/
theorem proved : Rows.GroupEndsSaid := over
#print axioms proved
end Go.Proofs.Ythgafhmgoaglmaa.groupEndsLaw
