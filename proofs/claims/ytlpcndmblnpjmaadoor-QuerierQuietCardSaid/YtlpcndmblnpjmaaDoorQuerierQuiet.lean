/-
  'siphonlaw20.QuerierQuiet' returns true, whatever the input, and each argument reads behind the call as it read before. Conditions: none beyond those that the row itself states.
-/
import Derived.Test.YtlpcndmblnpjmaaDoorRows
import Derived.Test.YtlpcndmblnpjmaaDoorCards
import Derived.Test.YtlpcndmblnpjmaaDoorTie
import Derived.Test.YtlpcndmblnpjmaaDoorQrL
import Derived.Test.YtlpcndmblnpjmaaDoorRowOpQ
import Derived.LaidMore
import Derived.Lay
import Derived.SevenTiedAt
import Derived.Stop.Joined
import Derived.WalkKit
import Derived.ProofKit
import Derived.OpenShut
import Derived.ShutString
import Derived.ChangeOld
import Derived.Below
import Derived.Carry
import Derived.SizedLaws
import Derived.Lib.SmallJoins
import Derived.ChangeArms
import Derived.WideShapes
namespace Go.Proofs.YtlpcndmblnpjmaaDoor.querierQuietLaw
open Go.ChangeShapes Go.WideShapes Go.ChangeAt Go.RowKit Go.Joins
open Go.ChangeMaps (open_string shut_string)
set_option linter.unusedVariables false

theorem ahead_none (a : ByteArray) : ahead a ⟨#[]⟩ = false := by
  unfold ahead
  by_cases h : a.size = 0
  · obtain rfl : a = ⟨#[]⟩ := by
      apply ByteArray.ext
      exact Array.eq_empty_of_size_eq_zero h
    rfl
  · rw [show decide (a.size = (⟨#[]⟩ : ByteArray).size) = false from decide_eq_false h, Bool.false_and]
theorem is_none (un now : Int) : isB ⟨#[]⟩ un now = false := by simp [isB]
theorem hear_quiet {w : World} {q : Nat} {ev rb : Int} (h : HasQ w q ⟨#[]⟩ ev rb 0 0 0) (a : ByteArray) (ha : a.size ≤ 9223372036854775807) (now : Int) :
    Calls Tryd.prog 11 #[.pointer (some ⟨q, 0, none⟩), .string a, .int .i64 now] w fun e w' => e = .returned (.bool false) ∧ HasQ w' q ⟨#[]⟩ ev rb 0 0 0 ∧ Tw w w' q q :=
  hear_no h a ha now (by rw [ahead_none, Bool.and_false])
theorem tick_quiet {w : World} {q : Nat} {ev rb : Int} (h : HasQ w q ⟨#[]⟩ ev rb 0 0 0) (now : Int) :
    Calls Tryd.prog 10 #[.pointer (some ⟨q, 0, none⟩), .int .i64 now] w fun e w' => e = .returned (.bool false) ∧ HasQ w' q ⟨#[]⟩ ev rb 0 0 0 ∧ Tw w w' q q := by
  rcases Bool.eq_false_or_eq_true (okT now) with e | e
  · exact tick_not h now e (is_none _ _)
  · exact (tick_bad h now e).mono fun e w' ⟨h1, h2⟩ => ⟨h1, by subst h2; exact ⟨h, Tw.refl _ _ _⟩⟩
theorem is_quiet {w : World} {q : Nat} {ev rb : Int} (h : HasQ w q ⟨#[]⟩ ev rb 0 0 0) (now : Int) :
    Calls Tryd.prog 12 #[.pointer (some ⟨q, 0, none⟩), .int .i64 now] w fun e w' => e = .returned (.bool false) ∧ w' = w := by
  have := is_c h now
  rw [is_none] at this
  exact this

set_option maxHeartbeats 4000000 in
set_option maxRecDepth 100000 in
theorem walk (a0 : Int) (a1 : Int) (a2 : Value) (la2 : List OpQ) (w : World) (la0 : -9223372036854775808 ≤ a0) (ua0 : a0 ≤ 9223372036854775807) (la1 : -9223372036854775808 ≤ a1) (ua1 : a1 ≤ 9223372036854775807) (ha2 : RowsAt 3 cellsOpQ w a2 la2) (qa2 : la2.length ≤ maxLen) (sa2 : ∀ r ∈ la2, GoodOpQ r) :
    Calls Tryd.prog 7 #[.int .i64 a0, .int .i64 a1, a2] w fun e w' => e = .returned (.bool true) ∧ Below w.heap.size w w' := by
  have HL := Lib.hid fun U => live20_c U
  by_cases hb : a0 < 4 ∨ 100000 < a0 ∨ a1 < 1 ∨ 7 < a1
  · have N1 := Lib.hid fun U => new_no ⟨#[]⟩ a0 a1 U (.inr hb)
    clear hb
    go_enter Tryd.func7, Tryd.ntmps7
    go_wp2_with fail
    ((with_reducible refine (N1.out _).mono ?_); rintro e w1 ⟨rfl, rfl⟩)
    go_wp2_with fail
    ((with_reducible refine (HL.out _).mono ?_); rintro e w2 ⟨rfl, h2⟩)
    go_wp2_with fail
    go_ret
    exact ⟨rfl, h2⟩
  · have N1 := Lib.hid fun U => new_ok ⟨#[]⟩ a0 a1 U (.inl rfl) (by omega) (by omega) (by omega) (by omega)
    have HS := Lib.hid sa2
    obtain ⟨p, cap, b, off, rfl, hp, hc⟩ := ha2
    have HP := Lib.hid hp
    have HC := Lib.hid hc
    obtain ⟨n, hn⟩ : ∃ n, n = la2.length := ⟨_, rfl⟩
    have HNN := Lib.hid hn
    rw [← hn] at qa2 ⊢
    have hnb : n ≤ 9223372036854775807 := qa2
    clear hb hp hc hn sa2 qa2
    go_enter Tryd.func7, Tryd.ntmps7
    go_wp2_with fail
    ((with_reducible refine (N1.out _).mono ?_); rintro e w1 ⟨q, rfl, hq, h1, b1⟩)
    have HQ := Lib.hid hq
    have H1 := Lib.hid h1
    have B1 := Lib.hid b1
    clear hq h1 b1 N1
    go_wp2_with fail
    go_loopw [9] (fun i wr => ∃ k : Nat, k ≤ n ∧ i = .int .i64 k ∧ Hid (HasQ wr q ⟨#[]⟩ a0 a1 0 0 0) ∧ Hid (Below w.heap.size w wr)) (fun i _ => n - (intOf i).toNat)
    case atStart => exact ⟨0, Nat.zero_le _, rfl, H1, B1⟩
    case round =>
      clear H1 B1
      obtain ⟨k, hk, rfl, HH, KB⟩ := hrel
      by_cases hlt : k < n
      · by_cases h80 : k < 80
        · obtain ⟨x, hx⟩ : ∃ x, la2[k]? = some x := ⟨_, List.getElem?_eq_getElem (by rw [← HNN.out]; exact hlt)⟩
          have hne : la2 ≠ [] := by rintro rfl; simp at hx
          obtain rfl := HP.out hne
          have hgood := HS.out x (List.mem_of_getElem? hx)
          have x0 : wr.cell? ⟨b, off + k * 3, none⟩ = some (.int .i64 x.1) := gcell_below KB.out (HC.out k _ hx 0 _ rfl)
          have x1 : wr.cell? ⟨b, off + k * 3 + 1, none⟩ = some (.string x.2.1) := gcell_below KB.out (HC.out k _ hx 1 _ rfl)
          have x2 : wr.cell? ⟨b, off + k * 3 + 2, none⟩ = some (.int .i64 x.2.2) := gcell_below KB.out (HC.out k _ hx 2 _ rfl)
          have hsz : x.2.1.size ≤ 9223372036854775807 := hgood.2.1
          generalize x.1 = xd at x0
          generalize x.2.1 = xs at x1 hsz
          generalize x.2.2 = xn at x2
          have d1 : decide (k < n) = true := decide_eq_true hlt
          have d2 : decide ((k : Int) < (n : Int)) = true := decide_eq_true (by omega)
          have d3 : decide (n ≤ k) = false := decide_eq_false (by omega)
          have d4 : decide (0 ≤ (k : Int)) = true := decide_eq_true (by omega)
          have d5 : decide ((k : Int) < 80) = true := decide_eq_true (by omega)
          have HSZ := Lib.hid hsz
          clear hx hne hgood hsz
          go_upto_region 10 with fail
          have HE1 := Lib.hid (heap_new wr (.cells #[.int .i64 xd, .string xs, .int .i64 xn] 62))
          have KB1 := Lib.hid (KB.out.alloc KB.out.size (.cells #[.int .i64 xd, .string xs, .int .i64 xn] 62))
          have HH1 := Lib.hid (HH.out.below ((Below.refl _ wr).alloc (Nat.le_refl _) (.cells #[.int .i64 xd, .string xs, .int .i64 xn] 62)) HH.out.lt)
          have hqe := Lib.hid (show wr.heap.size ≠ q from fun e => by have := HH.out.lt; omega)
          clear x0 x1 x2 HH KB
          generalize wr.alloc (.cells #[.int .i64 xd, .string xs, .int .i64 xn] 62) = W1 at HE1 KB1 HH1 ⊢
          generalize wr.heap.size = eb at HE1 hqe ⊢
          have e1 : W1.cell? ⟨eb, 1, none⟩ = some (.string xs) := cell_of_block HE1.out rfl
          have e2 : W1.cell? ⟨eb, 2, none⟩ = some (.int .i64 xn) := cell_of_block HE1.out rfl
          have C1 := Lib.hid (hear_quiet HH1.out xs HSZ.out xn)
          go_wp2_with fail
          ((with_reducible refine C1.out.mono ?_); rintro e w2 ⟨rfl, h2, k2⟩)
          have HE2 := Lib.hid (show w2.heap[eb]? = _ from (k2.block eb (lt_of_block HE1.out) hqe.out hqe.out).trans HE1.out)
          have H2 := Lib.hid h2
          have KB2 := Lib.hid (Tw.bel KB1.out HQ.out k2)
          clear h2 k2 C1 HH1 KB1 e1 e2 HE1
          have e1 : w2.cell? ⟨eb, 1, none⟩ = some (.string xs) := cell_of_block HE2.out rfl
          have e2 : w2.cell? ⟨eb, 2, none⟩ = some (.int .i64 xn) := cell_of_block HE2.out rfl
          have C2 := Lib.hid (tick_quiet H2.out xn)
          go_wp2_with fail
          ((with_reducible refine C2.out.mono ?_); rintro e w3 ⟨rfl, h3, k3⟩)
          have HE3 := Lib.hid (show w3.heap[eb]? = _ from (k3.block eb (lt_of_block HE2.out) hqe.out hqe.out).trans HE2.out)
          have H3 := Lib.hid h3
          have KB3 := Lib.hid (Tw.bel KB2.out HQ.out k3)
          clear h3 k3 C2 H2 KB2 e1 e2 HE2
          have e2 : w3.cell? ⟨eb, 2, none⟩ = some (.int .i64 xn) := cell_of_block HE3.out rfl
          have C3 := Lib.hid (is_quiet H3.out xn)
          go_wp2_with fail
          ((with_reducible refine C3.out.mono ?_); rintro e w4 ⟨rfl, rfl⟩)
          go_wp2_with fail
          go_roundw
          case rel => exact ⟨k + 1, by omega, by go_num, H3, KB3⟩
          case measure => simp [intOf]; omega
        · have d1 : decide (k < n) = true := decide_eq_true hlt
          have d2 : decide ((k : Int) < (n : Int)) = true := decide_eq_true (by omega)
          have d5 : decide ((k : Int) < 80) = false := decide_eq_false (by omega)
          clear hlt h80
          go_wp2_with fail
          ((with_reducible refine (HL.out _).mono ?_); rintro e w5 ⟨rfl, h5⟩)
          go_wp2_with fail
          go_ret
          exact ⟨rfl, KB.out.trans (h5.mono KB.out.size)⟩
      · have d1 : decide (k < n) = false := decide_eq_false hlt
        have d2 : decide ((k : Int) < (n : Int)) = false := decide_eq_false (by omega)
        clear hlt
        go_wp2_with fail
        ((with_reducible refine (HL.out _).mono ?_); rintro e w5 ⟨rfl, h5⟩)
        go_wp2_with fail
        go_ret
        exact ⟨rfl, KB.out.trans (h5.mono KB.out.size)⟩

theorem own : ownKnob Tryd.prog.godebug = none := by kernel_rfl
theorem laidOut : laidOutB Tryd.prog = true := by kernel_rfl

set_option maxHeartbeats 1000000 in
set_option maxRecDepth 100000 in
theorem lifted (os : Os) (started : os.Started) (H : Type) (enc : TypeId × Value → H) :
    ReturnsInHanded {} Tryd.checked os 7 .any (fun w args => (Rows.querierQuietSpec.pre enc Tryd.prog Tryd.f7 Rows.querierQuietRow.domain false w args ∧ laidMetH Tryd.prog Rows.querierQuietRow.laid w) ∧ sizedMet enc Tryd.prog Tryd.f7 (OpenSpec.ofChange Rows.querierQuietSpec) false w args) (Rows.querierQuietSpec.post enc Tryd.prog Tryd.f7 false true false false) := by
  refine returnsInHanded_of_change_and (C := Tryd.checked) (X := fun w _ => laidMetH Tryd.prog Rows.querierQuietRow.laid w) (fun _ _ _ hh h => h.of_heap hh) own started (by kernel_rfl) Tryd.func7
    (ChangeSpec.witness_shaped (enc := enc) (C := Tryd.checked) (os := os) (X := fun w _ => laidMetH Tryd.prog Rows.querierQuietRow.laid w) false (World.laidAll Tryd.prog os Rows.querierQuietRow.laid) #[.int .i64 0, .int .i64 0, .slice none 0 0] 8 (World.laidAll_os _ _ _)
      (World.shaped_of_ZipB (by kernel_rfl) (by kernel_rfl)) (by kernel_rfl) (by kernel_rfl) (by kernel_rfl)
      (by rw [MakeChecks.laidMetH_plain _ _ _ (by kernel_rfl)]; exact laidMet_laidAll _ (by kernel_rfl) (by kernel_rfl))) ?_
  intro W base args ds gs before hval0 hW hcnd hsz0 hL hholds
  have hval : ∀ (j : Nat) t v, Tryd.f7.params[j]? = some t → args[j]? = some v → Value.okWide Tryd.prog W .any base t v := hval0
  have hsz : (DataW.weightsEach Tryd.prog (Tryd.f7.params.toList ++ Rows.querierQuietSpec.plain.varTypes Tryd.prog) (ds ++ gs)).all (· ≤ reachBytes) = true := hsz0
  have hW' := hW
  obtain ⟨p, q, hA0, hV, rfl, hfz, hnd⟩ := hW
  have hA : DataW.TrodAll enc Tryd.prog W 0 (fun _ => true) true Tryd.f7.params.toList args.toList ds p := hA0
  rw [Tryd.params7] at hA hval hsz
  obtain ⟨v0, vs0, d0, ds0, p0, q0, hargs, rfl, rfl, h0, r0⟩ := trodAll_cons hA
  obtain ⟨v1, vs1, d1, ds1, p1, q1, rfl, rfl, rfl, h1, r1⟩ := trodAll_cons r0
  obtain ⟨v2, vs2, d2, ds2, p2, q2, rfl, rfl, rfl, h2, r2⟩ := trodAll_cons r1
  obtain ⟨rfl, rfl, rfl⟩ := trodAll_nil r2
  obtain rfl : args = #[v0, v1, v2] := by cases args; simp_all
  obtain ⟨rfl, rfl⟩ := trodVars_none hV
  have k0 := h0
  have lt0 : ∀ x ∈ p0, x.block < W.heap.size := by obtain ⟨m, hm⟩ := k0; exact DataW.trod_lt m _ _ _ hm
  have k1 := h1
  have lt1 : ∀ x ∈ p1, x.block < W.heap.size := by obtain ⟨m, hm⟩ := k1; exact DataW.trod_lt m _ _ _ hm
  have k2 := h2
  have lt2 : ∀ x ∈ p2, x.block < W.heap.size := by obtain ⟨m, hm⟩ := k2; exact DataW.trod_lt m _ _ _ hm
  obtain ⟨a0, rfl, rfl, rfl, w0⟩ := open_int Tryd.underlying3 (hval 0 3 v0 rfl rfl) h0
  obtain ⟨a1, rfl, rfl, rfl, w1⟩ := open_int Tryd.underlying3 (hval 1 3 v1 rfl rfl) h1
  obtain ⟨sa2, sl2, sc2, rfl⟩ := okWide_slice Tryd.underlying60 (hval 2 60 v2 rfl rfl)
  obtain ⟨fu2, hf2⟩ := h2
  obtain ⟨vv2, L2, e2, hh2, qq2, ss2⟩ := openOpQ hf2
  simp [Value.cells] at e2
  subst e2
  have ba0 := bounds_i64 w0
  have ba1 := bounds_i64 w1
  clear hA0 hval0
  refine (walk a0 a1 (.slice sa2 sl2 sc2) L2 W ba0.1 ba0.2 ba1.1 ba1.2 hh2 qq2 ss2).mono fun e W' ⟨he, bel⟩ => ?_
  subst he
  exact ⟨_, rfl, _, _, _, [], _, [], hW', trodAll_mk1 (shut_bool Tryd.underlying4 _), (trodAll_cons_mk (Below.trod laidOut (by kernel_rfl) (of_decide_eq_true (by kernel_rfl)) k0 bel lt0) (trodAll_cons_mk (Below.trod laidOut (by kernel_rfl) (of_decide_eq_true (by kernel_rfl)) k1 bel lt1) (trodAll_cons_mk (Below.trod laidOut (by kernel_rfl) (of_decide_eq_true (by kernel_rfl)) k2 bel lt2) trodAll_mk0))), rfl, bel.frame _, fun h => by cases h⟩

theorem over : Rows.querierQuietRow.holds Tryd.pinned (OpenSpec.ofChange Rows.querierQuietSpec) :=
  OpenClaim.holds_of_wide 7 Tryd.f7 rfl rfl rfl rfl rfl rfl rfl ⟨rfl, rfl, rfl, rfl, rfl⟩ rfl rfl rfl rfl rfl (by kernel_rfl) Tryd.func7 (by kernel_rfl)
    (of_decide_eq_true (by kernel_rfl)) (by unfold Func.isWrapper; first | (rw [if_pos (by decide +kernel)]; kernel_rfl) | (rw [if_neg (by decide +kernel)]; exact ⟨rfl, rfl⟩))
    (fun os started H enc _ => lifted os started H enc)

/-- The statement: the tied card. -/
theorem proved : Rows.QuerierQuietCardSaid :=
  Claim7.holds_tied_plain_at .later [] [.data, .pinned] true _ false over (fun _ h => by cases h) (by kernel_rfl) (fun _ h => by cases h) querierQuiet_row_tie rfl ⟨rfl, rfl⟩ (by kernel_rfl) rfl
    (fun f fn hf hfn => by
      obtain rfl : f = 7 := Option.some.inj ((show Tryd.prog.funcNamed "siphon/siphonlaw20.QuerierQuiet" = some 7 by kernel_rfl).symm.trans hf) |>.symm
      obtain rfl : fn = Tryd.f7 := (Option.some.inj (Tryd.func7.symm.trans hfn)).symm
      exact ⟨by kernel_rfl, fun j t ht => by
        rw [Tryd.params7] at ht
        have hm : t ∈ [3, 3, 60] := by simpa using Array.mem_of_getElem? ht
        have hall : ([3, 3, 60].all fun u => !Tryd.prog.wantsStandIn u) = true := by kernel_rfl
        exact (show Tryd.prog.wantsStandIn t = false by simpa using List.all_eq_true.1 hall t hm)⟩)
    (by kernel_rfl)
#print axioms proved
end Go.Proofs.YtlpcndmblnpjmaaDoor.querierQuietLaw
