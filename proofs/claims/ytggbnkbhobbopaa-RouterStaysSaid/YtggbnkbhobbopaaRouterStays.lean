/-
  'siphonlaw19.RouterStays' returns true, whatever the input, and each argument reads behind the call as it read before. Conditions: none beyond those that the row itself states.
-/
import Derived.Test.YtggbnkbhobbopaaRows
import Derived.Test.YtggbnkbhobbopaaRtN
import Derived.Test.YtggbnkbhobbopaaRowOpR
import Derived.Test.YtggbnkbhobbopaaHld
import Derived.WalkKit
import Derived.ProofKit
import Derived.OpenShut
import Derived.ShutString
import Derived.ChangeOld
import Derived.Below
import Derived.Carry
import Derived.SizedLaws
import Derived.Lib.SmallJoins
import Derived.ChangeArms
import Derived.WideShapes
namespace Go.Proofs.Ytggbnkbhobbopaa.routerStaysLaw
open Go.ChangeShapes Go.WideShapes Go.ChangeAt Go.RowKit Go.Joins
open Go.ChangeMaps (open_string shut_string)
set_option linter.unusedVariables false

theorem list4 {α : Type} (l : List α) (h : l.length = 4) : ∃ x0 x1 x2 x3 : α, l = [x0, x1, x2, x3] := by
  match l, h with
  | [x0, x1, x2, x3], _ => exact ⟨x0, x1, x2, x3, rfl⟩

theorem lstP_len (F : List MB.T3) (L : List T3) (age now v : Int) : (lstP F L age now v).length ≤ 32 := by
  unfold lstP risI
  have h1 := Lib.compact_length_le (srtI (gat (fixB F v) 16 ++ gat (heardB L age now v) 16))
  rw [srtI_len, List.length_append] at h1
  have h2 := gat_len (fixB F v) 16
  have h3 := gat_len (heardB L age now v) 16
  omega
theorem stays {v port : Int} (h : okP v port = true) (L : List T3) (age now : Int) : hasB (lstP (MB.putT [] (litP v port) true) L age now v) port = true := by
  obtain ⟨h1, h2, h3, h4⟩ := okP_iff.1 h
  obtain ⟨i, rfl⟩ : ∃ i : Nat, port = i := ⟨port.toNat, by omega⟩
  rw [hasB_iff, lstP_mem]
  exact ⟨i, by omega, .inl (by rw [fix_one (okP_wf h) i (okP_wf h)]; exact decide_eq_true ⟨rfl, rfl⟩), rfl⟩
theorem tells {F : List MB.T3} {L : List T3} {v port age t : Int} (h : okP v port = true) : hasB (lstP F (putT L (litP v port) t) age (t + age - 1) v) port = true := by
  obtain ⟨h1, h2, h3, h4⟩ := okP_iff.1 h
  obtain ⟨i, rfl⟩ : ∃ i : Nat, port = i := ⟨port.toNat, by omega⟩
  rw [hasB_iff, lstP_mem]
  refine ⟨i, by omega, .inr ?_, rfl⟩
  rw [heard_put i (okP_wf h) rfl, decide_eq_false (by omega)]
  rfl
theorem ends {L : List T3} {v port v' port' age t : Int} (h : okP v port = true) (h' : okP v' port' = true) (hne : v' ≠ v ∨ port' ≠ port) : hasB (lstP (MB.putT [] (litP v port) true) (putT L (litP v' port') t) age (t + age) v') port' = false := by
  obtain ⟨h1, h2, h3, h4⟩ := okP_iff.1 h'
  obtain ⟨i, rfl⟩ : ∃ i : Nat, port' = i := ⟨port'.toNat, by omega⟩
  rw [Bool.eq_false_iff, ne_eq, hasB_iff, lstP_mem]
  rintro ⟨j, hj, h5 | h5, e⟩
  · have e : j = i := by omega
    subst e
    rw [fix_one (okP_wf h) j (okP_wf h'), decide_eq_true_iff] at h5
    rcases hne with h6 | h6
    · exact h6 h5.1.symm
    · exact h6 h5.2.symm
  · have e : j = i := by omega
    subst e
    rw [heard_put j (okP_wf h') rfl, decide_eq_true (Int.le_refl _)] at h5
    cases h5

set_option maxHeartbeats 16000000 in
set_option maxRecDepth 100000 in
theorem walk (a0_0 : Int) (a0_1 : Int) (a0_2 : Int) (a0_3 : Value) (la0_3 : List OpR) (w : World) (la0_0 : -9223372036854775808 ≤ a0_0) (ua0_0 : a0_0 ≤ 9223372036854775807) (la0_1 : -9223372036854775808 ≤ a0_1) (ua0_1 : a0_1 ≤ 9223372036854775807) (la0_2 : -9223372036854775808 ≤ a0_2) (ua0_2 : a0_2 ≤ 9223372036854775807) (ha0_3 : RowsAt 4 cellsOpR w a0_3 la0_3) (qa0_3 : la0_3.length ≤ maxLen) (sa0_3 : ∀ r ∈ la0_3, GoodOpR r) :
    Calls Try.prog 4 #[.agg #[.int .i64 a0_0, .int .i64 a0_1, .int .i64 a0_2, a0_3]] w fun e w' => e = .returned (.bool true) ∧ Below w.heap.size w w' := by
  have HS := Lib.hid sa0_3
  obtain ⟨p, cap, b, off, rfl, hp, hc⟩ := ha0_3
  have HP := Lib.hid hp
  have HC := Lib.hid hc
  obtain ⟨n, hn⟩ : ∃ n, n = la0_3.length := ⟨_, rfl⟩
  have HNN := Lib.hid hn
  rw [← hn] at qa0_3 ⊢
  have hnb : n ≤ 9223372036854775807 := qa0_3
  clear hp hc hn sa0_3 qa0_3
  have HL := Lib.hid fun U => live19_c U
  have HB0 := Lib.hid ((Below.refl w.heap.size w).alloc (Nat.le_refl _) (.cells #[.int .i64 a0_0, .int .i64 a0_1, .int .i64 a0_2, .slice p n cap] 37))
  have HE := Lib.hid (heap_new w (.cells #[.int .i64 a0_0, .int .i64 a0_1, .int .i64 a0_2, .slice p n cap] 37))
  have x0 : (w.alloc (.cells #[.int .i64 a0_0, .int .i64 a0_1, .int .i64 a0_2, .slice p n cap] 37)).cell? ⟨w.heap.size, 0, none⟩ = some (.int .i64 a0_0) := cell_of_block HE.out rfl
  have x1 : (w.alloc (.cells #[.int .i64 a0_0, .int .i64 a0_1, .int .i64 a0_2, .slice p n cap] 37)).cell? ⟨w.heap.size, 1, none⟩ = some (.int .i64 a0_1) := cell_of_block HE.out rfl
  have x2 : (w.alloc (.cells #[.int .i64 a0_0, .int .i64 a0_1, .int .i64 a0_2, .slice p n cap] 37)).cell? ⟨w.heap.size, 2, none⟩ = some (.int .i64 a0_2) := cell_of_block HE.out rfl
  have x3 : (w.alloc (.cells #[.int .i64 a0_0, .int .i64 a0_1, .int .i64 a0_2, .slice p n cap] 37)).cell? ⟨w.heap.size, 3, none⟩ = some (.slice p n cap) := cell_of_block HE.out rfl
  go_enter Try.func4, Try.ntmps4
  go_upto_region 1 with fail
  generalize w.alloc (.cells #[.int .i64 a0_0, .int .i64 a0_1, .int .i64 a0_2, .slice p n cap] 37) = W at HB0 HE x0 x1 x2 x3 ⊢
  go_region
  have HB := Lib.hid HB0.out.drew
  clear x0 x1 x2 x3 HB0 HE
  generalize W.drew = W1 at HB ⊢
  by_cases c1 : a0_0 < 1 ∨ 1000000 < a0_0
  · have N1 := Lib.hid fun U => new_no a0_0 c1 U
    clear c1
    go_wp2_with fail
    ((with_reducible refine (N1.out _).mono ?_); rintro e w1 ⟨rfl, h9⟩; replace h9 := h9.symm; subst h9)
    go_wp2_with fail
    ((with_reducible refine (HL.out _).mono ?_); rintro e w2 ⟨rfl, h2⟩)
    go_wp2_with fail
    go_ret
    exact ⟨rfl, k_call HB.out h2⟩
  · have N1 := Lib.hid fun U => new_ok a0_0 (by omega) (by omega) U
    have a1 : 1 ≤ a0_0 := by omega
    have a2 : a0_0 ≤ 1000000 := by omega
    have HA := Lib.hid (show a0_0 ≠ 0 by omega)
    clear c1
    go_wp2_with fail
    ((with_reducible refine (N1.out _).mono ?_); rintro e w1 ⟨q, fb, hb, rfl, h1, hf, hh, b1⟩)
    have HF := Lib.hid (And.intro (Nat.le_trans HB.out.size hf) (Nat.le_trans HB.out.size hh))
    have H1 := Lib.hid h1
    have B1 := Lib.hid (k_call HB.out b1)
    clear hf hh h1 b1 N1 HB
    rcases Bool.eq_false_or_eq_true (okP a0_1 a0_2) with ok | ok
    · have C1 := Lib.hid (fix_yes H1.out HA.out a0_1 a0_2 ok (by decide))
      have OK := Lib.hid ok
      clear ok
      go_wp2_with fail
      ((with_reducible refine C1.out.mono ?_); rintro e w3 ⟨rfl, h3, k3⟩)
      have H3 := Lib.hid h3
      have B3 := Lib.hid (B1.out.trans (k3.below HF.out.1 HF.out.2 B1.out.size))
      clear h3 k3 C1 H1 B1
      go_wp2_with fail
      go_loopw [10] (fun i wr => ∃ (k : Nat) (L : List T3), k ≤ n ∧ i = .int .i64 k ∧ Hid (HasP wr q fb hb a0_0 (MB.putT [] (litP a0_1 a0_2) true) L) ∧ Hid (GoodL L) ∧ Hid (L.length ≤ k ∧ k ≤ 60) ∧ Hid (Below w.heap.size w wr)) (fun i _ => n - (intOf i).toNat)
      case atStart => exact ⟨0, [], Nat.zero_le _, rfl, H3, Lib.hid (fun x hx => by cases hx), Lib.hid ⟨Nat.le_refl _, by omega⟩, B3⟩
      case round =>
        clear H3 B3
        obtain ⟨k, L, hk, rfl, HH, HG, HLn, KB⟩ := hrel
        by_cases hlt : k < n
        · by_cases h60 : k < 60
          · obtain ⟨x, hx⟩ : ∃ x, la0_3[k]? = some x := ⟨_, List.getElem?_eq_getElem (by rw [← HNN.out]; exact hlt)⟩
            have hne : la0_3 ≠ [] := by rintro rfl; simp at hx
            obtain rfl := HP.out hne
            have hgood := HS.out x (List.mem_of_getElem? hx)
            have x0 : wr.cell? ⟨b, off + k * 4, none⟩ = some (.int .i64 x.1) := gcell_below KB.out (HC.out k _ hx 0 _ rfl)
            have x1 : wr.cell? ⟨b, off + k * 4 + 1, none⟩ = some (.int .i64 x.2.1) := gcell_below KB.out (HC.out k _ hx 1 _ rfl)
            have x2 : wr.cell? ⟨b, off + k * 4 + 2, none⟩ = some (.int .i64 x.2.2.1) := gcell_below KB.out (HC.out k _ hx 2 _ rfl)
            have x3 : wr.cell? ⟨b, off + k * 4 + 3, none⟩ = some (.int .i64 x.2.2.2) := gcell_below KB.out (HC.out k _ hx 3 _ rfl)
            have gv := Lib.hid hgood.2.1
            generalize x.1 = xd at x0
            generalize x.2.1 = xv at x1 gv
            generalize x.2.2.1 = xp at x2
            generalize x.2.2.2 = xn at x3
            have d1 : decide (k < n) = true := decide_eq_true hlt
            have d2 : decide ((k : Int) < (n : Int)) = true := decide_eq_true (by omega)
            have d3 : decide (n ≤ k) = false := decide_eq_false (by omega)
            have d4 : decide (0 ≤ (k : Int)) = true := decide_eq_true (by omega)
            have d5 : decide ((k : Int) < 60) = true := decide_eq_true (by omega)
            clear hx hne hgood
            go_upto_region 14 with fail
            have HE1 := Lib.hid (heap_new wr (.cells #[.int .i64 xd, .int .i64 xv, .int .i64 xp, .int .i64 xn] 23))
            have KB1 := Lib.hid (KB.out.alloc KB.out.size (.cells #[.int .i64 xd, .int .i64 xv, .int .i64 xp, .int .i64 xn] 23))
            have HH1 := Lib.hid (HH.out.below ((Below.refl _ wr).alloc (Nat.le_refl _) (.cells #[.int .i64 xd, .int .i64 xv, .int .i64 xp, .int .i64 xn] 23)))
            have hqe := Lib.hid (show wr.heap.size ≠ fb ∧ wr.heap.size ≠ hb from ⟨fun e => by have := HH.out.fix.lt; omega, fun e => by have := HH.out.heard.lt; omega⟩)
            clear x0 x1 x2 x3 HH KB
            generalize wr.alloc (.cells #[.int .i64 xd, .int .i64 xv, .int .i64 xp, .int .i64 xn] 23) = W2 at HE1 KB1 HH1 ⊢
            generalize wr.heap.size = eb at HE1 hqe ⊢
            have e0 : W2.cell? ⟨eb, 0, none⟩ = some (.int .i64 xd) := cell_of_block HE1.out rfl
            have e1 : W2.cell? ⟨eb, 1, none⟩ = some (.int .i64 xv) := cell_of_block HE1.out rfl
            have e2 : W2.cell? ⟨eb, 2, none⟩ = some (.int .i64 xp) := cell_of_block HE1.out rfl
            have e3 : W2.cell? ⟨eb, 3, none⟩ = some (.int .i64 xn) := cell_of_block HE1.out rfl
            by_cases q1 : xd = 1
            · obtain ⟨g1, g2⟩ := eq_t q1
              clear q1
              rcases Bool.eq_false_or_eq_true (okP xv xp && okN xn) with sk | sk
              · have C2 := Lib.hid (seen_yes HH1.out HA.out xv xp xn sk (by have := HLn.out; omega))
                rw [Bool.and_eq_true] at sk
                have OKX := Lib.hid sk.1
                have hN := sk.2
                unfold okN at hN
                rw [Bool.and_eq_true, decide_eq_true_iff, decide_eq_true_iff] at hN
                obtain ⟨xn1, xn2⟩ := hN
                clear sk
                go_wp2_with fail
                ((with_reducible refine C2.out.mono ?_); rintro e w4 ⟨rfl, h4, k4⟩)
                have H4 := Lib.hid h4
                have KB4 := Lib.hid (KB1.out.trans (k4.below HF.out.1 HF.out.2 KB1.out.size))
                have HE4 := Lib.hid (show w4.heap[eb]? = _ from (k4.block eb (lt_of_block HE1.out) hqe.out.1 hqe.out.2).trans HE1.out)
                have G4 := Lib.hid (GoodL.put HG.out (litP xv xp) xn1 xn2)
                have L4 := Lib.hid (show (putT L (litP xv xp) xn).length ≤ k + 1 ∧ k + 1 ≤ 60 from ⟨Nat.le_trans (put_len L _ _) (by have := HLn.out.1; omega), by omega⟩)
                clear h4 k4 C2 HH1 KB1 HE1 e0 e1 e2 e3 HG
                have IT1 := Lib.hid (tells (F := MB.putT [] (litP a0_1 a0_2) true) (L := L) (age := a0_0) (t := xn) OKX.out)
                have IT2 := Lib.hid (fun hne => ends (L := L) (age := a0_0) (t := xn) OK.out OKX.out hne)
                generalize putT L (litP xv xp) xn = L2 at H4 G4 L4 IT1 IT2
                have LC1 := Lib.hid (fun U (kk : Below w4.heap.size w4 U) => list_c (H4.out.below kk) a1 a2 G4.out xv (xn + a0_0 - 1) gv.out.1 gv.out.2)
                have LC2 := Lib.hid (fun U (kk : Below w4.heap.size w4 U) => list_c (H4.out.below kk) a1 a2 G4.out xv (xn + a0_0) gv.out.1 gv.out.2)
                have IL1 := Lib.hid (Nat.le_trans (lstP_len (MB.putT [] (litP a0_1 a0_2) true) L2 a0_0 (xn + a0_0 - 1) xv) (show 32 ≤ 9223372036854775807 by decide))
                have IL2 := Lib.hid (Nat.le_trans (lstP_len (MB.putT [] (litP a0_1 a0_2) true) L2 a0_0 (xn + a0_0) xv) (show 32 ≤ 9223372036854775807 by decide))
                generalize lstP (MB.putT [] (litP a0_1 a0_2) true) L2 a0_0 (xn + a0_0 - 1) xv = l1 at LC1 IT1 IL1
                generalize lstP (MB.putT [] (litP a0_1 a0_2) true) L2 a0_0 (xn + a0_0) xv = l2 at LC2 IT2 IL2
                have RC1 := Lib.hid (fun u U (i : IntsAt U u l1) => show Calls Try.prog 12 #[u, .int .i64 xp] U fun e w' => e = .returned (.bool true) ∧ U = w' from by rw [← IT1.out]; exact rhas_c u l1 xp U IL1.out i)
                have RC2 := Lib.hid (fun hne u U (i : IntsAt U u l2) => show Calls Try.prog 12 #[u, .int .i64 xp] U fun e w' => e = .returned (.bool false) ∧ U = w' from by rw [← IT2.out hne]; exact rhas_c u l2 xp U IL2.out i)
                have KF := Lib.hid (show ∀ U, Below w4.heap.size w4 U → (U.cell? ⟨eb, 1, none⟩ = some (.int .i64 xv) ∧ U.cell? ⟨eb, 2, none⟩ = some (.int .i64 xp) ∧ U.cell? ⟨eb, 3, none⟩ = some (.int .i64 xn) ∧ Below w4.heap.size w4 U) from fun U kk => ⟨cell_of_block (below_block kk (lt_of_block HE4.out) HE4.out) rfl, cell_of_block (below_block kk (lt_of_block HE4.out) HE4.out) rfl, cell_of_block (below_block kk (lt_of_block HE4.out) HE4.out) rfl, kk⟩)
                have k0 := Below.refl w4.heap.size w4
                have hw1 : IntKind.i64.wrap (xn + a0_0) = xn + a0_0 := IntWalk.i64_in _ (by omega)
                have hw2 : IntKind.i64.wrap (xn + a0_0 - 1) = xn + a0_0 - 1 := IntWalk.i64_in _ (by omega)
                have y1 := (KF.out _ k0).1
                have y2 := (KF.out _ k0).2.1
                have y3 := (KF.out _ k0).2.2.1
                go_upto_region 17 with fail
                go_region_held3 (fun U => U.cell? ⟨eb, 1, none⟩ = some (.int .i64 xv) ∧ U.cell? ⟨eb, 2, none⟩ = some (.int .i64 xp) ∧ U.cell? ⟨eb, 3, none⟩ = some (.int .i64 xn) ∧ Below w4.heap.size w4 U)
                  (first | with_reducible exact KF.out _ k5 | with_reducible exact KF.out _ k0.drew)
                  (first
                    | (go_at_call 8; (with_reducible refine (LC1.out _ k0.drew).mono ?_); rintro e w5 ⟨u5, rfl, i5, h5⟩; have k5 := k_call k0.drew h5)
                    | (go_at_call 12; (with_reducible refine (RC1.out _ _ i5).mono ?_); rintro e w6 ⟨rfl, h6⟩; subst h6))
                rename_i hh
                clear hh y1 y2 y3
                have z1 := (KF.out _ k5).1
                have z2 := (KF.out _ k5).2.1
                have z3 := (KF.out _ k5).2.2.1
                by_cases q4 : xv = a0_1
                · obtain ⟨j1, j2⟩ := eq_t q4
                  by_cases q5 : xp = a0_2
                  · obtain ⟨j3, j4⟩ := eq_t q5
                    clear q4 q5
                    go_upto_region 20 with fail
                    go_quiet (fail)
                    have k7 := below_drewN k5 nq
                    clear z1 z2
                    have HX := Lib.hid (H4.out.below k7)
                    have KX := Lib.hid (k_call KB4.out k7)
                    have HEX := Lib.hid (below_block k7 (lt_of_block HE4.out) HE4.out)
                    have LC := list_c HX.out a1 a2 G4.out a0_1 xn la0_1 ua0_1
                    have IT := Lib.hid (stays OK.out L2 a0_0 xn)
                    have IL := Lib.hid (Nat.le_trans (lstP_len (MB.putT [] (litP a0_1 a0_2) true) L2 a0_0 xn a0_1) (show 32 ≤ 9223372036854775807 by decide))
                    generalize lstP (MB.putT [] (litP a0_1 a0_2) true) L2 a0_0 xn a0_1 = ll at LC IT IL
                    replace LC := Lib.hid LC
                    have y3 : (w5.drewN nq).cell? ⟨eb, 3, none⟩ = some (.int .i64 xn) := cell_of_block HEX.out rfl
                    go_wp2_with fail
                    ((with_reducible refine LC.out.mono ?_); rintro e w8 ⟨u8, rfl, i8, k8⟩)
                    have HZ := Lib.hid (HX.out.below k8)
                    have KZ := Lib.hid (k_call KX.out k8)
                    have RC := rhas_c u8 ll a0_2 w8 IL.out i8
                    rw [IT.out] at RC
                    replace RC := Lib.hid RC
                    clear y3 i8 k8 LC
                    go_wp2_with fail
                    ((with_reducible refine RC.out.mono ?_); rintro e w9 ⟨rfl, h9⟩; subst h9)
                    go_wp2_with fail
                    go_roundw
                    case rel => exact ⟨k + 1, L2, by omega, by go_num, HZ, G4, L4, KZ⟩
                    case measure => simp [intOf]; omega
                  · obtain ⟨j3, j4⟩ := ne_t q5
                    have NE := Lib.hid (show xv ≠ a0_1 ∨ xp ≠ a0_2 from .inr q5)
                    clear q4 q5
                    have RC3 := Lib.hid (RC2.out (NE.out))
                    go_upto_region 20 with fail
                    go_region_held3 (fun U => U.cell? ⟨eb, 1, none⟩ = some (.int .i64 xv) ∧ U.cell? ⟨eb, 2, none⟩ = some (.int .i64 xp) ∧ U.cell? ⟨eb, 3, none⟩ = some (.int .i64 xn) ∧ Below w4.heap.size w4 U)
                      (first | with_reducible exact KF.out _ k7 | with_reducible exact KF.out _ k5.drew)
                      (first
                        | (go_at_call 8; (with_reducible refine (LC2.out _ k5.drew).mono ?_); rintro e w7 ⟨u7, rfl, i7, h7⟩; have k7 := k_call k5.drew h7)
                        | (go_at_call 12; (with_reducible refine (RC3.out _ _ i7).mono ?_); rintro e w8 ⟨rfl, h8⟩; subst h8))
                    rename_i hh7
                    clear hh7 z1 z2 z3
                    have HX := Lib.hid (H4.out.below k7)
                    have KX := Lib.hid (k_call KB4.out k7)
                    have HEX := Lib.hid (below_block k7 (lt_of_block HE4.out) HE4.out)
                    have LC := list_c HX.out a1 a2 G4.out a0_1 xn la0_1 ua0_1
                    have IT := Lib.hid (stays OK.out L2 a0_0 xn)
                    have IL := Lib.hid (Nat.le_trans (lstP_len (MB.putT [] (litP a0_1 a0_2) true) L2 a0_0 xn a0_1) (show 32 ≤ 9223372036854775807 by decide))
                    generalize lstP (MB.putT [] (litP a0_1 a0_2) true) L2 a0_0 xn a0_1 = ll at LC IT IL
                    replace LC := Lib.hid LC
                    have y3 : w7.cell? ⟨eb, 3, none⟩ = some (.int .i64 xn) := cell_of_block HEX.out rfl
                    go_wp2_with fail
                    ((with_reducible refine LC.out.mono ?_); rintro e w8 ⟨u8, rfl, i8, k8⟩)
                    have HZ := Lib.hid (HX.out.below k8)
                    have KZ := Lib.hid (k_call KX.out k8)
                    have RC := rhas_c u8 ll a0_2 w8 IL.out i8
                    rw [IT.out] at RC
                    replace RC := Lib.hid RC
                    clear y3 i8 k8 LC
                    go_wp2_with fail
                    ((with_reducible refine RC.out.mono ?_); rintro e w9 ⟨rfl, h9⟩; subst h9)
                    go_wp2_with fail
                    go_roundw
                    case rel => exact ⟨k + 1, L2, by omega, by go_num, HZ, G4, L4, KZ⟩
                    case measure => simp [intOf]; omega
                · obtain ⟨j1, j2⟩ := ne_t q4
                  have NE := Lib.hid (show xv ≠ a0_1 ∨ xp ≠ a0_2 from .inl q4)
                  clear q4
                  have RC3 := Lib.hid (RC2.out (NE.out))
                  go_upto_region 20 with fail
                  go_region_held3 (fun U => U.cell? ⟨eb, 1, none⟩ = some (.int .i64 xv) ∧ U.cell? ⟨eb, 2, none⟩ = some (.int .i64 xp) ∧ U.cell? ⟨eb, 3, none⟩ = some (.int .i64 xn) ∧ Below w4.heap.size w4 U)
                    (first | with_reducible exact KF.out _ k7 | with_reducible exact KF.out _ k5.drew)
                    (first
                      | (go_at_call 8; (with_reducible refine (LC2.out _ k5.drew).mono ?_); rintro e w7 ⟨u7, rfl, i7, h7⟩; have k7 := k_call k5.drew h7)
                      | (go_at_call 12; (with_reducible refine (RC3.out _ _ i7).mono ?_); rintro e w8 ⟨rfl, h8⟩; subst h8))
                  rename_i hh7
                  clear hh7 z1 z2 z3
                  have HX := Lib.hid (H4.out.below k7)
                  have KX := Lib.hid (k_call KB4.out k7)
                  have HEX := Lib.hid (below_block k7 (lt_of_block HE4.out) HE4.out)
                  have LC := list_c HX.out a1 a2 G4.out a0_1 xn la0_1 ua0_1
                  have IT := Lib.hid (stays OK.out L2 a0_0 xn)
                  have IL := Lib.hid (Nat.le_trans (lstP_len (MB.putT [] (litP a0_1 a0_2) true) L2 a0_0 xn a0_1) (show 32 ≤ 9223372036854775807 by decide))
                  generalize lstP (MB.putT [] (litP a0_1 a0_2) true) L2 a0_0 xn a0_1 = ll at LC IT IL
                  replace LC := Lib.hid LC
                  have y3 : w7.cell? ⟨eb, 3, none⟩ = some (.int .i64 xn) := cell_of_block HEX.out rfl
                  go_wp2_with fail
                  ((with_reducible refine LC.out.mono ?_); rintro e w8 ⟨u8, rfl, i8, k8⟩)
                  have HZ := Lib.hid (HX.out.below k8)
                  have KZ := Lib.hid (k_call KX.out k8)
                  have RC := rhas_c u8 ll a0_2 w8 IL.out i8
                  rw [IT.out] at RC
                  replace RC := Lib.hid RC
                  clear y3 i8 k8 LC
                  go_wp2_with fail
                  ((with_reducible refine RC.out.mono ?_); rintro e w9 ⟨rfl, h9⟩; subst h9)
                  go_wp2_with fail
                  go_roundw
                  case rel => exact ⟨k + 1, L2, by omega, by go_num, HZ, G4, L4, KZ⟩
                  case measure => simp [intOf]; omega
              · have C2 := Lib.hid (seen_no HH1.out HA.out xv xp xn sk)
                clear sk
                go_wp2_with fail
                ((with_reducible refine C2.out.mono ?_); rintro e w4 ⟨rfl, h9⟩; replace h9 := h9.symm; subst h9)
                have LL2 := Lib.hid (show L.length ≤ k + 1 ∧ k + 1 ≤ 60 from ⟨Nat.le_trans HLn.out.1 (by omega), by omega⟩)
                have LC := list_c HH1.out a1 a2 HG.out a0_1 xn la0_1 ua0_1
                have IT := Lib.hid (stays OK.out L a0_0 xn)
                have IL := Lib.hid (Nat.le_trans (lstP_len (MB.putT [] (litP a0_1 a0_2) true) L a0_0 xn a0_1) (show 32 ≤ 9223372036854775807 by decide))
                generalize lstP (MB.putT [] (litP a0_1 a0_2) true) L a0_0 xn a0_1 = ll at LC IT IL
                replace LC := Lib.hid LC
                have y3 : W2.cell? ⟨eb, 3, none⟩ = some (.int .i64 xn) := cell_of_block HE1.out rfl
                go_wp2_with fail
                ((with_reducible refine LC.out.mono ?_); rintro e w8 ⟨u8, rfl, i8, k8⟩)
                have HZ := Lib.hid (HH1.out.below k8)
                have KZ := Lib.hid (k_call KB1.out k8)
                have RC := rhas_c u8 ll a0_2 w8 IL.out i8
                rw [IT.out] at RC
                replace RC := Lib.hid RC
                clear y3 i8 k8 LC
                go_wp2_with fail
                ((with_reducible refine RC.out.mono ?_); rintro e w9 ⟨rfl, h9⟩; subst h9)
                go_wp2_with fail
                go_roundw
                case rel => exact ⟨k + 1, L, by omega, by go_num, HZ, HG, LL2, KZ⟩
                case measure => simp [intOf]; omega
            · obtain ⟨g1, g2⟩ := ne_t q1
              by_cases q2 : xd = 2
              · obtain ⟨g3, g4⟩ := eq_t q2
                have C2 := Lib.hid (drop_c HH1.out HG.out (by have := HLn.out; omega) xp)
                clear q1 q2
                go_wp2_with fail
                ((with_reducible refine C2.out.mono ?_); rintro e w4 ⟨n4, M, rfl, h4, hm4, hl4, k4⟩)
                have H4 := Lib.hid h4
                have KB4 := Lib.hid (KB1.out.trans (k4.below HF.out.1 HF.out.2 KB1.out.size))
                have HE4 := Lib.hid (show w4.heap[eb]? = _ from (k4.block eb (lt_of_block HE1.out) hqe.out.1 hqe.out.2).trans HE1.out)
                have G4 := Lib.hid (show GoodL M from fun x hx => HG.out x (hm4 x hx))
                have LL2 := Lib.hid (show M.length ≤ k + 1 ∧ k + 1 ≤ 60 from ⟨Nat.le_trans hl4 (Nat.le_trans HLn.out.1 (by omega)), by omega⟩)
                clear h4 hm4 hl4 k4 C2 HH1 KB1 HE1 e0 e1 e2 e3
                have LC := list_c H4.out a1 a2 G4.out a0_1 xn la0_1 ua0_1
                have IT := Lib.hid (stays OK.out M a0_0 xn)
                have IL := Lib.hid (Nat.le_trans (lstP_len (MB.putT [] (litP a0_1 a0_2) true) M a0_0 xn a0_1) (show 32 ≤ 9223372036854775807 by decide))
                generalize lstP (MB.putT [] (litP a0_1 a0_2) true) M a0_0 xn a0_1 = ll at LC IT IL
                replace LC := Lib.hid LC
                have y3 : w4.cell? ⟨eb, 3, none⟩ = some (.int .i64 xn) := cell_of_block HE4.out rfl
                go_wp2_with fail
                ((with_reducible refine LC.out.mono ?_); rintro e w8 ⟨u8, rfl, i8, k8⟩)
                have HZ := Lib.hid (H4.out.below k8)
                have KZ := Lib.hid (k_call KB4.out k8)
                have RC := rhas_c u8 ll a0_2 w8 IL.out i8
                rw [IT.out] at RC
                replace RC := Lib.hid RC
                clear y3 i8 k8 LC
                go_wp2_with fail
                ((with_reducible refine RC.out.mono ?_); rintro e w9 ⟨rfl, h9⟩; subst h9)
                go_wp2_with fail
                go_roundw
                case rel => exact ⟨k + 1, M, by omega, by go_num, HZ, G4, LL2, KZ⟩
                case measure => simp [intOf]; omega
              · obtain ⟨g3, g4⟩ := ne_t q2
                by_cases q3 : xd = 3
                · obtain ⟨g5, g6⟩ := eq_t q3
                  have C2 := Lib.hid (exp_c HH1.out a1 a2 HG.out (by have := HLn.out; omega) xn)
                  clear q1 q2 q3
                  go_wp2_with fail
                  ((with_reducible refine C2.out.mono ?_); rintro e w4 ⟨n4, M, rfl, h4, hm4, hl4, k4⟩)
                  have H4 := Lib.hid h4
                  have KB4 := Lib.hid (KB1.out.trans (k4.below HF.out.1 HF.out.2 KB1.out.size))
                  have HE4 := Lib.hid (show w4.heap[eb]? = _ from (k4.block eb (lt_of_block HE1.out) hqe.out.1 hqe.out.2).trans HE1.out)
                  have G4 := Lib.hid (show GoodL M from fun x hx => HG.out x (hm4 x hx))
                  have LL2 := Lib.hid (show M.length ≤ k + 1 ∧ k + 1 ≤ 60 from ⟨Nat.le_trans hl4 (Nat.le_trans HLn.out.1 (by omega)), by omega⟩)
                  clear h4 hm4 hl4 k4 C2 HH1 KB1 HE1 e0 e1 e2 e3
                  have LC := list_c H4.out a1 a2 G4.out a0_1 xn la0_1 ua0_1
                  have IT := Lib.hid (stays OK.out M a0_0 xn)
                  have IL := Lib.hid (Nat.le_trans (lstP_len (MB.putT [] (litP a0_1 a0_2) true) M a0_0 xn a0_1) (show 32 ≤ 9223372036854775807 by decide))
                  generalize lstP (MB.putT [] (litP a0_1 a0_2) true) M a0_0 xn a0_1 = ll at LC IT IL
                  replace LC := Lib.hid LC
                  have y3 : w4.cell? ⟨eb, 3, none⟩ = some (.int .i64 xn) := cell_of_block HE4.out rfl
                  go_wp2_with fail
                  ((with_reducible refine LC.out.mono ?_); rintro e w8 ⟨u8, rfl, i8, k8⟩)
                  have HZ := Lib.hid (H4.out.below k8)
                  have KZ := Lib.hid (k_call KB4.out k8)
                  have RC := rhas_c u8 ll a0_2 w8 IL.out i8
                  rw [IT.out] at RC
                  replace RC := Lib.hid RC
                  clear y3 i8 k8 LC
                  go_wp2_with fail
                  ((with_reducible refine RC.out.mono ?_); rintro e w9 ⟨rfl, h9⟩; subst h9)
                  go_wp2_with fail
                  go_roundw
                  case rel => exact ⟨k + 1, M, by omega, by go_num, HZ, G4, LL2, KZ⟩
                  case measure => simp [intOf]; omega
                · obtain ⟨g5, g6⟩ := ne_t q3
                  clear q1 q2 q3
                  have LL2 := Lib.hid (show L.length ≤ k + 1 ∧ k + 1 ≤ 60 from ⟨Nat.le_trans HLn.out.1 (by omega), by omega⟩)
                  have LC := list_c HH1.out a1 a2 HG.out a0_1 xn la0_1 ua0_1
                  have IT := Lib.hid (stays OK.out L a0_0 xn)
                  have IL := Lib.hid (Nat.le_trans (lstP_len (MB.putT [] (litP a0_1 a0_2) true) L a0_0 xn a0_1) (show 32 ≤ 9223372036854775807 by decide))
                  generalize lstP (MB.putT [] (litP a0_1 a0_2) true) L a0_0 xn a0_1 = ll at LC IT IL
                  replace LC := Lib.hid LC
                  have y3 : W2.cell? ⟨eb, 3, none⟩ = some (.int .i64 xn) := cell_of_block HE1.out rfl
                  go_wp2_with fail
                  ((with_reducible refine LC.out.mono ?_); rintro e w8 ⟨u8, rfl, i8, k8⟩)
                  have HZ := Lib.hid (HH1.out.below k8)
                  have KZ := Lib.hid (k_call KB1.out k8)
                  have RC := rhas_c u8 ll a0_2 w8 IL.out i8
                  rw [IT.out] at RC
                  replace RC := Lib.hid RC
                  clear y3 i8 k8 LC
                  go_wp2_with fail
                  ((with_reducible refine RC.out.mono ?_); rintro e w9 ⟨rfl, h9⟩; subst h9)
                  go_wp2_with fail
                  go_roundw
                  case rel => exact ⟨k + 1, L, by omega, by go_num, HZ, HG, LL2, KZ⟩
                  case measure => simp [intOf]; omega
          · have d1 : decide (k < n) = true := decide_eq_true hlt
            have d2 : decide ((k : Int) < (n : Int)) = true := decide_eq_true (by omega)
            have d5 : decide ((k : Int) < 60) = false := decide_eq_false (by omega)
            clear hlt h60
            go_wp2_with fail
            ((with_reducible refine (HL.out _).mono ?_); rintro e w5 ⟨rfl, h5⟩)
            go_wp2_with fail
            go_ret
            exact ⟨rfl, k_call KB.out h5⟩
        · have d1 : decide (k < n) = false := decide_eq_false hlt
          have d2 : decide ((k : Int) < (n : Int)) = false := decide_eq_false (by omega)
          clear hlt
          go_wp2_with fail
          ((with_reducible refine (HL.out _).mono ?_); rintro e w5 ⟨rfl, h5⟩)
          go_wp2_with fail
          go_ret
          exact ⟨rfl, k_call KB.out h5⟩
    · have C1 := Lib.hid (fix_no H1.out HA.out a0_1 a0_2 ok)
      clear ok
      go_wp2_with fail
      ((with_reducible refine C1.out.mono ?_); rintro e w3 ⟨rfl, h9⟩; replace h9 := h9.symm; subst h9)
      go_wp2_with fail
      ((with_reducible refine (HL.out _).mono ?_); rintro e w5 ⟨rfl, h5⟩)
      go_wp2_with fail
      go_ret
      exact ⟨rfl, k_call B1.out h5⟩

theorem own : ownKnob Try.prog.godebug = none := by kernel_rfl
theorem laidOut : laidOutB Try.prog = true := by kernel_rfl

set_option maxHeartbeats 1000000 in
set_option maxRecDepth 100000 in
theorem lifted (os : Os) (started : os.Started) (H : Type) (enc : TypeId × Value → H) :
    ReturnsInHanded {} Try.checked os 4 .any (Rows.routerStaysSpec.pre6 enc Try.prog Try.f4 Rows.routerStaysRow.domain false) (Rows.routerStaysSpec.post enc Try.prog Try.f4 false true false false) := by
  refine returnsInHanded_of_change_sized (C := Try.checked) own started (by kernel_rfl) Try.func4
    (ChangeSpec.witness6 (enc := enc) (C := Try.checked) false ⟨#[], #[.agg #[.int .i64 0, .int .i64 0, .int .i64 0, .slice none 0 0]], []⟩ 8 (by kernel_rfl) (by kernel_rfl) (by kernel_rfl) (by kernel_rfl)) ?_
  intro W base args ds gs before hval0 hW hcnd hsz0 hholds
  have hval : ∀ (j : Nat) t v, Try.f4.params[j]? = some t → args[j]? = some v → Value.okWide Try.prog W .any base t v := hval0
  have hsz : (DataW.weightsEach Try.prog (Try.f4.params.toList ++ Rows.routerStaysSpec.plain.varTypes Try.prog) (ds ++ gs)).all (· ≤ reachBytes) = true := hsz0
  have hW' := hW
  obtain ⟨p, q, hA0, hV, rfl, hfz, hnd⟩ := hW
  have hA : DataW.TrodAll enc Try.prog W 0 (fun _ => true) true Try.f4.params.toList args.toList ds p := hA0
  rw [Try.params4] at hA hval hsz
  obtain ⟨v0, vs0, d0, ds0, p0, q0, hargs, rfl, rfl, h0, r0⟩ := trodAll_cons hA
  obtain ⟨rfl, rfl, rfl⟩ := trodAll_nil r0
  obtain rfl : args = #[v0] := by cases args; simp_all
  obtain ⟨rfl, rfl⟩ := trodVars_none hV
  have k0 := h0
  have lt0 : ∀ x ∈ p0, x.block < W.heap.size := by obtain ⟨m, hm⟩ := k0; exact DataW.trod_lt m _ _ _ hm
  obtain ⟨cs0, rfl, hz0⟩ := okWide_struct Try.underlying37 (hval 0 37 v0 rfl rfl)
  obtain ⟨l0⟩ := cs0
  obtain ⟨c0_0, c0_1, c0_2, c0_3, rfl⟩ := list4 l0 (hz0.trans (by kernel_rfl))
  obtain ⟨fu0, hf0⟩ := h0
  obtain ⟨xs0, m0, -, hx0, -, hn0, hg0⟩ := DataW.trod_struct Try.underlying37 hf0
  obtain ⟨y0_0, y0_1, y0_2, y0_3, rfl⟩ := list4 xs0 hn0
  simp only [Prod.mk.injEq] at hx0
  obtain ⟨rfl, rfl⟩ := hx0
  have g0_0 : DataW.trod enc Try.prog W 0 (fun _ => true) true m0 3 (List.take (Try.prog.cellsOf 3) (List.drop 0 [c0_0, c0_1, c0_2, c0_3])) = some y0_0 := hg0 0 _ rfl
  rw [show Try.prog.cellsOf 3 = 1 from by kernel_rfl] at g0_0
  replace g0_0 : DataW.trod enc Try.prog W 0 (fun _ => true) true m0 3 [c0_0] = some y0_0 := g0_0
  have g0_1 : DataW.trod enc Try.prog W 0 (fun _ => true) true m0 3 (List.take (Try.prog.cellsOf 3) (List.drop 1 [c0_0, c0_1, c0_2, c0_3])) = some y0_1 := hg0 1 _ rfl
  rw [show Try.prog.cellsOf 3 = 1 from by kernel_rfl] at g0_1
  replace g0_1 : DataW.trod enc Try.prog W 0 (fun _ => true) true m0 3 [c0_1] = some y0_1 := g0_1
  have g0_2 : DataW.trod enc Try.prog W 0 (fun _ => true) true m0 3 (List.take (Try.prog.cellsOf 3) (List.drop 2 [c0_0, c0_1, c0_2, c0_3])) = some y0_2 := hg0 2 _ rfl
  rw [show Try.prog.cellsOf 3 = 1 from by kernel_rfl] at g0_2
  replace g0_2 : DataW.trod enc Try.prog W 0 (fun _ => true) true m0 3 [c0_2] = some y0_2 := g0_2
  have g0_3 : DataW.trod enc Try.prog W 0 (fun _ => true) true m0 35 (List.take (Try.prog.cellsOf 35) (List.drop 3 [c0_0, c0_1, c0_2, c0_3])) = some y0_3 := hg0 3 _ rfl
  rw [show Try.prog.cellsOf 35 = 1 from by kernel_rfl] at g0_3
  replace g0_3 : DataW.trod enc Try.prog W 0 (fun _ => true) true m0 35 [c0_3] = some y0_3 := g0_3
  clear hg0
  obtain ⟨a0_0, e0_0, rfl, w0_0⟩ := DataW.trod_int Try.underlying3 g0_0
  simp at e0_0
  subst e0_0
  obtain ⟨a0_1, e0_1, rfl, w0_1⟩ := DataW.trod_int Try.underlying3 g0_1
  simp at e0_1
  subst e0_1
  obtain ⟨a0_2, e0_2, rfl, w0_2⟩ := DataW.trod_int Try.underlying3 g0_2
  simp at e0_2
  subst e0_2
  obtain ⟨v0_3, L0_3, e0_3, hh0_3, qq0_3, ss0_3⟩ := openOpR g0_3
  simp at e0_3
  subst e0_3
  have ba0_0 := bounds_i64 w0_0
  have ba0_1 := bounds_i64 w0_1
  have ba0_2 := bounds_i64 w0_2
  clear hA0 hval0
  refine (walk a0_0 a0_1 a0_2 c0_3 L0_3 W ba0_0.1 ba0_0.2 ba0_1.1 ba0_1.2 ba0_2.1 ba0_2.2 hh0_3 qq0_3 ss0_3).mono fun e W' ⟨he, bel⟩ => ?_
  subst he
  exact ⟨_, rfl, _, _, _, [], _, [], hW', trodAll_mk1 (shut_bool Try.underlying4 _), (trodAll_cons_mk (Below.trod laidOut (by kernel_rfl) (of_decide_eq_true (by kernel_rfl)) k0 bel lt0) trodAll_mk0), rfl, bel.frame _, fun h => by cases h⟩

theorem over : Rows.routerStaysRow.holds Try.pinned (OpenSpec.ofChange Rows.routerStaysSpec) :=
  OpenClaim.holds_of_wide 4 Try.f4 rfl rfl rfl rfl rfl rfl rfl ⟨rfl, rfl, rfl, rfl, rfl⟩ rfl rfl rfl rfl rfl (by kernel_rfl) Try.func4 (by kernel_rfl)
    (of_decide_eq_true (by kernel_rfl)) (by unfold Func.isWrapper; first | (rw [if_pos (by decide +kernel)]; kernel_rfl) | (rw [if_neg (by decide +kernel)]; exact ⟨rfl, rfl⟩))
    (fun os started H enc _ => lifted os started H enc)

/-- The statement. -/
theorem proved : Rows.RouterStaysSaid := over
#print axioms proved
end Go.Proofs.Ytggbnkbhobbopaa.routerStaysLaw
