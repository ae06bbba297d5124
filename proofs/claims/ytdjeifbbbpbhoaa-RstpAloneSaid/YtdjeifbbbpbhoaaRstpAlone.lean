/-
  'siphonlaw15.RstpAlone' returns true, whatever the input, and each argument reads behind the call as it read before. Conditions: none beyond those that the row itself states.
-/
import Derived.Test.YtdjeifbbbpbhoaaRows
import Derived.Test.YtdjeifbbbpbhoaaRsL
import Derived.Test.YtdjeifbbbpbhoaaRsP
import Derived.Test.YtdjeifbbbpbhoaaRsO
import Derived.Test.YtdjeifbbbpbhoaaPrG
import Derived.Test.YtdjeifbbbpbhoaaPrE
import Derived.Test.YtdjeifbbbpbhoaaRowO
import Derived.Test.YtdjeifbbbpbhoaaTrodJ
import Derived.WalkKit
import Derived.ProofKit
import Derived.OpenShut
import Derived.ShutString
import Derived.ChangeOld
import Derived.Below
import Derived.Carry
import Derived.SizedLaws
import Derived.Lib.SmallJoins
import Derived.ChangeArms
import Derived.WideShapes
namespace Go.Proofs.Ytdjeifbbbpbhoaa.rstpAloneLaw
open Go.ChangeShapes Go.WideShapes Go.ChangeAt Go.RowKit Go.Joins
open Go.ChangeMaps (open_string shut_string)
set_option linter.unusedVariables false

theorem root_g {w : World} {B t rb cap : Nat} {A : List Nat} {T : Part} (h : HasS w B t rb cap A T) {r c g q : Int} (e : T.best = (r, c, g, q)) : Calls Try.prog 20 #[.pointer (some ⟨t, 0, none⟩)] w fun e w' => e = .returned (.agg #[.int .u64 r, .int .i64 c, .int .u64 g, .int .i64 q]) ∧ Below w.heap.size w w' := by
  have := root_c h
  rw [e] at this
  exact this
theorem neq_V (r c g z : Int) (w : World) : (binOp .neq 36 (.agg #[.int .u64 r, .int .i64 c, .int .u64 g, .int .i64 z]) (.agg #[.int .u64 r, .int .i64 c, .int .u64 g, .int .i64 z])).run Try.prog w = .ok (.bool false) w := by
  rw [run_neq_struct, equalIn_V, eqV_self]; rfl
theorem rowatP {α : Type} {cells : α → List Value} {s n : Nat} {w : World} {B : Nat} {e : TypeId} {p : Option Addr} {cap : Nat} {L : List α} (h : w.ownsRow B e s (.slice p n cap) n (L.flatMap cells)) (hl : ∀ a, (cells a).length = s) {k : Nat} {x : α} (hx : L[k]? = some x) (hs : 0 < s) : ∃ g, p = some ⟨g, 0, none⟩ ∧ ∀ j u, (cells x)[j]? = some u → w.cell? ⟨g, k * s + j, none⟩ = some u := by
  rcases h.2 with ⟨e, h0⟩ | ⟨g, cap', cur, e, -, -, -, -, -, -⟩
  · exfalso
    have h1 := h.1
    obtain ⟨u, hu⟩ : ∃ u, (cells x)[0]? = some u := ⟨_, List.getElem?_eq_getElem (by rw [hl]; exact hs)⟩
    have h2 := (List.getElem?_eq_some_iff.1 ((flat_get hl _ _ _ _ hx (by have := (List.getElem?_eq_some_iff.1 hu).1; rw [hl] at this; exact this)).trans hu)).1
    rw [h1, h0] at h2
    omega
  · cases e
    refine ⟨g, rfl, fun j u hj => ?_⟩
    have h1 := h.cells (g := g) rfl (k * s + j) u ((flat_get hl _ _ _ _ hx (by have := (List.getElem?_eq_some_iff.1 hj).1; rw [hl] at this; exact this)).trans hj)
    have e : (⟨g, 0, none⟩ : Addr).add (k * s + j) = ⟨g, k * s + j, none⟩ := by unfold Addr.add; split <;> simp_all
    rwa [e] at h1

set_option maxHeartbeats 16000000 in
set_option maxRecDepth 100000 in
theorem walk (a0 : Int) (a1 : Value) (la1 : List Int) (a2 : Value) (la2 : List Int) (w : World) (la0 : 0 ≤ a0) (ua0 : a0 ≤ 18446744073709551615) (ha1 : IntsAt w a1 la1) (qa1 : la1.length ≤ maxLen) (sa1 : I64 la1) (ha2 : IntsAt w a2 la2) (qa2 : la2.length ≤ maxLen) (sa2 : I64 la2) :
    Calls Try.prog 6 #[.int .u64 a0, a1, a2] w fun e w' => e = .returned (.bool true) ∧ Below w.heap.size w w' := by
  have HL := Lib.hid fun U => live15_c U
  unfold maxLen at qa1 qa2
  obtain ⟨p2, cap2, bb2, off2, rfl, hp2, hc2⟩ := ha2
  have HP2 := Lib.hid hp2
  have HC2 := Lib.hid fun (U : World) (kz : Below w.heap.size w U) (j : Nat) (u : Int) (hj : la2[j]? = some u) => gcell_below kz (hc2 j u hj)
  clear hp2 hc2 sa2
  cases hm : mayCs la1 with
  | false =>
    have N0 := Lib.hid (new_no a0 a1 la1 w ha1 (by omega) hm)
    clear hm
    go_enter Try.func6, Try.ntmps6
    go_wp2_with fail
    ((with_reducible refine N0.out.mono ?_); rintro e w1 ⟨rfl, h1⟩)
    go_wp2_with fail
    ((with_reducible refine (HL.out _).mono ?_); rintro e w2 ⟨rfl, h2⟩)
    go_wp2_with fail
    go_ret
    exact ⟨by simp, h1.trans (h2.mono h1.size)⟩
  | true =>
    have hl16 : la1.length ≤ 16 := (mayCs_all hm).2.1
    have N0 := Lib.hid (new_yes (w0 := w) a0 a1 la1 w ha1 hm (Below.refl _ _))
    obtain ⟨pc, cc, rfl⟩ := ha1.slice
    clear hm ha1 sa1
    go_enter Try.func6, Try.ntmps6
    go_wp2_with fail
    ((with_reducible refine N0.out.mono ?_); rintro e w1 ⟨t, rb, cap, A, rfl, hA, h1, -⟩)
    have H1 := Lib.hid h1
    have HN := Lib.hid hA
    have HA0 := Lib.hid (alone_new a0 la1 (sg la2 0 0) (sg_zero la2))
    clear h1 hA N0
    go_wp2_with fail
    go_loopw [9, 10, 11, 12, 13, 14, 15, 16] (fun now _ _ _ _ _ _ _ wr => ∃ (n : Nat) (T : Part) (m : Int), n ≤ 61 ∧ now = .int .i64 n ∧ m ≤ (n : Int) ∧ Hid (SSt w wr t rb cap A T) ∧ Hid (Alone a0 la1 (sg la2 n 0) m T)) (fun now _ _ _ _ _ _ _ _ => 61 - (intOf now).toNat)
    case atStart => exact ⟨0, _, 0, by omega, rfl, by omega, H1, HA0⟩
    case round =>
      obtain ⟨n, T, m, hn, rfl, hm, HS, HA⟩ := hrel
      by_cases hend : n ≤ 60
      · have ht : timeR n = true := by unfold timeR; simp; omega
        have HT := Lib.hid ht
        have d0 : decide ((n : Int) ≤ 60) = true := decide_eq_true (by omega)
        clear ht H1 HA0
        go_upto_block 2 with fail
        clear d0
        go_cut [10, 11] from 32 to 176 (fun th p wx => ∃ (j : Nat) (T : Part) (m : Int), j ≤ la1.length ∧ j ≤ la2.length ∧ ¬ (j < la1.length ∧ j < la2.length) ∧ p = .int .i64 j ∧ th = .int .i64 (cntA la2 n j : Nat) ∧ m ≤ (n : Int) ∧ Hid (SSt w wx t rb cap A T) ∧ Hid (Alone a0 la1 (sg la2 n j) m T))
        case first =>
          go_wp2_with fail
          go_loopw [10, 11] (fun th p wr2 => ∃ (j : Nat) (T : Part) (m : Int), j ≤ la1.length ∧ j ≤ la2.length ∧ p = .int .i64 j ∧ th = .int .i64 (cntA la2 n j : Nat) ∧ m ≤ (n : Int) ∧ Hid (SSt w wr2 t rb cap A T) ∧ Hid (Alone a0 la1 (sg la2 n j) m T)) (fun _ p _ => la1.length - (intOf p).toNat)
          case atStart => exact ⟨0, T, m, Nat.zero_le _, Nat.zero_le _, rfl, rfl, hm, HS, HA⟩
          case round =>
            clear HS HA hm
            clear T m
            obtain ⟨j, T, m, hj1, hj2, rfl, rfl, hm, HS, HA⟩ := hrel
            have hcl := cntA_le la2 n j
            have HCS := Lib.hid (cntA_succ la2 n j)
            by_cases hjj : j < la1.length ∧ j < la2.length
            · obtain ⟨hq1, hq2⟩ := hjj
              have hne : la2 ≠ [] := by rintro rfl; simp at hq2
              obtain rfl := HP2.out hne
              obtain ⟨u, hu⟩ : ∃ u, la2[j]? = some u := ⟨_, List.getElem?_eq_getElem hq2⟩
              have x0 := HC2.out _ HS.out.bel j u hu
              have f1 : decide ((j : Int) < (la1.length : Int)) = true := decide_eq_true (by omega)
              have f2 : decide (j < la1.length) = true := decide_eq_true hq1
              have f3 : decide (la1.length ≤ j) = false := decide_eq_false (by omega)
              have f4 : decide ((j : Int) < (la2.length : Int)) = true := decide_eq_true (by omega)
              have f5 : decide (j < la2.length) = true := decide_eq_true hq2
              have f6 : decide (la2.length ≤ j) = false := decide_eq_false (by omega)
              have f7 : decide (0 ≤ (j : Int)) = true := decide_eq_true (by omega)
              by_cases hun : u = (n : Int)
              · subst hun
                have e1 : ((n : Int) == (n : Int)) = true := by simp
                have hin : inA la2 n j = true := by unfold inA; rw [hu]; simp
                have HL2 := Lib.hid (alone_link HA.out hm HT.out (by omega) hq1 (sg_off hu))
                rw [← sg_yes hu (by omega)] at HL2
                have HC := Lib.hid (link_s HS.out j true n)
                rw [hin] at HCS
                simp only [if_true] at HCS
                generalize cntA la2 n j = c at hcl HCS ⊢
                go_wp2_with fail
                ((with_reducible refine HC.out.mono ?_); rintro e w4 ⟨rfl, h4, k4⟩)
                have HS4 := Lib.hid h4
                have x1 := HC2.out _ HS4.out.bel j n hu
                clear h4 k4 HC x0 HS HA
                have g1 : decide (0 ≤ (n : Int)) = true := decide_eq_true (by omega)
                go_wp2_with fail
                go_roundw
                case rel => exact ⟨j + 1, _, n, by omega, by omega, by go_num, by rw [HCS.out]; go_num, Int.le_refl _, HS4, HL2⟩
                case measure => simp [intOf]; omega
              · obtain ⟨e1, e2⟩ := ne_t hun
                have HA2 := Lib.hid (show Alone a0 la1 (sg la2 n (j + 1)) m T by rw [sg_no hu hun]; exact HA.out)
                have hin : inA la2 n j = (decide (0 ≤ u) && decide (u ≤ (n : Int))) := by unfold inA; rw [hu]
                rw [hin] at HCS
                generalize cntA la2 n j = c at hcl HCS ⊢
                clear HA hu hun
                by_cases h0 : 0 ≤ u
                · have g1 : decide (0 ≤ u) = true := decide_eq_true h0
                  by_cases h3 : u ≤ (n : Int)
                  · have g2 : decide (u ≤ (n : Int)) = true := decide_eq_true h3
                    rw [g1, g2] at HCS
                    replace HCS := Lib.hid (show cntA la2 n (j + 1) = c + 1 from HCS.out)
                    clear h0 h3 hin
                    go_wp2_with fail
                    go_roundw
                    case rel => exact ⟨j + 1, _, m, by omega, by omega, by go_num, by rw [HCS.out]; go_num, hm, HS, HA2⟩
                    case measure => simp [intOf]; omega
                  · have g2 : decide (u ≤ (n : Int)) = false := decide_eq_false h3
                    rw [g1, g2] at HCS
                    replace HCS := Lib.hid (show cntA la2 n (j + 1) = c from HCS.out)
                    clear h0 h3 hin
                    go_wp2_with fail
                    go_roundw
                    case rel => exact ⟨j + 1, _, m, by omega, by omega, by go_num, by rw [HCS.out], hm, HS, HA2⟩
                    case measure => simp [intOf]; omega
                · have g1 : decide (0 ≤ u) = false := decide_eq_false h0
                  rw [g1] at HCS
                  replace HCS := Lib.hid (show cntA la2 n (j + 1) = c from HCS.out)
                  clear h0 hin
                  go_wp2_with fail
                  go_roundw
                  case rel => exact ⟨j + 1, _, m, by omega, by omega, by go_num, by rw [HCS.out], hm, HS, HA2⟩
                  case measure => simp [intOf]; omega
            · by_cases hq : j < la1.length
              · have f1 : decide ((j : Int) < (la1.length : Int)) = true := decide_eq_true (by omega)
                have f2 : decide (j < la1.length) = true := decide_eq_true hq
                have f3 : decide (la1.length ≤ j) = false := decide_eq_false (by omega)
                have f4 : decide ((j : Int) < (la2.length : Int)) = false := decide_eq_false (by omega)
                have f5 : decide (j < la2.length) = false := decide_eq_false (by omega)
                have f6 : decide (la2.length ≤ j) = true := decide_eq_true (by omega)
                have HJJ := Lib.hid hjj
                clear hjj hq HCS
                go_wp2_with fail
                go_meet
                exact ⟨j, T, m, hj1, hj2, HJJ.out, rfl, rfl, hm, HS, HA⟩
              · have f1 : decide ((j : Int) < (la1.length : Int)) = false := decide_eq_false (by omega)
                have f2 : decide (j < la1.length) = false := decide_eq_false hq
                have f3 : decide (la1.length ≤ j) = true := decide_eq_true (by omega)
                have HJJ := Lib.hid hjj
                clear hjj hq HCS
                go_wp2_with fail
                go_meet
                exact ⟨j, T, m, hj1, hj2, HJJ.out, rfl, rfl, hm, HS, HA⟩
        case rest =>
          clear HS HA hm
          clear T m
          obtain ⟨j, T, m, hj1, hj2, hjj, rfl, rfl, hm, HS, HA⟩ := hcut
          have hcl := cntA_le la2 n j
          have hM : la1.length = j ∨ (la2.length = j ∧ j ≤ la1.length) := by omega
          have HM := Lib.hid hM
          have HX := Lib.hid (HA.out.told hm HT.out)
          have HXC := Lib.hid fun (h2 : (n : Int) % 2 = 0) => told_cnt HA.out hM hm HT.out h2
          have HA2 := Lib.hid (alone_tick HA.out hm HT.out)
          have HC := Lib.hid (tick_s HS.out n)
          clear hM HA hm HS hjj
          go_wp2_with fail
          ((with_reducible refine HC.out.mono ?_); rintro e w5 ⟨u5, rfl, o5, h5, k5⟩)
          have HS5 := Lib.hid h5
          clear h5 k5 HC
          obtain ⟨L, hL⟩ : ∃ L, L = T.told n := ⟨_, rfl⟩
          rw [← hL] at o5 HX HXC
          obtain ⟨c, hc⟩ : ∃ c : Nat, c = L.length := ⟨_, rfl⟩
          have HLN := Lib.hid hc
          rw [← hc] at o5 HX HXC
          clear hc hL
          have hc16 : c ≤ 16 := by
            by_cases hpar : (n : Int) % 2 = 0
            · have := HXC.out hpar; omega
            · have := HX.out.2.1 hpar; omega
          go_upto_if 78 with fail
          go_cut [13] from 32 to 176 (fun s13 wx => s13 = .int .i64 (c : Int) ∧ w5 = wx)
          case first =>
            by_cases hpar : (n : Int) % 2 = 0
            · have hpar' : (n : Int).tmod 2 = 0 := by rw [Int.tmod_eq_emod_of_nonneg (by omega)]; exact hpar
              have e := HXC.out hpar
              have hp1 : ((n : Int) % 2 == 0) = true := by rw [hpar]; rfl
              clear hpar HX HXC
              go_wp2_with fail
              go_meet
              exact ⟨by rw [e], rfl⟩
            · have hpar' : (n : Int).tmod 2 = 1 := by rw [Int.tmod_eq_emod_of_nonneg (by omega)]; omega
              have e := HX.out.2.1 hpar
              have hp1 : ((n : Int) % 2 == 0) = false := by simp [hpar]
              clear hpar HX HXC
              go_wp2_with fail
              go_meet
              exact ⟨by rw [e]; rfl, rfl⟩
          case rest =>
          obtain ⟨rfl, rfl⟩ := hcut
          obtain ⟨p5, c5, rfl⟩ := owns_slice o5
          have O5 := Lib.hid o5
          have HE := Lib.hid HX.out.2.2
          clear o5 HX HXC
          have C2 := Lib.hid fun U (kz : Below w5.heap.size w5 U) => root_g (HS5.out.has.below kz) (r := a0) (c := 0) (g := a0) (q := 0) HA2.out.bs
          have C3 := Lib.hid fun U => rown_c a0 U
          have E1 := fun U => neq_V a0 0 a0 0 U
          have E2 := fun U => equalIn_V a0 0 a0 0 a0 0 a0 0 U
          rw [eqV_self] at E2
          have E3 := guard_V
          go_wp2_with fail
          ((with_reducible refine (C2.out _ (Below.refl _ _)).mono ?_); rintro e w6 ⟨rfl, h6⟩)
          go_wp2_with fail
          ((with_reducible refine (C3.out _).mono ?_); rintro e w7 ⟨rfl, h7⟩)
          have K7 := Lib.hid (k_call h6 h7)
          clear h6 h7 C2
          go_wp2_with fail
          go_loopw [14] (fun i wr3 => ∃ k : Nat, k ≤ c ∧ i = .int .i64 k ∧ Hid (Below w5.heap.size w5 wr3)) (fun i _ => c - (intOf i).toNat)
          case atStart => exact ⟨0, Nat.zero_le _, rfl, K7⟩
          case round =>
            clear K7
            obtain ⟨k, hk, rfl, K7⟩ := hrel
            by_cases hlt : k < c
            · obtain ⟨x, hx⟩ : ∃ x, L[k]? = some x := ⟨_, List.getElem?_eq_getElem (by rw [← HLN.out]; exact hlt)⟩
              obtain ⟨g5, rfl, ca0⟩ := rowatP O5.out (cells := cellsO) (fun _ => rfl) hx (by decide)
              obtain ⟨hv, hage⟩ := HE.out x (List.mem_of_getElem? hx)
              obtain ⟨xi, ⟨xv, xa, xc, xl, xf⟩⟩ := x
              simp only at hv hage
              subst hv
              subst hage
              have KF := Lib.hid fun (U : World) (kz : Below w5.heap.size w5 U) => (⟨gcell_below kz (show w5.cell? ⟨g5, k * 9, none⟩ = some (.int .i64 xi) from ca0 0 _ rfl), gcell_below kz (ca0 1 _ rfl), gcell_below kz (ca0 2 _ rfl), gcell_below kz (ca0 3 _ rfl), gcell_below kz (ca0 4 _ rfl), gcell_below kz (ca0 5 _ rfl), kz⟩ : U.cell? ⟨g5, k * 9, none⟩ = some (.int .i64 xi) ∧ U.cell? ⟨g5, k * 9 + 1, none⟩ = some (.int .u64 a0) ∧ U.cell? ⟨g5, k * 9 + 2, none⟩ = some (.int .i64 0) ∧ U.cell? ⟨g5, k * 9 + 3, none⟩ = some (.int .u64 a0) ∧ U.cell? ⟨g5, k * 9 + 4, none⟩ = some (.int .i64 xi) ∧ U.cell? ⟨g5, k * 9 + 5, none⟩ = some (.int .i64 0) ∧ Below w5.heap.size w5 U)
              have CO := Lib.hid fun (U : World) (kz : Below w5.heap.size w5 U) => (rown_c a0 U).mono (R' := fun e w' => e = .returned (.agg #[.int .u64 a0, .int .i64 0, .int .u64 a0, .int .i64 0]) ∧ Below w5.heap.size w5 w') (by rintro e w' ⟨rfl, hb⟩; exact ⟨rfl, k_call kz hb⟩)
              have CT := Lib.hid fun (U : World) (kz : Below w5.heap.size w5 U) => (rtells_c a0 a0 0 a0 0 xi U).mono (R' := fun e w' => e = .returned (.agg #[.int .u64 a0, .int .i64 0, .int .u64 a0, .int .i64 xi]) ∧ Below w5.heap.size w5 w') (by rintro e w' ⟨rfl, hb⟩; exact ⟨rfl, k_call kz hb⟩)
              have d1 : decide (c ≤ k) = false := decide_eq_false (by omega)
              have d2 : decide (k < c) = true := decide_eq_true hlt
              have d3 : decide ((k : Int) < (c : Int)) = true := decide_eq_true (by omega)
              have d4 : decide (0 ≤ (k : Int)) = true := decide_eq_true (by omega)
              have E4 := fun U => neq_V a0 0 a0 xi U
              have E5 := fun U => equalIn_V a0 0 a0 xi a0 0 a0 xi U
              rw [eqV_self] at E5
              have k0 := K7.out.drew
              obtain ⟨y0, y1, y2, y3, y4, y5, -⟩ := KF.out _ K7.out
              clear ca0 hx E1 E2
              go_wp2_with fail
              go_region_held3 (fun U => U.cell? ⟨g5, k * 9, none⟩ = some (.int .i64 xi) ∧ U.cell? ⟨g5, k * 9 + 1, none⟩ = some (.int .u64 a0) ∧ U.cell? ⟨g5, k * 9 + 2, none⟩ = some (.int .i64 0) ∧ U.cell? ⟨g5, k * 9 + 3, none⟩ = some (.int .u64 a0) ∧ U.cell? ⟨g5, k * 9 + 4, none⟩ = some (.int .i64 xi) ∧ U.cell? ⟨g5, k * 9 + 5, none⟩ = some (.int .i64 0) ∧ Below w5.heap.size w5 U)
                (first | with_reducible exact KF.out _ k9 | with_reducible exact KF.out _ k8 | with_reducible exact KF.out _ k0)
                (first
                  | (go_at_call 22; (with_reducible refine (CO.out _ k0).mono ?_); rintro e w8 ⟨rfl, k8⟩)
                  | (go_at_call 23; (with_reducible refine (CT.out _ k8).mono ?_); rintro e w9 ⟨rfl, k9⟩))
              all_goals
                go_wp2_with fail
                go_roundw
                case rel => exact ⟨k + 1, by omega, by go_num, Lib.hid k9⟩
                case measure => simp [intOf]; omega
            · obtain rfl : c = k := by omega
              clear hlt E1 E2 E3
              have HS6 := Lib.hid (HS5.out.below K7.out)
              clear HS5 C3 HE HLN O5
              go_wp2_with fail
              go_loop [15, 16] (fun p _ => ∃ i : Nat, i ≤ j ∧ p = .int .i64 i ∧ Hid (0 ≤ (i : Int))) (fun p _ => j - (intOf p).toNat)
              case atStart => exact ⟨0, Nat.zero_le _, rfl, Lib.hid (Int.le_refl _)⟩
              case round =>
                obtain ⟨i, hi, rfl, -⟩ := hrel
                by_cases hij : i < j
                · obtain ⟨u, hu⟩ : ∃ u, la2[i]? = some u := ⟨_, List.getElem?_eq_getElem (by omega)⟩
                  have hne : la2 ≠ [] := by rintro rfl; simp at hu
                  obtain rfl := HP2.out hne
                  have x0 := HC2.out _ HS6.out.bel i u hu
                  obtain ⟨a, p, ha, hp, -⟩ := HS6.out.has.pair (show i < A.length by rw [HN.out]; omega)
                  have hp' := hp
                  rw [HA2.out.ps i, List.getElem?_eq_getElem (show i < la1.length by omega)] at hp'
                  have hpe : prtA la1[i] (sg la2 n j i) n = p := Option.some.inj hp'
                  rw [sg_at hu] at hpe
                  have G2 := Lib.hid (forwards_yes HS6.out.has ha hp)
                  have G3 := Lib.hid (learns_yes HS6.out.has ha hp)
                  generalize la1[i] = ci at hpe
                  have b1 : decide ((i : Int) < (la1.length : Int)) = true := decide_eq_true (by omega)
                  have b2 : decide (i < la1.length) = true := decide_eq_true (by omega)
                  have b3 : decide (la1.length ≤ i) = false := decide_eq_false (by omega)
                  have b4 : decide ((i : Int) < (la2.length : Int)) = true := decide_eq_true (by omega)
                  have b5 : decide (i < la2.length) = true := decide_eq_true (by omega)
                  have b6 : decide (la2.length ≤ i) = false := decide_eq_false (by omega)
                  have b7 : decide (0 ≤ (i : Int)) = true := decide_eq_true (by omega)
                  clear ha hp hp' hu hne
                  by_cases h0 : 0 ≤ u
                  · have g1 : decide (0 ≤ u) = true := decide_eq_true h0
                    by_cases h3 : u ≤ (n : Int)
                    · have g2 : decide (u ≤ (n : Int)) = true := decide_eq_true h3
                      rw [if_pos ⟨h0, by omega⟩, prtA_on h0] at hpe
                      subst hpe
                      have G2' := Lib.hid (show Calls Try.prog 19 #[.pointer (some ⟨t, 0, none⟩), .int .i64 i] _ fun e w' => e = .returned (.bool (decide (30 ≤ (n : Int) - u))) ∧ _ = w' from G2.out)
                      have G3' := Lib.hid (show Calls Try.prog 18 #[.pointer (some ⟨t, 0, none⟩), .int .i64 i] _ fun e w' => e = .returned (.bool (decide (15 ≤ (n : Int) - u))) ∧ _ = w' from G3.out)
                      have hsub : IntKind.i64.wrap ((n : Int) - u) = (n : Int) - u := IntWalk.i64_in _ (by omega)
                      clear G2 G3
                      cases q30 : decide (30 ≤ (n : Int) - u) <;> cases q15 : decide (15 ≤ (n : Int) - u)
                      all_goals
                        rw [q30] at G2'
                        rw [q15] at G3'
                        go_wp2_with fail
                        ((with_reducible refine G2'.out.mono ?_); rintro e w8 ⟨rfl, rfl⟩)
                        go_wp2_with fail
                        ((with_reducible refine G3'.out.mono ?_); rintro e w8 ⟨rfl, rfl⟩)
                        go_wp2_with fail
                        go_round
                        case rel => exact ⟨i + 1, by omega, by go_num, Lib.hid (by omega)⟩
                        case measure => simp [intOf]; omega
                    · have g2 : decide (u ≤ (n : Int)) = false := decide_eq_false h3
                      rw [if_neg (by omega), prtA_off (by decide)] at hpe
                      subst hpe
                      have G2' := Lib.hid (show Calls Try.prog 19 #[.pointer (some ⟨t, 0, none⟩), .int .i64 i] _ fun e w' => e = .returned (.bool false) ∧ _ = w' from G2.out)
                      have G3' := Lib.hid (show Calls Try.prog 18 #[.pointer (some ⟨t, 0, none⟩), .int .i64 i] _ fun e w' => e = .returned (.bool false) ∧ _ = w' from G3.out)
                      clear G2 G3 h0 h3
                      go_wp2_with fail
                      ((with_reducible refine G2'.out.mono ?_); rintro e w8 ⟨rfl, rfl⟩)
                      go_wp2_with fail
                      ((with_reducible refine G3'.out.mono ?_); rintro e w8 ⟨rfl, rfl⟩)
                      go_wp2_with fail
                      go_round
                      case rel => exact ⟨i + 1, by omega, by go_num, Lib.hid (by omega)⟩
                      case measure => simp [intOf]; omega
                  · have g1 : decide (0 ≤ u) = false := decide_eq_false h0
                    rw [if_neg (by omega), prtA_off (by decide)] at hpe
                    subst hpe
                    have G2' := Lib.hid (show Calls Try.prog 19 #[.pointer (some ⟨t, 0, none⟩), .int .i64 i] _ fun e w' => e = .returned (.bool false) ∧ _ = w' from G2.out)
                    have G3' := Lib.hid (show Calls Try.prog 18 #[.pointer (some ⟨t, 0, none⟩), .int .i64 i] _ fun e w' => e = .returned (.bool false) ∧ _ = w' from G3.out)
                    clear G2 G3 h0
                    go_wp2_with fail
                    ((with_reducible refine G2'.out.mono ?_); rintro e w8 ⟨rfl, rfl⟩)
                    go_wp2_with fail
                    ((with_reducible refine G3'.out.mono ?_); rintro e w8 ⟨rfl, rfl⟩)
                    go_wp2_with fail
                    go_round
                    case rel => exact ⟨i + 1, by omega, by go_num, Lib.hid (by omega)⟩
                    case measure => simp [intOf]; omega
                · obtain rfl : i = j := by omega
                  have HA3 := Lib.hid (HA2.out.congr (τ := sg la2 ((n : Int) + 1) 0) fun i' hi' => sg_next (n := la1.length) (by have := HM.out; omega) hi')
                  by_cases hq : i < la1.length
                  · have f1 : decide ((i : Int) < (la1.length : Int)) = true := decide_eq_true (by omega)
                    have f2 : decide (i < la1.length) = true := decide_eq_true hq
                    have f3 : decide (la1.length ≤ i) = false := decide_eq_false (by omega)
                    have f4 : decide ((i : Int) < (la2.length : Int)) = false := decide_eq_false (by have := HM.out; omega)
                    have f5 : decide (i < la2.length) = false := decide_eq_false (by have := HM.out; omega)
                    have f6 : decide (la2.length ≤ i) = true := decide_eq_true (by have := HM.out; omega)
                    clear hij hq
                    go_wp2_with fail
                    go_roundw
                    case rel => exact ⟨n + 1, _, n, by omega, by go_num, by omega, HS6, HA3⟩
                    case measure => simp [intOf]; omega
                  · have f1 : decide ((i : Int) < (la1.length : Int)) = false := decide_eq_false (by omega)
                    have f2 : decide (i < la1.length) = false := decide_eq_false hq
                    have f3 : decide (la1.length ≤ i) = true := decide_eq_true (by omega)
                    clear hij hq
                    go_wp2_with fail
                    go_roundw
                    case rel => exact ⟨n + 1, _, n, by omega, by go_num, by omega, HS6, HA3⟩
                    case measure => simp [intOf]; omega
      · obtain rfl : n = 61 := by omega
        have HB := Lib.hid HS.out.bel
        clear hend
        go_wp2_with fail
        ((with_reducible refine (HL.out _).mono ?_); rintro e w2 ⟨rfl, h2⟩)
        go_wp2_with fail
        go_ret
        exact ⟨rfl, HB.out.trans (h2.mono HB.out.size)⟩

theorem own : ownKnob Try.prog.godebug = none := by kernel_rfl
theorem laidOut : laidOutB Try.prog = true := by kernel_rfl

set_option maxHeartbeats 1000000 in
set_option maxRecDepth 100000 in
theorem lifted (os : Os) (started : os.Started) (H : Type) (enc : TypeId × Value → H) :
    ReturnsInHanded {} Try.checked os 6 .any (Rows.rstpAloneSpec.pre6 enc Try.prog Try.f6 Rows.rstpAloneRow.domain false) (Rows.rstpAloneSpec.post enc Try.prog Try.f6 false true false false) := by
  refine returnsInHanded_of_change_sized (C := Try.checked) own started (by kernel_rfl) Try.func6
    (ChangeSpec.witness6 (enc := enc) (C := Try.checked) false ⟨#[], #[.int .u64 0, .slice none 0 0, .slice none 0 0], []⟩ 8 (by kernel_rfl) (by kernel_rfl) (by kernel_rfl) (by kernel_rfl)) ?_
  intro W base args ds gs before hval0 hW hcnd hsz0 hholds
  have hval : ∀ (j : Nat) t v, Try.f6.params[j]? = some t → args[j]? = some v → Value.okWide Try.prog W .any base t v := hval0
  have hsz : (DataW.weightsEach Try.prog (Try.f6.params.toList ++ Rows.rstpAloneSpec.plain.varTypes Try.prog) (ds ++ gs)).all (· ≤ reachBytes) = true := hsz0
  have hW' := hW
  obtain ⟨p, q, hA0, hV, rfl, hfz, hnd⟩ := hW
  have hA : DataW.TrodAll enc Try.prog W 0 (fun _ => true) true Try.f6.params.toList args.toList ds p := hA0
  rw [Try.params6] at hA hval hsz
  obtain ⟨v0, vs0, d0, ds0, p0, q0, hargs, rfl, rfl, h0, r0⟩ := trodAll_cons hA
  obtain ⟨v1, vs1, d1, ds1, p1, q1, rfl, rfl, rfl, h1, r1⟩ := trodAll_cons r0
  obtain ⟨v2, vs2, d2, ds2, p2, q2, rfl, rfl, rfl, h2, r2⟩ := trodAll_cons r1
  obtain ⟨rfl, rfl, rfl⟩ := trodAll_nil r2
  obtain rfl : args = #[v0, v1, v2] := by cases args; simp_all
  obtain ⟨rfl, rfl⟩ := trodVars_none hV
  have k0 := h0
  have lt0 : ∀ x ∈ p0, x.block < W.heap.size := by obtain ⟨m, hm⟩ := k0; exact DataW.trod_lt m _ _ _ hm
  have k1 := h1
  have lt1 : ∀ x ∈ p1, x.block < W.heap.size := by obtain ⟨m, hm⟩ := k1; exact DataW.trod_lt m _ _ _ hm
  have k2 := h2
  have lt2 : ∀ x ∈ p2, x.block < W.heap.size := by obtain ⟨m, hm⟩ := k2; exact DataW.trod_lt m _ _ _ hm
  obtain ⟨a0, rfl, rfl, rfl, w0⟩ := open_int Try.underlying22 (hval 0 22 v0 rfl rfl) h0
  obtain ⟨sa1, sl1, sc1, rfl⟩ := okWide_slice Try.underlying23 (hval 1 23 v1 rfl rfl)
  obtain ⟨fu1, hf1⟩ := h1
  obtain ⟨vv1, L1, e1, hh1, qq1, ss1⟩ := ints_open hf1
  simp [Value.cells] at e1
  subst e1
  obtain ⟨sa2, sl2, sc2, rfl⟩ := okWide_slice Try.underlying23 (hval 2 23 v2 rfl rfl)
  obtain ⟨fu2, hf2⟩ := h2
  obtain ⟨vv2, L2, e2, hh2, qq2, ss2⟩ := ints_open hf2
  simp [Value.cells] at e2
  subst e2
  have ba0 := bounds_u64 w0
  clear hA0 hval0
  refine (walk a0 (.slice sa1 sl1 sc1) L1 (.slice sa2 sl2 sc2) L2 W ba0.1 ba0.2 hh1 qq1 ss1 hh2 qq2 ss2).mono fun e W' ⟨he, bel⟩ => ?_
  subst he
  exact ⟨_, rfl, _, _, _, [], _, [], hW', trodAll_mk1 (shut_bool Try.underlying4 _), (trodAll_cons_mk (Below.trod laidOut (by kernel_rfl) (of_decide_eq_true (by kernel_rfl)) k0 bel lt0) (trodAll_cons_mk (Below.trod laidOut (by kernel_rfl) (of_decide_eq_true (by kernel_rfl)) k1 bel lt1) (trodAll_cons_mk (Below.trod laidOut (by kernel_rfl) (of_decide_eq_true (by kernel_rfl)) k2 bel lt2) trodAll_mk0))), rfl, bel.frame _, fun h => by cases h⟩

theorem over : Rows.rstpAloneRow.holds Try.pinned (OpenSpec.ofChange Rows.rstpAloneSpec) :=
  OpenClaim.holds_of_wide 6 Try.f6 rfl rfl rfl rfl rfl rfl rfl ⟨rfl, rfl, rfl, rfl, rfl⟩ rfl rfl rfl rfl rfl (by kernel_rfl) Try.func6 (by kernel_rfl)
    (of_decide_eq_true (by kernel_rfl)) (by unfold Func.isWrapper; first | (rw [if_pos (by decide +kernel)]; kernel_rfl) | (rw [if_neg (by decide +kernel)]; exact ⟨rfl, rfl⟩))
    (fun os started H enc _ => lifted os started H enc)

/-- The statement. -/
theorem proved : Rows.RstpAloneSaid := over
#print axioms proved
end Go.Proofs.Ytdjeifbbbpbhoaa.rstpAloneLaw
