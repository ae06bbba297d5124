/-
  'siphonlaw20.QuerierTwo' returns true, whatever the input, and each argument reads behind the call as it read before. Conditions: none beyond those that the row itself states.
-/
import Derived.Test.YtlpcndmblnpjmaaDoorRows
import Derived.Test.YtlpcndmblnpjmaaDoorCards
import Derived.Test.YtlpcndmblnpjmaaDoorTie
import Derived.Test.YtlpcndmblnpjmaaDoorQrL
import Derived.LaidMore
import Derived.Lay
import Derived.SevenTiedAt
import Derived.Stop.Joined
import Derived.WalkKit
import Derived.ProofKit
import Derived.OpenShut
import Derived.ShutString
import Derived.ChangeOld
import Derived.Below
import Derived.Carry
import Derived.SizedLaws
import Derived.Lib.SmallJoins
import Derived.ChangeArms
import Derived.WideShapes
namespace Go.Proofs.YtlpcndmblnpjmaaDoor.querierTwoLaw
open Go.ChangeShapes Go.WideShapes Go.ChangeAt Go.RowKit Go.Joins
open Go.ChangeMaps (open_string shut_string)
set_option linter.unusedVariables false

theorem list4 {α : Type} (l : List α) (h : l.length = 4) : ∃ x0 x1 x2 x3 : α, l = [x0, x1, x2, x3] := by
  match l, h with
  | [x0, x1, x2, x3], _ => exact ⟨x0, x1, x2, x3, rfl⟩

theorem isB_four {s : ByteArray} (h : s.size = 4) {un now : Int} (k : un ≤ now) : isB s un now = true := by
  unfold isB
  rw [show decide (s = ⟨#[]⟩) = false from decide_eq_false (by rintro rfl; cases h), decide_eq_true k]
  rfl
theorem isB_not {s : ByteArray} {un now : Int} (k : now < un) : isB s un now = false := by
  unfold isB
  rw [show decide (un ≤ now) = false from decide_eq_false (by omega), Bool.and_false]
theorem nz_four {s : ByteArray} (h : s.size = 4) (k : s ≠ ⟨#[0, 0, 0, 0]⟩) : nz s = true := by
  rw [nz_iff]
  apply Classical.byContradiction
  intro hn
  refine k ?_
  have hz : ∀ i, (hi : i < s.size) → s[i] = 0 := fun i hi => Classical.byContradiction fun e => hn ⟨i, hi, e⟩
  obtain ⟨⟨l⟩⟩ := s
  have hl : l.length = 4 := h
  match l, hl, hz with
  | [x0, x1, x2, x3], _, hz =>
    have z0 : x0 = 0 := hz 0 (show 0 < 4 by decide)
    have z1 : x1 = 0 := hz 1 (show 1 < 4 by decide)
    have z2 : x2 = 0 := hz 2 (show 2 < 4 by decide)
    have z3 : x3 = 0 := hz 3 (show 3 < 4 by decide)
    subst z0 z1 z2 z3
    rfl
theorem sgeq_of {x y : ByteArray} {r : Bool} (h : blt x y = r) (t : TypeId) : binOp .geq t (.string x) (.string y) = pure (.bool !r) := by
  rw [← h]
  simp [binOp, Op.stringOp, blt]

set_option maxHeartbeats 8000000 in
set_option maxRecDepth 100000 in
theorem walk (a0_0 : ByteArray) (a0_1 : ByteArray) (a0_2 : Int) (a0_3 : Int) (w : World) (za0_0 : a0_0.size ≤ 140737488351232) (za0_1 : a0_1.size ≤ 140737488351232) (la0_2 : -9223372036854775808 ≤ a0_2) (ua0_2 : a0_2 ≤ 9223372036854775807) (la0_3 : -9223372036854775808 ≤ a0_3) (ua0_3 : a0_3 ≤ 9223372036854775807) :
    Calls Tryd.prog 3 #[.agg #[.string a0_0, .string a0_1, .int .i64 a0_2, .int .i64 a0_3]] w fun e w' => e = .returned (.bool true) ∧ Below w.heap.size w w' := by
  have HL := Lib.hid fun U => live20_c U
  have HB0 := Lib.hid ((Below.refl w.heap.size w).alloc (Nat.le_refl _) (.cells #[.string a0_0, .string a0_1, .int .i64 a0_2, .int .i64 a0_3] 24))
  have HE := Lib.hid (heap_new w (.cells #[.string a0_0, .string a0_1, .int .i64 a0_2, .int .i64 a0_3] 24))
  have x0 : (w.alloc (.cells #[.string a0_0, .string a0_1, .int .i64 a0_2, .int .i64 a0_3] 24)).cell? ⟨w.heap.size, 0, none⟩ = some (.string a0_0) := cell_of_block HE.out rfl
  have x1 : (w.alloc (.cells #[.string a0_0, .string a0_1, .int .i64 a0_2, .int .i64 a0_3] 24)).cell? ⟨w.heap.size, 1, none⟩ = some (.string a0_1) := cell_of_block HE.out rfl
  have x2 : (w.alloc (.cells #[.string a0_0, .string a0_1, .int .i64 a0_2, .int .i64 a0_3] 24)).cell? ⟨w.heap.size, 2, none⟩ = some (.int .i64 a0_2) := cell_of_block HE.out rfl
  have x3 : (w.alloc (.cells #[.string a0_0, .string a0_1, .int .i64 a0_2, .int .i64 a0_3] 24)).cell? ⟨w.heap.size, 3, none⟩ = some (.int .i64 a0_3) := cell_of_block HE.out rfl
  go_enter Tryd.func3, Tryd.ntmps3
  go_upto_region 1 with fail
  generalize w.alloc (.cells #[.string a0_0, .string a0_1, .int .i64 a0_2, .int .i64 a0_3] 24) = W at HB0 HE x0 x1 x2 x3 ⊢
  go_region
  have HB := Lib.hid HB0.out.drew
  clear x0 x1 x2 x3 HB0 HE
  generalize W.drew = W1 at HB ⊢
  by_cases c1 : a0_0.size ≠ 4
  · obtain ⟨f1, f2⟩ := ne_t (show (a0_0.size : Int) ≠ 4 by omega)
    clear c1
    go_wp2_with fail
    ((with_reducible refine (HL.out _).mono ?_); rintro e w2 ⟨rfl, h2⟩)
    go_wp2_with fail
    go_ret
    exact ⟨rfl, HB.out.trans (h2.mono HB.out.size)⟩
  · obtain ⟨f1, f2⟩ := eq_t (show (a0_0.size : Int) = 4 by omega)
    by_cases c2 : a0_1.size ≠ 4
    · obtain ⟨f3, f4⟩ := ne_t (show (a0_1.size : Int) ≠ 4 by omega)
      clear c2
      go_wp2_with fail
      ((with_reducible refine (HL.out _).mono ?_); rintro e w2 ⟨rfl, h2⟩)
      go_wp2_with fail
      go_ret
      exact ⟨rfl, HB.out.trans (h2.mono HB.out.size)⟩
    · obtain ⟨f3, f4⟩ := eq_t (show (a0_1.size : Int) = 4 by omega)
      by_cases c3 : blt a0_0 a0_1 = false
      · have e3 := fun t => sgeq_of c3 t
        clear c3
        go_wp2_with fail
        ((with_reducible refine (HL.out _).mono ?_); rintro e w2 ⟨rfl, h2⟩)
        go_wp2_with fail
        go_ret
        exact ⟨rfl, HB.out.trans (h2.mono HB.out.size)⟩
      · have c3t : blt a0_0 a0_1 = true := by simpa using c3
        have e3 := fun t => sgeq_of c3t t
        by_cases c4 : a0_0 = ⟨#[0, 0, 0, 0]⟩
        · have e4 := fun t => seql_of (decide_eq_true c4) t
          clear c4
          go_wp2_with fail
          ((with_reducible refine (HL.out _).mono ?_); rintro e w2 ⟨rfl, h2⟩)
          go_wp2_with fail
          go_ret
          exact ⟨rfl, HB.out.trans (h2.mono HB.out.size)⟩
        · have e4 := fun t => seql_of (decide_eq_false c4) t
          by_cases c5 : 40 < a0_2
          · have d5 : decide (40 < a0_2) = true := decide_eq_true c5
            clear c5
            go_wp2_with fail
            ((with_reducible refine (HL.out _).mono ?_); rintro e w2 ⟨rfl, h2⟩)
            go_wp2_with fail
            go_ret
            exact ⟨rfl, HB.out.trans (h2.mono HB.out.size)⟩
          · have d5 : decide (40 < a0_2) = false := decide_eq_false c5
            have ca : a0_0.size = 4 := by omega
            have cb : a0_1.size = 4 := by omega
            have AH := Lib.hid (show ahead a0_0 a0_1 = true by unfold ahead; rw [decide_eq_true (ca.trans cb.symm), nz_four ca c4, c3t]; rfl)
            have AN := Lib.hid (show ahead a0_1 a0_0 = false by unfold ahead; rw [blt_asym c3t, Bool.and_false, Bool.and_false])
            have IX := Lib.hid (fun now (k : 0 ≤ now) => isB_four ca (un := 0) k)
            have ZA := Lib.hid (show a0_0.size ≤ 9223372036854775807 by omega)
            have ZB := Lib.hid (show a0_1.size ≤ 9223372036854775807 by omega)
            have N0a := Lib.hid (show a0_0.size = 0 ∨ a0_0.size = 4 ∨ a0_0.size = 16 by omega)
            have N0b := Lib.hid (show a0_1.size = 0 ∨ a0_1.size = 4 ∨ a0_1.size = 16 by omega)
            by_cases c6 : a0_2 < 4 ∨ 100000 < a0_2 ∨ a0_3 < 1 ∨ 7 < a0_3
            · have N1 := Lib.hid fun U => new_no a0_0 a0_2 a0_3 U (.inr c6)
              have N2 := Lib.hid fun U => new_no a0_1 a0_2 a0_3 U (.inr c6)
              clear c1 c2 c3 c4 c5 c6 ca cb
              go_wp2_with fail
              ((with_reducible refine (N1.out _).mono ?_); rintro e w1 ⟨rfl, rfl⟩)
              go_wp2_with fail
              ((with_reducible refine (N2.out _).mono ?_); rintro e w1 ⟨rfl, rfl⟩)
              go_wp2_with fail
              ((with_reducible refine (HL.out _).mono ?_); rintro e w2 ⟨rfl, h2⟩)
              go_wp2_with fail
              go_ret
              exact ⟨rfl, HB.out.trans (h2.mono HB.out.size)⟩
            · have N1 := Lib.hid fun U => new_ok a0_0 a0_2 a0_3 U N0a.out (by omega) (by omega) (by omega) (by omega)
              have N2 := Lib.hid fun U => new_ok a0_1 a0_2 a0_3 U N0b.out (by omega) (by omega) (by omega) (by omega)
              have e1 : 4 ≤ a0_2 := by omega
              have e2 : a0_2 ≤ 40 := by omega
              have r1 : 1 ≤ a0_3 := by omega
              have r2 : a0_3 ≤ 7 := by omega
              have t1 : 1 ≤ Int.tdiv a0_2 4 := by rw [Int.tdiv_eq_ediv_of_nonneg (by omega)]; omega
              have t2 : Int.tdiv a0_2 4 ≤ 10 := by rw [Int.tdiv_eq_ediv_of_nonneg (by omega)]; omega
              have t3 : Int.tdiv a0_2 4 ≤ a0_2 := by rw [Int.tdiv_eq_ediv_of_nonneg (by omega)]; omega
              have m1 : a0_2 ≤ a0_3 * a0_2 := by have := Int.mul_le_mul_of_nonneg_right r1 (show 0 ≤ a0_2 by omega); omega
              have m2 : a0_3 * a0_2 ≤ 7 * 40 := Int.mul_le_mul r2 e2 (by omega) (by omega)
              have q1 : 0 ≤ Int.tdiv 200 a0_2 := Int.tdiv_nonneg (by omega) (by omega)
              have q2 : Int.tdiv 200 a0_2 ≤ 200 := by rw [Int.tdiv_eq_ediv_of_nonneg (by omega)]; exact Int.ediv_le_self _ (by omega)
              have HDV := Lib.hid (fun n (h : 200 ≤ n * a0_2) => show Int.tdiv 200 a0_2 ≤ n by rw [Int.tdiv_eq_ediv_of_nonneg (by omega)]; exact Int.ediv_le_of_le_mul (by omega) h)
              clear c1 c2 c3 c3t c4 c5 c6 ca cb
              go_wp2_with fail
              ((with_reducible refine (N1.out _).mono ?_); rintro e w1 ⟨p, rfl, hp, h1, b1⟩)
              have HP := Lib.hid (Nat.le_trans HB.out.size hp)
              have H1 := Lib.hid h1
              have B1 := Lib.hid (HB.out.trans (b1.mono HB.out.size))
              clear hp h1 b1 N1 HB
              go_wp2_with fail
              ((with_reducible refine (N2.out _).mono ?_); rintro e w2 ⟨q, rfl, hq, h2, b2⟩)
              have HPQ := Lib.hid (show p ≠ q from fun e => by have := H1.out.lt; omega)
              have HQ := Lib.hid (Nat.le_trans B1.out.size hq)
              have H2 := Lib.hid (H1.out.below b2 H1.out.lt)
              have G2 := Lib.hid h2
              have B2 := Lib.hid (B1.out.trans (b2.mono B1.out.size))
              clear hq h2 b2 N2 B1 H1
              go_wp2_with fail
              go_loopw [11, 12] (fun vn vk wr => ∃ K NX AK UY NY : Int, 0 ≤ K ∧ K ≤ 200 ∧ vk = .int .i64 K ∧ vn = .int .i64 AK ∧ K ≤ NX ∧ Hid (NX ≤ AK * a0_2) ∧ NX ≤ 100000 ∧ 0 ≤ AK ∧ AK ≤ K ∧ (K = 0 ∨ NX + 5 ≤ UY) ∧ Hid (HasQ wr p a0_0 a0_2 a0_3 0 NX AK) ∧ Hid (HasQ wr q a0_1 a0_2 a0_3 UY NY 0) ∧ Hid (Below w.heap.size w wr)) (fun _ vk _ => (200 - intOf vk).toNat)
              case atStart => exact ⟨0, 0, 0, 0, 0, by omega, by omega, rfl, rfl, by omega, Lib.hid (by omega), by omega, by omega, by omega, .inl rfl, H2, G2, B2⟩
              case round =>
                clear H2 G2 B2
                obtain ⟨K, NX, AK, UY, NY, hK, hK2, rfl, rfl, hn1, HNP, hn2, hk1, hk2, hu, HH, GH, KB⟩ := hrel
                by_cases hlt : K < 200
                · have d2 : decide (K < 200) = true := decide_eq_true hlt
                  have HOK := Lib.hid (okT_t hK (by omega))
                  by_cases hnx : NX = K
                  · subst hnx
                    have C1 := Lib.hid (tick_yes HH.out NX HOK.out (IX.out NX hK) (Int.le_refl _) e1 (by omega) hk1 (by omega))
                    obtain ⟨r, hr0⟩ : ∃ r, r = (if AK + 1 < a0_3 then NX + Int.tdiv a0_2 4 else NX + a0_2) := ⟨_, rfl⟩
                    rw [← hr0] at C1
                    have hrb : NX + 1 ≤ r ∧ r ≤ NX + a0_2 := by
                      rw [hr0]
                      by_cases hc : AK + 1 < a0_3
                      · rw [if_pos hc]; omega
                      · rw [if_neg hc]; omega
                    have HRB := Lib.hid hrb
                    have HNP2 := Lib.hid (show r ≤ (AK + 1) * a0_2 by have := HNP.out; rw [Int.add_mul]; omega)
                    clear hr0 hrb
                    go_wp2_with fail
                    ((with_reducible refine C1.out.mono ?_); rintro e w3 ⟨rfl, h3, k3⟩)
                    have H3 := Lib.hid h3
                    have G3 := Lib.hid (GH.out.tw k3 (Ne.symm HPQ.out) (Ne.symm HPQ.out))
                    have KB3 := Lib.hid (Tw.bel KB.out HP.out k3)
                    clear h3 k3 C1 KB HH GH
                    have C2 := Lib.hid (hear_yes G3.out a0_0 ZA.out NX (by rw [HOK.out, AH.out]; rfl) e1 (by omega) r1 r2)
                    go_wp2_with fail
                    ((with_reducible refine C2.out.mono ?_); rintro e w4 ⟨rfl, h4, k4⟩)
                    have H4 := Lib.hid (H3.out.tw k4 HPQ.out HPQ.out)
                    obtain ⟨U2, hU2⟩ : ∃ U2, U2 = max UY (NX + a0_3 * a0_2 + 5) := ⟨_, rfl⟩
                    rw [← hU2] at h4
                    have HU := Lib.hid (show NX + a0_2 + 5 ≤ U2 by rw [hU2]; omega)
                    have G4 := Lib.hid h4
                    have KB4 := Lib.hid (Tw.bel KB3.out HQ.out k4)
                    clear h4 k4 C2 H3 G3 KB3 hU2
                    have C3 := Lib.hid (tick_not G4.out NX HOK.out (isB_not (by have := HU.out; omega)))
                    go_wp2_with fail
                    ((with_reducible refine C3.out.mono ?_); rintro e w5 ⟨rfl, h5, k5⟩)
                    have H5 := Lib.hid (H4.out.tw k5 HPQ.out HPQ.out)
                    have G5 := Lib.hid h5
                    have KB5 := Lib.hid (Tw.bel KB4.out HQ.out k5)
                    clear h5 k5 C3 H4 G4 KB4
                    have C4 := Lib.hid (hear_no H5.out a0_1 ZB.out NX (by rw [AN.out, Bool.and_false]))
                    go_wp2_with fail
                    ((with_reducible refine C4.out.mono ?_); rintro e w6 ⟨rfl, h6, k6⟩)
                    have H6 := Lib.hid h6
                    have G6 := Lib.hid (G5.out.tw k6 (Ne.symm HPQ.out) (Ne.symm HPQ.out))
                    have KB6 := Lib.hid (Tw.bel KB5.out HP.out k6)
                    clear h6 k6 C4 H5 G5 KB5
                    have C5 := is_c G6.out NX
                    rw [isB_not (by have := HU.out; omega)] at C5
                    replace C5 := Lib.hid C5
                    go_wp2_with fail
                    ((with_reducible refine C5.out.mono ?_); rintro e w7 ⟨rfl, rfl⟩)
                    have C6 := is_c H6.out NX
                    rw [IX.out NX hK] at C6
                    replace C6 := Lib.hid C6
                    go_wp2_with fail
                    ((with_reducible refine C6.out.mono ?_); rintro e w7 ⟨rfl, rfl⟩)
                    go_wp2_with fail
                    go_roundw
                    case rel => exact ⟨NX + 1, r, AK + 1, U2, U2, by omega, by omega, rfl, rfl, by have := HRB.out; omega, HNP2, by have := HRB.out; omega, by omega, by omega, .inr (by have := HRB.out; have := HU.out; omega), H6, G6, KB6⟩
                    case measure => simp [intOf]; omega
                  · have hK0 : K ≠ 0 := by
                      rintro rfl
                      have h0 : AK = 0 := by omega
                      subst h0
                      have := HNP.out
                      omega
                    have hu2 : NX + 5 ≤ UY := by omega
                    have C1 := Lib.hid (tick_wait HH.out K HOK.out (IX.out K hK) (by omega))
                    have HU := Lib.hid (show K + 5 ≤ UY by omega)
                    have HU2 := Lib.hid hu2
                    have hkn : K + 1 ≤ NX := by omega
                    clear hK0 hu hu2 hnx
                    go_wp2_with fail
                    ((with_reducible refine C1.out.mono ?_); rintro e w3 ⟨rfl, rfl⟩)
                    have H4 := HH
                    have G4 := GH
                    have KB4 := KB
                    clear C1 HH GH KB
                    have C3 := Lib.hid (tick_not G4.out K HOK.out (isB_not (by have := HU.out; omega)))
                    go_wp2_with fail
                    ((with_reducible refine C3.out.mono ?_); rintro e w5 ⟨rfl, h5, k5⟩)
                    have H5 := Lib.hid (H4.out.tw k5 HPQ.out HPQ.out)
                    have G5 := Lib.hid h5
                    have KB5 := Lib.hid (Tw.bel KB4.out HQ.out k5)
                    clear h5 k5 C3 H4 G4 KB4
                    have C4 := Lib.hid (hear_no H5.out a0_1 ZB.out K (by rw [AN.out, Bool.and_false]))
                    go_wp2_with fail
                    ((with_reducible refine C4.out.mono ?_); rintro e w6 ⟨rfl, h6, k6⟩)
                    have H6 := Lib.hid h6
                    have G6 := Lib.hid (G5.out.tw k6 (Ne.symm HPQ.out) (Ne.symm HPQ.out))
                    have KB6 := Lib.hid (Tw.bel KB5.out HP.out k6)
                    clear h6 k6 C4 H5 G5 KB5
                    have C5 := is_c G6.out K
                    rw [isB_not (by have := HU.out; omega)] at C5
                    replace C5 := Lib.hid C5
                    go_wp2_with fail
                    ((with_reducible refine C5.out.mono ?_); rintro e w7 ⟨rfl, rfl⟩)
                    have C6 := is_c H6.out K
                    rw [IX.out K hK] at C6
                    replace C6 := Lib.hid C6
                    go_wp2_with fail
                    ((with_reducible refine C6.out.mono ?_); rintro e w7 ⟨rfl, rfl⟩)
                    go_wp2_with fail
                    go_roundw
                    case rel => exact ⟨K + 1, NX, AK, UY, UY, by omega, by omega, rfl, rfl, by omega, HNP, by omega, by omega, by omega, .inr HU2.out, H6, G6, KB6⟩
                    case measure => simp [intOf]; omega
                · have d2 : decide (K < 200) = false := decide_eq_false hlt
                  have d3 : decide (Int.tdiv 200 a0_2 ≤ AK) = true := decide_eq_true (HDV.out AK (by have := HNP.out; omega))
                  have d4 : decide (AK < Int.tdiv 200 a0_2) = false := decide_eq_false (by have := of_decide_eq_true d3; omega)
                  have g0 : a0_2 ≠ 0 := by omega
                  clear hlt
                  go_wp2_with fail
                  ((with_reducible refine (HL.out _).mono ?_); rintro e w5 ⟨rfl, h5⟩)
                  go_wp2_with fail
                  go_ret
                  exact ⟨rfl, KB.out.trans (h5.mono KB.out.size)⟩

theorem own : ownKnob Tryd.prog.godebug = none := by kernel_rfl
theorem laidOut : laidOutB Tryd.prog = true := by kernel_rfl

set_option maxHeartbeats 1000000 in
set_option maxRecDepth 100000 in
theorem lifted (os : Os) (started : os.Started) (H : Type) (enc : TypeId × Value → H) :
    ReturnsInHanded {} Tryd.checked os 3 .any (fun w args => (Rows.querierTwoSpec.pre enc Tryd.prog Tryd.f3 Rows.querierTwoRow.domain false w args ∧ laidMetH Tryd.prog Rows.querierTwoRow.laid w) ∧ sizedMet enc Tryd.prog Tryd.f3 (OpenSpec.ofChange Rows.querierTwoSpec) false w args) (Rows.querierTwoSpec.post enc Tryd.prog Tryd.f3 false true false false) := by
  refine returnsInHanded_of_change_and (C := Tryd.checked) (X := fun w _ => laidMetH Tryd.prog Rows.querierTwoRow.laid w) (fun _ _ _ hh h => h.of_heap hh) own started (by kernel_rfl) Tryd.func3
    (ChangeSpec.witness_shaped (enc := enc) (C := Tryd.checked) (os := os) (X := fun w _ => laidMetH Tryd.prog Rows.querierTwoRow.laid w) false (World.laidAll Tryd.prog os Rows.querierTwoRow.laid) #[.agg #[.string ByteArray.empty, .string ByteArray.empty, .int .i64 0, .int .i64 0]] 8 (World.laidAll_os _ _ _)
      (World.shaped_of_ZipB (by kernel_rfl) (by kernel_rfl)) (by kernel_rfl) (by kernel_rfl) (by kernel_rfl)
      (by rw [MakeChecks.laidMetH_plain _ _ _ (by kernel_rfl)]; exact laidMet_laidAll _ (by kernel_rfl) (by kernel_rfl))) ?_
  intro W base args ds gs before hval0 hW hcnd hsz0 hL hholds
  have hval : ∀ (j : Nat) t v, Tryd.f3.params[j]? = some t → args[j]? = some v → Value.okWide Tryd.prog W .any base t v := hval0
  have hsz : (DataW.weightsEach Tryd.prog (Tryd.f3.params.toList ++ Rows.querierTwoSpec.plain.varTypes Tryd.prog) (ds ++ gs)).all (· ≤ reachBytes) = true := hsz0
  have hW' := hW
  obtain ⟨p, q, hA0, hV, rfl, hfz, hnd⟩ := hW
  have hA : DataW.TrodAll enc Tryd.prog W 0 (fun _ => true) true Tryd.f3.params.toList args.toList ds p := hA0
  rw [Tryd.params3] at hA hval hsz
  obtain ⟨v0, vs0, d0, ds0, p0, q0, hargs, rfl, rfl, h0, r0⟩ := trodAll_cons hA
  obtain ⟨rfl, rfl, rfl⟩ := trodAll_nil r0
  obtain rfl : args = #[v0] := by cases args; simp_all
  obtain ⟨rfl, rfl⟩ := trodVars_none hV
  have k0 := h0
  have lt0 : ∀ x ∈ p0, x.block < W.heap.size := by obtain ⟨m, hm⟩ := k0; exact DataW.trod_lt m _ _ _ hm
  obtain ⟨cs0, rfl, hz0⟩ := okWide_struct Tryd.underlying24 (hval 0 24 v0 rfl rfl)
  obtain ⟨l0⟩ := cs0
  obtain ⟨c0_0, c0_1, c0_2, c0_3, rfl⟩ := list4 l0 (hz0.trans (by kernel_rfl))
  obtain ⟨fu0, hf0⟩ := h0
  obtain ⟨xs0, m0, -, hx0, -, hn0, hg0⟩ := DataW.trod_struct Tryd.underlying24 hf0
  obtain ⟨y0_0, y0_1, y0_2, y0_3, rfl⟩ := list4 xs0 hn0
  simp only [Prod.mk.injEq] at hx0
  obtain ⟨rfl, rfl⟩ := hx0
  have g0_0 : DataW.trod enc Tryd.prog W 0 (fun _ => true) true m0 22 (List.take (Tryd.prog.cellsOf 22) (List.drop 0 [c0_0, c0_1, c0_2, c0_3])) = some y0_0 := hg0 0 _ rfl
  rw [show Tryd.prog.cellsOf 22 = 1 from by kernel_rfl] at g0_0
  replace g0_0 : DataW.trod enc Tryd.prog W 0 (fun _ => true) true m0 22 [c0_0] = some y0_0 := g0_0
  have g0_1 : DataW.trod enc Tryd.prog W 0 (fun _ => true) true m0 22 (List.take (Tryd.prog.cellsOf 22) (List.drop 1 [c0_0, c0_1, c0_2, c0_3])) = some y0_1 := hg0 1 _ rfl
  rw [show Tryd.prog.cellsOf 22 = 1 from by kernel_rfl] at g0_1
  replace g0_1 : DataW.trod enc Tryd.prog W 0 (fun _ => true) true m0 22 [c0_1] = some y0_1 := g0_1
  have g0_2 : DataW.trod enc Tryd.prog W 0 (fun _ => true) true m0 3 (List.take (Tryd.prog.cellsOf 3) (List.drop 2 [c0_0, c0_1, c0_2, c0_3])) = some y0_2 := hg0 2 _ rfl
  rw [show Tryd.prog.cellsOf 3 = 1 from by kernel_rfl] at g0_2
  replace g0_2 : DataW.trod enc Tryd.prog W 0 (fun _ => true) true m0 3 [c0_2] = some y0_2 := g0_2
  have g0_3 : DataW.trod enc Tryd.prog W 0 (fun _ => true) true m0 3 (List.take (Tryd.prog.cellsOf 3) (List.drop 3 [c0_0, c0_1, c0_2, c0_3])) = some y0_3 := hg0 3 _ rfl
  rw [show Tryd.prog.cellsOf 3 = 1 from by kernel_rfl] at g0_3
  replace g0_3 : DataW.trod enc Tryd.prog W 0 (fun _ => true) true m0 3 [c0_3] = some y0_3 := g0_3
  clear hg0
  obtain ⟨a0_0, e0_0, rfl, w0_0⟩ := DataW.trod_string Tryd.underlying22 g0_0
  simp at e0_0
  subst e0_0
  obtain ⟨a0_1, e0_1, rfl, w0_1⟩ := DataW.trod_string Tryd.underlying22 g0_1
  simp at e0_1
  subst e0_1
  obtain ⟨a0_2, e0_2, rfl, w0_2⟩ := DataW.trod_int Tryd.underlying3 g0_2
  simp at e0_2
  subst e0_2
  obtain ⟨a0_3, e0_3, rfl, w0_3⟩ := DataW.trod_int Tryd.underlying3 g0_3
  simp at e0_3
  subst e0_3
  have za0_0 : a0_0.size ≤ 140737488351232 := by
    have h := List.all_eq_true.1 hsz _ (DataW.weights_mem_each (j := 0) (t := 24) rfl rfl a0_0.data.toList.length (by simp [DataW.weights, DataW.weightsEach, Tryd.underlying24]))
    simpa [reachBytes] using of_decide_eq_true h
  have za0_1 : a0_1.size ≤ 140737488351232 := by
    have h := List.all_eq_true.1 hsz _ (DataW.weights_mem_each (j := 0) (t := 24) rfl rfl a0_1.data.toList.length (by simp [DataW.weights, DataW.weightsEach, Tryd.underlying24]))
    simpa [reachBytes] using of_decide_eq_true h
  have ba0_2 := bounds_i64 w0_2
  have ba0_3 := bounds_i64 w0_3
  clear hA0 hval0
  refine (walk a0_0 a0_1 a0_2 a0_3 W za0_0 za0_1 ba0_2.1 ba0_2.2 ba0_3.1 ba0_3.2).mono fun e W' ⟨he, bel⟩ => ?_
  subst he
  exact ⟨_, rfl, _, _, _, [], _, [], hW', trodAll_mk1 (shut_bool Tryd.underlying4 _), (trodAll_cons_mk (Below.trod laidOut (by kernel_rfl) (of_decide_eq_true (by kernel_rfl)) k0 bel lt0) trodAll_mk0), rfl, bel.frame _, fun h => by cases h⟩

theorem over : Rows.querierTwoRow.holds Tryd.pinned (OpenSpec.ofChange Rows.querierTwoSpec) :=
  OpenClaim.holds_of_wide 3 Tryd.f3 rfl rfl rfl rfl rfl rfl rfl ⟨rfl, rfl, rfl, rfl, rfl⟩ rfl rfl rfl rfl rfl (by kernel_rfl) Tryd.func3 (by kernel_rfl)
    (of_decide_eq_true (by kernel_rfl)) (by unfold Func.isWrapper; first | (rw [if_pos (by decide +kernel)]; kernel_rfl) | (rw [if_neg (by decide +kernel)]; exact ⟨rfl, rfl⟩))
    (fun os started H enc _ => lifted os started H enc)

/-- The statement: the tied card. -/
theorem proved : Rows.QuerierTwoCardSaid :=
  Claim7.holds_tied_plain_at .later [] [.data, .pinned] true _ false over (fun _ h => by cases h) (by kernel_rfl) (fun _ h => by cases h) querierTwo_row_tie rfl ⟨rfl, rfl⟩ (by kernel_rfl) rfl
    (fun f fn hf hfn => by
      obtain rfl : f = 3 := Option.some.inj ((show Tryd.prog.funcNamed "siphon/siphonlaw20.QuerierTwo" = some 3 by kernel_rfl).symm.trans hf) |>.symm
      obtain rfl : fn = Tryd.f3 := (Option.some.inj (Tryd.func3.symm.trans hfn)).symm
      exact ⟨by kernel_rfl, fun j t ht => by
        rw [Tryd.params3] at ht
        have hm : t ∈ [24] := by simpa using Array.mem_of_getElem? ht
        have hall : ([24].all fun u => !Tryd.prog.wantsStandIn u) = true := by kernel_rfl
        exact (show Tryd.prog.wantsStandIn t = false by simpa using List.all_eq_true.1 hall t hm)⟩)
    (by kernel_rfl)
#print axioms proved
end Go.Proofs.YtlpcndmblnpjmaaDoor.querierTwoLaw
