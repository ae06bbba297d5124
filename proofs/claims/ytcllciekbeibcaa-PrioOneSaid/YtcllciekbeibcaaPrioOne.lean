/-
  'siphonlaw14.PrioOne' returns true, whatever the input, and each argument reads behind the call as it read before. Conditions: none beyond those that the row itself states.
-/
import Derived.Test.YtcllciekbeibcaaRows
import Derived.Test.YtcllciekbeibcaaPrI
import Derived.WalkKit
import Derived.ProofKit
import Derived.OpenShut
import Derived.ShutString
import Derived.ChangeOld
import Derived.Below
import Derived.Carry
import Derived.SizedLaws
import Derived.Lib.SmallJoins
import Derived.ChangeArms
import Derived.WideShapes
namespace Go.Proofs.Ytcllciekbeibcaa.prioOneLaw
open Go.ChangeShapes Go.WideShapes Go.ChangeAt Go.RowKit Go.Joins
open Go.ChangeMaps (open_string shut_string)
set_option linter.unusedVariables false

theorem lt_key (a0 a1 a2 a3 b0 b1 b2 b3 : Int) : cmpV (a0, a1, a2, a3) (b0, b1, b2, b3) < 0 ↔ a0 < b0 ∨ (a0 = b0 ∧ (a1 < b1 ∨ (a1 = b1 ∧ (a2 < b2 ∨ (a2 = b2 ∧ a3 < b3))))) := by
  unfold cmpV fst4 cmpN
  simp only
  repeat' split
  all_goals omega
theorem lt_tr {a b c : V4} (h : cmpV a b < 0) (k : cmpV b c < 0) : cmpV a c < 0 := by
  obtain ⟨a0, a1, a2, a3⟩ := a
  obtain ⟨b0, b1, b2, b3⟩ := b
  obtain ⟨c0, c1, c2, c3⟩ := c
  rw [lt_key] at *
  omega
theorem lt_ir (a : V4) : ¬ cmpV a a < 0 := by
  obtain ⟨a0, a1, a2, a3⟩ := a
  rw [lt_key]
  omega
theorem best_inv (b : Int) (L : List Hd) : ∀ k, k ≤ L.length → (bestL b (L.take k) = (-1, ownV b) ∨ (0 ≤ (bestL b (L.take k)).1 ∧ (bestL b (L.take k)).1 < k ∧ cmpV (bestL b (L.take k)).2 (ownV b) < 0)) ∧
    (∀ j (hj : j < L.length), j < k → leadB b L[j] = true → ¬ cmpV (leadV L[j]) (bestL b (L.take k)).2 < 0) ∧ (∀ j (hj : j < L.length), (j : Int) = (bestL b (L.take k)).1 → leadB b L[j] = true) := by
  intro k
  induction k with
  | zero =>
    intro _
    refine ⟨Or.inl rfl, fun j _ h => absurd h (by omega), fun j _ h => ?_⟩
    have : (j : Int) = -1 := h
    omega
  | succ k ih =>
    intro hk
    obtain ⟨i1, i2, i3⟩ := ih (by omega)
    rw [best_take b L k (by omega)]
    generalize bestL b (L.take k) = s at i1 i2 i3 ⊢
    rcases hl : leadB b L[k] with _ | _
    · have e : stepB b k L[k] s = s := by unfold stepB; rw [hl]; rfl
      rw [e]
      refine ⟨?_, fun j hj hjk hb => ?_, i3⟩
      · rcases i1 with i1 | ⟨i1, i4, i5⟩
        · exact Or.inl i1
        · exact Or.inr ⟨i1, by omega, i5⟩
      · by_cases e2 : j = k
        · subst e2; rw [hl] at hb; cases hb
        · exact i2 j hj (by omega) hb
    · by_cases hq : cmpV (leadV L[k]) s.2 < 0
      · have e : stepB b k L[k] s = ((k : Int), leadV L[k]) := by unfold stepB; rw [hl, decide_eq_true hq]; rfl
        rw [e]
        refine ⟨Or.inr ⟨by simp, by simp; omega, ?_⟩, fun j hj hjk hb => ?_, fun j hj h => ?_⟩
        · rcases i1 with i1 | ⟨i1, i4, i5⟩
          · rw [i1] at hq; exact hq
          · exact lt_tr hq i5
        · by_cases e2 : j = k
          · subst e2; exact lt_ir _
          · exact fun h => i2 j hj (by omega) hb (lt_tr h hq)
        · obtain rfl : j = k := by have : (j : Int) = (k : Int) := h; omega
          exact hl
      · have e : stepB b k L[k] s = s := by unfold stepB; rw [hl, decide_eq_false hq]; rfl
        rw [e]
        refine ⟨?_, fun j hj hjk hb => ?_, i3⟩
        · rcases i1 with i1 | ⟨i1, i4, i5⟩
          · exact Or.inl i1
          · exact Or.inr ⟨i1, by omega, i5⟩
        · by_cases e2 : j = k
          · subst e2; exact hq
          · exact i2 j hj (by omega) hb
theorem rolesGo_get (b : Int) (s : Bst) : ∀ (L : List Hd) (i : Int) (k : Nat) (h : k < L.length), (rolesGo b s i L)[k]? = some (roleH b s (i + k) L[k])
  | x :: r, i, 0, _ => by simp [rolesGo]
  | x :: r, i, k + 1, h => by
    have := rolesGo_get b s r (i + 1) k (by simpa using h)
    simp only [rolesGo, List.getElem?_cons_succ, List.getElem_cons_succ]
    rw [this]
    congr 2
    push_cast
    omega
/-- How often a port was Root. -/
def cntR (sp : Int) (k : Nat) : Int := if 0 ≤ sp ∧ sp < (k : Int) then 1 else 0
theorem cntR_eq (sp : Int) (k : Nat) (h : (k : Int) = sp) : cntR sp k = 0 ∧ cntR sp (k + 1) = 1 := by
  unfold cntR
  constructor
  · rw [if_neg (by omega)]
  · rw [if_pos (by omega)]
theorem cntR_ne (sp : Int) (k : Nat) (h : (k : Int) ≠ sp) : cntR sp (k + 1) = cntR sp k := by
  unfold cntR
  by_cases c : 0 ≤ sp ∧ sp < (k : Int)
  · rw [if_pos c, if_pos (by omega)]
  · rw [if_neg c, if_neg (by omega)]

set_option maxHeartbeats 16000000 in
set_option maxRecDepth 100000 in
theorem walk (a0 : Int) (a1 : Value) (la1 : List Hd) (w : World) (la0 : 0 ≤ a0) (ua0 : a0 ≤ 18446744073709551615) (ha1 : RowsAt 6 cellsHd w a1 la1) (qa1 : la1.length ≤ maxLen) (sa1 : ∀ r ∈ la1, GoodHd r) :
    Calls Try.prog 7 #[.int .u64 a0, a1] w fun e w' => e = .returned (.bool true) ∧ Below w.heap.size w w' := by
  have HL := Lib.hid fun U => live14_c U
  unfold maxLen at qa1
  obtain ⟨p, cap, rfl⟩ := ha1.slice
  by_cases hq : 40 < la1.length
  · have d1 : decide ((40 : Int) < (la1.length : Int)) = true := decide_eq_true (by omega)
    have d2 : decide ((la1.length : Int) > 40) = true := d1
    clear ha1
    go_enter Try.func7, Try.ntmps7
    go_wp2_with fail
    ((with_reducible refine (HL.out _).mono ?_); rintro e w1 ⟨rfl, h1⟩)
    go_wp2_with fail
    go_ret
    exact ⟨rfl, h1⟩
  · have d1 : decide ((40 : Int) < (la1.length : Int)) = false := decide_eq_false (by omega)
    have d2 : decide ((la1.length : Int) > 40) = false := d1
    have HT := Lib.hid (told_c _ la1 w (by omega) ha1)
    have HB := Lib.hid fun (U : World) (u : Value) (h : RowsAt 6 cellsHd U u la1) => pbest_c a0 u la1 U (by omega) h
    have HR := Lib.hid fun (U : World) (u : Value) (h : RowsAt 6 cellsHd U u la1) => proles_c a0 u la1 U (by omega) h
    have hlr : (rolesL a0 la1).length = la1.length := by unfold rolesL; rw [rolesGo_len]
    have hinv := best_inv a0 la1 la1.length (Nat.le_refl _)
    rw [List.take_length] at hinv
    have hget := rolesGo_get a0 (bestL a0 la1) la1 0
    unfold rolesL at HR hlr
    generalize bestL a0 la1 = s at HB HR hlr hinv hget
    obtain ⟨sp, s1, s2, s3, s4⟩ := s
    simp only at HB
    obtain ⟨j1, j2, j3⟩ := hinv
    have J1 := Lib.hid j1
    have J2 := Lib.hid j2
    have J3 := Lib.hid j3
    have HG := Lib.hid hget
    have hsz := Lib.hid (show la1.length ≤ 40 by omega)
    clear ha1 j1 j2 j3 hget hq
    generalize rolesGo a0 (sp, s1, s2, s3, s4) 0 la1 = lr at HR hlr HG
    go_enter Try.func7, Try.ntmps7
    go_wp2_with fail
    ((with_reducible refine HT.out.mono ?_); rintro e w1 ⟨u1, rfl, r1, h1⟩)
    have R1 := Lib.hid r1
    have H1 := Lib.hid h1
    clear r1 h1 HT
    go_wp2_with fail
    ((with_reducible refine (HR.out _ _ R1.out).mono ?_); rintro e w2 ⟨u2, rfl, i2, h2⟩)
    have I2 := Lib.hid i2
    replace R1 := Lib.hid (R1.out.below h2)
    replace H1 := Lib.hid (k_call H1.out h2)
    clear i2 h2 HR
    go_wp2_with fail
    ((with_reducible refine (HB.out _ _ R1.out).mono ?_); rintro e w3 ⟨rfl, h3⟩)
    replace R1 := Lib.hid (R1.out.below h3)
    replace I2 := Lib.hid (I2.out.below h3)
    replace H1 := Lib.hid (k_call H1.out h3)
    clear h3 HB
    have B1 := Lib.hid (Bx.start w3 #[.int .u64 s1, .int .i64 s2, .int .u64 s3, .int .i64 s4] 24)
    have g1 := (Below.refl w3.heap.size w3).alloc (Nat.le_refl _) (.cells #[.int .u64 s1, .int .i64 s2, .int .u64 s3, .int .i64 s4] 24)
    replace R1 := Lib.hid (R1.out.below g1)
    replace I2 := Lib.hid (I2.out.below g1)
    replace H1 := Lib.hid (k_call H1.out g1)
    clear g1
    go_upto_region 6 with fail
    generalize w3.alloc (.cells #[.int .u64 s1, .int .i64 s2, .int .u64 s3, .int .i64 s4] 24) = W1 at B1 R1 I2 H1 ⊢
    generalize w3.heap.size = bx at B1 ⊢
    obtain ⟨p1, cap1, bb, off, rfl, hp, hc⟩ := R1.out
    obtain ⟨p2, cap2, b2, off2, rfl, hp2, hc2⟩ := I2.out
    have HP := Lib.hid hp
    have HC := Lib.hid hc
    have HP2 := Lib.hid hp2
    have HC2 := Lib.hid hc2
    clear hp hc hp2 hc2 R1 I2
    have HNE := Lib.hid (show la1 ≠ [] → lr ≠ [] from fun h e => h (List.eq_nil_of_length_eq_zero (by rw [← hlr, e]; rfl)))
    rw [hlr] at *
    clear hlr
    go_wp2_with fail
    go_loopw [9, 10, 11, 12] (fun s9 i _ _ wr => ∃ k : Nat, k ≤ la1.length ∧ i = .int .i64 k ∧ s9 = .int .i64 (cntR sp k) ∧ Hid (Below W1.heap.size W1 wr)) (fun _ i _ _ _ => la1.length - (intOf i).toNat)
    case atStart => exact ⟨0, Nat.zero_le _, rfl, by unfold cntR; rw [if_neg (by omega)], Lib.hid (Below.refl _ _)⟩
    case round =>
      obtain ⟨k, hk, rfl, rfl, KB⟩ := hrel
      by_cases hlt : k < la1.length
      · have hne' : la1 ≠ [] := by rintro rfl; simp at hlt
        obtain rfl := HP.out hne'
        obtain rfl := HP2.out (HNE.out hne')
        have x0 : wr.cell? ⟨bb, off + k * 6, none⟩ = some _ := gcell_below KB.out (HC.out k _ (List.getElem?_eq_getElem hlt) 0 _ rfl)
        have x1 : wr.cell? ⟨bb, off + k * 6 + 1, none⟩ = some _ := gcell_below KB.out (HC.out k _ (List.getElem?_eq_getElem hlt) 1 _ rfl)
        have x2 : wr.cell? ⟨bb, off + k * 6 + 2, none⟩ = some _ := gcell_below KB.out (HC.out k _ (List.getElem?_eq_getElem hlt) 2 _ rfl)
        have x3 : wr.cell? ⟨bb, off + k * 6 + 3, none⟩ = some _ := gcell_below KB.out (HC.out k _ (List.getElem?_eq_getElem hlt) 3 _ rfl)
        have x4 : wr.cell? ⟨bb, off + k * 6 + 4, none⟩ = some _ := gcell_below KB.out (HC.out k _ (List.getElem?_eq_getElem hlt) 4 _ rfl)
        have x5 : wr.cell? ⟨bb, off + k * 6 + 5, none⟩ = some _ := gcell_below KB.out (HC.out k _ (List.getElem?_eq_getElem hlt) 5 _ rfl)
        have z0 : wr.cell? ⟨b2, off2 + k, none⟩ = some _ := gcell_below KB.out (HC2.out k _ (HG.out k hlt))
        have m2 := J2.out k hlt hlt
        have m3 := J3.out k hlt
        have X0 := Lib.hid (HC.out k _ (List.getElem?_eq_getElem hlt) 0 _ rfl)
        have X1 := Lib.hid (HC.out k _ (List.getElem?_eq_getElem hlt) 1 _ rfl)
        have X2 := Lib.hid (HC.out k _ (List.getElem?_eq_getElem hlt) 2 _ rfl)
        have X3 := Lib.hid (HC.out k _ (List.getElem?_eq_getElem hlt) 3 _ rfl)
        have X4 := Lib.hid (HC.out k _ (List.getElem?_eq_getElem hlt) 4 _ rfl)
        have Z0 := Lib.hid (HC2.out k _ (HG.out k hlt))
        rw [Int.zero_add] at z0 Z0
        generalize la1[k] = hd at x0 x1 x2 x3 x4 x5 z0 m2 m3 X0 X1 X2 X3 X4 Z0
        obtain ⟨x, r, c, g, q, kk⟩ := hd
        simp only at x0 x1 x2 x3 x4 x5 m2 m3 X0 X1 X2 X3 X4
        clear hne'
        have hlt' : (k : Int) < (la1.length : Int) := by omega
        have hm : ∀ n : Int, roleH a0 (sp, s1, s2, s3, s4) k (x, r, c, g, q, kk) = n → n = 2 → x = true → cmpV (s1, s2, a0, (k : Int)) (r, c, g, q) ≤ 0 := by
          intro n h1 h2 h3
          subst h3
          by_cases e : (k : Int) = sp
          · have h4 : roleH a0 (sp, s1, s2, s3, s4) k (true, r, c, g, q, kk) = 1 := by rw [e]; exact role1 _ _ _
            omega
          · refine Decidable.byContradiction fun hc => ?_
            have h4 := role3 a0 (sp, s1, s2, s3, s4) k (true, r, c, g, q, kk) e rfl hc
            omega
        have hr3 : ∀ n : Int, roleH a0 (sp, s1, s2, s3, s4) k (x, r, c, g, q, kk) = n → (k : Int) ≠ sp → n = 2 ∨ n = 3 := by
          intro n h1 h2
          subst h1
          unfold roleH
          rw [if_neg h2]
          split
          · exact Or.inl rfl
          · exact Or.inr rfl
        by_cases hks : (k : Int) = sp
        · have hro : roleH a0 (sp, s1, s2, s3, s4) k (x, r, c, g, q, kk) = 1 := by rw [hks]; exact role1 _ _ _
          rw [hro] at z0 Z0
          obtain ⟨kq, kq'⟩ := eq_t hks
          obtain ⟨n0, n1⟩ := cntR_eq sp k hks
          rw [n0]
          have N1 := Lib.hid n1
          have hl := m3 hks
          have hcm := m2 hl
          unfold leadB at hl
          simp only [Bool.and_eq_true, decide_eq_true_eq, Bool.not_eq_true'] at hl
          obtain ⟨⟨rfl, hgb⟩, hbd⟩ := hl
          obtain ⟨kg, kg'⟩ := ne_t hgb
          unfold leadV thrV vecH costH at hcm
          simp only at hcm
          have HQ := fun U => Lib.hid (pcmp_c r (farC c kk) g q s1 s2 s3 s4 U)
          have HT := fun U => Lib.hid (pthr_ok r c g q kk U hbd)
          generalize farC c kk = t2 at HT HQ hcm
          generalize cmpV (r, t2, g, q) (s1, s2, s3, s4) = cc at HQ hcm
          have e1 : decide (cc < 0) = false := decide_eq_false (by omega)
          have e2 : decide (0 ≤ cc) = true := decide_eq_true (by omega)
          clear hro n0 n1 m2 m3 hm hr3 hcm hgb hbd hks
          go_upto_region 16 with fail
          have KF := Lib.hid fun (U : World) (kz : Below wr.heap.size wr U) => (⟨gcell_below kz x1, gcell_below kz x2, gcell_below kz x3, gcell_below kz x4, gcell_below kz x5, kz⟩ : U.cell? ⟨bb, off + k * 6 + 1, none⟩ = some (.int .u64 r) ∧ U.cell? ⟨bb, off + k * 6 + 2, none⟩ = some (.int .i64 c) ∧ U.cell? ⟨bb, off + k * 6 + 3, none⟩ = some (.int .u64 g) ∧ U.cell? ⟨bb, off + k * 6 + 4, none⟩ = some (.int .i64 q) ∧ U.cell? ⟨bb, off + k * 6 + 5, none⟩ = some (.int .i64 kk) ∧ Below wr.heap.size wr U)
          have k0 := Below.refl wr.heap.size wr
          have kl : wr.heap.size ≤ wr.heap.size := Nat.le_refl _
          go_region_held3 (fun U => U.cell? ⟨bb, off + k * 6 + 1, none⟩ = some (.int .u64 r) ∧ U.cell? ⟨bb, off + k * 6 + 2, none⟩ = some (.int .i64 c) ∧ U.cell? ⟨bb, off + k * 6 + 3, none⟩ = some (.int .u64 g) ∧ U.cell? ⟨bb, off + k * 6 + 4, none⟩ = some (.int .i64 q) ∧ U.cell? ⟨bb, off + k * 6 + 5, none⟩ = some (.int .i64 kk) ∧ Below wr.heap.size wr U)
            (first | with_reducible exact KF.out _ (k_wr4 k4 kl _ _ _ _) | with_reducible exact KF.out _ (k_alloc k4 _) | with_reducible exact KF.out _ k4 | with_reducible exact KF.out _ (k_alloc k0 _).drew | with_reducible exact KF.out _ k0.drew)
            (first
              | (go_at_call 14; (with_reducible refine (HT _).out.mono ?_); rintro e w4 ⟨rfl, h4⟩; have k4 := k_call (k_alloc k0 _).drew h4; have hb4 : w4.heap[wr.heap.size]? = some (.cells #[.int .u64 0, .int .i64 0, .int .u64 0, .int .i64 0] 24 (0, 0)) := below_block h4 (by simp [World.drew]) (heap_new wr _); have y0 := cell_of_block hb4 (j := 0) rfl; have y1 := cell_of_block hb4 (j := 1) rfl; have y2 := cell_of_block hb4 (j := 2) rfl; have y3 := cell_of_block hb4 (j := 3) rfl; have fr4 := fun j => free_of_block (j := j) hb4; have hz4 := lt_of_block hb4)
              | (go_at_call 14; (with_reducible refine (HT _).out.mono ?_); rintro e w4 ⟨rfl, h4⟩; have k4 := k_call k0.drew h4))
          · rename_i hh
            clear hh
            have V := Lib.hid (show Bx w4 (w4.alloc (.cells #[.int .u64 r, .int .i64 t2, .int .u64 g, .int .i64 q] 24)) w4.heap.size #[.int .u64 r, .int .i64 t2, .int .u64 g, .int .i64 q] 24 from Bx.start _ _ _)
            have K5 := Lib.hid (KB.out.trans ((k_alloc k4 (.cells #[.int .u64 r, .int .i64 t2, .int .u64 g, .int .i64 q] 24)).mono KB.out.size))
            clear k4 h4 k0 kl KF HT x0 x1 x2 x3 x4 x5 z0
            generalize w4.alloc (.cells #[.int .u64 r, .int .i64 t2, .int .u64 g, .int .i64 q] 24) = w5 at K5 V ⊢
            generalize w4.heap.size = vb at V ⊢
            have x0 : w5.cell? ⟨bb, off + k * 6, none⟩ = some (.bool true) := gcell_below K5.out X0.out
            have x1 : w5.cell? ⟨bb, off + k * 6 + 1, none⟩ = some (.int .u64 r) := gcell_below K5.out X1.out
            have x2 : w5.cell? ⟨bb, off + k * 6 + 2, none⟩ = some (.int .i64 c) := gcell_below K5.out X2.out
            have x3 : w5.cell? ⟨bb, off + k * 6 + 3, none⟩ = some (.int .u64 g) := gcell_below K5.out X3.out
            have x4 : w5.cell? ⟨bb, off + k * 6 + 4, none⟩ = some (.int .i64 q) := gcell_below K5.out X4.out
            have u0 := gcell_below K5.out (B1.out.cell 0 rfl)
            have u1 := gcell_below K5.out (B1.out.cell 1 rfl)
            have u2 := gcell_below K5.out (B1.out.cell 2 rfl)
            have u3 := gcell_below K5.out (B1.out.cell 3 rfl)
            have v0 := V.out.cell 0 rfl
            have v1 := V.out.cell 1 rfl
            have v2 := V.out.cell 2 rfl
            have v3 := V.out.cell 3 rfl
            have z0 : w5.cell? ⟨b2, off2 + k, none⟩ = some (.int .i64 1) := gcell_below K5.out Z0.out
            go_wp2_with fail
            ((with_reducible refine (HQ _).out.mono ?_); rintro e w6 ⟨rfl, h6⟩)
            have K6 := Lib.hid (K5.out.trans (h6.mono K5.out.size))
            clear h6 HQ V x0 x1 x2 x3 x4 u0 u1 u2 u3 v0 v1 v2 v3 z0
            have x0 : w6.cell? ⟨bb, off + k * 6, none⟩ = some (.bool true) := gcell_below K6.out X0.out
            have x1 : w6.cell? ⟨bb, off + k * 6 + 1, none⟩ = some (.int .u64 r) := gcell_below K6.out X1.out
            have x2 : w6.cell? ⟨bb, off + k * 6 + 2, none⟩ = some (.int .i64 c) := gcell_below K6.out X2.out
            have x3 : w6.cell? ⟨bb, off + k * 6 + 3, none⟩ = some (.int .u64 g) := gcell_below K6.out X3.out
            have x4 : w6.cell? ⟨bb, off + k * 6 + 4, none⟩ = some (.int .i64 q) := gcell_below K6.out X4.out
            have u0 := gcell_below K6.out (B1.out.cell 0 rfl)
            have u1 := gcell_below K6.out (B1.out.cell 1 rfl)
            have u2 := gcell_below K6.out (B1.out.cell 2 rfl)
            have u3 := gcell_below K6.out (B1.out.cell 3 rfl)
            have z0 : w6.cell? ⟨b2, off2 + k, none⟩ = some (.int .i64 1) := gcell_below K6.out Z0.out
            go_upto_region 19 with fail
            go_quiet (fail)
            have K7 := Lib.hid (below_drewN K6.out nq)
            clear x0 x1 x2 x3 x4 u0 u1 u2 u3 z0
            generalize w6.drewN nq = w7 at K7 ⊢
            go_wp2_with fail
            go_roundw
            case rel => exact ⟨k + 1, by omega, by go_num, by rw [N1.out], K7⟩
            case measure => simp [intOf]; omega
          · rename_i hh
            clear hh
            have V : Hid (Bx wr ((((w4.setCell ⟨wr.heap.size, 0, none⟩ (.int .u64 r)).setCell ⟨wr.heap.size, 1, none⟩ (.int .i64 t2)).setCell ⟨wr.heap.size, 2, none⟩ (.int .u64 g)).setCell ⟨wr.heap.size, 3, none⟩ (.int .i64 q)) wr.heap.size #[.int .u64 r, .int .i64 t2, .int .u64 g, .int .i64 q] 24) := Lib.hid (Bx.put4 ⟨hb4, Nat.le_refl _, k4⟩ _ _ _ _)
            have K5 : Hid (Below W1.heap.size W1 ((((w4.setCell ⟨wr.heap.size, 0, none⟩ (.int .u64 r)).setCell ⟨wr.heap.size, 1, none⟩ (.int .i64 t2)).setCell ⟨wr.heap.size, 2, none⟩ (.int .u64 g)).setCell ⟨wr.heap.size, 3, none⟩ (.int .i64 q))) := Lib.hid (KB.out.trans ((k_wr4 k4 kl _ _ _ _).mono KB.out.size))
            clear hb4 y0 y1 y2 y3 fr4 hz4 k4 h4 k0 kl KF HT x0 x1 x2 x3 x4 x5 z0
            generalize ((((w4.setCell ⟨wr.heap.size, 0, none⟩ (.int .u64 r)).setCell ⟨wr.heap.size, 1, none⟩ (.int .i64 t2)).setCell ⟨wr.heap.size, 2, none⟩ (.int .u64 g)).setCell ⟨wr.heap.size, 3, none⟩ (.int .i64 q)) = w5 at K5 V ⊢
            generalize wr.heap.size = vb at V ⊢
            have x0 : w5.cell? ⟨bb, off + k * 6, none⟩ = some (.bool true) := gcell_below K5.out X0.out
            have x1 : w5.cell? ⟨bb, off + k * 6 + 1, none⟩ = some (.int .u64 r) := gcell_below K5.out X1.out
            have x2 : w5.cell? ⟨bb, off + k * 6 + 2, none⟩ = some (.int .i64 c) := gcell_below K5.out X2.out
            have x3 : w5.cell? ⟨bb, off + k * 6 + 3, none⟩ = some (.int .u64 g) := gcell_below K5.out X3.out
            have x4 : w5.cell? ⟨bb, off + k * 6 + 4, none⟩ = some (.int .i64 q) := gcell_below K5.out X4.out
            have u0 := gcell_below K5.out (B1.out.cell 0 rfl)
            have u1 := gcell_below K5.out (B1.out.cell 1 rfl)
            have u2 := gcell_below K5.out (B1.out.cell 2 rfl)
            have u3 := gcell_below K5.out (B1.out.cell 3 rfl)
            have v0 := V.out.cell 0 rfl
            have v1 := V.out.cell 1 rfl
            have v2 := V.out.cell 2 rfl
            have v3 := V.out.cell 3 rfl
            have z0 : w5.cell? ⟨b2, off2 + k, none⟩ = some (.int .i64 1) := gcell_below K5.out Z0.out
            go_wp2_with fail
            ((with_reducible refine (HQ _).out.mono ?_); rintro e w6 ⟨rfl, h6⟩)
            have K6 := Lib.hid (K5.out.trans (h6.mono K5.out.size))
            clear h6 HQ V x0 x1 x2 x3 x4 u0 u1 u2 u3 v0 v1 v2 v3 z0
            have x0 : w6.cell? ⟨bb, off + k * 6, none⟩ = some (.bool true) := gcell_below K6.out X0.out
            have x1 : w6.cell? ⟨bb, off + k * 6 + 1, none⟩ = some (.int .u64 r) := gcell_below K6.out X1.out
            have x2 : w6.cell? ⟨bb, off + k * 6 + 2, none⟩ = some (.int .i64 c) := gcell_below K6.out X2.out
            have x3 : w6.cell? ⟨bb, off + k * 6 + 3, none⟩ = some (.int .u64 g) := gcell_below K6.out X3.out
            have x4 : w6.cell? ⟨bb, off + k * 6 + 4, none⟩ = some (.int .i64 q) := gcell_below K6.out X4.out
            have u0 := gcell_below K6.out (B1.out.cell 0 rfl)
            have u1 := gcell_below K6.out (B1.out.cell 1 rfl)
            have u2 := gcell_below K6.out (B1.out.cell 2 rfl)
            have u3 := gcell_below K6.out (B1.out.cell 3 rfl)
            have z0 : w6.cell? ⟨b2, off2 + k, none⟩ = some (.int .i64 1) := gcell_below K6.out Z0.out
            go_upto_region 19 with fail
            go_quiet (fail)
            have K7 := Lib.hid (below_drewN K6.out nq)
            clear x0 x1 x2 x3 x4 u0 u1 u2 u3 z0
            generalize w6.drewN nq = w7 at K7 ⊢
            go_wp2_with fail
            go_roundw
            case rel => exact ⟨k + 1, by omega, by go_num, by rw [N1.out], K7⟩
            case measure => simp [intOf]; omega
        · obtain ⟨kq, kq'⟩ := ne_t hks
          have N1 := Lib.hid (cntR_ne sp k hks)
          have hr3' := hr3 _ rfl hks
          rcases hxx : x with _ | _
          · subst hxx
            have hro : roleH a0 (sp, s1, s2, s3, s4) k (false, r, c, g, q, kk) = 2 := role2 _ _ _ _ hks (Or.inl rfl)
            rw [hro] at z0 Z0
            obtain ⟨t1, t2, t3, t4, ee, HT⟩ : ∃ t1 t2 t3 t4 ee : Int, ∀ U, Hid (Calls Try.prog 14 #[.agg #[.int .u64 r, .int .i64 c, .int .u64 g, .int .i64 q], .int .i64 kk] U fun e w' => e = .returned (.tuple #[.agg #[.int .u64 t1, .int .i64 t2, .int .u64 t3, .int .i64 t4], .int .i64 ee]) ∧ Below U.heap.size U w') := by
              rcases hbd : badW c kk with _ | _
              · exact ⟨_, _, _, _, _, fun U => Lib.hid (pthr_ok r c g q kk U hbd)⟩
              · exact ⟨_, _, _, _, _, fun U => Lib.hid (pthr_no r c g q kk U hbd)⟩
            clear hro m2 m3 hm hr3 hr3' hks
            go_upto_region 16 with fail
            have KF := Lib.hid fun (U : World) (kz : Below wr.heap.size wr U) => (⟨gcell_below kz x1, gcell_below kz x2, gcell_below kz x3, gcell_below kz x4, gcell_below kz x5, kz⟩ : U.cell? ⟨bb, off + k * 6 + 1, none⟩ = some (.int .u64 r) ∧ U.cell? ⟨bb, off + k * 6 + 2, none⟩ = some (.int .i64 c) ∧ U.cell? ⟨bb, off + k * 6 + 3, none⟩ = some (.int .u64 g) ∧ U.cell? ⟨bb, off + k * 6 + 4, none⟩ = some (.int .i64 q) ∧ U.cell? ⟨bb, off + k * 6 + 5, none⟩ = some (.int .i64 kk) ∧ Below wr.heap.size wr U)
            have k0 := Below.refl wr.heap.size wr
            have kl : wr.heap.size ≤ wr.heap.size := Nat.le_refl _
            go_region_held3 (fun U => U.cell? ⟨bb, off + k * 6 + 1, none⟩ = some (.int .u64 r) ∧ U.cell? ⟨bb, off + k * 6 + 2, none⟩ = some (.int .i64 c) ∧ U.cell? ⟨bb, off + k * 6 + 3, none⟩ = some (.int .u64 g) ∧ U.cell? ⟨bb, off + k * 6 + 4, none⟩ = some (.int .i64 q) ∧ U.cell? ⟨bb, off + k * 6 + 5, none⟩ = some (.int .i64 kk) ∧ Below wr.heap.size wr U)
              (first | with_reducible exact KF.out _ (k_wr4 k4 kl _ _ _ _) | with_reducible exact KF.out _ (k_alloc k4 _) | with_reducible exact KF.out _ k4 | with_reducible exact KF.out _ (k_alloc k0 _).drew | with_reducible exact KF.out _ k0.drew)
              (first
                | (go_at_call 14; (with_reducible refine (HT _).out.mono ?_); rintro e w4 ⟨rfl, h4⟩; have k4 := k_call (k_alloc k0 _).drew h4; have hb4 : w4.heap[wr.heap.size]? = some (.cells #[.int .u64 0, .int .i64 0, .int .u64 0, .int .i64 0] 24 (0, 0)) := below_block h4 (by simp [World.drew]) (heap_new wr _); have y0 := cell_of_block hb4 (j := 0) rfl; have y1 := cell_of_block hb4 (j := 1) rfl; have y2 := cell_of_block hb4 (j := 2) rfl; have y3 := cell_of_block hb4 (j := 3) rfl; have fr4 := fun j => free_of_block (j := j) hb4; have hz4 := lt_of_block hb4)
                | (go_at_call 14; (with_reducible refine (HT _).out.mono ?_); rintro e w4 ⟨rfl, h4⟩; have k4 := k_call k0.drew h4))
            · rename_i hh
              clear hh
              have V := Lib.hid (show Bx w4 (w4.alloc (.cells #[.int .u64 t1, .int .i64 t2, .int .u64 t3, .int .i64 t4] 24)) w4.heap.size #[.int .u64 t1, .int .i64 t2, .int .u64 t3, .int .i64 t4] 24 from Bx.start _ _ _)
              have K5 := Lib.hid (KB.out.trans ((k_alloc k4 (.cells #[.int .u64 t1, .int .i64 t2, .int .u64 t3, .int .i64 t4] 24)).mono KB.out.size))
              clear k4 h4 k0 kl KF HT x0 x1 x2 x3 x4 x5 z0
              generalize w4.alloc (.cells #[.int .u64 t1, .int .i64 t2, .int .u64 t3, .int .i64 t4] 24) = w5 at K5 V ⊢
              generalize w4.heap.size = vb at V ⊢
              have x0 : w5.cell? ⟨bb, off + k * 6, none⟩ = some (.bool false) := gcell_below K5.out X0.out
              have x1 : w5.cell? ⟨bb, off + k * 6 + 1, none⟩ = some (.int .u64 r) := gcell_below K5.out X1.out
              have x2 : w5.cell? ⟨bb, off + k * 6 + 2, none⟩ = some (.int .i64 c) := gcell_below K5.out X2.out
              have x3 : w5.cell? ⟨bb, off + k * 6 + 3, none⟩ = some (.int .u64 g) := gcell_below K5.out X3.out
              have x4 : w5.cell? ⟨bb, off + k * 6 + 4, none⟩ = some (.int .i64 q) := gcell_below K5.out X4.out
              have u0 := gcell_below K5.out (B1.out.cell 0 rfl)
              have u1 := gcell_below K5.out (B1.out.cell 1 rfl)
              have u2 := gcell_below K5.out (B1.out.cell 2 rfl)
              have u3 := gcell_below K5.out (B1.out.cell 3 rfl)
              have v0 := V.out.cell 0 rfl
              have v1 := V.out.cell 1 rfl
              have v2 := V.out.cell 2 rfl
              have v3 := V.out.cell 3 rfl
              have z0 : w5.cell? ⟨b2, off2 + k, none⟩ = some (.int .i64 2) := gcell_below K5.out Z0.out
              go_upto_region 19 with fail
              go_quiet (fail)
              have K7 := Lib.hid (below_drewN K5.out nq)
              clear x0 x1 x2 x3 x4 u0 u1 u2 u3 v0 v1 v2 v3 z0
              generalize w5.drewN nq = w7 at K7 ⊢
              go_wp2_with fail
              go_roundw
              case rel => exact ⟨k + 1, by omega, by go_num, by rw [N1.out], K7⟩
              case measure => simp [intOf]; omega
            · rename_i hh
              clear hh
              have V : Hid (Bx wr ((((w4.setCell ⟨wr.heap.size, 0, none⟩ (.int .u64 t1)).setCell ⟨wr.heap.size, 1, none⟩ (.int .i64 t2)).setCell ⟨wr.heap.size, 2, none⟩ (.int .u64 t3)).setCell ⟨wr.heap.size, 3, none⟩ (.int .i64 t4)) wr.heap.size #[.int .u64 t1, .int .i64 t2, .int .u64 t3, .int .i64 t4] 24) := Lib.hid (Bx.put4 ⟨hb4, Nat.le_refl _, k4⟩ _ _ _ _)
              have K5 : Hid (Below W1.heap.size W1 ((((w4.setCell ⟨wr.heap.size, 0, none⟩ (.int .u64 t1)).setCell ⟨wr.heap.size, 1, none⟩ (.int .i64 t2)).setCell ⟨wr.heap.size, 2, none⟩ (.int .u64 t3)).setCell ⟨wr.heap.size, 3, none⟩ (.int .i64 t4))) := Lib.hid (KB.out.trans ((k_wr4 k4 kl _ _ _ _).mono KB.out.size))
              clear hb4 y0 y1 y2 y3 fr4 hz4 k4 h4 k0 kl KF HT x0 x1 x2 x3 x4 x5 z0
              generalize ((((w4.setCell ⟨wr.heap.size, 0, none⟩ (.int .u64 t1)).setCell ⟨wr.heap.size, 1, none⟩ (.int .i64 t2)).setCell ⟨wr.heap.size, 2, none⟩ (.int .u64 t3)).setCell ⟨wr.heap.size, 3, none⟩ (.int .i64 t4)) = w5 at K5 V ⊢
              generalize wr.heap.size = vb at V ⊢
              have x0 : w5.cell? ⟨bb, off + k * 6, none⟩ = some (.bool false) := gcell_below K5.out X0.out
              have x1 : w5.cell? ⟨bb, off + k * 6 + 1, none⟩ = some (.int .u64 r) := gcell_below K5.out X1.out
              have x2 : w5.cell? ⟨bb, off + k * 6 + 2, none⟩ = some (.int .i64 c) := gcell_below K5.out X2.out
              have x3 : w5.cell? ⟨bb, off + k * 6 + 3, none⟩ = some (.int .u64 g) := gcell_below K5.out X3.out
              have x4 : w5.cell? ⟨bb, off + k * 6 + 4, none⟩ = some (.int .i64 q) := gcell_below K5.out X4.out
              have u0 := gcell_below K5.out (B1.out.cell 0 rfl)
              have u1 := gcell_below K5.out (B1.out.cell 1 rfl)
              have u2 := gcell_below K5.out (B1.out.cell 2 rfl)
              have u3 := gcell_below K5.out (B1.out.cell 3 rfl)
              have v0 := V.out.cell 0 rfl
              have v1 := V.out.cell 1 rfl
              have v2 := V.out.cell 2 rfl
              have v3 := V.out.cell 3 rfl
              have z0 : w5.cell? ⟨b2, off2 + k, none⟩ = some (.int .i64 2) := gcell_below K5.out Z0.out
              go_upto_region 19 with fail
              go_quiet (fail)
              have K7 := Lib.hid (below_drewN K5.out nq)
              clear x0 x1 x2 x3 x4 u0 u1 u2 u3 v0 v1 v2 v3 z0
              generalize w5.drewN nq = w7 at K7 ⊢
              go_wp2_with fail
              go_roundw
              case rel => exact ⟨k + 1, by omega, by go_num, by rw [N1.out], K7⟩
              case measure => simp [intOf]; omega
          · subst hxx
            by_cases hro2 : roleH a0 (sp, s1, s2, s3, s4) k (true, r, c, g, q, kk) = 2
            · have hmm := hm _ hro2 rfl rfl
              rw [hro2] at z0 Z0
              have HM := fun U => Lib.hid (pcmp_c s1 s2 a0 k r c g q U)
              generalize cmpV (s1, s2, a0, (k : Int)) (r, c, g, q) = dd at HM hmm
              have e3 : decide (0 < dd) = false := decide_eq_false (by omega)
              have e4 : decide (dd ≤ 0) = true := decide_eq_true hmm
              clear hro2 hm hr3 hr3' hks hmm
              rcases hbd : badW c kk with _ | _
              · by_cases hgb : g = a0
                · obtain ⟨kg, kg'⟩ := eq_t hgb
                  have HT := fun U => Lib.hid (pthr_ok r c g q kk U hbd)
                  generalize farC c kk = t2 at HT
                  clear m2 m3 hbd hgb
                  go_upto_region 16 with fail
                  have KF := Lib.hid fun (U : World) (kz : Below wr.heap.size wr U) => (⟨gcell_below kz x1, gcell_below kz x2, gcell_below kz x3, gcell_below kz x4, gcell_below kz x5, kz⟩ : U.cell? ⟨bb, off + k * 6 + 1, none⟩ = some (.int .u64 r) ∧ U.cell? ⟨bb, off + k * 6 + 2, none⟩ = some (.int .i64 c) ∧ U.cell? ⟨bb, off + k * 6 + 3, none⟩ = some (.int .u64 g) ∧ U.cell? ⟨bb, off + k * 6 + 4, none⟩ = some (.int .i64 q) ∧ U.cell? ⟨bb, off + k * 6 + 5, none⟩ = some (.int .i64 kk) ∧ Below wr.heap.size wr U)
                  have k0 := Below.refl wr.heap.size wr
                  have kl : wr.heap.size ≤ wr.heap.size := Nat.le_refl _
                  go_region_held3 (fun U => U.cell? ⟨bb, off + k * 6 + 1, none⟩ = some (.int .u64 r) ∧ U.cell? ⟨bb, off + k * 6 + 2, none⟩ = some (.int .i64 c) ∧ U.cell? ⟨bb, off + k * 6 + 3, none⟩ = some (.int .u64 g) ∧ U.cell? ⟨bb, off + k * 6 + 4, none⟩ = some (.int .i64 q) ∧ U.cell? ⟨bb, off + k * 6 + 5, none⟩ = some (.int .i64 kk) ∧ Below wr.heap.size wr U)
                    (first | with_reducible exact KF.out _ (k_wr4 k4 kl _ _ _ _) | with_reducible exact KF.out _ (k_alloc k4 _) | with_reducible exact KF.out _ k4 | with_reducible exact KF.out _ (k_alloc k0 _).drew | with_reducible exact KF.out _ k0.drew)
                    (first
                      | (go_at_call 14; (with_reducible refine (HT _).out.mono ?_); rintro e w4 ⟨rfl, h4⟩; have k4 := k_call (k_alloc k0 _).drew h4; have hb4 : w4.heap[wr.heap.size]? = some (.cells #[.int .u64 0, .int .i64 0, .int .u64 0, .int .i64 0] 24 (0, 0)) := below_block h4 (by simp [World.drew]) (heap_new wr _); have y0 := cell_of_block hb4 (j := 0) rfl; have y1 := cell_of_block hb4 (j := 1) rfl; have y2 := cell_of_block hb4 (j := 2) rfl; have y3 := cell_of_block hb4 (j := 3) rfl; have fr4 := fun j => free_of_block (j := j) hb4; have hz4 := lt_of_block hb4)
                      | (go_at_call 14; (with_reducible refine (HT _).out.mono ?_); rintro e w4 ⟨rfl, h4⟩; have k4 := k_call k0.drew h4))
                  · rename_i hh
                    clear hh
                    have V := Lib.hid (show Bx w4 (w4.alloc (.cells #[.int .u64 r, .int .i64 t2, .int .u64 g, .int .i64 q] 24)) w4.heap.size #[.int .u64 r, .int .i64 t2, .int .u64 g, .int .i64 q] 24 from Bx.start _ _ _)
                    have K5 := Lib.hid (KB.out.trans ((k_alloc k4 (.cells #[.int .u64 r, .int .i64 t2, .int .u64 g, .int .i64 q] 24)).mono KB.out.size))
                    clear k4 h4 k0 kl KF HT x0 x1 x2 x3 x4 x5 z0
                    generalize w4.alloc (.cells #[.int .u64 r, .int .i64 t2, .int .u64 g, .int .i64 q] 24) = w5 at K5 V ⊢
                    generalize w4.heap.size = vb at V ⊢
                    have x0 : w5.cell? ⟨bb, off + k * 6, none⟩ = some (.bool true) := gcell_below K5.out X0.out
                    have x1 : w5.cell? ⟨bb, off + k * 6 + 1, none⟩ = some (.int .u64 r) := gcell_below K5.out X1.out
                    have x2 : w5.cell? ⟨bb, off + k * 6 + 2, none⟩ = some (.int .i64 c) := gcell_below K5.out X2.out
                    have x3 : w5.cell? ⟨bb, off + k * 6 + 3, none⟩ = some (.int .u64 g) := gcell_below K5.out X3.out
                    have x4 : w5.cell? ⟨bb, off + k * 6 + 4, none⟩ = some (.int .i64 q) := gcell_below K5.out X4.out
                    have u0 := gcell_below K5.out (B1.out.cell 0 rfl)
                    have u1 := gcell_below K5.out (B1.out.cell 1 rfl)
                    have u2 := gcell_below K5.out (B1.out.cell 2 rfl)
                    have u3 := gcell_below K5.out (B1.out.cell 3 rfl)
                    have v0 := V.out.cell 0 rfl
                    have v1 := V.out.cell 1 rfl
                    have v2 := V.out.cell 2 rfl
                    have v3 := V.out.cell 3 rfl
                    have z0 : w5.cell? ⟨b2, off2 + k, none⟩ = some (.int .i64 2) := gcell_below K5.out Z0.out
                    go_upto_region 19 with fail
                    have q0 := cell_regrown x0
                    have q1 := cell_regrown x1
                    have q2 := cell_regrown x2
                    have q3 := cell_regrown x3
                    have q4 := cell_regrown x4
                    have p0 := cell_regrown u0
                    have p1 := cell_regrown u1
                    have p2 := cell_regrown u2
                    have p3 := cell_regrown u3
                    have pz := cell_regrown z0
                    have D1 := fun d os => Calls.regrown_of ((HM (Go.Sort.grow (redrawn w5 d) os)).out)
                    clear x0 x1 x2 x3 x4 u0 u1 u2 u3 v0 v1 v2 v3 z0 HM
                    refine wp_region_quiet_below (by kernel_rfl) (by kernel_rfl) ?_
                    repeat (quiet_step (first | with_reducible exact D1 _ _))
                    refine wpQuiet_nil ?_
                    intro _ hw
                    obtain ⟨⟨dq, osq⟩, hw2⟩ := hw
                    subst hw2
                    have K7 := Lib.hid (K5.out.trans ((below_regrown w5 dq osq).mono K5.out.size))
                    clear q0 q1 q2 q3 q4 p0 p1 p2 p3 pz D1
                    generalize Go.Sort.grow (redrawn w5 dq) osq = w7 at K7 ⊢
                    go_wp2_with fail
                    go_roundw
                    case rel => exact ⟨k + 1, by omega, by go_num, by rw [N1.out], K7⟩
                    case measure => simp [intOf]; omega
                  · rename_i hh
                    clear hh
                    have V : Hid (Bx wr ((((w4.setCell ⟨wr.heap.size, 0, none⟩ (.int .u64 r)).setCell ⟨wr.heap.size, 1, none⟩ (.int .i64 t2)).setCell ⟨wr.heap.size, 2, none⟩ (.int .u64 g)).setCell ⟨wr.heap.size, 3, none⟩ (.int .i64 q)) wr.heap.size #[.int .u64 r, .int .i64 t2, .int .u64 g, .int .i64 q] 24) := Lib.hid (Bx.put4 ⟨hb4, Nat.le_refl _, k4⟩ _ _ _ _)
                    have K5 : Hid (Below W1.heap.size W1 ((((w4.setCell ⟨wr.heap.size, 0, none⟩ (.int .u64 r)).setCell ⟨wr.heap.size, 1, none⟩ (.int .i64 t2)).setCell ⟨wr.heap.size, 2, none⟩ (.int .u64 g)).setCell ⟨wr.heap.size, 3, none⟩ (.int .i64 q))) := Lib.hid (KB.out.trans ((k_wr4 k4 kl _ _ _ _).mono KB.out.size))
                    clear hb4 y0 y1 y2 y3 fr4 hz4 k4 h4 k0 kl KF HT x0 x1 x2 x3 x4 x5 z0
                    generalize ((((w4.setCell ⟨wr.heap.size, 0, none⟩ (.int .u64 r)).setCell ⟨wr.heap.size, 1, none⟩ (.int .i64 t2)).setCell ⟨wr.heap.size, 2, none⟩ (.int .u64 g)).setCell ⟨wr.heap.size, 3, none⟩ (.int .i64 q)) = w5 at K5 V ⊢
                    generalize wr.heap.size = vb at V ⊢
                    have x0 : w5.cell? ⟨bb, off + k * 6, none⟩ = some (.bool true) := gcell_below K5.out X0.out
                    have x1 : w5.cell? ⟨bb, off + k * 6 + 1, none⟩ = some (.int .u64 r) := gcell_below K5.out X1.out
                    have x2 : w5.cell? ⟨bb, off + k * 6 + 2, none⟩ = some (.int .i64 c) := gcell_below K5.out X2.out
                    have x3 : w5.cell? ⟨bb, off + k * 6 + 3, none⟩ = some (.int .u64 g) := gcell_below K5.out X3.out
                    have x4 : w5.cell? ⟨bb, off + k * 6 + 4, none⟩ = some (.int .i64 q) := gcell_below K5.out X4.out
                    have u0 := gcell_below K5.out (B1.out.cell 0 rfl)
                    have u1 := gcell_below K5.out (B1.out.cell 1 rfl)
                    have u2 := gcell_below K5.out (B1.out.cell 2 rfl)
                    have u3 := gcell_below K5.out (B1.out.cell 3 rfl)
                    have v0 := V.out.cell 0 rfl
                    have v1 := V.out.cell 1 rfl
                    have v2 := V.out.cell 2 rfl
                    have v3 := V.out.cell 3 rfl
                    have z0 : w5.cell? ⟨b2, off2 + k, none⟩ = some (.int .i64 2) := gcell_below K5.out Z0.out
                    go_upto_region 19 with fail
                    have q0 := cell_regrown x0
                    have q1 := cell_regrown x1
                    have q2 := cell_regrown x2
                    have q3 := cell_regrown x3
                    have q4 := cell_regrown x4
                    have p0 := cell_regrown u0
                    have p1 := cell_regrown u1
                    have p2 := cell_regrown u2
                    have p3 := cell_regrown u3
                    have pz := cell_regrown z0
                    have D1 := fun d os => Calls.regrown_of ((HM (Go.Sort.grow (redrawn w5 d) os)).out)
                    clear x0 x1 x2 x3 x4 u0 u1 u2 u3 v0 v1 v2 v3 z0 HM
                    refine wp_region_quiet_below (by kernel_rfl) (by kernel_rfl) ?_
                    repeat (quiet_step (first | with_reducible exact D1 _ _))
                    refine wpQuiet_nil ?_
                    intro _ hw
                    obtain ⟨⟨dq, osq⟩, hw2⟩ := hw
                    subst hw2
                    have K7 := Lib.hid (K5.out.trans ((below_regrown w5 dq osq).mono K5.out.size))
                    clear q0 q1 q2 q3 q4 p0 p1 p2 p3 pz D1
                    generalize Go.Sort.grow (redrawn w5 dq) osq = w7 at K7 ⊢
                    go_wp2_with fail
                    go_roundw
                    case rel => exact ⟨k + 1, by omega, by go_num, by rw [N1.out], K7⟩
                    case measure => simp [intOf]; omega
                · obtain ⟨kg, kg'⟩ := ne_t hgb
                  have hcm := m2 (by simp [leadB, hgb, hbd])
                  unfold leadV thrV vecH costH at hcm
                  simp only at hcm
                  have HQ := fun U => Lib.hid (pcmp_c r (farC c kk) g q s1 s2 s3 s4 U)
                  have HT := fun U => Lib.hid (pthr_ok r c g q kk U hbd)
                  generalize farC c kk = t2 at HT HQ hcm
                  generalize cmpV (r, t2, g, q) (s1, s2, s3, s4) = cc at HQ hcm
                  have e1 : decide (cc < 0) = false := decide_eq_false (by omega)
                  have e2 : decide (0 ≤ cc) = true := decide_eq_true (by omega)
                  clear m2 m3 hbd hgb hcm
                  go_upto_region 16 with fail
                  have KF := Lib.hid fun (U : World) (kz : Below wr.heap.size wr U) => (⟨gcell_below kz x1, gcell_below kz x2, gcell_below kz x3, gcell_below kz x4, gcell_below kz x5, kz⟩ : U.cell? ⟨bb, off + k * 6 + 1, none⟩ = some (.int .u64 r) ∧ U.cell? ⟨bb, off + k * 6 + 2, none⟩ = some (.int .i64 c) ∧ U.cell? ⟨bb, off + k * 6 + 3, none⟩ = some (.int .u64 g) ∧ U.cell? ⟨bb, off + k * 6 + 4, none⟩ = some (.int .i64 q) ∧ U.cell? ⟨bb, off + k * 6 + 5, none⟩ = some (.int .i64 kk) ∧ Below wr.heap.size wr U)
                  have k0 := Below.refl wr.heap.size wr
                  have kl : wr.heap.size ≤ wr.heap.size := Nat.le_refl _
                  go_region_held3 (fun U => U.cell? ⟨bb, off + k * 6 + 1, none⟩ = some (.int .u64 r) ∧ U.cell? ⟨bb, off + k * 6 + 2, none⟩ = some (.int .i64 c) ∧ U.cell? ⟨bb, off + k * 6 + 3, none⟩ = some (.int .u64 g) ∧ U.cell? ⟨bb, off + k * 6 + 4, none⟩ = some (.int .i64 q) ∧ U.cell? ⟨bb, off + k * 6 + 5, none⟩ = some (.int .i64 kk) ∧ Below wr.heap.size wr U)
                    (first | with_reducible exact KF.out _ (k_wr4 k4 kl _ _ _ _) | with_reducible exact KF.out _ (k_alloc k4 _) | with_reducible exact KF.out _ k4 | with_reducible exact KF.out _ (k_alloc k0 _).drew | with_reducible exact KF.out _ k0.drew)
                    (first
                      | (go_at_call 14; (with_reducible refine (HT _).out.mono ?_); rintro e w4 ⟨rfl, h4⟩; have k4 := k_call (k_alloc k0 _).drew h4; have hb4 : w4.heap[wr.heap.size]? = some (.cells #[.int .u64 0, .int .i64 0, .int .u64 0, .int .i64 0] 24 (0, 0)) := below_block h4 (by simp [World.drew]) (heap_new wr _); have y0 := cell_of_block hb4 (j := 0) rfl; have y1 := cell_of_block hb4 (j := 1) rfl; have y2 := cell_of_block hb4 (j := 2) rfl; have y3 := cell_of_block hb4 (j := 3) rfl; have fr4 := fun j => free_of_block (j := j) hb4; have hz4 := lt_of_block hb4)
                      | (go_at_call 14; (with_reducible refine (HT _).out.mono ?_); rintro e w4 ⟨rfl, h4⟩; have k4 := k_call k0.drew h4))
                  · rename_i hh
                    clear hh
                    have V := Lib.hid (show Bx w4 (w4.alloc (.cells #[.int .u64 r, .int .i64 t2, .int .u64 g, .int .i64 q] 24)) w4.heap.size #[.int .u64 r, .int .i64 t2, .int .u64 g, .int .i64 q] 24 from Bx.start _ _ _)
                    have K5 := Lib.hid (KB.out.trans ((k_alloc k4 (.cells #[.int .u64 r, .int .i64 t2, .int .u64 g, .int .i64 q] 24)).mono KB.out.size))
                    clear k4 h4 k0 kl KF HT x0 x1 x2 x3 x4 x5 z0
                    generalize w4.alloc (.cells #[.int .u64 r, .int .i64 t2, .int .u64 g, .int .i64 q] 24) = w5 at K5 V ⊢
                    generalize w4.heap.size = vb at V ⊢
                    have x0 : w5.cell? ⟨bb, off + k * 6, none⟩ = some (.bool true) := gcell_below K5.out X0.out
                    have x1 : w5.cell? ⟨bb, off + k * 6 + 1, none⟩ = some (.int .u64 r) := gcell_below K5.out X1.out
                    have x2 : w5.cell? ⟨bb, off + k * 6 + 2, none⟩ = some (.int .i64 c) := gcell_below K5.out X2.out
                    have x3 : w5.cell? ⟨bb, off + k * 6 + 3, none⟩ = some (.int .u64 g) := gcell_below K5.out X3.out
                    have x4 : w5.cell? ⟨bb, off + k * 6 + 4, none⟩ = some (.int .i64 q) := gcell_below K5.out X4.out
                    have u0 := gcell_below K5.out (B1.out.cell 0 rfl)
                    have u1 := gcell_below K5.out (B1.out.cell 1 rfl)
                    have u2 := gcell_below K5.out (B1.out.cell 2 rfl)
                    have u3 := gcell_below K5.out (B1.out.cell 3 rfl)
                    have v0 := V.out.cell 0 rfl
                    have v1 := V.out.cell 1 rfl
                    have v2 := V.out.cell 2 rfl
                    have v3 := V.out.cell 3 rfl
                    have z0 : w5.cell? ⟨b2, off2 + k, none⟩ = some (.int .i64 2) := gcell_below K5.out Z0.out
                    go_wp2_with fail
                    ((with_reducible refine (HQ _).out.mono ?_); rintro e w6 ⟨rfl, h6⟩)
                    have K6 := Lib.hid (K5.out.trans (h6.mono K5.out.size))
                    clear h6 HQ V x0 x1 x2 x3 x4 u0 u1 u2 u3 v0 v1 v2 v3 z0
                    have x0 : w6.cell? ⟨bb, off + k * 6, none⟩ = some (.bool true) := gcell_below K6.out X0.out
                    have x1 : w6.cell? ⟨bb, off + k * 6 + 1, none⟩ = some (.int .u64 r) := gcell_below K6.out X1.out
                    have x2 : w6.cell? ⟨bb, off + k * 6 + 2, none⟩ = some (.int .i64 c) := gcell_below K6.out X2.out
                    have x3 : w6.cell? ⟨bb, off + k * 6 + 3, none⟩ = some (.int .u64 g) := gcell_below K6.out X3.out
                    have x4 : w6.cell? ⟨bb, off + k * 6 + 4, none⟩ = some (.int .i64 q) := gcell_below K6.out X4.out
                    have u0 := gcell_below K6.out (B1.out.cell 0 rfl)
                    have u1 := gcell_below K6.out (B1.out.cell 1 rfl)
                    have u2 := gcell_below K6.out (B1.out.cell 2 rfl)
                    have u3 := gcell_below K6.out (B1.out.cell 3 rfl)
                    have z0 : w6.cell? ⟨b2, off2 + k, none⟩ = some (.int .i64 2) := gcell_below K6.out Z0.out
                    go_upto_region 19 with fail
                    have q0 := cell_regrown x0
                    have q1 := cell_regrown x1
                    have q2 := cell_regrown x2
                    have q3 := cell_regrown x3
                    have q4 := cell_regrown x4
                    have p0 := cell_regrown u0
                    have p1 := cell_regrown u1
                    have p2 := cell_regrown u2
                    have p3 := cell_regrown u3
                    have pz := cell_regrown z0
                    have D1 := fun d os => Calls.regrown_of ((HM (Go.Sort.grow (redrawn w6 d) os)).out)
                    clear x0 x1 x2 x3 x4 u0 u1 u2 u3 z0 HM
                    refine wp_region_quiet_below (by kernel_rfl) (by kernel_rfl) ?_
                    repeat (quiet_step (first | with_reducible exact D1 _ _))
                    refine wpQuiet_nil ?_
                    intro _ hw
                    obtain ⟨⟨dq, osq⟩, hw2⟩ := hw
                    subst hw2
                    have K7 := Lib.hid (K6.out.trans ((below_regrown w6 dq osq).mono K6.out.size))
                    clear q0 q1 q2 q3 q4 p0 p1 p2 p3 pz D1
                    generalize Go.Sort.grow (redrawn w6 dq) osq = w7 at K7 ⊢
                    go_wp2_with fail
                    go_roundw
                    case rel => exact ⟨k + 1, by omega, by go_num, by rw [N1.out], K7⟩
                    case measure => simp [intOf]; omega
                  · rename_i hh
                    clear hh
                    have V : Hid (Bx wr ((((w4.setCell ⟨wr.heap.size, 0, none⟩ (.int .u64 r)).setCell ⟨wr.heap.size, 1, none⟩ (.int .i64 t2)).setCell ⟨wr.heap.size, 2, none⟩ (.int .u64 g)).setCell ⟨wr.heap.size, 3, none⟩ (.int .i64 q)) wr.heap.size #[.int .u64 r, .int .i64 t2, .int .u64 g, .int .i64 q] 24) := Lib.hid (Bx.put4 ⟨hb4, Nat.le_refl _, k4⟩ _ _ _ _)
                    have K5 : Hid (Below W1.heap.size W1 ((((w4.setCell ⟨wr.heap.size, 0, none⟩ (.int .u64 r)).setCell ⟨wr.heap.size, 1, none⟩ (.int .i64 t2)).setCell ⟨wr.heap.size, 2, none⟩ (.int .u64 g)).setCell ⟨wr.heap.size, 3, none⟩ (.int .i64 q))) := Lib.hid (KB.out.trans ((k_wr4 k4 kl _ _ _ _).mono KB.out.size))
                    clear hb4 y0 y1 y2 y3 fr4 hz4 k4 h4 k0 kl KF HT x0 x1 x2 x3 x4 x5 z0
                    generalize ((((w4.setCell ⟨wr.heap.size, 0, none⟩ (.int .u64 r)).setCell ⟨wr.heap.size, 1, none⟩ (.int .i64 t2)).setCell ⟨wr.heap.size, 2, none⟩ (.int .u64 g)).setCell ⟨wr.heap.size, 3, none⟩ (.int .i64 q)) = w5 at K5 V ⊢
                    generalize wr.heap.size = vb at V ⊢
                    have x0 : w5.cell? ⟨bb, off + k * 6, none⟩ = some (.bool true) := gcell_below K5.out X0.out
                    have x1 : w5.cell? ⟨bb, off + k * 6 + 1, none⟩ = some (.int .u64 r) := gcell_below K5.out X1.out
                    have x2 : w5.cell? ⟨bb, off + k * 6 + 2, none⟩ = some (.int .i64 c) := gcell_below K5.out X2.out
                    have x3 : w5.cell? ⟨bb, off + k * 6 + 3, none⟩ = some (.int .u64 g) := gcell_below K5.out X3.out
                    have x4 : w5.cell? ⟨bb, off + k * 6 + 4, none⟩ = some (.int .i64 q) := gcell_below K5.out X4.out
                    have u0 := gcell_below K5.out (B1.out.cell 0 rfl)
                    have u1 := gcell_below K5.out (B1.out.cell 1 rfl)
                    have u2 := gcell_below K5.out (B1.out.cell 2 rfl)
                    have u3 := gcell_below K5.out (B1.out.cell 3 rfl)
                    have v0 := V.out.cell 0 rfl
                    have v1 := V.out.cell 1 rfl
                    have v2 := V.out.cell 2 rfl
                    have v3 := V.out.cell 3 rfl
                    have z0 : w5.cell? ⟨b2, off2 + k, none⟩ = some (.int .i64 2) := gcell_below K5.out Z0.out
                    go_wp2_with fail
                    ((with_reducible refine (HQ _).out.mono ?_); rintro e w6 ⟨rfl, h6⟩)
                    have K6 := Lib.hid (K5.out.trans (h6.mono K5.out.size))
                    clear h6 HQ V x0 x1 x2 x3 x4 u0 u1 u2 u3 v0 v1 v2 v3 z0
                    have x0 : w6.cell? ⟨bb, off + k * 6, none⟩ = some (.bool true) := gcell_below K6.out X0.out
                    have x1 : w6.cell? ⟨bb, off + k * 6 + 1, none⟩ = some (.int .u64 r) := gcell_below K6.out X1.out
                    have x2 : w6.cell? ⟨bb, off + k * 6 + 2, none⟩ = some (.int .i64 c) := gcell_below K6.out X2.out
                    have x3 : w6.cell? ⟨bb, off + k * 6 + 3, none⟩ = some (.int .u64 g) := gcell_below K6.out X3.out
                    have x4 : w6.cell? ⟨bb, off + k * 6 + 4, none⟩ = some (.int .i64 q) := gcell_below K6.out X4.out
                    have u0 := gcell_below K6.out (B1.out.cell 0 rfl)
                    have u1 := gcell_below K6.out (B1.out.cell 1 rfl)
                    have u2 := gcell_below K6.out (B1.out.cell 2 rfl)
                    have u3 := gcell_below K6.out (B1.out.cell 3 rfl)
                    have z0 : w6.cell? ⟨b2, off2 + k, none⟩ = some (.int .i64 2) := gcell_below K6.out Z0.out
                    go_upto_region 19 with fail
                    have q0 := cell_regrown x0
                    have q1 := cell_regrown x1
                    have q2 := cell_regrown x2
                    have q3 := cell_regrown x3
                    have q4 := cell_regrown x4
                    have p0 := cell_regrown u0
                    have p1 := cell_regrown u1
                    have p2 := cell_regrown u2
                    have p3 := cell_regrown u3
                    have pz := cell_regrown z0
                    have D1 := fun d os => Calls.regrown_of ((HM (Go.Sort.grow (redrawn w6 d) os)).out)
                    clear x0 x1 x2 x3 x4 u0 u1 u2 u3 z0 HM
                    refine wp_region_quiet_below (by kernel_rfl) (by kernel_rfl) ?_
                    repeat (quiet_step (first | with_reducible exact D1 _ _))
                    refine wpQuiet_nil ?_
                    intro _ hw
                    obtain ⟨⟨dq, osq⟩, hw2⟩ := hw
                    subst hw2
                    have K7 := Lib.hid (K6.out.trans ((below_regrown w6 dq osq).mono K6.out.size))
                    clear q0 q1 q2 q3 q4 p0 p1 p2 p3 pz D1
                    generalize Go.Sort.grow (redrawn w6 dq) osq = w7 at K7 ⊢
                    go_wp2_with fail
                    go_roundw
                    case rel => exact ⟨k + 1, by omega, by go_num, by rw [N1.out], K7⟩
                    case measure => simp [intOf]; omega
              · have HT := fun U => Lib.hid (pthr_no r c g q kk U hbd)
                clear m2 m3 hbd
                go_upto_region 16 with fail
                have KF := Lib.hid fun (U : World) (kz : Below wr.heap.size wr U) => (⟨gcell_below kz x1, gcell_below kz x2, gcell_below kz x3, gcell_below kz x4, gcell_below kz x5, kz⟩ : U.cell? ⟨bb, off + k * 6 + 1, none⟩ = some (.int .u64 r) ∧ U.cell? ⟨bb, off + k * 6 + 2, none⟩ = some (.int .i64 c) ∧ U.cell? ⟨bb, off + k * 6 + 3, none⟩ = some (.int .u64 g) ∧ U.cell? ⟨bb, off + k * 6 + 4, none⟩ = some (.int .i64 q) ∧ U.cell? ⟨bb, off + k * 6 + 5, none⟩ = some (.int .i64 kk) ∧ Below wr.heap.size wr U)
                have k0 := Below.refl wr.heap.size wr
                have kl : wr.heap.size ≤ wr.heap.size := Nat.le_refl _
                go_region_held3 (fun U => U.cell? ⟨bb, off + k * 6 + 1, none⟩ = some (.int .u64 r) ∧ U.cell? ⟨bb, off + k * 6 + 2, none⟩ = some (.int .i64 c) ∧ U.cell? ⟨bb, off + k * 6 + 3, none⟩ = some (.int .u64 g) ∧ U.cell? ⟨bb, off + k * 6 + 4, none⟩ = some (.int .i64 q) ∧ U.cell? ⟨bb, off + k * 6 + 5, none⟩ = some (.int .i64 kk) ∧ Below wr.heap.size wr U)
                  (first | with_reducible exact KF.out _ (k_wr4 k4 kl _ _ _ _) | with_reducible exact KF.out _ (k_alloc k4 _) | with_reducible exact KF.out _ k4 | with_reducible exact KF.out _ (k_alloc k0 _).drew | with_reducible exact KF.out _ k0.drew)
                  (first
                    | (go_at_call 14; (with_reducible refine (HT _).out.mono ?_); rintro e w4 ⟨rfl, h4⟩; have k4 := k_call (k_alloc k0 _).drew h4; have hb4 : w4.heap[wr.heap.size]? = some (.cells #[.int .u64 0, .int .i64 0, .int .u64 0, .int .i64 0] 24 (0, 0)) := below_block h4 (by simp [World.drew]) (heap_new wr _); have y0 := cell_of_block hb4 (j := 0) rfl; have y1 := cell_of_block hb4 (j := 1) rfl; have y2 := cell_of_block hb4 (j := 2) rfl; have y3 := cell_of_block hb4 (j := 3) rfl; have fr4 := fun j => free_of_block (j := j) hb4; have hz4 := lt_of_block hb4)
                    | (go_at_call 14; (with_reducible refine (HT _).out.mono ?_); rintro e w4 ⟨rfl, h4⟩; have k4 := k_call k0.drew h4))
                · rename_i hh
                  clear hh
                  have V := Lib.hid (show Bx w4 (w4.alloc (.cells #[.int .u64 0, .int .i64 0, .int .u64 0, .int .i64 0] 24)) w4.heap.size #[.int .u64 0, .int .i64 0, .int .u64 0, .int .i64 0] 24 from Bx.start _ _ _)
                  have K5 := Lib.hid (KB.out.trans ((k_alloc k4 (.cells #[.int .u64 0, .int .i64 0, .int .u64 0, .int .i64 0] 24)).mono KB.out.size))
                  clear k4 h4 k0 kl KF HT x0 x1 x2 x3 x4 x5 z0
                  generalize w4.alloc (.cells #[.int .u64 0, .int .i64 0, .int .u64 0, .int .i64 0] 24) = w5 at K5 V ⊢
                  generalize w4.heap.size = vb at V ⊢
                  have x0 : w5.cell? ⟨bb, off + k * 6, none⟩ = some (.bool true) := gcell_below K5.out X0.out
                  have x1 : w5.cell? ⟨bb, off + k * 6 + 1, none⟩ = some (.int .u64 r) := gcell_below K5.out X1.out
                  have x2 : w5.cell? ⟨bb, off + k * 6 + 2, none⟩ = some (.int .i64 c) := gcell_below K5.out X2.out
                  have x3 : w5.cell? ⟨bb, off + k * 6 + 3, none⟩ = some (.int .u64 g) := gcell_below K5.out X3.out
                  have x4 : w5.cell? ⟨bb, off + k * 6 + 4, none⟩ = some (.int .i64 q) := gcell_below K5.out X4.out
                  have u0 := gcell_below K5.out (B1.out.cell 0 rfl)
                  have u1 := gcell_below K5.out (B1.out.cell 1 rfl)
                  have u2 := gcell_below K5.out (B1.out.cell 2 rfl)
                  have u3 := gcell_below K5.out (B1.out.cell 3 rfl)
                  have v0 := V.out.cell 0 rfl
                  have v1 := V.out.cell 1 rfl
                  have v2 := V.out.cell 2 rfl
                  have v3 := V.out.cell 3 rfl
                  have z0 : w5.cell? ⟨b2, off2 + k, none⟩ = some (.int .i64 2) := gcell_below K5.out Z0.out
                  go_upto_region 19 with fail
                  have q0 := cell_regrown x0
                  have q1 := cell_regrown x1
                  have q2 := cell_regrown x2
                  have q3 := cell_regrown x3
                  have q4 := cell_regrown x4
                  have p0 := cell_regrown u0
                  have p1 := cell_regrown u1
                  have p2 := cell_regrown u2
                  have p3 := cell_regrown u3
                  have pz := cell_regrown z0
                  have D1 := fun d os => Calls.regrown_of ((HM (Go.Sort.grow (redrawn w5 d) os)).out)
                  clear x0 x1 x2 x3 x4 u0 u1 u2 u3 v0 v1 v2 v3 z0 HM
                  refine wp_region_quiet_below (by kernel_rfl) (by kernel_rfl) ?_
                  repeat (quiet_step (first | with_reducible exact D1 _ _))
                  refine wpQuiet_nil ?_
                  intro _ hw
                  obtain ⟨⟨dq, osq⟩, hw2⟩ := hw
                  subst hw2
                  have K7 := Lib.hid (K5.out.trans ((below_regrown w5 dq osq).mono K5.out.size))
                  clear q0 q1 q2 q3 q4 p0 p1 p2 p3 pz D1
                  generalize Go.Sort.grow (redrawn w5 dq) osq = w7 at K7 ⊢
                  go_wp2_with fail
                  go_roundw
                  case rel => exact ⟨k + 1, by omega, by go_num, by rw [N1.out], K7⟩
                  case measure => simp [intOf]; omega
                · rename_i hh
                  clear hh
                  have V : Hid (Bx wr ((((w4.setCell ⟨wr.heap.size, 0, none⟩ (.int .u64 0)).setCell ⟨wr.heap.size, 1, none⟩ (.int .i64 0)).setCell ⟨wr.heap.size, 2, none⟩ (.int .u64 0)).setCell ⟨wr.heap.size, 3, none⟩ (.int .i64 0)) wr.heap.size #[.int .u64 0, .int .i64 0, .int .u64 0, .int .i64 0] 24) := Lib.hid (Bx.put4 ⟨hb4, Nat.le_refl _, k4⟩ _ _ _ _)
                  have K5 : Hid (Below W1.heap.size W1 ((((w4.setCell ⟨wr.heap.size, 0, none⟩ (.int .u64 0)).setCell ⟨wr.heap.size, 1, none⟩ (.int .i64 0)).setCell ⟨wr.heap.size, 2, none⟩ (.int .u64 0)).setCell ⟨wr.heap.size, 3, none⟩ (.int .i64 0))) := Lib.hid (KB.out.trans ((k_wr4 k4 kl _ _ _ _).mono KB.out.size))
                  clear hb4 y0 y1 y2 y3 fr4 hz4 k4 h4 k0 kl KF HT x0 x1 x2 x3 x4 x5 z0
                  generalize ((((w4.setCell ⟨wr.heap.size, 0, none⟩ (.int .u64 0)).setCell ⟨wr.heap.size, 1, none⟩ (.int .i64 0)).setCell ⟨wr.heap.size, 2, none⟩ (.int .u64 0)).setCell ⟨wr.heap.size, 3, none⟩ (.int .i64 0)) = w5 at K5 V ⊢
                  generalize wr.heap.size = vb at V ⊢
                  have x0 : w5.cell? ⟨bb, off + k * 6, none⟩ = some (.bool true) := gcell_below K5.out X0.out
                  have x1 : w5.cell? ⟨bb, off + k * 6 + 1, none⟩ = some (.int .u64 r) := gcell_below K5.out X1.out
                  have x2 : w5.cell? ⟨bb, off + k * 6 + 2, none⟩ = some (.int .i64 c) := gcell_below K5.out X2.out
                  have x3 : w5.cell? ⟨bb, off + k * 6 + 3, none⟩ = some (.int .u64 g) := gcell_below K5.out X3.out
                  have x4 : w5.cell? ⟨bb, off + k * 6 + 4, none⟩ = some (.int .i64 q) := gcell_below K5.out X4.out
                  have u0 := gcell_below K5.out (B1.out.cell 0 rfl)
                  have u1 := gcell_below K5.out (B1.out.cell 1 rfl)
                  have u2 := gcell_below K5.out (B1.out.cell 2 rfl)
                  have u3 := gcell_below K5.out (B1.out.cell 3 rfl)
                  have v0 := V.out.cell 0 rfl
                  have v1 := V.out.cell 1 rfl
                  have v2 := V.out.cell 2 rfl
                  have v3 := V.out.cell 3 rfl
                  have z0 : w5.cell? ⟨b2, off2 + k, none⟩ = some (.int .i64 2) := gcell_below K5.out Z0.out
                  go_upto_region 19 with fail
                  have q0 := cell_regrown x0
                  have q1 := cell_regrown x1
                  have q2 := cell_regrown x2
                  have q3 := cell_regrown x3
                  have q4 := cell_regrown x4
                  have p0 := cell_regrown u0
                  have p1 := cell_regrown u1
                  have p2 := cell_regrown u2
                  have p3 := cell_regrown u3
                  have pz := cell_regrown z0
                  have D1 := fun d os => Calls.regrown_of ((HM (Go.Sort.grow (redrawn w5 d) os)).out)
                  clear x0 x1 x2 x3 x4 u0 u1 u2 u3 v0 v1 v2 v3 z0 HM
                  refine wp_region_quiet_below (by kernel_rfl) (by kernel_rfl) ?_
                  repeat (quiet_step (first | with_reducible exact D1 _ _))
                  refine wpQuiet_nil ?_
                  intro _ hw
                  obtain ⟨⟨dq, osq⟩, hw2⟩ := hw
                  subst hw2
                  have K7 := Lib.hid (K5.out.trans ((below_regrown w5 dq osq).mono K5.out.size))
                  clear q0 q1 q2 q3 q4 p0 p1 p2 p3 pz D1
                  generalize Go.Sort.grow (redrawn w5 dq) osq = w7 at K7 ⊢
                  go_wp2_with fail
                  go_roundw
                  case rel => exact ⟨k + 1, by omega, by go_num, by rw [N1.out], K7⟩
                  case measure => simp [intOf]; omega
            · have hro3 : roleH a0 (sp, s1, s2, s3, s4) k (true, r, c, g, q, kk) = 3 := hr3'.resolve_left hro2
              rw [hro3] at z0 Z0
              clear hro2 hro3 hm hr3 hr3' hks
              rcases hbd : badW c kk with _ | _
              · by_cases hgb : g = a0
                · obtain ⟨kg, kg'⟩ := eq_t hgb
                  have HT := fun U => Lib.hid (pthr_ok r c g q kk U hbd)
                  generalize farC c kk = t2 at HT
                  clear m2 m3 hbd hgb
                  go_upto_region 16 with fail
                  have KF := Lib.hid fun (U : World) (kz : Below wr.heap.size wr U) => (⟨gcell_below kz x1, gcell_below kz x2, gcell_below kz x3, gcell_below kz x4, gcell_below kz x5, kz⟩ : U.cell? ⟨bb, off + k * 6 + 1, none⟩ = some (.int .u64 r) ∧ U.cell? ⟨bb, off + k * 6 + 2, none⟩ = some (.int .i64 c) ∧ U.cell? ⟨bb, off + k * 6 + 3, none⟩ = some (.int .u64 g) ∧ U.cell? ⟨bb, off + k * 6 + 4, none⟩ = some (.int .i64 q) ∧ U.cell? ⟨bb, off + k * 6 + 5, none⟩ = some (.int .i64 kk) ∧ Below wr.heap.size wr U)
                  have k0 := Below.refl wr.heap.size wr
                  have kl : wr.heap.size ≤ wr.heap.size := Nat.le_refl _
                  go_region_held3 (fun U => U.cell? ⟨bb, off + k * 6 + 1, none⟩ = some (.int .u64 r) ∧ U.cell? ⟨bb, off + k * 6 + 2, none⟩ = some (.int .i64 c) ∧ U.cell? ⟨bb, off + k * 6 + 3, none⟩ = some (.int .u64 g) ∧ U.cell? ⟨bb, off + k * 6 + 4, none⟩ = some (.int .i64 q) ∧ U.cell? ⟨bb, off + k * 6 + 5, none⟩ = some (.int .i64 kk) ∧ Below wr.heap.size wr U)
                    (first | with_reducible exact KF.out _ (k_wr4 k4 kl _ _ _ _) | with_reducible exact KF.out _ (k_alloc k4 _) | with_reducible exact KF.out _ k4 | with_reducible exact KF.out _ (k_alloc k0 _).drew | with_reducible exact KF.out _ k0.drew)
                    (first
                      | (go_at_call 14; (with_reducible refine (HT _).out.mono ?_); rintro e w4 ⟨rfl, h4⟩; have k4 := k_call (k_alloc k0 _).drew h4; have hb4 : w4.heap[wr.heap.size]? = some (.cells #[.int .u64 0, .int .i64 0, .int .u64 0, .int .i64 0] 24 (0, 0)) := below_block h4 (by simp [World.drew]) (heap_new wr _); have y0 := cell_of_block hb4 (j := 0) rfl; have y1 := cell_of_block hb4 (j := 1) rfl; have y2 := cell_of_block hb4 (j := 2) rfl; have y3 := cell_of_block hb4 (j := 3) rfl; have fr4 := fun j => free_of_block (j := j) hb4; have hz4 := lt_of_block hb4)
                      | (go_at_call 14; (with_reducible refine (HT _).out.mono ?_); rintro e w4 ⟨rfl, h4⟩; have k4 := k_call k0.drew h4))
                  · rename_i hh
                    clear hh
                    have V := Lib.hid (show Bx w4 (w4.alloc (.cells #[.int .u64 r, .int .i64 t2, .int .u64 g, .int .i64 q] 24)) w4.heap.size #[.int .u64 r, .int .i64 t2, .int .u64 g, .int .i64 q] 24 from Bx.start _ _ _)
                    have K5 := Lib.hid (KB.out.trans ((k_alloc k4 (.cells #[.int .u64 r, .int .i64 t2, .int .u64 g, .int .i64 q] 24)).mono KB.out.size))
                    clear k4 h4 k0 kl KF HT x0 x1 x2 x3 x4 x5 z0
                    generalize w4.alloc (.cells #[.int .u64 r, .int .i64 t2, .int .u64 g, .int .i64 q] 24) = w5 at K5 V ⊢
                    generalize w4.heap.size = vb at V ⊢
                    have x0 : w5.cell? ⟨bb, off + k * 6, none⟩ = some (.bool true) := gcell_below K5.out X0.out
                    have x1 : w5.cell? ⟨bb, off + k * 6 + 1, none⟩ = some (.int .u64 r) := gcell_below K5.out X1.out
                    have x2 : w5.cell? ⟨bb, off + k * 6 + 2, none⟩ = some (.int .i64 c) := gcell_below K5.out X2.out
                    have x3 : w5.cell? ⟨bb, off + k * 6 + 3, none⟩ = some (.int .u64 g) := gcell_below K5.out X3.out
                    have x4 : w5.cell? ⟨bb, off + k * 6 + 4, none⟩ = some (.int .i64 q) := gcell_below K5.out X4.out
                    have u0 := gcell_below K5.out (B1.out.cell 0 rfl)
                    have u1 := gcell_below K5.out (B1.out.cell 1 rfl)
                    have u2 := gcell_below K5.out (B1.out.cell 2 rfl)
                    have u3 := gcell_below K5.out (B1.out.cell 3 rfl)
                    have v0 := V.out.cell 0 rfl
                    have v1 := V.out.cell 1 rfl
                    have v2 := V.out.cell 2 rfl
                    have v3 := V.out.cell 3 rfl
                    have z0 : w5.cell? ⟨b2, off2 + k, none⟩ = some (.int .i64 3) := gcell_below K5.out Z0.out
                    go_upto_region 19 with fail
                    go_quiet (fail)
                    have K7 := Lib.hid (below_drewN K5.out nq)
                    clear x0 x1 x2 x3 x4 u0 u1 u2 u3 v0 v1 v2 v3 z0
                    generalize w5.drewN nq = w7 at K7 ⊢
                    go_wp2_with fail
                    go_roundw
                    case rel => exact ⟨k + 1, by omega, by go_num, by rw [N1.out], K7⟩
                    case measure => simp [intOf]; omega
                  · rename_i hh
                    clear hh
                    have V : Hid (Bx wr ((((w4.setCell ⟨wr.heap.size, 0, none⟩ (.int .u64 r)).setCell ⟨wr.heap.size, 1, none⟩ (.int .i64 t2)).setCell ⟨wr.heap.size, 2, none⟩ (.int .u64 g)).setCell ⟨wr.heap.size, 3, none⟩ (.int .i64 q)) wr.heap.size #[.int .u64 r, .int .i64 t2, .int .u64 g, .int .i64 q] 24) := Lib.hid (Bx.put4 ⟨hb4, Nat.le_refl _, k4⟩ _ _ _ _)
                    have K5 : Hid (Below W1.heap.size W1 ((((w4.setCell ⟨wr.heap.size, 0, none⟩ (.int .u64 r)).setCell ⟨wr.heap.size, 1, none⟩ (.int .i64 t2)).setCell ⟨wr.heap.size, 2, none⟩ (.int .u64 g)).setCell ⟨wr.heap.size, 3, none⟩ (.int .i64 q))) := Lib.hid (KB.out.trans ((k_wr4 k4 kl _ _ _ _).mono KB.out.size))
                    clear hb4 y0 y1 y2 y3 fr4 hz4 k4 h4 k0 kl KF HT x0 x1 x2 x3 x4 x5 z0
                    generalize ((((w4.setCell ⟨wr.heap.size, 0, none⟩ (.int .u64 r)).setCell ⟨wr.heap.size, 1, none⟩ (.int .i64 t2)).setCell ⟨wr.heap.size, 2, none⟩ (.int .u64 g)).setCell ⟨wr.heap.size, 3, none⟩ (.int .i64 q)) = w5 at K5 V ⊢
                    generalize wr.heap.size = vb at V ⊢
                    have x0 : w5.cell? ⟨bb, off + k * 6, none⟩ = some (.bool true) := gcell_below K5.out X0.out
                    have x1 : w5.cell? ⟨bb, off + k * 6 + 1, none⟩ = some (.int .u64 r) := gcell_below K5.out X1.out
                    have x2 : w5.cell? ⟨bb, off + k * 6 + 2, none⟩ = some (.int .i64 c) := gcell_below K5.out X2.out
                    have x3 : w5.cell? ⟨bb, off + k * 6 + 3, none⟩ = some (.int .u64 g) := gcell_below K5.out X3.out
                    have x4 : w5.cell? ⟨bb, off + k * 6 + 4, none⟩ = some (.int .i64 q) := gcell_below K5.out X4.out
                    have u0 := gcell_below K5.out (B1.out.cell 0 rfl)
                    have u1 := gcell_below K5.out (B1.out.cell 1 rfl)
                    have u2 := gcell_below K5.out (B1.out.cell 2 rfl)
                    have u3 := gcell_below K5.out (B1.out.cell 3 rfl)
                    have v0 := V.out.cell 0 rfl
                    have v1 := V.out.cell 1 rfl
                    have v2 := V.out.cell 2 rfl
                    have v3 := V.out.cell 3 rfl
                    have z0 : w5.cell? ⟨b2, off2 + k, none⟩ = some (.int .i64 3) := gcell_below K5.out Z0.out
                    go_upto_region 19 with fail
                    go_quiet (fail)
                    have K7 := Lib.hid (below_drewN K5.out nq)
                    clear x0 x1 x2 x3 x4 u0 u1 u2 u3 v0 v1 v2 v3 z0
                    generalize w5.drewN nq = w7 at K7 ⊢
                    go_wp2_with fail
                    go_roundw
                    case rel => exact ⟨k + 1, by omega, by go_num, by rw [N1.out], K7⟩
                    case measure => simp [intOf]; omega
                · obtain ⟨kg, kg'⟩ := ne_t hgb
                  have hcm := m2 (by simp [leadB, hgb, hbd])
                  unfold leadV thrV vecH costH at hcm
                  simp only at hcm
                  have HQ := fun U => Lib.hid (pcmp_c r (farC c kk) g q s1 s2 s3 s4 U)
                  have HT := fun U => Lib.hid (pthr_ok r c g q kk U hbd)
                  generalize farC c kk = t2 at HT HQ hcm
                  generalize cmpV (r, t2, g, q) (s1, s2, s3, s4) = cc at HQ hcm
                  have e1 : decide (cc < 0) = false := decide_eq_false (by omega)
                  have e2 : decide (0 ≤ cc) = true := decide_eq_true (by omega)
                  clear m2 m3 hbd hgb hcm
                  go_upto_region 16 with fail
                  have KF := Lib.hid fun (U : World) (kz : Below wr.heap.size wr U) => (⟨gcell_below kz x1, gcell_below kz x2, gcell_below kz x3, gcell_below kz x4, gcell_below kz x5, kz⟩ : U.cell? ⟨bb, off + k * 6 + 1, none⟩ = some (.int .u64 r) ∧ U.cell? ⟨bb, off + k * 6 + 2, none⟩ = some (.int .i64 c) ∧ U.cell? ⟨bb, off + k * 6 + 3, none⟩ = some (.int .u64 g) ∧ U.cell? ⟨bb, off + k * 6 + 4, none⟩ = some (.int .i64 q) ∧ U.cell? ⟨bb, off + k * 6 + 5, none⟩ = some (.int .i64 kk) ∧ Below wr.heap.size wr U)
                  have k0 := Below.refl wr.heap.size wr
                  have kl : wr.heap.size ≤ wr.heap.size := Nat.le_refl _
                  go_region_held3 (fun U => U.cell? ⟨bb, off + k * 6 + 1, none⟩ = some (.int .u64 r) ∧ U.cell? ⟨bb, off + k * 6 + 2, none⟩ = some (.int .i64 c) ∧ U.cell? ⟨bb, off + k * 6 + 3, none⟩ = some (.int .u64 g) ∧ U.cell? ⟨bb, off + k * 6 + 4, none⟩ = some (.int .i64 q) ∧ U.cell? ⟨bb, off + k * 6 + 5, none⟩ = some (.int .i64 kk) ∧ Below wr.heap.size wr U)
                    (first | with_reducible exact KF.out _ (k_wr4 k4 kl _ _ _ _) | with_reducible exact KF.out _ (k_alloc k4 _) | with_reducible exact KF.out _ k4 | with_reducible exact KF.out _ (k_alloc k0 _).drew | with_reducible exact KF.out _ k0.drew)
                    (first
                      | (go_at_call 14; (with_reducible refine (HT _).out.mono ?_); rintro e w4 ⟨rfl, h4⟩; have k4 := k_call (k_alloc k0 _).drew h4; have hb4 : w4.heap[wr.heap.size]? = some (.cells #[.int .u64 0, .int .i64 0, .int .u64 0, .int .i64 0] 24 (0, 0)) := below_block h4 (by simp [World.drew]) (heap_new wr _); have y0 := cell_of_block hb4 (j := 0) rfl; have y1 := cell_of_block hb4 (j := 1) rfl; have y2 := cell_of_block hb4 (j := 2) rfl; have y3 := cell_of_block hb4 (j := 3) rfl; have fr4 := fun j => free_of_block (j := j) hb4; have hz4 := lt_of_block hb4)
                      | (go_at_call 14; (with_reducible refine (HT _).out.mono ?_); rintro e w4 ⟨rfl, h4⟩; have k4 := k_call k0.drew h4))
                  · rename_i hh
                    clear hh
                    have V := Lib.hid (show Bx w4 (w4.alloc (.cells #[.int .u64 r, .int .i64 t2, .int .u64 g, .int .i64 q] 24)) w4.heap.size #[.int .u64 r, .int .i64 t2, .int .u64 g, .int .i64 q] 24 from Bx.start _ _ _)
                    have K5 := Lib.hid (KB.out.trans ((k_alloc k4 (.cells #[.int .u64 r, .int .i64 t2, .int .u64 g, .int .i64 q] 24)).mono KB.out.size))
                    clear k4 h4 k0 kl KF HT x0 x1 x2 x3 x4 x5 z0
                    generalize w4.alloc (.cells #[.int .u64 r, .int .i64 t2, .int .u64 g, .int .i64 q] 24) = w5 at K5 V ⊢
                    generalize w4.heap.size = vb at V ⊢
                    have x0 : w5.cell? ⟨bb, off + k * 6, none⟩ = some (.bool true) := gcell_below K5.out X0.out
                    have x1 : w5.cell? ⟨bb, off + k * 6 + 1, none⟩ = some (.int .u64 r) := gcell_below K5.out X1.out
                    have x2 : w5.cell? ⟨bb, off + k * 6 + 2, none⟩ = some (.int .i64 c) := gcell_below K5.out X2.out
                    have x3 : w5.cell? ⟨bb, off + k * 6 + 3, none⟩ = some (.int .u64 g) := gcell_below K5.out X3.out
                    have x4 : w5.cell? ⟨bb, off + k * 6 + 4, none⟩ = some (.int .i64 q) := gcell_below K5.out X4.out
                    have u0 := gcell_below K5.out (B1.out.cell 0 rfl)
                    have u1 := gcell_below K5.out (B1.out.cell 1 rfl)
                    have u2 := gcell_below K5.out (B1.out.cell 2 rfl)
                    have u3 := gcell_below K5.out (B1.out.cell 3 rfl)
                    have v0 := V.out.cell 0 rfl
                    have v1 := V.out.cell 1 rfl
                    have v2 := V.out.cell 2 rfl
                    have v3 := V.out.cell 3 rfl
                    have z0 : w5.cell? ⟨b2, off2 + k, none⟩ = some (.int .i64 3) := gcell_below K5.out Z0.out
                    go_wp2_with fail
                    ((with_reducible refine (HQ _).out.mono ?_); rintro e w6 ⟨rfl, h6⟩)
                    have K6 := Lib.hid (K5.out.trans (h6.mono K5.out.size))
                    clear h6 HQ V x0 x1 x2 x3 x4 u0 u1 u2 u3 v0 v1 v2 v3 z0
                    have x0 : w6.cell? ⟨bb, off + k * 6, none⟩ = some (.bool true) := gcell_below K6.out X0.out
                    have x1 : w6.cell? ⟨bb, off + k * 6 + 1, none⟩ = some (.int .u64 r) := gcell_below K6.out X1.out
                    have x2 : w6.cell? ⟨bb, off + k * 6 + 2, none⟩ = some (.int .i64 c) := gcell_below K6.out X2.out
                    have x3 : w6.cell? ⟨bb, off + k * 6 + 3, none⟩ = some (.int .u64 g) := gcell_below K6.out X3.out
                    have x4 : w6.cell? ⟨bb, off + k * 6 + 4, none⟩ = some (.int .i64 q) := gcell_below K6.out X4.out
                    have u0 := gcell_below K6.out (B1.out.cell 0 rfl)
                    have u1 := gcell_below K6.out (B1.out.cell 1 rfl)
                    have u2 := gcell_below K6.out (B1.out.cell 2 rfl)
                    have u3 := gcell_below K6.out (B1.out.cell 3 rfl)
                    have z0 : w6.cell? ⟨b2, off2 + k, none⟩ = some (.int .i64 3) := gcell_below K6.out Z0.out
                    go_upto_region 19 with fail
                    go_quiet (fail)
                    have K7 := Lib.hid (below_drewN K6.out nq)
                    clear x0 x1 x2 x3 x4 u0 u1 u2 u3 z0
                    generalize w6.drewN nq = w7 at K7 ⊢
                    go_wp2_with fail
                    go_roundw
                    case rel => exact ⟨k + 1, by omega, by go_num, by rw [N1.out], K7⟩
                    case measure => simp [intOf]; omega
                  · rename_i hh
                    clear hh
                    have V : Hid (Bx wr ((((w4.setCell ⟨wr.heap.size, 0, none⟩ (.int .u64 r)).setCell ⟨wr.heap.size, 1, none⟩ (.int .i64 t2)).setCell ⟨wr.heap.size, 2, none⟩ (.int .u64 g)).setCell ⟨wr.heap.size, 3, none⟩ (.int .i64 q)) wr.heap.size #[.int .u64 r, .int .i64 t2, .int .u64 g, .int .i64 q] 24) := Lib.hid (Bx.put4 ⟨hb4, Nat.le_refl _, k4⟩ _ _ _ _)
                    have K5 : Hid (Below W1.heap.size W1 ((((w4.setCell ⟨wr.heap.size, 0, none⟩ (.int .u64 r)).setCell ⟨wr.heap.size, 1, none⟩ (.int .i64 t2)).setCell ⟨wr.heap.size, 2, none⟩ (.int .u64 g)).setCell ⟨wr.heap.size, 3, none⟩ (.int .i64 q))) := Lib.hid (KB.out.trans ((k_wr4 k4 kl _ _ _ _).mono KB.out.size))
                    clear hb4 y0 y1 y2 y3 fr4 hz4 k4 h4 k0 kl KF HT x0 x1 x2 x3 x4 x5 z0
                    generalize ((((w4.setCell ⟨wr.heap.size, 0, none⟩ (.int .u64 r)).setCell ⟨wr.heap.size, 1, none⟩ (.int .i64 t2)).setCell ⟨wr.heap.size, 2, none⟩ (.int .u64 g)).setCell ⟨wr.heap.size, 3, none⟩ (.int .i64 q)) = w5 at K5 V ⊢
                    generalize wr.heap.size = vb at V ⊢
                    have x0 : w5.cell? ⟨bb, off + k * 6, none⟩ = some (.bool true) := gcell_below K5.out X0.out
                    have x1 : w5.cell? ⟨bb, off + k * 6 + 1, none⟩ = some (.int .u64 r) := gcell_below K5.out X1.out
                    have x2 : w5.cell? ⟨bb, off + k * 6 + 2, none⟩ = some (.int .i64 c) := gcell_below K5.out X2.out
                    have x3 : w5.cell? ⟨bb, off + k * 6 + 3, none⟩ = some (.int .u64 g) := gcell_below K5.out X3.out
                    have x4 : w5.cell? ⟨bb, off + k * 6 + 4, none⟩ = some (.int .i64 q) := gcell_below K5.out X4.out
                    have u0 := gcell_below K5.out (B1.out.cell 0 rfl)
                    have u1 := gcell_below K5.out (B1.out.cell 1 rfl)
                    have u2 := gcell_below K5.out (B1.out.cell 2 rfl)
                    have u3 := gcell_below K5.out (B1.out.cell 3 rfl)
                    have v0 := V.out.cell 0 rfl
                    have v1 := V.out.cell 1 rfl
                    have v2 := V.out.cell 2 rfl
                    have v3 := V.out.cell 3 rfl
                    have z0 : w5.cell? ⟨b2, off2 + k, none⟩ = some (.int .i64 3) := gcell_below K5.out Z0.out
                    go_wp2_with fail
                    ((with_reducible refine (HQ _).out.mono ?_); rintro e w6 ⟨rfl, h6⟩)
                    have K6 := Lib.hid (K5.out.trans (h6.mono K5.out.size))
                    clear h6 HQ V x0 x1 x2 x3 x4 u0 u1 u2 u3 v0 v1 v2 v3 z0
                    have x0 : w6.cell? ⟨bb, off + k * 6, none⟩ = some (.bool true) := gcell_below K6.out X0.out
                    have x1 : w6.cell? ⟨bb, off + k * 6 + 1, none⟩ = some (.int .u64 r) := gcell_below K6.out X1.out
                    have x2 : w6.cell? ⟨bb, off + k * 6 + 2, none⟩ = some (.int .i64 c) := gcell_below K6.out X2.out
                    have x3 : w6.cell? ⟨bb, off + k * 6 + 3, none⟩ = some (.int .u64 g) := gcell_below K6.out X3.out
                    have x4 : w6.cell? ⟨bb, off + k * 6 + 4, none⟩ = some (.int .i64 q) := gcell_below K6.out X4.out
                    have u0 := gcell_below K6.out (B1.out.cell 0 rfl)
                    have u1 := gcell_below K6.out (B1.out.cell 1 rfl)
                    have u2 := gcell_below K6.out (B1.out.cell 2 rfl)
                    have u3 := gcell_below K6.out (B1.out.cell 3 rfl)
                    have z0 : w6.cell? ⟨b2, off2 + k, none⟩ = some (.int .i64 3) := gcell_below K6.out Z0.out
                    go_upto_region 19 with fail
                    go_quiet (fail)
                    have K7 := Lib.hid (below_drewN K6.out nq)
                    clear x0 x1 x2 x3 x4 u0 u1 u2 u3 z0
                    generalize w6.drewN nq = w7 at K7 ⊢
                    go_wp2_with fail
                    go_roundw
                    case rel => exact ⟨k + 1, by omega, by go_num, by rw [N1.out], K7⟩
                    case measure => simp [intOf]; omega
              · have HT := fun U => Lib.hid (pthr_no r c g q kk U hbd)
                clear m2 m3 hbd
                go_upto_region 16 with fail
                have KF := Lib.hid fun (U : World) (kz : Below wr.heap.size wr U) => (⟨gcell_below kz x1, gcell_below kz x2, gcell_below kz x3, gcell_below kz x4, gcell_below kz x5, kz⟩ : U.cell? ⟨bb, off + k * 6 + 1, none⟩ = some (.int .u64 r) ∧ U.cell? ⟨bb, off + k * 6 + 2, none⟩ = some (.int .i64 c) ∧ U.cell? ⟨bb, off + k * 6 + 3, none⟩ = some (.int .u64 g) ∧ U.cell? ⟨bb, off + k * 6 + 4, none⟩ = some (.int .i64 q) ∧ U.cell? ⟨bb, off + k * 6 + 5, none⟩ = some (.int .i64 kk) ∧ Below wr.heap.size wr U)
                have k0 := Below.refl wr.heap.size wr
                have kl : wr.heap.size ≤ wr.heap.size := Nat.le_refl _
                go_region_held3 (fun U => U.cell? ⟨bb, off + k * 6 + 1, none⟩ = some (.int .u64 r) ∧ U.cell? ⟨bb, off + k * 6 + 2, none⟩ = some (.int .i64 c) ∧ U.cell? ⟨bb, off + k * 6 + 3, none⟩ = some (.int .u64 g) ∧ U.cell? ⟨bb, off + k * 6 + 4, none⟩ = some (.int .i64 q) ∧ U.cell? ⟨bb, off + k * 6 + 5, none⟩ = some (.int .i64 kk) ∧ Below wr.heap.size wr U)
                  (first | with_reducible exact KF.out _ (k_wr4 k4 kl _ _ _ _) | with_reducible exact KF.out _ (k_alloc k4 _) | with_reducible exact KF.out _ k4 | with_reducible exact KF.out _ (k_alloc k0 _).drew | with_reducible exact KF.out _ k0.drew)
                  (first
                    | (go_at_call 14; (with_reducible refine (HT _).out.mono ?_); rintro e w4 ⟨rfl, h4⟩; have k4 := k_call (k_alloc k0 _).drew h4; have hb4 : w4.heap[wr.heap.size]? = some (.cells #[.int .u64 0, .int .i64 0, .int .u64 0, .int .i64 0] 24 (0, 0)) := below_block h4 (by simp [World.drew]) (heap_new wr _); have y0 := cell_of_block hb4 (j := 0) rfl; have y1 := cell_of_block hb4 (j := 1) rfl; have y2 := cell_of_block hb4 (j := 2) rfl; have y3 := cell_of_block hb4 (j := 3) rfl; have fr4 := fun j => free_of_block (j := j) hb4; have hz4 := lt_of_block hb4)
                    | (go_at_call 14; (with_reducible refine (HT _).out.mono ?_); rintro e w4 ⟨rfl, h4⟩; have k4 := k_call k0.drew h4))
                · rename_i hh
                  clear hh
                  have V := Lib.hid (show Bx w4 (w4.alloc (.cells #[.int .u64 0, .int .i64 0, .int .u64 0, .int .i64 0] 24)) w4.heap.size #[.int .u64 0, .int .i64 0, .int .u64 0, .int .i64 0] 24 from Bx.start _ _ _)
                  have K5 := Lib.hid (KB.out.trans ((k_alloc k4 (.cells #[.int .u64 0, .int .i64 0, .int .u64 0, .int .i64 0] 24)).mono KB.out.size))
                  clear k4 h4 k0 kl KF HT x0 x1 x2 x3 x4 x5 z0
                  generalize w4.alloc (.cells #[.int .u64 0, .int .i64 0, .int .u64 0, .int .i64 0] 24) = w5 at K5 V ⊢
                  generalize w4.heap.size = vb at V ⊢
                  have x0 : w5.cell? ⟨bb, off + k * 6, none⟩ = some (.bool true) := gcell_below K5.out X0.out
                  have x1 : w5.cell? ⟨bb, off + k * 6 + 1, none⟩ = some (.int .u64 r) := gcell_below K5.out X1.out
                  have x2 : w5.cell? ⟨bb, off + k * 6 + 2, none⟩ = some (.int .i64 c) := gcell_below K5.out X2.out
                  have x3 : w5.cell? ⟨bb, off + k * 6 + 3, none⟩ = some (.int .u64 g) := gcell_below K5.out X3.out
                  have x4 : w5.cell? ⟨bb, off + k * 6 + 4, none⟩ = some (.int .i64 q) := gcell_below K5.out X4.out
                  have u0 := gcell_below K5.out (B1.out.cell 0 rfl)
                  have u1 := gcell_below K5.out (B1.out.cell 1 rfl)
                  have u2 := gcell_below K5.out (B1.out.cell 2 rfl)
                  have u3 := gcell_below K5.out (B1.out.cell 3 rfl)
                  have v0 := V.out.cell 0 rfl
                  have v1 := V.out.cell 1 rfl
                  have v2 := V.out.cell 2 rfl
                  have v3 := V.out.cell 3 rfl
                  have z0 : w5.cell? ⟨b2, off2 + k, none⟩ = some (.int .i64 3) := gcell_below K5.out Z0.out
                  go_upto_region 19 with fail
                  go_quiet (fail)
                  have K7 := Lib.hid (below_drewN K5.out nq)
                  clear x0 x1 x2 x3 x4 u0 u1 u2 u3 v0 v1 v2 v3 z0
                  generalize w5.drewN nq = w7 at K7 ⊢
                  go_wp2_with fail
                  go_roundw
                  case rel => exact ⟨k + 1, by omega, by go_num, by rw [N1.out], K7⟩
                  case measure => simp [intOf]; omega
                · rename_i hh
                  clear hh
                  have V : Hid (Bx wr ((((w4.setCell ⟨wr.heap.size, 0, none⟩ (.int .u64 0)).setCell ⟨wr.heap.size, 1, none⟩ (.int .i64 0)).setCell ⟨wr.heap.size, 2, none⟩ (.int .u64 0)).setCell ⟨wr.heap.size, 3, none⟩ (.int .i64 0)) wr.heap.size #[.int .u64 0, .int .i64 0, .int .u64 0, .int .i64 0] 24) := Lib.hid (Bx.put4 ⟨hb4, Nat.le_refl _, k4⟩ _ _ _ _)
                  have K5 : Hid (Below W1.heap.size W1 ((((w4.setCell ⟨wr.heap.size, 0, none⟩ (.int .u64 0)).setCell ⟨wr.heap.size, 1, none⟩ (.int .i64 0)).setCell ⟨wr.heap.size, 2, none⟩ (.int .u64 0)).setCell ⟨wr.heap.size, 3, none⟩ (.int .i64 0))) := Lib.hid (KB.out.trans ((k_wr4 k4 kl _ _ _ _).mono KB.out.size))
                  clear hb4 y0 y1 y2 y3 fr4 hz4 k4 h4 k0 kl KF HT x0 x1 x2 x3 x4 x5 z0
                  generalize ((((w4.setCell ⟨wr.heap.size, 0, none⟩ (.int .u64 0)).setCell ⟨wr.heap.size, 1, none⟩ (.int .i64 0)).setCell ⟨wr.heap.size, 2, none⟩ (.int .u64 0)).setCell ⟨wr.heap.size, 3, none⟩ (.int .i64 0)) = w5 at K5 V ⊢
                  generalize wr.heap.size = vb at V ⊢
                  have x0 : w5.cell? ⟨bb, off + k * 6, none⟩ = some (.bool true) := gcell_below K5.out X0.out
                  have x1 : w5.cell? ⟨bb, off + k * 6 + 1, none⟩ = some (.int .u64 r) := gcell_below K5.out X1.out
                  have x2 : w5.cell? ⟨bb, off + k * 6 + 2, none⟩ = some (.int .i64 c) := gcell_below K5.out X2.out
                  have x3 : w5.cell? ⟨bb, off + k * 6 + 3, none⟩ = some (.int .u64 g) := gcell_below K5.out X3.out
                  have x4 : w5.cell? ⟨bb, off + k * 6 + 4, none⟩ = some (.int .i64 q) := gcell_below K5.out X4.out
                  have u0 := gcell_below K5.out (B1.out.cell 0 rfl)
                  have u1 := gcell_below K5.out (B1.out.cell 1 rfl)
                  have u2 := gcell_below K5.out (B1.out.cell 2 rfl)
                  have u3 := gcell_below K5.out (B1.out.cell 3 rfl)
                  have v0 := V.out.cell 0 rfl
                  have v1 := V.out.cell 1 rfl
                  have v2 := V.out.cell 2 rfl
                  have v3 := V.out.cell 3 rfl
                  have z0 : w5.cell? ⟨b2, off2 + k, none⟩ = some (.int .i64 3) := gcell_below K5.out Z0.out
                  go_upto_region 19 with fail
                  go_quiet (fail)
                  have K7 := Lib.hid (below_drewN K5.out nq)
                  clear x0 x1 x2 x3 x4 u0 u1 u2 u3 v0 v1 v2 v3 z0
                  generalize w5.drewN nq = w7 at K7 ⊢
                  go_wp2_with fail
                  go_roundw
                  case rel => exact ⟨k + 1, by omega, by go_num, by rw [N1.out], K7⟩
                  case measure => simp [intOf]; omega
      · obtain rfl : k = la1.length := by omega
        have hlt2 : decide ((la1.length : Int) < (la1.length : Int)) = false := by simp
        have u0 := gcell_below KB.out (B1.out.cell 0 rfl)
        have u1 := gcell_below KB.out (B1.out.cell 1 rfl)
        have u2 := gcell_below KB.out (B1.out.cell 2 rfl)
        have u3 := gcell_below KB.out (B1.out.cell 3 rfl)
        have p0 := cell_regrown u0
        have p1 := cell_regrown u1
        have p2 := cell_regrown u2
        have p3 := cell_regrown u3
        have D1 := fun d os => Calls.regrown_of (pown_c a0 (Go.Sort.grow (redrawn wr d) os))
        have D2 := fun d os => Calls.regrown_of (live14_c (Go.Sort.grow (redrawn wr d) os))
        have E3 := guard_V
        clear hlt u0 u1 u2 u3
        rcases J1.out with j1 | ⟨j1, j4, j5⟩
        · unfold ownV at j1
          simp only [Prod.mk.injEq] at j1
          obtain ⟨e0, e1, e2, e3, e4⟩ := j1
          subst s1
          subst s2
          subst s3
          subst s4
          subst sp
          have hn : cntR (-1) la1.length = 0 := by unfold cntR; rw [if_neg (by omega)]
          rw [hn]
          have E1 := fun U => eql_V a0 0 a0 0 a0 0 a0 0 U
          have E2 := fun U => equalIn_V a0 0 a0 0 a0 0 a0 0 U
          simp only [eqV_self] at E1 E2
          clear hn
          go_upto_region 22 with fail
          refine wp_region_quiet_below (by kernel_rfl) (by kernel_rfl) ?_
          repeat (quiet_step (first | with_reducible exact D1 _ _ | with_reducible exact D2 _ _))
          refine wpQuiet_nil ?_
          intro _ hw
          obtain ⟨⟨dq, osq⟩, hw2⟩ := hw
          subst hw2
          have K7 := Lib.hid (H1.out.trans ((KB.out.trans ((below_regrown wr dq osq).mono KB.out.size)).mono H1.out.size))
          clear p0 p1 p2 p3 D1 D2 E1 E2
          generalize Go.Sort.grow (redrawn wr dq) osq = w7 at K7 ⊢
          go_wp2_with fail
          go_ret
          exact ⟨by simp, K7.out⟩
        · have hn : cntR sp la1.length = 1 := by unfold cntR; rw [if_pos (by omega)]
          rw [hn]
          have f1 : decide (sp < 0) = false := decide_eq_false (by omega)
          have f2 : decide (sp < (la1.length : Int)) = true := decide_eq_true (by omega)
          have D3 := fun d os => Calls.regrown_of (pcmp_c s1 s2 s3 s4 a0 0 a0 0 (Go.Sort.grow (redrawn wr d) os))
          unfold ownV at j5
          generalize cmpV (s1, s2, s3, s4) (a0, 0, a0, 0) = cc at D3 j5
          have f3 : decide (cc < 0) = true := decide_eq_true j5
          have f4 : decide (0 ≤ cc) = false := decide_eq_false (by omega)
          clear hn j1 j4 j5
          go_upto_region 23 with fail
          refine wp_region_quiet_below (by kernel_rfl) (by kernel_rfl) ?_
          repeat (quiet_step (first | with_reducible exact D1 _ _ | with_reducible exact D2 _ _ | with_reducible exact D3 _ _))
          refine wpQuiet_nil ?_
          intro _ hw
          obtain ⟨⟨dq, osq⟩, hw2⟩ := hw
          subst hw2
          have K7 := Lib.hid (H1.out.trans ((KB.out.trans ((below_regrown wr dq osq).mono KB.out.size)).mono H1.out.size))
          clear p0 p1 p2 p3 D1 D2 D3
          generalize Go.Sort.grow (redrawn wr dq) osq = w7 at K7 ⊢
          go_wp2_with fail
          go_ret
          exact ⟨by simp, K7.out⟩

theorem own : ownKnob Try.prog.godebug = none := by kernel_rfl
theorem laidOut : laidOutB Try.prog = true := by kernel_rfl

set_option maxHeartbeats 1000000 in
set_option maxRecDepth 100000 in
theorem lifted (os : Os) (started : os.Started) (H : Type) (enc : TypeId × Value → H) :
    ReturnsInHanded {} Try.checked os 7 .any (Rows.prioOneSpec.pre6 enc Try.prog Try.f7 Rows.prioOneRow.domain false) (Rows.prioOneSpec.post enc Try.prog Try.f7 false true false false) := by
  refine returnsInHanded_of_change_sized (C := Try.checked) own started (by kernel_rfl) Try.func7
    (ChangeSpec.witness6 (enc := enc) (C := Try.checked) false ⟨#[], #[.int .u64 0, .slice none 0 0], []⟩ 8 (by kernel_rfl) (by kernel_rfl) (by kernel_rfl) (by kernel_rfl)) ?_
  intro W base args ds gs before hval0 hW hcnd hsz0 hholds
  have hval : ∀ (j : Nat) t v, Try.f7.params[j]? = some t → args[j]? = some v → Value.okWide Try.prog W .any base t v := hval0
  have hsz : (DataW.weightsEach Try.prog (Try.f7.params.toList ++ Rows.prioOneSpec.plain.varTypes Try.prog) (ds ++ gs)).all (· ≤ reachBytes) = true := hsz0
  have hW' := hW
  obtain ⟨p, q, hA0, hV, rfl, hfz, hnd⟩ := hW
  have hA : DataW.TrodAll enc Try.prog W 0 (fun _ => true) true Try.f7.params.toList args.toList ds p := hA0
  rw [Try.params7] at hA hval hsz
  obtain ⟨v0, vs0, d0, ds0, p0, q0, hargs, rfl, rfl, h0, r0⟩ := trodAll_cons hA
  obtain ⟨v1, vs1, d1, ds1, p1, q1, rfl, rfl, rfl, h1, r1⟩ := trodAll_cons r0
  obtain ⟨rfl, rfl, rfl⟩ := trodAll_nil r1
  obtain rfl : args = #[v0, v1] := by cases args; simp_all
  obtain ⟨rfl, rfl⟩ := trodVars_none hV
  have k0 := h0
  have lt0 : ∀ x ∈ p0, x.block < W.heap.size := by obtain ⟨m, hm⟩ := k0; exact DataW.trod_lt m _ _ _ hm
  have k1 := h1
  have lt1 : ∀ x ∈ p1, x.block < W.heap.size := by obtain ⟨m, hm⟩ := k1; exact DataW.trod_lt m _ _ _ hm
  obtain ⟨a0, rfl, rfl, rfl, w0⟩ := open_int Try.underlying22 (hval 0 22 v0 rfl rfl) h0
  obtain ⟨sa1, sl1, sc1, rfl⟩ := okWide_slice Try.underlying33 (hval 1 33 v1 rfl rfl)
  obtain ⟨fu1, hf1⟩ := h1
  obtain ⟨vv1, L1, e1, hh1, qq1, ss1⟩ := openHd hf1
  simp [Value.cells] at e1
  subst e1
  have ba0 := bounds_u64 w0
  clear hA0 hval0
  refine (walk a0 (.slice sa1 sl1 sc1) L1 W ba0.1 ba0.2 hh1 qq1 ss1).mono fun e W' ⟨he, bel⟩ => ?_
  subst he
  exact ⟨_, rfl, _, _, _, [], _, [], hW', trodAll_mk1 (shut_bool Try.underlying4 _), (trodAll_cons_mk (Below.trod laidOut (by kernel_rfl) (of_decide_eq_true (by kernel_rfl)) k0 bel lt0) (trodAll_cons_mk (Below.trod laidOut (by kernel_rfl) (of_decide_eq_true (by kernel_rfl)) k1 bel lt1) trodAll_mk0)), rfl, bel.frame _, fun h => by cases h⟩

theorem over : Rows.prioOneRow.holds Try.pinned (OpenSpec.ofChange Rows.prioOneSpec) :=
  OpenClaim.holds_of_wide 7 Try.f7 rfl rfl rfl rfl rfl rfl rfl ⟨rfl, rfl, rfl, rfl, rfl⟩ rfl rfl rfl rfl rfl (by kernel_rfl) Try.func7 (by kernel_rfl)
    (of_decide_eq_true (by kernel_rfl)) (by unfold Func.isWrapper; first | (rw [if_pos (by decide +kernel)]; kernel_rfl) | (rw [if_neg (by decide +kernel)]; exact ⟨rfl, rfl⟩))
    (fun os started H enc _ => lifted os started H enc)

/-- The statement. -/
theorem proved : Rows.PrioOneSaid := over
#print axioms proved
end Go.Proofs.Ytcllciekbeibcaa.prioOneLaw
