/-
  The document's table: Learn of a station that is new. A contract over the translated program.
-/
import Derived.Test.YtodddahjibccoaaFdU
import Derived.Test.YtodddahjibccoaaRowG
import Derived.Laws.AppendOwnNone
import Derived.Deep.Onto
namespace Go.Proofs.Ytodddahjibccoaa
open Go Go.Maps Go.WideMaps
open Go.RowKit
set_option linter.unusedVariables false
set_option linter.unusedSimpArgs false

variable {w : World} {B q : Nat} {room age : Int} {R : List E4} {lv : Value}
theorem cut_ins {S : List E4} (hu : UpF S) {k : Nat} (hk : k ≤ S.length) {v : Int} {m : ByteArray} (h1 : ∀ (j : Nat) (x : E4), j < k → S[j]? = some x → ltS x.1 x.2.1 v m = true) (h2 : ∀ x, S[k]? = some x → ltS x.1 x.2.1 v m = false) (c : Int × Int) : insF S v m c = S.take k ++ (v, m, c) :: S.drop k := by
  have a1 : ∀ x ∈ S.take k, ltS x.1 x.2.1 v m = true := by
    intro x hx
    obtain ⟨j, hj, e⟩ := List.getElem_of_mem hx
    rw [List.length_take] at hj
    refine h1 j x (by omega) ?_
    rw [List.getElem_take] at e
    rw [List.getElem?_eq_getElem (by omega), e]
  have a2 : ∀ x ∈ S.drop k, ltS x.1 x.2.1 v m = false := by
    intro x hx
    have hk' : k < S.length := by
      rcases Nat.lt_or_ge k S.length with h | h
      · exact h
      · rw [List.drop_eq_nil_of_le h] at hx; cases hx
    have hd : S.drop k = S[k] :: S.drop (k + 1) := (List.getElem_cons_drop (h := hk')).symm
    have hy := h2 S[k] (List.getElem?_eq_getElem hk')
    have hp : (S.drop k).Pairwise (fun x y => ltS x.1 x.2.1 y.1 y.2.1 = true) := List.Pairwise.sublist (List.drop_sublist k S) hu
    rw [hd] at hp hx
    rcases List.mem_cons.1 hx with rfl | hx
    · exact hy
    · have h3 := (List.pairwise_cons.1 hp).1 x hx
      cases h4 : ltS x.1 x.2.1 v m with
      | false => rfl
      | true => rw [ltS_trans h3 h4] at hy; cases hy
  have f1 : S.filter (fun e => ltS e.1 e.2.1 v m) = S.take k := by
    conv => lhs; rw [← List.take_append_drop k S]
    rw [List.filter_append, List.filter_eq_self.2 a1, List.filter_eq_nil_iff.2 (fun x hx => by rw [a2 x hx]; simp), List.append_nil]
  have f2 : S.filter (fun e => !ltS e.1 e.2.1 v m) = S.drop k := by
    conv => lhs; rw [← List.take_append_drop k S]
    rw [List.filter_append, List.filter_eq_nil_iff.2 (fun x hx => by rw [a1 x hx]; simp), List.filter_eq_self.2 (fun x hx => by rw [a2 x hx]; rfl), List.nil_append]
  unfold insF
  rw [f1, f2]
theorem cells4n (w : World) (a b c d : Value) (t : TypeId) : ∀ j u, [a, b, c, d][j]? = some u → (w.alloc (.cells #[a, b, c, d] t)).cell? ((⟨w.heap.size, 0, none⟩ : Addr).add j) = some u := by
  intro j u hj
  match j, hj with
  | 0, hj => simp at hj; subst hj; simp [Addr.add, go_sem]
  | 1, hj => simp at hj; subst hj; simp [Addr.add, go_sem]
  | 2, hj => simp at hj; subst hj; simp [Addr.add, go_sem]
  | 3, hj => simp at hj; subst hj; simp [Addr.add, go_sem]
  | j + 4, hj => simp at hj
theorem rform (h : HasR w B q room age R lv) : (lv = .slice none 0 0 ∧ R = []) ∨ ∃ g cap, lv = .slice (some ⟨g, 0, none⟩) R.length cap ∧ R.length ≤ cap ∧ cap ≤ maxLen ∧ ∀ j u, (rowE R)[j]? = some u → w.cell? ⟨g, j, none⟩ = some u := by
  rcases h.2.2 with ⟨e, h0⟩ | ⟨g, cap, cur, e, hb, hg, h1, h2, h3, ht⟩
  · exact Or.inl ⟨e, List.length_eq_zero_iff.1 h0⟩
  · exact Or.inr ⟨g, cap, e, h1, h2, fun j u hj => by have := h.2.cells (g := g) (by rw [e]; rfl) j u hj; rw [add_none, Nat.zero_add] at this; exact this⟩
set_option maxHeartbeats 16000000 in
set_option maxRecDepth 100000 in
theorem rlearn_new (h : HasR w B q room age R lv) (hg : GoodF R) (hr : 1 ≤ room) (hl : R.length < 1000000000) (hB : B ≤ w.heap.size) (v : Int) (m : ByteArray) (p now : Int) (hm : (mayL v m p && timeB now) = true) (hno : NoF R (fun x => sameE x v m) R.length) :
    Calls Try.prog 17 #[.pointer (some ⟨q, 0, none⟩), .int .i64 v, .string m, .int .i64 p, .int .i64 now] w fun e w' => e = .returned (.bool true) ∧ ∃ lv', HasR w' B q room age (insF (drvF room R) v m (p, now)) lv' ∧ Tq w w' B q := by
  obtain ⟨i0, hi, hz0, hz1, hz2⟩ := infoR
  obtain ⟨p0, off0, cap0, e0, hc⟩ := h.rows
  obtain ⟨f1, f2, f3, f4, f5, f6, f7⟩ := may_all hm
  obtain ⟨k1, k1'⟩ := eq_t f1
  have k2 : decide (v < 1) = false := decide_eq_false f3
  have k3 : decide (4094 < v) = false := decide_eq_false f4
  have k4 : decide (p < 0) = false := decide_eq_false f5
  have k5 : decide (15 < p) = false := decide_eq_false f6
  have HM := Lib.hid fun U => rmny_c m U
  have HT := Lib.hid fun U => rtime_c now U
  rw [f2] at HM
  rw [f7] at HT
  clear f1 f2 f3 f4 f5 f6 f7 hm
  have HC := Lib.hid hc
  have HN := Lib.hid hno
  have H0 := Lib.hid h
  have HG := Lib.hid hg
  have c2 := h.c2
  have c0 := h.c0
  rw [e0] at c2
  clear hc h hno e0 hg
  go_enter Try.func17, Try.ntmps17
  go_wp2_with fail
  ((with_reducible refine (HM.out _).mono ?_); rintro e w1 ⟨rfl, rfl⟩)
  go_wp2_with fail
  ((with_reducible refine (HT.out _).mono ?_); rintro e w2 ⟨rfl, rfl⟩)
  have H0 := Lib.hid (show HasR w2 B q room age R lv from H0.out)
  clear HM HT
  go_wp2_with fail
  go_loop [11] (fun s => ∃ k : Nat, k ≤ R.length ∧ s = .int .i64 k) (fun s => R.length - (intOf s).toNat)
  case atStart => exact ⟨0, Nat.zero_le _, rfl⟩
  case round =>
    obtain ⟨k, hk, rfl⟩ := hrel
    by_cases hlt : k < R.length
    · obtain ⟨x, hx⟩ := some_at (show k < R.length by omega)
      obtain ⟨g, rfl, x0, x1, x2, x3⟩ := HC.out k x hx
      simp only [Option.map_some] at c2 ⊢
      have hlt' : (k : Int) < (R.length : Int) := by omega
      clear x2 x3
      have e5 : ¬ (x.1 = v ∧ x.2.1 = m) := fun h => by have h5 : sameE x v m = false := HN.out k x hlt hx; rw [(same_iff _ _ _).2 h] at h5; cases h5
      clear hx HC
      by_cases e1 : x.1 = v
      · obtain ⟨g2, g3⟩ := eq_t e1
        have g1 := fun t => seql_of (x := x.2.1) (y := m) (r := false) (decide_eq_false fun e => e5 ⟨e1, e⟩) t
        clear e5 e1
        go_wp2_with fail
        go_round
        case rel => exact ⟨k + 1, by omega, by go_num⟩
        case measure => simp [intOf] <;> omega
      · obtain ⟨g2, g3⟩ := ne_t e1
        clear e5 e1
        go_wp2_with fail
        go_round
        case rel => exact ⟨k + 1, by omega, by go_num⟩
        case measure => simp [intOf] <;> omega
    · obtain rfl : k = R.length := by omega
      have hlt' : decide ((R.length : Int) < (R.length : Int)) = false := by simp
      clear HC HN hk hlt
      by_cases hfull : room ≤ (R.length : Int)
      · have q1 : decide (room ≤ (R.length : Int)) = true := decide_eq_true hfull
        have hR0 : 0 < R.length := by omega
        have hRn : R ≠ [] := by rintro rfl; simp at hR0
        go_wp2_with fail
        go_quiet (fail)
        have OL := Lib.hid (roldest_c (H0.out.drewN nq) hl hR0)
        have WO := Lib.hid fun (n : Nat) => without_c (H0.out.drewN n) hl (old_lt hRn)
        clear q1 c0 c2 hlt'
        go_wp2_with fail
        ((with_reducible refine OL.out.mono ?_); rintro e w3 ⟨rfl, n3, rfl⟩)
        go_wp2_with fail
        ((with_reducible refine (WO.out _).mono ?_); rintro e w4 ⟨rfl, lv5, h4, t4⟩)
        obtain ⟨S5, hS5e⟩ : ∃ S5, S5 = drvF room R := ⟨_, rfl⟩
        have hS5 := Lib.hid (show HasR w4 B q room age S5 lv5 by rw [hS5e]; unfold drvF; rw [if_pos hfull]; exact h4)
        have hT5 := Lib.hid (show Tq w2 w4 B q from ⟨t4.os, t4.tape, t4.output, t4.size, t4.block⟩)
        have hU5 : UpF S5 := by rw [hS5e]; exact HG.out.up.sublist (drv_sub room R)
        have hSn : S5.length ≤ R.length := by rw [hS5e]; exact (drv_sub room R).length_le
        have SE := Lib.hid hS5e
        clear h4 t4 OL WO hfull hR0 hRn hS5e HG H0
        obtain ⟨p3, off3, cap3, e3, -⟩ := hS5.out.rows
        have c2 := hS5.out.c2
        rw [e3] at c2
        have hSl : S5.length < 1000000000 := by omega
        have hU := Lib.hid hU5
        have S0 := hS5
        have T0 := hT5
        clear hS5 hT5 hU5
        go_wp2_with fail
        go_loopw [12] (fun s wr => ∃ k : Nat, k ≤ S5.length ∧ s = .int .i64 k ∧ Hid (NoF S5 (fun x => !ltS x.1 x.2.1 v m) k) ∧ Hid (HasR wr B q room age S5 lv5) ∧ Hid (Tq w2 wr B q)) (fun s _ => S5.length - (intOf s).toNat)
        case atStart => exact ⟨0, Nat.zero_le _, rfl, Lib.hid (NoF.zero _ _), S0, T0⟩
        case round =>
          clear S0 T0 c2 e3
          obtain ⟨k, hkS, rfl, NB, hS5, hT5⟩ := hrel
          by_cases hlt : k < S5.length
          · obtain ⟨x, hx⟩ := some_at hlt
            obtain ⟨g, cap, e4, -, -, -, hc⟩ := hS5.out.some hx
            obtain ⟨x0, x1, x2, x3⟩ := hc k x hx
            have c2 := hS5.out.c2
            rw [e4] at c2
            have hlt' : (k : Int) < (S5.length : Int) := by omega
            have AH := Lib.hid fun U => rahead_c x v m U
            have NB1 := Lib.hid fun h => NB.out.succ hx h
            have NX := Lib.hid (show ltS x.1 x.2.1 v m = false → ∀ y, S5[k]? = some y → ltS y.1 y.2.1 v m = false from fun h y hy => by rw [hx] at hy; cases hy; exact h)
            clear hc hx
            generalize ltS x.1 x.2.1 v m = bb at AH NB1 NX
            go_wp2_with fail
            ((with_reducible refine (AH.out _).mono ?_); rintro e w5 ⟨rfl, h5⟩)
            replace hS5 := Lib.hid (hS5.out.below h5)
            replace hT5 := Lib.hid (hT5.out.trans (Tq.ofBelow h5))
            clear h5 AH x0 x1 x2 x3 c2
            cases bb with
            | true =>
              go_wp2_with fail
              go_roundw
              case rel => exact ⟨k + 1, by omega, by go_num, Lib.hid (NB1.out rfl), hS5, hT5⟩
              case measure => simp [intOf] <;> omega
            | false =>
              replace NX := Lib.hid (NX.out rfl)
              clear NB1 e4
              have CI := Lib.hid (cut_ins hU.out hkS (fun j x hj hx => by have := NB.out j x hj hx; simpa using this) NX.out (p, now))
              have HB := Lib.hid (show B ≤ w5.heap.size from Nat.le_trans hB (by have := hT5.out.size; omega))
              have c2 := hS5.out.c2
              rcases rform hS5.out with ⟨e5, e6⟩ | ⟨g5, cap5, e5, h51, h52, h53⟩
              · exact absurd hlt (by rw [e6]; simp)
              · rw [e5] at c2
                have hkl : k ≤ 1000000000 := by omega
                have L1 := Lib.hid (show (rowE (S5.take k)).length = k * 4 by rw [rowE_len, List.length_take, Nat.min_eq_left hkS])
                have L2 := Lib.hid (show (rowE (S5.drop k)).length = (S5.length - k) * 4 by rw [rowE_len, List.length_drop])
                have CL := Lib.hid h53
                have HG5 := Lib.hid (show g5 < w5.heap.size from (hS5.out.2.lt g5 (by rw [e5]; rfl)).2)
                have hkc : k ≤ cap5 := by omega
                clear h53
                go_wp2_with (at_builtin; refine wpList_append_own _ rfl _ _ 29 rfl w5.heap.size 58 i0 (.agg #[.int .i64 0, .string ⟨#[]⟩, .int .i64 0, .int .i64 0]) 4 40 und_LE hi hz0 hz1 hz2 rfl (by decide) _ 0 [] rfl (World.ownsRow_nil _ _ _ _) _ _ _ (rowE (S5.take k)) rfl L1.out ?c1 ?c2 ?c3 ?c4 (Nat.le_refl _) ?_)
                case c1 => exact fun j u hj => by rw [add_none, Nat.zero_add]; exact CL.out j u (rowE_pre hj)
                case c2 => exact rowE_one _
                case c3 => unfold maxLen; omega
                case c4 => omega
                intro v1 w1 hown1 hg1 _
                have N1 := Lib.hid (show w1.ownsRow w5.heap.size 58 4 v1 k (rowE (S5.take k)) by simpa using hown1)
                have G1 := Lib.hid (show w5.grownBy w1 none from hg1)
                have N1B := Lib.hid ((N1.out.mono HB.out).alloc (.cells #[.int .i64 v, .string m, .int .i64 p, .int .i64 now] 58))
                have E1 := Lib.hid ((((Below.refl _ w1).alloc (Nat.le_refl _) (.cells #[.int .i64 v, .string m, .int .i64 p, .int .i64 now] 58)).block q (Nat.lt_of_lt_of_le hS5.out.lt G1.out.size)).trans ((G1.out.block q hS5.out.lt (by simp)).trans hS5.out.1))
                have T1 := Lib.hid ((hT5.out.trans (Tq.ofBelow ⟨G1.out.os, G1.out.tape, G1.out.output, G1.out.size, fun j hj => G1.out.block j hj (by simp)⟩)).trans (Tq.ofBelow ((Below.refl _ w1).alloc (Nat.le_refl _) (.cells #[.int .i64 v, .string m, .int .i64 p, .int .i64 now] 58))))
                have CL1 := Lib.hid (show ∀ (j : Nat) (u : Value), (rowE S5)[j]? = some u → (w1.alloc (.cells #[.int .i64 v, .string m, .int .i64 p, .int .i64 now] 58)).cell? ⟨g5, j, none⟩ = some u from fun j u hj => gcell_below ((Below.refl _ w1).alloc (Nat.le_refl _) (.cells #[.int .i64 v, .string m, .int .i64 p, .int .i64 now] 58)) (G1.out.cell (CL.out j u hj) (by simp)))
                have HB1 := Lib.hid (show w5.heap.size ≤ (w1.alloc (.cells #[.int .i64 v, .string m, .int .i64 p, .int .i64 now] 58)).heap.size from Nat.le_trans G1.out.size ((Below.refl _ w1).alloc (Nat.le_refl _) (.cells #[.int .i64 v, .string m, .int .i64 p, .int .i64 now] 58)).size)
                clear hown1 hg1 c2
                go_wp2_with (at_builtin; refine wpList_append_own _ rfl _ _ 29 rfl w5.heap.size 58 i0 (.agg #[.int .i64 0, .string ⟨#[]⟩, .int .i64 0, .int .i64 0]) 4 40 und_LE hi hz0 hz1 hz2 rfl (by decide) _ k (rowE (S5.take k)) rfl (N1.out.alloc _) ⟨w1.heap.size, 0, none⟩ 1 1 [.int .i64 v, .string m, .int .i64 p, .int .i64 now] rfl rfl ?d1 ?d2 ?d3 ?d4 HB1.out ?_)
                case d1 => exact cells4n _ _ _ _ _ _
                case d2 => intro u hu; simp at hu; rcases hu with rfl | rfl | rfl | rfl <;> rfl
                case d3 => unfold maxLen; omega
                case d4 => omega
                intro v2 w2' hown2 hg2 _
                have N2 := Lib.hid hown2
                have N2B := Lib.hid (hown2.mono HB.out)
                have E2 := Lib.hid (tab_grown E1.out N1B.out hg2)
                have T2 := Lib.hid (T1.out.trans (Tq.grown N1B.out hg2))
                have CL2 := Lib.hid (show ∀ (j : Nat) (u : Value), (rowE S5)[j]? = some u → w2'.cell? ⟨g5, j, none⟩ = some u from fun j u hj => hg2.cell (CL1.out j u hj) (by have h7 := N1.out.lt g5; have := HG5.out; intro e; first | (have := (h7 e).1; omega) | (have := (h7 e.symm).1; omega)))
                have HB2 := Lib.hid (Nat.le_trans HB1.out hg2.size)
                have c2 := cell_of_block (j := 2) E2.out rfl
                rw [e5] at c2
                have hlen := Lib.hid (show k + 1 + (S5.length - k) = (S5.take k ++ (v, m, p, now) :: S5.drop k).length by rw [List.length_append, List.length_cons, List.length_take, List.length_drop, Nat.min_eq_left hkS]; omega)
                have hrow := Lib.hid (show rowE (S5.take k) ++ (Value.int .i64 v :: Value.string m :: Value.int .i64 p :: Value.int .i64 now :: rowE (S5.drop k)) = rowE (S5.take k ++ (v, m, p, now) :: S5.drop k) by rw [rowE_app]; rfl)
                have FIN := Lib.hid fun (w3 : World) (v3 : Value) (o : w3.ownsRow B 58 4 v3 (k + 1 + (S5.length - k)) (rowE (S5.take k) ++ (Value.int .i64 v :: Value.string m :: Value.int .i64 p :: Value.int .i64 now :: rowE (S5.drop k)))) (g : w2'.grownBy w3 v2.ownBlock) =>
                  store_fin (tab_grown E2.out N2B.out g) (T2.out.trans (Tq.grown N2B.out g)) (by rw [hrow.out] at o; exact o) hlen.out
                clear hown2 hg2
                go_upto_region 18 with fail
                have hc1 : ¬ cap5 = k := by omega
                go_wp2_with (at_builtin; refine wpList_append_own _ rfl _ _ 29 rfl B 58 i0 (.agg #[.int .i64 0, .string ⟨#[]⟩, .int .i64 0, .int .i64 0]) 4 40 und_LE hi hz0 hz1 hz2 rfl (by decide) _ _ _ rfl N2B.out _ _ _ (rowE (S5.drop k)) rfl L2.out ?d1 ?d2 ?d3 ?d4 (Nat.le_trans HB.out HB2.out) ?_)
                case d1 => exact fun j u hj => by rw [add_none]; exact CL2.out _ u (rowE_suf hkS hj)
                case d2 => exact rowE_one _
                case d3 => unfold maxLen; omega
                case d4 => omega
                intro v3 w3' hown3 hg3 _
                obtain ⟨f1, f2, f3, f4⟩ := FIN.out w3' v3 hown3 hg3
                have F1 := Lib.hid (And.intro f1 f2)
                obtain ⟨p2, cap2, rfl⟩ := owns_slice hown3
                clear hown3 hg3 f1 f2
                go_wp2
                go_ret
                rw [← SE.out, CI.out]
                first | exact ⟨rfl, ⟨_, F1.out.1⟩, F1.out.2⟩ | exact ⟨rfl, _, F1.out.1, F1.out.2⟩
          · have NX := Lib.hid (show ∀ y, S5[k]? = some y → ltS y.1 y.2.1 v m = false from fun y hy => by have := (List.getElem?_eq_some_iff.1 hy).1; omega)
            have hlt' : decide ((k : Int) < (S5.length : Int)) = false := decide_eq_false (by omega)
            have CI := Lib.hid (cut_ins hU.out hkS (fun j x hj hx => by have := NB.out j x hj hx; simpa using this) NX.out (p, now))
            have HB := Lib.hid (show B ≤ wr.heap.size from Nat.le_trans hB (by have := hT5.out.size; omega))
            have c2 := hS5.out.c2
            rcases rform hS5.out with ⟨e5, e6⟩ | ⟨g5, cap5, e5, h51, h52, h53⟩
            · rw [e5] at c2
              subst e6
              obtain rfl : k = 0 := by simpa using hkS
              go_wp2_with (at_builtin; refine wpList_append_own _ rfl _ _ 29 rfl B 58 i0 (.agg #[.int .i64 0, .string ⟨#[]⟩, .int .i64 0, .int .i64 0]) 4 40 und_LE hi hz0 hz1 hz2 rfl (by decide) _ 0 [] rfl (World.ownsRow_nil _ _ _ _) ⟨wr.heap.size, 0, none⟩ 1 1 [.int .i64 v, .string m, .int .i64 p, .int .i64 now] rfl rfl ?d1 ?d2 ?d3 ?d4 ?d5 ?_)
              case d1 => exact cells4n _ _ _ _ _ _
              case d2 => intro u hu; simp at hu; rcases hu with rfl | rfl | rfl | rfl <;> rfl
              case d3 => unfold maxLen; omega
              case d4 => omega
              case d5 => have := HB.out; simp; omega
              intro v2 w2 hown2 hg2 _
              have N2 := Lib.hid (show w2.ownsRow B 58 4 v2 1 (rowE [(v, m, p, now)]) from hown2)
              have E2 := Lib.hid (tab_grown (B := B) (q := q) (room := room) (age := age) (lv := lv5) (w1 := wr.alloc (.cells #[.int .i64 v, .string m, .int .i64 p, .int .i64 now] 58)) ((((Below.refl _ wr).alloc (Nat.le_refl _) (.cells #[.int .i64 v, .string m, .int .i64 p, .int .i64 now] 58)).block q hS5.out.lt).trans hS5.out.1) (World.ownsRow_nil _ B _ _) hg2)
              have FIN := Lib.hid (store_fin E2.out ((hT5.out.trans (Tq.ofBelow ((Below.refl _ wr).alloc (Nat.le_refl _) (.cells #[.int .i64 v, .string m, .int .i64 p, .int .i64 now] 58)))).trans (Tq.grown (World.ownsRow_nil _ B 58 4) hg2)) N2.out rfl)
              obtain ⟨p2, cap2, rfl⟩ := owns_slice hown2
              have c2 := cell_of_block (j := 2) E2.out rfl
              rw [e5] at c2
              go_upto_region 18 with fail
              obtain ⟨f1, f2, f3, f4⟩ := FIN.out
              have F1 := Lib.hid (And.intro f1 f2)
              go_wp2_with (at_builtin; refine wpList_append_own_none rfl _ _ 29 rfl B 58 i0 4 und_LE hi _ _ _ rfl N2.out rfl ?_)
              clear hown2 hg2 f1 f2
              go_wp2
              go_ret
              rw [← SE.out, CI.out]
              first | exact ⟨rfl, ⟨_, F1.out.1⟩, F1.out.2⟩ | exact ⟨rfl, _, F1.out.1, F1.out.2⟩
            · rw [e5] at c2
              have hkl : k ≤ 1000000000 := by omega
              have L1 := Lib.hid (show (rowE (S5.take k)).length = k * 4 by rw [rowE_len, List.length_take, Nat.min_eq_left hkS])
              have L2 := Lib.hid (show (rowE (S5.drop k)).length = (S5.length - k) * 4 by rw [rowE_len, List.length_drop])
              have CL := Lib.hid h53
              have HG5 := Lib.hid (show g5 < wr.heap.size from (hS5.out.2.lt g5 (by rw [e5]; rfl)).2)
              have hkc : k ≤ cap5 := by omega
              clear h53
              go_wp2_with (at_builtin; refine wpList_append_own _ rfl _ _ 29 rfl wr.heap.size 58 i0 (.agg #[.int .i64 0, .string ⟨#[]⟩, .int .i64 0, .int .i64 0]) 4 40 und_LE hi hz0 hz1 hz2 rfl (by decide) _ 0 [] rfl (World.ownsRow_nil _ _ _ _) _ _ _ (rowE (S5.take k)) rfl L1.out ?c1 ?c2 ?c3 ?c4 (Nat.le_refl _) ?_)
              case c1 => exact fun j u hj => by rw [add_none, Nat.zero_add]; exact CL.out j u (rowE_pre hj)
              case c2 => exact rowE_one _
              case c3 => unfold maxLen; omega
              case c4 => omega
              intro v1 w1 hown1 hg1 _
              have N1 := Lib.hid (show w1.ownsRow wr.heap.size 58 4 v1 k (rowE (S5.take k)) by simpa using hown1)
              have G1 := Lib.hid (show wr.grownBy w1 none from hg1)
              have N1B := Lib.hid ((N1.out.mono HB.out).alloc (.cells #[.int .i64 v, .string m, .int .i64 p, .int .i64 now] 58))
              have E1 := Lib.hid ((((Below.refl _ w1).alloc (Nat.le_refl _) (.cells #[.int .i64 v, .string m, .int .i64 p, .int .i64 now] 58)).block q (Nat.lt_of_lt_of_le hS5.out.lt G1.out.size)).trans ((G1.out.block q hS5.out.lt (by simp)).trans hS5.out.1))
              have T1 := Lib.hid ((hT5.out.trans (Tq.ofBelow ⟨G1.out.os, G1.out.tape, G1.out.output, G1.out.size, fun j hj => G1.out.block j hj (by simp)⟩)).trans (Tq.ofBelow ((Below.refl _ w1).alloc (Nat.le_refl _) (.cells #[.int .i64 v, .string m, .int .i64 p, .int .i64 now] 58))))
              have CL1 := Lib.hid (show ∀ (j : Nat) (u : Value), (rowE S5)[j]? = some u → (w1.alloc (.cells #[.int .i64 v, .string m, .int .i64 p, .int .i64 now] 58)).cell? ⟨g5, j, none⟩ = some u from fun j u hj => gcell_below ((Below.refl _ w1).alloc (Nat.le_refl _) (.cells #[.int .i64 v, .string m, .int .i64 p, .int .i64 now] 58)) (G1.out.cell (CL.out j u hj) (by simp)))
              have HB1 := Lib.hid (show wr.heap.size ≤ (w1.alloc (.cells #[.int .i64 v, .string m, .int .i64 p, .int .i64 now] 58)).heap.size from Nat.le_trans G1.out.size ((Below.refl _ w1).alloc (Nat.le_refl _) (.cells #[.int .i64 v, .string m, .int .i64 p, .int .i64 now] 58)).size)
              clear hown1 hg1 c2
              go_wp2_with (at_builtin; refine wpList_append_own _ rfl _ _ 29 rfl wr.heap.size 58 i0 (.agg #[.int .i64 0, .string ⟨#[]⟩, .int .i64 0, .int .i64 0]) 4 40 und_LE hi hz0 hz1 hz2 rfl (by decide) _ k (rowE (S5.take k)) rfl (N1.out.alloc _) ⟨w1.heap.size, 0, none⟩ 1 1 [.int .i64 v, .string m, .int .i64 p, .int .i64 now] rfl rfl ?d1 ?d2 ?d3 ?d4 HB1.out ?_)
              case d1 => exact cells4n _ _ _ _ _ _
              case d2 => intro u hu; simp at hu; rcases hu with rfl | rfl | rfl | rfl <;> rfl
              case d3 => unfold maxLen; omega
              case d4 => omega
              intro v2 w2' hown2 hg2 _
              have N2 := Lib.hid hown2
              have N2B := Lib.hid (hown2.mono HB.out)
              have E2 := Lib.hid (tab_grown E1.out N1B.out hg2)
              have T2 := Lib.hid (T1.out.trans (Tq.grown N1B.out hg2))
              have CL2 := Lib.hid (show ∀ (j : Nat) (u : Value), (rowE S5)[j]? = some u → w2'.cell? ⟨g5, j, none⟩ = some u from fun j u hj => hg2.cell (CL1.out j u hj) (by have h7 := N1.out.lt g5; have := HG5.out; intro e; first | (have := (h7 e).1; omega) | (have := (h7 e.symm).1; omega)))
              have HB2 := Lib.hid (Nat.le_trans HB1.out hg2.size)
              have c2 := cell_of_block (j := 2) E2.out rfl
              rw [e5] at c2
              have hlen := Lib.hid (show k + 1 + (S5.length - k) = (S5.take k ++ (v, m, p, now) :: S5.drop k).length by rw [List.length_append, List.length_cons, List.length_take, List.length_drop, Nat.min_eq_left hkS]; omega)
              have hrow := Lib.hid (show rowE (S5.take k) ++ (Value.int .i64 v :: Value.string m :: Value.int .i64 p :: Value.int .i64 now :: rowE (S5.drop k)) = rowE (S5.take k ++ (v, m, p, now) :: S5.drop k) by rw [rowE_app]; rfl)
              have FIN := Lib.hid fun (w3 : World) (v3 : Value) (o : w3.ownsRow B 58 4 v3 (k + 1 + (S5.length - k)) (rowE (S5.take k) ++ (Value.int .i64 v :: Value.string m :: Value.int .i64 p :: Value.int .i64 now :: rowE (S5.drop k)))) (g : w2'.grownBy w3 v2.ownBlock) =>
                store_fin (tab_grown E2.out N2B.out g) (T2.out.trans (Tq.grown N2B.out g)) (by rw [hrow.out] at o; exact o) hlen.out
              clear hown2 hg2
              go_upto_region 18 with fail
              by_cases hc1 : cap5 = k
              · have hz := Lib.hid (show (rowE (S5.drop k)).length = 0 by rw [L2.out]; omega)
                go_wp2_with (at_builtin; refine wpList_append_own _ rfl _ _ 29 rfl B 58 i0 (.agg #[.int .i64 0, .string ⟨#[]⟩, .int .i64 0, .int .i64 0]) 4 40 und_LE hi hz0 hz1 hz2 rfl (by decide) _ _ _ rfl N2B.out _ _ _ (rowE (S5.drop k)) rfl L2.out ?d1 ?d2 ?d3 ?d4 (Nat.le_trans HB.out HB2.out) ?_)
                case d1 => exact fun j u hj => by have := (List.getElem?_eq_some_iff.1 hj).1; have := hz.out; omega
                case d2 => exact rowE_one _
                case d3 => unfold maxLen; omega
                case d4 => omega
                intro v3 w3' hown3 hg3 _
                obtain ⟨f1, f2, f3, f4⟩ := FIN.out w3' v3 hown3 hg3
                have F1 := Lib.hid (And.intro f1 f2)
                obtain ⟨p2, cap2, rfl⟩ := owns_slice hown3
                clear hown3 hg3 f1 f2
                go_wp2
                go_ret
                rw [← SE.out, CI.out]
                first | exact ⟨rfl, ⟨_, F1.out.1⟩, F1.out.2⟩ | exact ⟨rfl, _, F1.out.1, F1.out.2⟩
              · go_wp2_with (at_builtin; refine wpList_append_own _ rfl _ _ 29 rfl B 58 i0 (.agg #[.int .i64 0, .string ⟨#[]⟩, .int .i64 0, .int .i64 0]) 4 40 und_LE hi hz0 hz1 hz2 rfl (by decide) _ _ _ rfl N2B.out _ _ _ (rowE (S5.drop k)) rfl L2.out ?d1 ?d2 ?d3 ?d4 (Nat.le_trans HB.out HB2.out) ?_)
                case d1 => exact fun j u hj => by rw [add_none]; exact CL2.out _ u (rowE_suf hkS hj)
                case d2 => exact rowE_one _
                case d3 => unfold maxLen; omega
                case d4 => omega
                intro v3 w3' hown3 hg3 _
                obtain ⟨f1, f2, f3, f4⟩ := FIN.out w3' v3 hown3 hg3
                have F1 := Lib.hid (And.intro f1 f2)
                obtain ⟨p2, cap2, rfl⟩ := owns_slice hown3
                clear hown3 hg3 f1 f2
                go_wp2
                go_ret
                rw [← SE.out, CI.out]
                first | exact ⟨rfl, ⟨_, F1.out.1⟩, F1.out.2⟩ | exact ⟨rfl, _, F1.out.1, F1.out.2⟩
      · have q1 : decide (room ≤ (R.length : Int)) = false := decide_eq_false hfull
        go_wp2_with fail
        go_quiet (fail)
        clear q1 c0 c2 hlt'
        obtain ⟨S5, hS5e⟩ : ∃ S5, S5 = drvF room R := ⟨_, rfl⟩
        obtain ⟨lv5, hlv⟩ : ∃ lv5, lv5 = lv := ⟨_, rfl⟩
        have hdr : drvF room R = R := by unfold drvF; rw [if_neg (by omega)]
        have hS5 := Lib.hid (show HasR (w2.drewN nq) B q room age S5 lv5 by rw [hS5e, hdr, hlv]; exact H0.out.drewN nq)
        have hT5 := Lib.hid (show Tq w2 (w2.drewN nq) B q from (Tq.refl w2 B q).drewN nq)
        have hU5 : UpF S5 := by rw [hS5e]; exact HG.out.up.sublist (drv_sub room R)
        have hSn : S5.length ≤ R.length := by rw [hS5e]; exact (drv_sub room R).length_le
        have SE := Lib.hid hS5e
        clear hfull hS5e HG H0 hdr hlv
        generalize w2.drewN nq = w4 at hS5 hT5 ⊢
        obtain ⟨p3, off3, cap3, e3, -⟩ := hS5.out.rows
        have c2 := hS5.out.c2
        rw [e3] at c2
        have hSl : S5.length < 1000000000 := by omega
        have hU := Lib.hid hU5
        have S0 := hS5
        have T0 := hT5
        clear hS5 hT5 hU5
        go_wp2_with fail
        go_loopw [12] (fun s wr => ∃ k : Nat, k ≤ S5.length ∧ s = .int .i64 k ∧ Hid (NoF S5 (fun x => !ltS x.1 x.2.1 v m) k) ∧ Hid (HasR wr B q room age S5 lv5) ∧ Hid (Tq w2 wr B q)) (fun s _ => S5.length - (intOf s).toNat)
        case atStart => exact ⟨0, Nat.zero_le _, rfl, Lib.hid (NoF.zero _ _), S0, T0⟩
        case round =>
          clear S0 T0 c2 e3
          obtain ⟨k, hkS, rfl, NB, hS5, hT5⟩ := hrel
          by_cases hlt : k < S5.length
          · obtain ⟨x, hx⟩ := some_at hlt
            obtain ⟨g, cap, e4, -, -, -, hc⟩ := hS5.out.some hx
            obtain ⟨x0, x1, x2, x3⟩ := hc k x hx
            have c2 := hS5.out.c2
            rw [e4] at c2
            have hlt' : (k : Int) < (S5.length : Int) := by omega
            have AH := Lib.hid fun U => rahead_c x v m U
            have NB1 := Lib.hid fun h => NB.out.succ hx h
            have NX := Lib.hid (show ltS x.1 x.2.1 v m = false → ∀ y, S5[k]? = some y → ltS y.1 y.2.1 v m = false from fun h y hy => by rw [hx] at hy; cases hy; exact h)
            clear hc hx
            generalize ltS x.1 x.2.1 v m = bb at AH NB1 NX
            go_wp2_with fail
            ((with_reducible refine (AH.out _).mono ?_); rintro e w5 ⟨rfl, h5⟩)
            replace hS5 := Lib.hid (hS5.out.below h5)
            replace hT5 := Lib.hid (hT5.out.trans (Tq.ofBelow h5))
            clear h5 AH x0 x1 x2 x3 c2
            cases bb with
            | true =>
              go_wp2_with fail
              go_roundw
              case rel => exact ⟨k + 1, by omega, by go_num, Lib.hid (NB1.out rfl), hS5, hT5⟩
              case measure => simp [intOf] <;> omega
            | false =>
              replace NX := Lib.hid (NX.out rfl)
              clear NB1 e4
              have CI := Lib.hid (cut_ins hU.out hkS (fun j x hj hx => by have := NB.out j x hj hx; simpa using this) NX.out (p, now))
              have HB := Lib.hid (show B ≤ w5.heap.size from Nat.le_trans hB (by have := hT5.out.size; omega))
              have c2 := hS5.out.c2
              rcases rform hS5.out with ⟨e5, e6⟩ | ⟨g5, cap5, e5, h51, h52, h53⟩
              · exact absurd hlt (by rw [e6]; simp)
              · rw [e5] at c2
                have hkl : k ≤ 1000000000 := by omega
                have L1 := Lib.hid (show (rowE (S5.take k)).length = k * 4 by rw [rowE_len, List.length_take, Nat.min_eq_left hkS])
                have L2 := Lib.hid (show (rowE (S5.drop k)).length = (S5.length - k) * 4 by rw [rowE_len, List.length_drop])
                have CL := Lib.hid h53
                have HG5 := Lib.hid (show g5 < w5.heap.size from (hS5.out.2.lt g5 (by rw [e5]; rfl)).2)
                have hkc : k ≤ cap5 := by omega
                clear h53
                go_wp2_with (at_builtin; refine wpList_append_own _ rfl _ _ 29 rfl w5.heap.size 58 i0 (.agg #[.int .i64 0, .string ⟨#[]⟩, .int .i64 0, .int .i64 0]) 4 40 und_LE hi hz0 hz1 hz2 rfl (by decide) _ 0 [] rfl (World.ownsRow_nil _ _ _ _) _ _ _ (rowE (S5.take k)) rfl L1.out ?c1 ?c2 ?c3 ?c4 (Nat.le_refl _) ?_)
                case c1 => exact fun j u hj => by rw [add_none, Nat.zero_add]; exact CL.out j u (rowE_pre hj)
                case c2 => exact rowE_one _
                case c3 => unfold maxLen; omega
                case c4 => omega
                intro v1 w1 hown1 hg1 _
                have N1 := Lib.hid (show w1.ownsRow w5.heap.size 58 4 v1 k (rowE (S5.take k)) by simpa using hown1)
                have G1 := Lib.hid (show w5.grownBy w1 none from hg1)
                have N1B := Lib.hid ((N1.out.mono HB.out).alloc (.cells #[.int .i64 v, .string m, .int .i64 p, .int .i64 now] 58))
                have E1 := Lib.hid ((((Below.refl _ w1).alloc (Nat.le_refl _) (.cells #[.int .i64 v, .string m, .int .i64 p, .int .i64 now] 58)).block q (Nat.lt_of_lt_of_le hS5.out.lt G1.out.size)).trans ((G1.out.block q hS5.out.lt (by simp)).trans hS5.out.1))
                have T1 := Lib.hid ((hT5.out.trans (Tq.ofBelow ⟨G1.out.os, G1.out.tape, G1.out.output, G1.out.size, fun j hj => G1.out.block j hj (by simp)⟩)).trans (Tq.ofBelow ((Below.refl _ w1).alloc (Nat.le_refl _) (.cells #[.int .i64 v, .string m, .int .i64 p, .int .i64 now] 58))))
                have CL1 := Lib.hid (show ∀ (j : Nat) (u : Value), (rowE S5)[j]? = some u → (w1.alloc (.cells #[.int .i64 v, .string m, .int .i64 p, .int .i64 now] 58)).cell? ⟨g5, j, none⟩ = some u from fun j u hj => gcell_below ((Below.refl _ w1).alloc (Nat.le_refl _) (.cells #[.int .i64 v, .string m, .int .i64 p, .int .i64 now] 58)) (G1.out.cell (CL.out j u hj) (by simp)))
                have HB1 := Lib.hid (show w5.heap.size ≤ (w1.alloc (.cells #[.int .i64 v, .string m, .int .i64 p, .int .i64 now] 58)).heap.size from Nat.le_trans G1.out.size ((Below.refl _ w1).alloc (Nat.le_refl _) (.cells #[.int .i64 v, .string m, .int .i64 p, .int .i64 now] 58)).size)
                clear hown1 hg1 c2
                go_wp2_with (at_builtin; refine wpList_append_own _ rfl _ _ 29 rfl w5.heap.size 58 i0 (.agg #[.int .i64 0, .string ⟨#[]⟩, .int .i64 0, .int .i64 0]) 4 40 und_LE hi hz0 hz1 hz2 rfl (by decide) _ k (rowE (S5.take k)) rfl (N1.out.alloc _) ⟨w1.heap.size, 0, none⟩ 1 1 [.int .i64 v, .string m, .int .i64 p, .int .i64 now] rfl rfl ?d1 ?d2 ?d3 ?d4 HB1.out ?_)
                case d1 => exact cells4n _ _ _ _ _ _
                case d2 => intro u hu; simp at hu; rcases hu with rfl | rfl | rfl | rfl <;> rfl
                case d3 => unfold maxLen; omega
                case d4 => omega
                intro v2 w2' hown2 hg2 _
                have N2 := Lib.hid hown2
                have N2B := Lib.hid (hown2.mono HB.out)
                have E2 := Lib.hid (tab_grown E1.out N1B.out hg2)
                have T2 := Lib.hid (T1.out.trans (Tq.grown N1B.out hg2))
                have CL2 := Lib.hid (show ∀ (j : Nat) (u : Value), (rowE S5)[j]? = some u → w2'.cell? ⟨g5, j, none⟩ = some u from fun j u hj => hg2.cell (CL1.out j u hj) (by have h7 := N1.out.lt g5; have := HG5.out; intro e; first | (have := (h7 e).1; omega) | (have := (h7 e.symm).1; omega)))
                have HB2 := Lib.hid (Nat.le_trans HB1.out hg2.size)
                have c2 := cell_of_block (j := 2) E2.out rfl
                rw [e5] at c2
                have hlen := Lib.hid (show k + 1 + (S5.length - k) = (S5.take k ++ (v, m, p, now) :: S5.drop k).length by rw [List.length_append, List.length_cons, List.length_take, List.length_drop, Nat.min_eq_left hkS]; omega)
                have hrow := Lib.hid (show rowE (S5.take k) ++ (Value.int .i64 v :: Value.string m :: Value.int .i64 p :: Value.int .i64 now :: rowE (S5.drop k)) = rowE (S5.take k ++ (v, m, p, now) :: S5.drop k) by rw [rowE_app]; rfl)
                have FIN := Lib.hid fun (w3 : World) (v3 : Value) (o : w3.ownsRow B 58 4 v3 (k + 1 + (S5.length - k)) (rowE (S5.take k) ++ (Value.int .i64 v :: Value.string m :: Value.int .i64 p :: Value.int .i64 now :: rowE (S5.drop k)))) (g : w2'.grownBy w3 v2.ownBlock) =>
                  store_fin (tab_grown E2.out N2B.out g) (T2.out.trans (Tq.grown N2B.out g)) (by rw [hrow.out] at o; exact o) hlen.out
                clear hown2 hg2
                go_upto_region 18 with fail
                have hc1 : ¬ cap5 = k := by omega
                go_wp2_with (at_builtin; refine wpList_append_own _ rfl _ _ 29 rfl B 58 i0 (.agg #[.int .i64 0, .string ⟨#[]⟩, .int .i64 0, .int .i64 0]) 4 40 und_LE hi hz0 hz1 hz2 rfl (by decide) _ _ _ rfl N2B.out _ _ _ (rowE (S5.drop k)) rfl L2.out ?d1 ?d2 ?d3 ?d4 (Nat.le_trans HB.out HB2.out) ?_)
                case d1 => exact fun j u hj => by rw [add_none]; exact CL2.out _ u (rowE_suf hkS hj)
                case d2 => exact rowE_one _
                case d3 => unfold maxLen; omega
                case d4 => omega
                intro v3 w3' hown3 hg3 _
                obtain ⟨f1, f2, f3, f4⟩ := FIN.out w3' v3 hown3 hg3
                have F1 := Lib.hid (And.intro f1 f2)
                obtain ⟨p2, cap2, rfl⟩ := owns_slice hown3
                clear hown3 hg3 f1 f2
                go_wp2
                go_ret
                rw [← SE.out, CI.out]
                first | exact ⟨rfl, ⟨_, F1.out.1⟩, F1.out.2⟩ | exact ⟨rfl, _, F1.out.1, F1.out.2⟩
          · have NX := Lib.hid (show ∀ y, S5[k]? = some y → ltS y.1 y.2.1 v m = false from fun y hy => by have := (List.getElem?_eq_some_iff.1 hy).1; omega)
            have hlt' : decide ((k : Int) < (S5.length : Int)) = false := decide_eq_false (by omega)
            have CI := Lib.hid (cut_ins hU.out hkS (fun j x hj hx => by have := NB.out j x hj hx; simpa using this) NX.out (p, now))
            have HB := Lib.hid (show B ≤ wr.heap.size from Nat.le_trans hB (by have := hT5.out.size; omega))
            have c2 := hS5.out.c2
            rcases rform hS5.out with ⟨e5, e6⟩ | ⟨g5, cap5, e5, h51, h52, h53⟩
            · rw [e5] at c2
              subst e6
              obtain rfl : k = 0 := by simpa using hkS
              go_wp2_with (at_builtin; refine wpList_append_own _ rfl _ _ 29 rfl B 58 i0 (.agg #[.int .i64 0, .string ⟨#[]⟩, .int .i64 0, .int .i64 0]) 4 40 und_LE hi hz0 hz1 hz2 rfl (by decide) _ 0 [] rfl (World.ownsRow_nil _ _ _ _) ⟨wr.heap.size, 0, none⟩ 1 1 [.int .i64 v, .string m, .int .i64 p, .int .i64 now] rfl rfl ?d1 ?d2 ?d3 ?d4 ?d5 ?_)
              case d1 => exact cells4n _ _ _ _ _ _
              case d2 => intro u hu; simp at hu; rcases hu with rfl | rfl | rfl | rfl <;> rfl
              case d3 => unfold maxLen; omega
              case d4 => omega
              case d5 => have := HB.out; simp; omega
              intro v2 w2 hown2 hg2 _
              have N2 := Lib.hid (show w2.ownsRow B 58 4 v2 1 (rowE [(v, m, p, now)]) from hown2)
              have E2 := Lib.hid (tab_grown (B := B) (q := q) (room := room) (age := age) (lv := lv5) (w1 := wr.alloc (.cells #[.int .i64 v, .string m, .int .i64 p, .int .i64 now] 58)) ((((Below.refl _ wr).alloc (Nat.le_refl _) (.cells #[.int .i64 v, .string m, .int .i64 p, .int .i64 now] 58)).block q hS5.out.lt).trans hS5.out.1) (World.ownsRow_nil _ B _ _) hg2)
              have FIN := Lib.hid (store_fin E2.out ((hT5.out.trans (Tq.ofBelow ((Below.refl _ wr).alloc (Nat.le_refl _) (.cells #[.int .i64 v, .string m, .int .i64 p, .int .i64 now] 58)))).trans (Tq.grown (World.ownsRow_nil _ B 58 4) hg2)) N2.out rfl)
              obtain ⟨p2, cap2, rfl⟩ := owns_slice hown2
              have c2 := cell_of_block (j := 2) E2.out rfl
              rw [e5] at c2
              go_upto_region 18 with fail
              obtain ⟨f1, f2, f3, f4⟩ := FIN.out
              have F1 := Lib.hid (And.intro f1 f2)
              go_wp2_with (at_builtin; refine wpList_append_own_none rfl _ _ 29 rfl B 58 i0 4 und_LE hi _ _ _ rfl N2.out rfl ?_)
              clear hown2 hg2 f1 f2
              go_wp2
              go_ret
              rw [← SE.out, CI.out]
              first | exact ⟨rfl, ⟨_, F1.out.1⟩, F1.out.2⟩ | exact ⟨rfl, _, F1.out.1, F1.out.2⟩
            · rw [e5] at c2
              have hkl : k ≤ 1000000000 := by omega
              have L1 := Lib.hid (show (rowE (S5.take k)).length = k * 4 by rw [rowE_len, List.length_take, Nat.min_eq_left hkS])
              have L2 := Lib.hid (show (rowE (S5.drop k)).length = (S5.length - k) * 4 by rw [rowE_len, List.length_drop])
              have CL := Lib.hid h53
              have HG5 := Lib.hid (show g5 < wr.heap.size from (hS5.out.2.lt g5 (by rw [e5]; rfl)).2)
              have hkc : k ≤ cap5 := by omega
              clear h53
              go_wp2_with (at_builtin; refine wpList_append_own _ rfl _ _ 29 rfl wr.heap.size 58 i0 (.agg #[.int .i64 0, .string ⟨#[]⟩, .int .i64 0, .int .i64 0]) 4 40 und_LE hi hz0 hz1 hz2 rfl (by decide) _ 0 [] rfl (World.ownsRow_nil _ _ _ _) _ _ _ (rowE (S5.take k)) rfl L1.out ?c1 ?c2 ?c3 ?c4 (Nat.le_refl _) ?_)
              case c1 => exact fun j u hj => by rw [add_none, Nat.zero_add]; exact CL.out j u (rowE_pre hj)
              case c2 => exact rowE_one _
              case c3 => unfold maxLen; omega
              case c4 => omega
              intro v1 w1 hown1 hg1 _
              have N1 := Lib.hid (show w1.ownsRow wr.heap.size 58 4 v1 k (rowE (S5.take k)) by simpa using hown1)
              have G1 := Lib.hid (show wr.grownBy w1 none from hg1)
              have N1B := Lib.hid ((N1.out.mono HB.out).alloc (.cells #[.int .i64 v, .string m, .int .i64 p, .int .i64 now] 58))
              have E1 := Lib.hid ((((Below.refl _ w1).alloc (Nat.le_refl _) (.cells #[.int .i64 v, .string m, .int .i64 p, .int .i64 now] 58)).block q (Nat.lt_of_lt_of_le hS5.out.lt G1.out.size)).trans ((G1.out.block q hS5.out.lt (by simp)).trans hS5.out.1))
              have T1 := Lib.hid ((hT5.out.trans (Tq.ofBelow ⟨G1.out.os, G1.out.tape, G1.out.output, G1.out.size, fun j hj => G1.out.block j hj (by simp)⟩)).trans (Tq.ofBelow ((Below.refl _ w1).alloc (Nat.le_refl _) (.cells #[.int .i64 v, .string m, .int .i64 p, .int .i64 now] 58))))
              have CL1 := Lib.hid (show ∀ (j : Nat) (u : Value), (rowE S5)[j]? = some u → (w1.alloc (.cells #[.int .i64 v, .string m, .int .i64 p, .int .i64 now] 58)).cell? ⟨g5, j, none⟩ = some u from fun j u hj => gcell_below ((Below.refl _ w1).alloc (Nat.le_refl _) (.cells #[.int .i64 v, .string m, .int .i64 p, .int .i64 now] 58)) (G1.out.cell (CL.out j u hj) (by simp)))
              have HB1 := Lib.hid (show wr.heap.size ≤ (w1.alloc (.cells #[.int .i64 v, .string m, .int .i64 p, .int .i64 now] 58)).heap.size from Nat.le_trans G1.out.size ((Below.refl _ w1).alloc (Nat.le_refl _) (.cells #[.int .i64 v, .string m, .int .i64 p, .int .i64 now] 58)).size)
              clear hown1 hg1 c2
              go_wp2_with (at_builtin; refine wpList_append_own _ rfl _ _ 29 rfl wr.heap.size 58 i0 (.agg #[.int .i64 0, .string ⟨#[]⟩, .int .i64 0, .int .i64 0]) 4 40 und_LE hi hz0 hz1 hz2 rfl (by decide) _ k (rowE (S5.take k)) rfl (N1.out.alloc _) ⟨w1.heap.size, 0, none⟩ 1 1 [.int .i64 v, .string m, .int .i64 p, .int .i64 now] rfl rfl ?d1 ?d2 ?d3 ?d4 HB1.out ?_)
              case d1 => exact cells4n _ _ _ _ _ _
              case d2 => intro u hu; simp at hu; rcases hu with rfl | rfl | rfl | rfl <;> rfl
              case d3 => unfold maxLen; omega
              case d4 => omega
              intro v2 w2' hown2 hg2 _
              have N2 := Lib.hid hown2
              have N2B := Lib.hid (hown2.mono HB.out)
              have E2 := Lib.hid (tab_grown E1.out N1B.out hg2)
              have T2 := Lib.hid (T1.out.trans (Tq.grown N1B.out hg2))
              have CL2 := Lib.hid (show ∀ (j : Nat) (u : Value), (rowE S5)[j]? = some u → w2'.cell? ⟨g5, j, none⟩ = some u from fun j u hj => hg2.cell (CL1.out j u hj) (by have h7 := N1.out.lt g5; have := HG5.out; intro e; first | (have := (h7 e).1; omega) | (have := (h7 e.symm).1; omega)))
              have HB2 := Lib.hid (Nat.le_trans HB1.out hg2.size)
              have c2 := cell_of_block (j := 2) E2.out rfl
              rw [e5] at c2
              have hlen := Lib.hid (show k + 1 + (S5.length - k) = (S5.take k ++ (v, m, p, now) :: S5.drop k).length by rw [List.length_append, List.length_cons, List.length_take, List.length_drop, Nat.min_eq_left hkS]; omega)
              have hrow := Lib.hid (show rowE (S5.take k) ++ (Value.int .i64 v :: Value.string m :: Value.int .i64 p :: Value.int .i64 now :: rowE (S5.drop k)) = rowE (S5.take k ++ (v, m, p, now) :: S5.drop k) by rw [rowE_app]; rfl)
              have FIN := Lib.hid fun (w3 : World) (v3 : Value) (o : w3.ownsRow B 58 4 v3 (k + 1 + (S5.length - k)) (rowE (S5.take k) ++ (Value.int .i64 v :: Value.string m :: Value.int .i64 p :: Value.int .i64 now :: rowE (S5.drop k)))) (g : w2'.grownBy w3 v2.ownBlock) =>
                store_fin (tab_grown E2.out N2B.out g) (T2.out.trans (Tq.grown N2B.out g)) (by rw [hrow.out] at o; exact o) hlen.out
              clear hown2 hg2
              go_upto_region 18 with fail
              by_cases hc1 : cap5 = k
              · have hz := Lib.hid (show (rowE (S5.drop k)).length = 0 by rw [L2.out]; omega)
                go_wp2_with (at_builtin; refine wpList_append_own _ rfl _ _ 29 rfl B 58 i0 (.agg #[.int .i64 0, .string ⟨#[]⟩, .int .i64 0, .int .i64 0]) 4 40 und_LE hi hz0 hz1 hz2 rfl (by decide) _ _ _ rfl N2B.out _ _ _ (rowE (S5.drop k)) rfl L2.out ?d1 ?d2 ?d3 ?d4 (Nat.le_trans HB.out HB2.out) ?_)
                case d1 => exact fun j u hj => by have := (List.getElem?_eq_some_iff.1 hj).1; have := hz.out; omega
                case d2 => exact rowE_one _
                case d3 => unfold maxLen; omega
                case d4 => omega
                intro v3 w3' hown3 hg3 _
                obtain ⟨f1, f2, f3, f4⟩ := FIN.out w3' v3 hown3 hg3
                have F1 := Lib.hid (And.intro f1 f2)
                obtain ⟨p2, cap2, rfl⟩ := owns_slice hown3
                clear hown3 hg3 f1 f2
                go_wp2
                go_ret
                rw [← SE.out, CI.out]
                first | exact ⟨rfl, ⟨_, F1.out.1⟩, F1.out.2⟩ | exact ⟨rfl, _, F1.out.1, F1.out.2⟩
              · go_wp2_with (at_builtin; refine wpList_append_own _ rfl _ _ 29 rfl B 58 i0 (.agg #[.int .i64 0, .string ⟨#[]⟩, .int .i64 0, .int .i64 0]) 4 40 und_LE hi hz0 hz1 hz2 rfl (by decide) _ _ _ rfl N2B.out _ _ _ (rowE (S5.drop k)) rfl L2.out ?d1 ?d2 ?d3 ?d4 (Nat.le_trans HB.out HB2.out) ?_)
                case d1 => exact fun j u hj => by rw [add_none]; exact CL2.out _ u (rowE_suf hkS hj)
                case d2 => exact rowE_one _
                case d3 => unfold maxLen; omega
                case d4 => omega
                intro v3 w3' hown3 hg3 _
                obtain ⟨f1, f2, f3, f4⟩ := FIN.out w3' v3 hown3 hg3
                have F1 := Lib.hid (And.intro f1 f2)
                obtain ⟨p2, cap2, rfl⟩ := owns_slice hown3
                clear hown3 hg3 f1 f2
                go_wp2
                go_ret
                rw [← SE.out, CI.out]
                first | exact ⟨rfl, ⟨_, F1.out.1⟩, F1.out.2⟩ | exact ⟨rfl, _, F1.out.1, F1.out.2⟩

/-- Learn. -/
theorem rlearn_c (h : HasR w B q room age R lv) (hg : GoodF R) (hr : 1 ≤ room) (hl : R.length < 1000000000) (hB : B ≤ w.heap.size) (v : Int) (m : ByteArray) (p now : Int) :
    Calls Try.prog 17 #[.pointer (some ⟨q, 0, none⟩), .int .i64 v, .string m, .int .i64 p, .int .i64 now] w fun e w' => e = .returned (.bool (mayL v m p && timeB now)) ∧ ∃ lv', HasR w' B q room age (lrnF room R v m p now) lv' ∧ Tq w w' B q := by
  cases hm : (mayL v m p && timeB now) with
  | false =>
    refine (rlearn_no _ v m p now hm w).mono ?_
    rintro e w' ⟨rfl, rfl⟩
    unfold lrnF
    rw [hm, if_neg (by simp)]
    exact ⟨rfl, lv, h, Tq.refl _ _ _⟩
  | true =>
    unfold lrnF
    rw [hm, if_pos rfl]
    rcases first_same R v m with hno | ⟨i, y, hno, hy, he⟩
    · have hh : hasF R v m = false := by
        unfold hasF
        rw [List.any_eq_false]
        intro x hx
        rw [hno.all x hx]
        simp
      rw [hh, if_neg (by simp)]
      exact rlearn_new h hg hr hl hB v m p now hm hno
    · have hh : hasF R v m = true := List.any_eq_true.2 ⟨y, List.mem_of_getElem? hy, he⟩
      rw [hh, if_pos rfl]
      exact rlearn_has h hg hl v m p now hm hno hy he

end Go.Proofs.Ytodddahjibccoaa
