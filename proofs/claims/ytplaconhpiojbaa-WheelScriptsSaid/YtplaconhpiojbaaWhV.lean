/-
  The document's wheel: Cancel, Arm. Contracts over the translated program.
-/
import Derived.Test.YtplaconhpiojbaaWhU
import Derived.Laws.AppendOwn
namespace Go.Proofs.Ytplaconhpiojbaa
open Go Go.Maps Go.WideMaps
open Go.RowKit
set_option linter.unusedVariables false
set_option linter.unusedSimpArgs false

theorem und_LR : Try.prog.underlying 29 = some (.slice 85) := by kernel_rfl
theorem info_LR : (Try.prog.info? 85).map (fun i => (i.size, i.bytes)) = some (2, 24) := by kernel_rfl
theorem info_LZ : (Try.prog.info? 85).bind (fun i => i.zero) = some (.agg #[.string ⟨#[]⟩, .int .i64 0]) := by kernel_rfl

theorem infoR : ∃ i, Try.prog.info? 85 = some i ∧ i.zero = some (.agg #[.string ⟨#[]⟩, .int .i64 0]) ∧ i.size = 2 ∧ i.bytes = 24 := by
  obtain ⟨i, hi, hzz⟩ := Option.map_eq_some_iff.1 info_LR
  simp only [Prod.mk.injEq] at hzz
  have h := info_LZ
  rw [hi] at h
  exact ⟨i, hi, by simpa using h, hzz.1, hzz.2⟩

theorem HasR.some {w : World} {B q : Nat} {room : Int} {T : List E3} {lv : Value} (h : HasR w B q room T lv) {k : Nat} {x : E3} (hx : T[k]? = some x) :
    ∃ g cap, lv = .slice (some ⟨g, 0, none⟩) T.length cap ∧ T.length ≤ cap ∧ cap ≤ maxLen ∧ ∀ i y, T[i]? = some y → w.cell? ⟨g, i * 2, none⟩ = some (.string y.1) ∧ w.cell? ⟨g, i * 2 + 1, none⟩ = some (.int .i64 y.2.1) := by
  obtain ⟨p, off, cp, e0, hc⟩ := h.rows
  have hk : k < T.length := (List.getElem?_eq_some_iff.1 hx).1
  rcases h.2.2 with ⟨e, h0⟩ | ⟨g, cap, cur, e, hb, hg, h1, h2, h3, ht⟩
  · omega
  · subst e
    refine ⟨g, cap, rfl, h1, h2, fun i y hy => ?_⟩
    obtain ⟨g', e, y0, y1⟩ := hc i y hy
    subst e
    simp at e0
    obtain ⟨⟨e1, e2⟩, e3⟩ := e0
    subst e1
    subst e2
    simp only [Nat.zero_add] at y0 y1
    exact ⟨y0, y1⟩

set_option maxHeartbeats 4000000 in
set_option maxRecDepth 100000 in
theorem rcancel_no {w : World} {B q : Nat} {room : Int} {T : List E3} {lv : Value} (h : HasR w B q room T lv) (s : ByteArray) (hl : T.length < 1000000000) (hno : NoE T s T.length) :
    Calls Try.prog 27 #[.pointer (some ⟨q, 0, none⟩), .string s] w fun e w' => e = .returned (.bool false) ∧ w' = w := by
  obtain ⟨p, off, cap, rfl, hc⟩ := h.rows
  have HC := Lib.hid hc
  have HN := Lib.hid hno
  have c1 := h.c1
  clear hc h hno
  go_enter Try.func27, Try.ntmps27
  go_wp2
  go_loop [5] (fun s5 => ∃ k : Nat, k ≤ T.length ∧ s5 = .int .i64 k) (fun s5 => T.length - (intOf s5).toNat)
  case atStart => exact ⟨0, Nat.zero_le _, rfl⟩
  case round =>
    obtain ⟨k, hk, rfl⟩ := hrel
    by_cases hlt : k < T.length
    · obtain ⟨x, hx⟩ := some_at hlt
      obtain ⟨g, rfl, x0, x1⟩ := HC.out k x hx
      have hlt' : (k : Int) < (T.length : Int) := by omega
      simp only [Option.map_some] at c1 ⊢
      have g1 := fun t => eql_of (x := x.1) (y := s) (r := false) (decide_eq_false (HN.out k x hlt hx)) t
      clear hx HC
      go_wp2
      go_round
      case rel => exact ⟨k + 1, by omega, by go_num⟩
      case measure => simp [intOf]; omega
    · obtain rfl : k = T.length := by omega
      have hlt' : decide ((T.length : Int) < (T.length : Int)) = false := by simp
      go_wp2
      go_ret
      exact ⟨rfl, rfl⟩

theorem rowR_one (T : List E3) : ∀ u ∈ rowR T, u.oneCell' = true := by
  intro u hu
  obtain ⟨x, _, hx⟩ := List.mem_flatMap.1 hu
  simp [cellsR] at hx
  rcases hx with rfl | rfl <;> rfl

theorem rowR_cut (T : List E3) (k : Nat) : rowR T = rowR (T.take k) ++ rowR (T.drop k) := by rw [← rowR_app, List.take_append_drop]

theorem rowR_pre {T : List E3} {k j : Nat} {u : Value} (h : (rowR (T.take k))[j]? = some u) : (rowR T)[j]? = some u := by
  rw [rowR_cut T k, List.getElem?_append_left (List.getElem?_eq_some_iff.1 h).1]
  exact h
theorem rowR_suf {T : List E3} {k j : Nat} {u : Value} (hk : k ≤ T.length) (h : (rowR (T.drop k))[j]? = some u) : (rowR T)[k * 2 + j]? = some u := by
  have e : (rowR (T.take k)).length = k * 2 := by rw [rowR_len, List.length_take, Nat.min_eq_left hk]
  rw [rowR_cut T k, List.getElem?_append_right (by omega), e, Nat.add_sub_cancel_left]
  exact h

theorem owns_slice {w : World} {base e size n : Nat} {v : Value} {xs : List Value} (h : w.ownsRow base e size v n xs) : ∃ p cap, v = .slice p n cap := by
  rcases h.2 with ⟨rfl, rfl⟩ | ⟨g, cap, cur, rfl, _⟩
  · exact ⟨none, 0, rfl⟩
  · exact ⟨_, cap, rfl⟩

theorem add_none (b o j : Nat) : (⟨b, o, none⟩ : Addr).add j = ⟨b, o + j, none⟩ := by unfold Addr.add; split <;> simp_all

theorem first_e (T : List E3) (s : ByteArray) : NoE T s T.length ∨ ∃ m y, NoE T s m ∧ T[m]? = some y ∧ y.1 = s := by
  have key : ∀ k, k ≤ T.length → NoE T s k ∨ ∃ m y, NoE T s m ∧ T[m]? = some y ∧ y.1 = s := by
    intro k
    induction k with
    | zero => intro _; exact Or.inl (NoE.zero _ _)
    | succ k ih =>
      intro hk
      rcases ih (by omega) with h | h
      · obtain ⟨x, hx⟩ := some_at (show k < T.length by omega)
        by_cases e : x.1 = s
        · exact Or.inr ⟨k, x, h, hx, e⟩
        · exact Or.inl (h.succ hx e)
      · exact Or.inr h
  exact key _ (Nat.le_refl _)

/-- What Cancel leaves, once the store is done. -/
theorem cancel_fin {w w1 w2 : World} {B q : Nat} {room : Int} {T D : List E3} {lv v1 v2 : Value} {k n2 : Nat} {xs : List Value} (h : HasR w B q room T lv) (o1 : w1.ownsRow B 85 2 v1 k xs) (g1 : w.grownBy w1 none)
    (o2 : w2.ownsRow B 85 2 v2 n2 (rowR D)) (g2 : w1.grownBy w2 v1.ownBlock) (hn : n2 = D.length) :
    HasR (w2.setCell ⟨q, 1, none⟩ v2) B q room D v2 ∧ Tq w (w2.setCell ⟨q, 1, none⟩ v2) B q ∧ w2.frozen? ⟨q, 1, none⟩ = false ∧ w2.cell? ⟨q, 1, none⟩ = some lv := by
  subst hn
  have s1 := g1.size
  have e1 : w1.heap[q]? = some (.cells #[.int .i64 room, lv] 31 (0, 0)) := (g1.block q h.lt (by simp)).trans h.1
  have hq1 : v1.ownBlock ≠ some q := by
    intro e
    obtain ⟨cs, f, e2⟩ := row_block o1 e
    have := e1.symm.trans e2
    simp at this
  have e2 : w2.heap[q]? = some (.cells #[.int .i64 room, lv] 31 (0, 0)) := (g2.block q (by have := h.lt; omega) (fun e => hq1 e.symm)).trans e1
  have hq2 : v2.ownBlock ≠ some q := by
    intro e
    obtain ⟨cs, f, e3⟩ := row_block o2 e
    have := e2.symm.trans e3
    simp at this
  refine ⟨⟨by simpa using heap_store (j := 1) (v := v2) e2, ?_⟩, ?_, free_of_block e2, cell_of_block e2 rfl⟩
  · refine o2.kept (row := some q) ⟨rfl, rfl, rfl, by simp [World.setCell], fun k _ hk => Below.heap_setCell _ _ _ _ (fun e => hk (by rw [e]))⟩ (Or.inr hq2)
  · exact ((Tq.ofBelow ⟨g1.os, g1.tape, g1.output, g1.size, fun j hj => g1.block j hj (by simp)⟩).trans (Tq.grown o1 g2)).trans (Tq.setCell _ _ _ _ _)

set_option maxHeartbeats 8000000 in
set_option maxRecDepth 100000 in
theorem rcancel_yes {w : World} {B q : Nat} {room : Int} {T : List E3} {lv : Value} (h : HasR w B q room T lv) (s : ByteArray) (hl : T.length < 1000000000) {a : Int} (hg : GoodE T a) {m : Nat} {y : E3} (hno : NoE T s m) (hy : T[m]? = some y) (he : y.1 = s) :
    Calls Try.prog 27 #[.pointer (some ⟨q, 0, none⟩), .string s] w fun e w' => e = .returned (.bool true) ∧ ∃ lv', HasR w' B q room (delE T s) lv' ∧ Tq w w' B q := by
  obtain ⟨i0, hi, hz0, hz1, hz2⟩ := infoR
  obtain ⟨g, cap, rfl, hcap, hcm, hc⟩ := h.some hy
  have H := Lib.hid h
  have HC := Lib.hid hc
  have HN := Lib.hid hno
  have HY := Lib.hid hy
  have HE := Lib.hid he
  have hm : m < T.length := (List.getElem?_eq_some_iff.1 hy).1
  have c1 := h.c1
  clear hc h hno hy he
  go_enter Try.func27, Try.ntmps27
  go_wp2
  go_loop [5] (fun s5 => ∃ k : Nat, k ≤ m ∧ s5 = .int .i64 k) (fun s5 => T.length - (intOf s5).toNat)
  case atStart => exact ⟨0, Nat.zero_le _, rfl⟩
  case round =>
    obtain ⟨k, hk, rfl⟩ := hrel
    by_cases hlt : k < m
    · obtain ⟨x, hx⟩ := some_at (show k < T.length by omega)
      obtain ⟨x0, x1⟩ := HC.out k x hx
      have hlt' : (k : Int) < (T.length : Int) := by omega
      have g1 := fun t => eql_of (x := x.1) (y := s) (r := false) (decide_eq_false (HN.out k x hlt hx)) t
      clear hx HC
      go_wp2
      go_round
      case rel => exact ⟨k + 1, by omega, by go_num⟩
      case measure => simp [intOf]; omega
    · obtain rfl : k = m := by omega
      obtain ⟨x0, x1⟩ := HC.out k y HY.out
      have hlt' : (k : Int) < (T.length : Int) := by omega
      have g1 := fun t => eql_of (x := y.1) (y := s) (r := true) (decide_eq_true HE.out) t
      have D := Lib.hid (yes_del hg HY.out HE.out)
      have L1 := Lib.hid (show (rowR (T.take k)).length = k * 2 by rw [rowR_len, List.length_take, Nat.min_eq_left (by omega)])
      have L2 := Lib.hid (show (rowR (T.drop (k + 1))).length = (T.length - (k + 1)) * 2 by rw [rowR_len, List.length_drop])
      have O1 := Lib.hid (rowR_one T)
      have HB := Lib.hid (show B ≤ w.heap.size by have := H.out.2.lt g rfl; omega)
      have CL := Lib.hid (show ∀ (j : Nat) (u : Value), (rowR T)[j]? = some u → w.cell? ⟨g, j, none⟩ = some u from fun j u hj => by have := H.out.2.cells (g := g) rfl j u hj; unfold Addr.add at this; split at this <;> simp_all)
      have hkk : k + 1 ≤ T.length := by omega
      have hkc : k + 1 ≤ cap := by omega
      clear hk hlt HN
      have hkl : k ≤ 1000000000 := by omega
      go_wp2_with (at_builtin; refine wpList_append_own _ rfl _ _ 29 rfl B 85 i0 (.agg #[.string ⟨#[]⟩, .int .i64 0]) 2 24 und_LR hi hz0 hz1 hz2 rfl (by decide) _ 0 [] rfl (World.ownsRow_nil _ _ _ _) _ _ _ (rowR (T.take k)) rfl L1.out ?c1 ?c2 ?c3 ?c4 HB.out ?_)
      case c1 => exact fun j u hj => CL.out j u (rowR_pre hj)
      case c2 => exact rowR_one _
      case c3 => unfold maxLen; omega
      case c4 => omega
      intro v1 w1 hown1 hg1 _
      have N1 := Lib.hid (show w1.ownsRow B 85 2 v1 k (rowR (T.take k)) by simpa using hown1)
      have G1 := Lib.hid (show w.grownBy w1 none from hg1)
      have c1 := (G1.out.cell H.out.c1 (by simp))
      have HB1 := Lib.hid (Nat.le_trans HB.out G1.out.size)
      have CL1 := Lib.hid (show ∀ (j : Nat) (u : Value), (rowR T)[j]? = some u → w1.cell? ⟨g, j, none⟩ = some u from fun j u hj => G1.out.cell (CL.out j u hj) (by simp))
      have hlen := Lib.hid (show k + (T.length - (k + 1)) = (T.take k ++ T.drop (k + 1)).length by rw [List.length_append, List.length_take, List.length_drop, Nat.min_eq_left (by omega)])
      clear hown1 hg1 x0 x1 g1 hlt'
      go_upto_region 7 with fail
      by_cases hc1 : cap = k + 1
      · have hz := Lib.hid (show (rowR (T.drop (k + 1))).length = 0 by rw [L2.out]; omega)
        go_wp2_with (at_builtin; refine wpList_append_own _ rfl _ _ 29 rfl B 85 i0 (.agg #[.string ⟨#[]⟩, .int .i64 0]) 2 24 und_LR hi hz0 hz1 hz2 rfl (by decide) _ k (rowR (T.take k)) rfl N1.out _ _ _ (rowR (T.drop (k + 1))) rfl L2.out ?d1 ?d2 ?d3 ?d4 HB1.out ?_)
        case d1 => exact fun j u hj => by have := (List.getElem?_eq_some_iff.1 hj).1; have := hz.out; omega
        case d2 => exact rowR_one _
        case d3 => unfold maxLen; omega
        case d4 => omega
        intro v2 w2 hown2 hg2 _
        obtain ⟨f1, f2, f3, f4⟩ := cancel_fin H.out N1.out G1.out (w2 := w2) (D := T.take k ++ T.drop (k + 1)) (by rw [rowR_app]; exact hown2) hg2 hlen.out
        rw [← D.out] at f1
        have F1 := Lib.hid (And.intro f1 f2)
        obtain ⟨p2, cap2, rfl⟩ := owns_slice hown2
        clear hown2 hg2 f1 f2
        go_wp2
        go_ret
        exact ⟨rfl, _, F1.out.1, F1.out.2⟩
      · go_wp2_with (at_builtin; refine wpList_append_own _ rfl _ _ 29 rfl B 85 i0 (.agg #[.string ⟨#[]⟩, .int .i64 0]) 2 24 und_LR hi hz0 hz1 hz2 rfl (by decide) _ k (rowR (T.take k)) rfl N1.out _ _ _ (rowR (T.drop (k + 1))) rfl L2.out ?d1 ?d2 ?d3 ?d4 HB1.out ?_)
        case d1 => exact fun j u hj => by rw [add_none]; exact CL1.out _ u (rowR_suf hkk hj)
        case d2 => exact rowR_one _
        case d3 => unfold maxLen; omega
        case d4 => omega
        intro v2 w2 hown2 hg2 _
        obtain ⟨f1, f2, f3, f4⟩ := cancel_fin H.out N1.out G1.out (w2 := w2) (D := T.take k ++ T.drop (k + 1)) (by rw [rowR_app]; exact hown2) hg2 hlen.out
        rw [← D.out] at f1
        have F1 := Lib.hid (And.intro f1 f2)
        obtain ⟨p2, cap2, rfl⟩ := owns_slice hown2
        clear hown2 hg2 f1 f2
        go_wp2
        go_ret
        exact ⟨rfl, _, F1.out.1, F1.out.2⟩

/-- Cancel. -/
theorem rcancel_c {w : World} {B q : Nat} {room : Int} {T : List E3} {lv : Value} (h : HasR w B q room T lv) (s : ByteArray) (hl : T.length < 1000000000) {a : Int} (hg : GoodE T a) :
    Calls Try.prog 27 #[.pointer (some ⟨q, 0, none⟩), .string s] w fun e w' => e = .returned (.bool (hasE T s)) ∧ ∃ lv', HasR w' B q room (delE T s) lv' ∧ Tq w w' B q := by
  rcases first_e T s with hno | ⟨m, y, hno, hy, he⟩
  · obtain ⟨h1, h2, h3⟩ := no_has hno
    refine (rcancel_no h s hl hno).mono ?_
    rintro e w' ⟨rfl, rfl⟩
    rw [h1, h3]
    exact ⟨rfl, lv, h, Tq.refl _ _ _⟩
  · rw [(yes_has hno hy he).1]
    exact rcancel_yes h s hl hg hno hy he

end Go.Proofs.Ytplaconhpiojbaa
