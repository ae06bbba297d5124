/-
  The document's wheel: Arm, Due. Contracts over the translated program.
-/
import Derived.Test.YtplaconhpiojbaaWhV
namespace Go.Proofs.Ytplaconhpiojbaa
open Go Go.Maps Go.WideMaps
open Go.RowKit
set_option linter.unusedVariables false
set_option linter.unusedSimpArgs false

theorem cells2n (w : World) (x y : Value) (t : TypeId) : ∀ j u, [x, y][j]? = some u → (w.alloc (.cells #[x, y] t)).cell? ((⟨w.heap.size, 0, none⟩ : Addr).add j) = some u := by
  intro j u hj
  match j, hj with
  | 0, hj => simp at hj; subst hj; simp [Addr.add, go_sem]
  | 1, hj => simp at hj; subst hj; simp [Addr.add, go_sem]
  | j + 2, hj => simp at hj

theorem rarm_neg (q : Nat) (k : Value) (t : Int) (ht : t < 0) (w : World) :
    Calls Try.prog 26 #[.pointer (some ⟨q, 0, none⟩), k, .int .i64 t] w fun e w' => e = .returned (.int .i64 1) ∧ w' = w := by
  have k1 : decide (t < 0) = true := by simp; omega
  go_enter Try.func26, Try.ntmps26
  go_wp2
  go_ret
  exact ⟨rfl, rfl⟩

set_option maxHeartbeats 4000000 in
set_option maxRecDepth 100000 in
theorem rarm_full {w : World} {B q : Nat} {room : Int} {T : List E3} {lv : Value} (h : HasR w B q room T lv) (s : ByteArray) (hl : T.length < 1000000000) (t : Int) (ht : 0 ≤ t)
    (hh : hasE T s = false) (hr : room ≤ (T.length : Int)) :
    Calls Try.prog 26 #[.pointer (some ⟨q, 0, none⟩), .string s, .int .i64 t] w fun e w' => e = .returned (.int .i64 5) ∧ ∃ n, w' = w.drewN n := by
  have AT := Lib.hid (rat_c h s hl)
  rw [hh] at AT
  obtain ⟨p, off, cap, rfl, hc⟩ := h.rows
  have c0 := h.c0
  have c1 := h.c1
  have k1 : decide (t < 0) = false := by simp; omega
  have k2 : decide (room ≤ (T.length : Int)) = true := by simp; omega
  clear hc h hh
  go_enter Try.func26, Try.ntmps26
  go_upto_region 4 with (go_at_call 28; refine AT.out.mono ?_; rintro e w1 ⟨rfl, rfl⟩)
  go_quiet (fail)
  go_wp2
  go_ret
  exact ⟨rfl, _, rfl⟩

theorem row_put (T : List E3) (s : ByteArray) (t u : Int) : rowR (putE T s (t, u)) = rowR (delE T s) ++ [.string s, .int .i64 t] := by
  unfold putE
  rw [rowR_app]
  rfl

set_option maxHeartbeats 4000000 in
set_option maxRecDepth 100000 in
theorem rarm_put {w : World} {B q : Nat} {room : Int} {T : List E3} {lv : Value} (h : HasR w B q room T lv) (s : ByteArray) (hl : T.length < 1000000000) {a : Int} (hg : GoodE T a) (t u : Int) (ht : 0 ≤ t)
    (hr : hasE T s = true ∨ (T.length : Int) < room) (hB : B ≤ w.heap.size) :
    Calls Try.prog 26 #[.pointer (some ⟨q, 0, none⟩), .string s, .int .i64 t] w fun e w' => e = .returned (.int .i64 0) ∧ ∃ lv', HasR w' B q room (putE T s (t, u)) lv' ∧ Tq w w' B q := by
  obtain ⟨i0, hi, hz0, hz1, hz2⟩ := infoR
  have AT := Lib.hid (rat_c h s hl)
  obtain ⟨p, off, cap, e0, hc⟩ := h.rows
  have H := Lib.hid h
  have k1 : decide (t < 0) = false := by simp; omega
  have HU := Lib.hid (row_put T s t u)
  have HL := Lib.hid (show (delE T s).length + 1 = (putE T s (t, u)).length by unfold putE; simp)
  have hdl := Lib.hid (show (delE T s).length ≤ T.length from List.length_filter_le _ _)
  have HB := Lib.hid hB
  have CA := fun (n : Nat) => Lib.hid (rcancel_c (w := w.drewN n) (B := B) (q := q) (room := room) (T := T) (lv := lv) h s hl hg)
  have e1 : lv.ownBlock = lv.ownBlock := rfl
  have fin : ∀ (n : Nat) (w3 w4 : World) (lv3 v4 : Value), HasR w3 B q room (delE T s) lv3 → Tq (w.drewN n) w3 B q → w4.ownsRow B 85 2 v4 ((delE T s).length + 1) (rowR (delE T s) ++ [.string s, .int .i64 t]) → (w3.alloc (.cells #[.string s, .int .i64 t] 85)).grownBy w4 lv3.ownBlock →
      (HasR (w4.setCell ⟨q, 1, none⟩ v4) B q room (putE T s (t, u)) v4 ∧ Tq w (w4.setCell ⟨q, 1, none⟩ v4) B q) ∧ w4.frozen? ⟨q, 1, none⟩ = false ∧ w4.cell? ⟨q, 1, none⟩ = some lv3 := by
    intro n w3 w4 lv3 v4 h3 t3 o4 g4
    obtain ⟨f1, f2, f3, f4⟩ := cancel_fin h3 (h3.2.alloc (.cells #[.string s, .int .i64 t] 85)) (World.grownBy_alloc _ _ none) (D := putE T s (t, u)) (by rw [HU.out]; exact o4) g4 HL.out
    exact ⟨⟨f1, (show Tq w w3 B q from ⟨t3.os, t3.tape, t3.output, t3.size, t3.block⟩).trans f2⟩, f3, f4⟩
  have FIN := Lib.hid fin
  clear fin e1
  cases hh : hasE T s with
  | true =>
    rw [hh] at AT CA
    clear hr hc e0 h hh
    go_enter Try.func26, Try.ntmps26
    go_upto_region 4 with (go_at_call 28; refine AT.out.mono ?_; rintro e w1 ⟨rfl, rfl⟩)
    go_quiet (fail)
    go_upto_region 7 with (go_at_call 27; refine (CA _).out.mono ?_; rintro e w3 ⟨rfl, lv3, h3, t3⟩)
    have H3 := Lib.hid h3
    have T3 := Lib.hid t3
    have HB3 := Lib.hid (show B ≤ w3.heap.size by have := HB.out; have := t3.size; simp [World.drewN] at this; omega)
    have c1 := h3.c1
    clear h3 t3 CA AT H
    go_wp2_with (at_builtin; refine wpList_append_own _ rfl _ _ 29 rfl B 85 i0 (.agg #[.string ⟨#[]⟩, .int .i64 0]) 2 24 und_LR hi hz0 hz1 hz2 rfl (by decide) _ _ _ rfl (H3.out.2.alloc _) ⟨w3.heap.size, 0, none⟩ 1 1 [.string s, .int .i64 t] rfl rfl ?c1 ?c2 ?c3 ?c4 ?c5 ?_)
    case c1 => exact cells2n _ _ _ _
    case c2 => intro u hu; simp at hu; rcases hu with rfl | rfl <;> rfl
    case c3 => have := hdl.out; unfold maxLen; omega
    case c4 => have := hdl.out; omega
    case c5 => have := HB3.out; simp; omega
    intro v4 w4 hown4 hg4 _
    obtain ⟨f1, f2, f3⟩ := FIN.out _ w3 w4 lv3 v4 H3.out T3.out hown4 hg4
    have F1 := Lib.hid f1
    obtain ⟨p2, cap2, rfl⟩ := owns_slice hown4
    clear hown4 hg4 f1 c1 FIN H3 T3
    go_wp2
    go_ret
    exact ⟨rfl, _, F1.out.1, F1.out.2⟩
  | false =>
    rw [hh] at AT CA
    have k2 : decide (room ≤ (T.length : Int)) = false := by
      rcases hr with e | e
      · rw [hh] at e; cases e
      · exact decide_eq_false (by omega)
    have c0 := h.c0
    have c1 := h.c1
    rw [e0] at c1
    clear hr hc e0 h hh
    go_enter Try.func26, Try.ntmps26
    go_upto_region 4 with (go_at_call 28; refine AT.out.mono ?_; rintro e w1 ⟨rfl, rfl⟩)
    go_quiet (fail)
    clear c0 c1
    go_upto_region 7 with (go_at_call 27; refine (CA _).out.mono ?_; rintro e w3 ⟨rfl, lv3, h3, t3⟩)
    have H3 := Lib.hid h3
    have T3 := Lib.hid t3
    have HB3 := Lib.hid (show B ≤ w3.heap.size by have := HB.out; have := t3.size; simp [World.drewN] at this; omega)
    have c1 := h3.c1
    clear h3 t3 CA AT H
    go_wp2_with (at_builtin; refine wpList_append_own _ rfl _ _ 29 rfl B 85 i0 (.agg #[.string ⟨#[]⟩, .int .i64 0]) 2 24 und_LR hi hz0 hz1 hz2 rfl (by decide) _ _ _ rfl (H3.out.2.alloc _) ⟨w3.heap.size, 0, none⟩ 1 1 [.string s, .int .i64 t] rfl rfl ?c1 ?c2 ?c3 ?c4 ?c5 ?_)
    case c1 => exact cells2n _ _ _ _
    case c2 => intro u hu; simp at hu; rcases hu with rfl | rfl <;> rfl
    case c3 => have := hdl.out; unfold maxLen; omega
    case c4 => have := hdl.out; omega
    case c5 => have := HB3.out; simp; omega
    intro v4 w4 hown4 hg4 _
    obtain ⟨f1, f2, f3⟩ := FIN.out _ w3 w4 lv3 v4 H3.out T3.out hown4 hg4
    have F1 := Lib.hid f1
    obtain ⟨p2, cap2, rfl⟩ := owns_slice hown4
    clear hown4 hg4 f1 c1 FIN H3 T3
    go_wp2
    go_ret
    exact ⟨rfl, _, F1.out.1, F1.out.2⟩

end Go.Proofs.Ytplaconhpiojbaa
