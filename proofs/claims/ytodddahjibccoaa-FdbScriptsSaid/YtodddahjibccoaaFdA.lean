/-
  The program's table: New, mayBe, mayLearn, old, Look. Contracts over the translated program.
-/
import Derived.Test.YtodddahjibccoaaFdS
import Derived.Test.YtodddahjibccoaaOctCut
import Derived.Defers
import Derived.Recover
import Derived.RegionTactic
import Derived.StringKeys
import Derived.Deep.Cut
import Derived.Deep.QuietTactic
import Derived.BigQuiet
import Derived.StillTailTactics
namespace Go.Proofs.Ytodddahjibccoaa
open Go Go.Maps Go.WideMaps
open Go.RowKit
set_option linter.unusedVariables false
set_option linter.unusedSimpArgs false

theorem und_MF : Try.prog.underlying 46 = some (.map 52 54) := by kernel_rfl
theorem zero_HF (w : World) : (zeroValue 54).run Try.prog w = .ok (tmV (0, 0)) w := by kernel_rfl

/-- THE TABLE AT BLOCK p: its room, its age, its entries (their map lies at block mb). -/
def HasF (w : World) (p mb : Nat) (room age : Int) (L : List T3) : Prop :=
  w.heap[p]? = some (.cells #[.int .i64 room, .int .i64 age, .map (some mb)] 48 (0, 0)) ∧ Mp w Try.prog 52 mb L

variable {w w' : World} {p mb : Nat} {room age : Int} {L : List T3} {R : List E4}
theorem HasF.c0 (h : HasF w p mb room age L) : w.cell? ⟨p, 0, none⟩ = some (.int .i64 room) := by simp [World.cell?, h.1]
theorem HasF.c1 (h : HasF w p mb room age L) : w.cell? ⟨p, 1, none⟩ = some (.int .i64 age) := by simp [World.cell?, h.1]
theorem HasF.c2 (h : HasF w p mb room age L) : w.cell? ⟨p, 2, none⟩ = some (.map (some mb)) := by simp [World.cell?, h.1]
theorem HasF.fz (h : HasF w p mb room age L) (j : Nat) : w.frozen? ⟨p, j, none⟩ = false := by simp [World.frozen?, h.1]
theorem HasF.lt (h : HasF w p mb room age L) : p < w.heap.size := (Array.getElem?_eq_some_iff.1 h.1).1
theorem HasF.ne (h : HasF w p mb room age L) : mb ≠ p := by
  obtain ⟨h1, l, _, es, clock, h2, _⟩ := h
  intro e
  rw [e, h1] at h2
  cases h2
theorem HasF.ofHeap (h : HasF w p mb room age L) (h1 : w'.heap[p]? = w.heap[p]?) (h2 : w'.heap[mb]? = w.heap[mb]?) : HasF w' p mb room age L :=
  ⟨h1.trans h.1, h.2.ofHeap h2⟩
theorem HasF.below (h : HasF w p mb room age L) (k : Below w.heap.size w w') : HasF w' p mb room age L :=
  h.ofHeap (k.block p h.lt) (k.block mb h.2.lt)
theorem HasF.turn (h : HasF w p mb room age L) {L' : List T3} (hm : Mp w' Try.prog 52 mb L') (ht : w.mapTurned w' mb) : HasF w' p mb room age L' :=
  ⟨(ht.grown.block p h.lt (fun e => h.ne (by cases e; rfl))).trans h.1, hm⟩
theorem HasF.perm (h : HasF w p mb room age L) {L' : List T3} (hp : L.Perm L') : HasF w p mb room age L' := ⟨h.1, h.2.perm hp⟩

theorem fmay_c (now : Int) (w : World) : Calls Try.prog 24 #[.int .i64 now] w fun e w' => e = .returned (.bool (timeB now)) ∧ w' = w := by
  unfold timeB
  by_cases h1 : 0 ≤ now
  · have k1 : decide (0 ≤ now) = true := decide_eq_true h1
    clear h1
    rw [k1]
    go_enter Try.func24, Try.ntmps24
    go_wp2
    go_ret
    exact ⟨by simp, rfl⟩
  · have k1 : decide (0 ≤ now) = false := decide_eq_false h1
    clear h1
    rw [k1]
    go_enter Try.func24, Try.ntmps24
    go_wp2
    go_ret
    exact ⟨by simp, rfl⟩

set_option maxHeartbeats 2000000 in
set_option maxRecDepth 100000 in
theorem flrn_c (v : Int) (m : ByteArray) (q : Int) (w : World) : Calls Try.prog 26 #[.int .i64 v, .string m, .int .i64 q] w fun e w' => e = .returned (.bool (mayL v m q)) ∧ w' = w := by
  have HM := Lib.hid fun U => mny_c m U
  have V := Lib.hid (show mayL v m q = (decide (m.size = 6) && !mnyB m && decide (1 ≤ v) && decide (v ≤ 4094) && decide (0 ≤ q) && decide (q ≤ 15)) from rfl)
  generalize mayL v m q = ans at V ⊢
  generalize mnyB m = mn at HM V
  by_cases h6 : m.size = 6
  · obtain ⟨k1, k2⟩ := eq_t (show (m.size : Int) = 6 by omega)
    rw [decide_eq_true h6, Bool.true_and] at V
    clear h6
    cases mn with
    | true =>
      go_enter Try.func26, Try.ntmps26
      go_wp2_with fail
      ((with_reducible refine (HM.out _).mono ?_); rintro e w1 ⟨rfl, rfl⟩)
      go_wp2_with fail
      go_ret
      exact ⟨by rw [V.out]; rfl, rfl⟩
    | false =>
      by_cases h6 : 1 ≤ v
      · have d6 : decide (1 ≤ v) = true := decide_eq_true h6
        rw [d6] at V
        clear h6
        by_cases h8 : v ≤ 4094
        · have d8 : decide (v ≤ 4094) = true := decide_eq_true h8
          rw [d8] at V
          clear h8
          by_cases h10 : 0 ≤ q
          · have d10 : decide (0 ≤ q) = true := decide_eq_true h10
            rw [d10] at V
            clear h10
            by_cases h12 : q ≤ 15
            · have d12 : decide (q ≤ 15) = true := decide_eq_true h12
              have d12' : decide (q < 16) = true := decide_eq_true (by omega)
              rw [d12] at V
              clear h12
              go_enter Try.func26, Try.ntmps26
              go_wp2_with fail
              ((with_reducible refine (HM.out _).mono ?_); rintro e w1 ⟨rfl, rfl⟩)
              go_wp2_with fail
              go_ret
              exact ⟨by rw [V.out]; simp, rfl⟩
            · have d12 : decide (q ≤ 15) = false := decide_eq_false h12
              have d12' : decide (q < 16) = false := decide_eq_false (by omega)
              rw [d12] at V
              clear h12
              go_enter Try.func26, Try.ntmps26
              go_wp2_with fail
              ((with_reducible refine (HM.out _).mono ?_); rintro e w1 ⟨rfl, rfl⟩)
              go_wp2_with fail
              go_ret
              exact ⟨by rw [V.out]; simp, rfl⟩
          · have d10 : decide (0 ≤ q) = false := decide_eq_false h10
            rw [d10] at V
            clear h10
            go_enter Try.func26, Try.ntmps26
            go_wp2_with fail
            ((with_reducible refine (HM.out _).mono ?_); rintro e w1 ⟨rfl, rfl⟩)
            go_wp2_with fail
            go_ret
            exact ⟨by rw [V.out]; simp, rfl⟩
        · have d8 : decide (v ≤ 4094) = false := decide_eq_false h8
          rw [d8] at V
          clear h8
          go_enter Try.func26, Try.ntmps26
          go_wp2_with fail
          ((with_reducible refine (HM.out _).mono ?_); rintro e w1 ⟨rfl, rfl⟩)
          go_wp2_with fail
          go_ret
          exact ⟨by rw [V.out]; simp, rfl⟩
      · have d6 : decide (1 ≤ v) = false := decide_eq_false h6
        rw [d6] at V
        clear h6
        go_enter Try.func26, Try.ntmps26
        go_wp2_with fail
        ((with_reducible refine (HM.out _).mono ?_); rintro e w1 ⟨rfl, rfl⟩)
        go_wp2_with fail
        go_ret
        exact ⟨by rw [V.out]; simp, rfl⟩
  · obtain ⟨k1, k2⟩ := ne_t (show (m.size : Int) ≠ 6 by omega)
    rw [decide_eq_false h6, Bool.false_and, Bool.false_and, Bool.false_and, Bool.false_and, Bool.false_and] at V
    clear h6
    go_enter Try.func26, Try.ntmps26
    go_wp2_with fail
    go_ret
    exact ⟨by rw [V.out]; rfl, rfl⟩

set_option maxHeartbeats 2000000 in
set_option maxRecDepth 100000 in
theorem old_h {mv : Value} (h : w.heap[p]? = some (.cells #[.int .i64 room, .int .i64 age, mv] 48 (0, 0))) (q a now : Int) (ha : 0 ≤ age) (hb : age ≤ 1000000) (h1 : 0 ≤ a) (h2 : a ≤ 1099511627776) :
    Calls Try.prog 25 #[.pointer (some ⟨p, 0, none⟩), .agg #[.int .i64 q, .int .i64 a], .int .i64 now] w fun e w' => e = .returned (.bool (oldB age now (q, a))) ∧ Below w.heap.size w w' := by
  have hB := (Below.refl w.heap.size w).alloc (Nat.le_refl _) (.cells #[.int .i64 q, .int .i64 a] 54)
  have c1 := cell_of_block (j := 1) (below_block hB (lt_of_block h) h) rfl
  have y1 : (w.alloc (.cells #[.int .i64 q, .int .i64 a] 54)).cell? ⟨w.heap.size, 1, none⟩ = some (.int .i64 a) := cell_of_block (heap_new _ _) rfl
  have hw : IntKind.i64.wrap (a + age) = a + age := IntWalk.i64_in _ (by omega)
  have HB := Lib.hid hB
  unfold oldB
  simp only
  clear h hB
  go_enter Try.func25, Try.ntmps25
  go_upto_region 1 with fail
  generalize w.alloc (.cells #[.int .i64 q, .int .i64 a] 54) = W at c1 y1 HB ⊢
  go_quiet (fail)
  go_wp2_with fail
  go_ret
  exact ⟨by simp, below_drewN HB.out _⟩

theorem old_c (h : HasF w p mb room age L) (q a now : Int) (ha : 0 ≤ age) (hb : age ≤ 1000000) (h1 : 0 ≤ a) (h2 : a ≤ 1099511627776) :
    Calls Try.prog 25 #[.pointer (some ⟨p, 0, none⟩), .agg #[.int .i64 q, .int .i64 a], .int .i64 now] w fun e w' => e = .returned (.bool (oldB age now (q, a))) ∧ Below w.heap.size w w' := old_h h.1 q a now ha hb h1 h2

theorem no_look {v : Int} {m : ByteArray} {now : Int} (h : timeB now = false ∨ hasF R v m = false ∨ oldB age now (atF R v m) = true) : lookF R age v m now = (0, false) := by
  unfold lookF
  rw [if_neg]
  rcases h with h | h | h <;> simp [h]
theorem yes_look {v : Int} {m : ByteArray} {now : Int} (h1 : timeB now = true) (h2 : hasF R v m = true) (h3 : oldB age now (atF R v m) = false) : lookF R age v m now = ((atF R v m).1, true) := by
  unfold lookF
  rw [if_pos (by simp [h1, h2, h3])]
theorem at_ok (hg : GoodF R) (v : Int) (m : ByteArray) : 0 ≤ (atF R v m).2 ∧ (atF R v m).2 ≤ 1099511627776 := by
  unfold atF
  cases hf : R.find? (fun e => sameE e v m) with
  | none => simp
  | some e =>
    obtain ⟨_, _, _, _, _, h1, h2⟩ := hg.ok e (List.mem_of_find?_eq_some hf)
    exact ⟨h1, h2⟩

set_option maxHeartbeats 4000000 in
set_option maxRecDepth 100000 in
theorem look_c (h : HasF w p mb room age (mF R)) (hg : GoodF R) (ha : 0 ≤ age) (hb : age ≤ 1000000) (v : Int) (m : ByteArray) (now : Int) (hk : WfK v m) :
    Calls Try.prog 13 #[.pointer (some ⟨p, 0, none⟩), .int .i64 v, .string m, .int .i64 now] w fun e w' =>
      e = .returned (.tuple #[.int .i64 (lookF R age v m now).1, .bool (lookF R age v m now).2]) ∧ Below w.heap.size w w' := by
  have HM := Lib.hid (fmay_c now w)
  have hkey := Lib.hid (keyE v m hk)
  have H := Lib.hid h
  have N := Lib.hid fun h => @no_look age R v m now h
  have Y := Lib.hid fun h1 h2 h3 => @yes_look age R v m now h1 h2 h3
  have LW := Lib.hid (at_F hg.wf hk)
  have LH := Lib.hid (has_F hg.wf hk)
  obtain ⟨b1, b2⟩ := at_ok hg v m
  have c2 := h.c2
  generalize lookF R age v m now = ans at N Y ⊢
  cases ht : timeB now with
  | false =>
    obtain rfl := N.out (Or.inl ht)
    rw [ht] at HM
    clear h c2 b1 b2
    go_enter Try.func13, Try.ntmps13
    go_wp2_with fail
    ((with_reducible refine HM.out.mono ?_); rintro e w1 ⟨rfl, rfl⟩)
    go_wp2_with fail
    go_ret2
    exact ⟨rfl, Below.refl _ _⟩
  | true =>
    rw [ht] at HM
    go_enter Try.func13, Try.ntmps13
    go_wp2_with fail
    ((with_reducible refine HM.out.mono ?_); rintro e w1 ⟨rfl, rfl⟩)
    have hm := Lib.hid h.2
    clear h
    go_upto_region 4 with (first | (at_lookup; refine wpList_look_mp _ rfl _ _ 46 rfl 52 54 law_ST und_MF (zero_HF _) mb (mF R) rfl hm.out _ _ rfl hkey.out ?_) | go_in)
    rw [LW.out, LH.out]
    have hB := (Below.refl w1.heap.size w1).alloc (Nat.le_refl _) (.cells #[.int .i64 (atF R v m).1, .int .i64 (atF R v m).2] 54)
    have z0 : (w1.alloc (.cells #[.int .i64 (atF R v m).1, .int .i64 (atF R v m).2] 54)).cell? ⟨w1.heap.size, 0, none⟩ = some (.int .i64 (atF R v m).1) := cell_of_block (heap_new _ _) rfl
    have z1 : (w1.alloc (.cells #[.int .i64 (atF R v m).1, .int .i64 (atF R v m).2] 54)).cell? ⟨w1.heap.size, 1, none⟩ = some (.int .i64 (atF R v m).2) := cell_of_block (heap_new _ _) rfl
    have HO := Lib.hid (old_c (H.out.below hB) (atF R v m).1 (atF R v m).2 now ha hb b1 b2)
    have HB := Lib.hid hB
    have hz := Lib.hid (show w1.heap.size < (w1.alloc (.cells #[.int .i64 (atF R v m).1, .int .i64 (atF R v m).2] 54)).heap.size by simp)
    clear hB b1 b2 c2
    generalize atF R v m = at' at *
    obtain ⟨qp, qa⟩ := at'
    simp only at z0 z1 HO HB ⊢
    generalize w1.alloc (.cells #[.int .i64 qp, .int .i64 qa] 54) = w2 at z0 z1 HO HB hz ⊢
    cases hh : hasF R v m with
    | false =>
      obtain rfl := N.out (Or.inr (Or.inl hh))
      go_wp2_with fail
      go_ret2
      exact ⟨rfl, HB.out⟩
    | true =>
      cases ho : oldB age now (qp, qa) with
      | true =>
        obtain rfl := N.out (Or.inr (Or.inr ho))
        rw [ho] at HO
        go_wp2_with fail
        ((with_reducible refine HO.out.mono ?_); rintro e w3 ⟨rfl, h3⟩)
        clear z0 z1
        go_wp2_with fail
        go_ret2
        exact ⟨rfl, HB.out.trans (h3.mono HB.out.size)⟩
      | false =>
        obtain rfl := Y.out ht hh ho
        rw [ho] at HO
        go_wp2_with fail
        ((with_reducible refine HO.out.mono ?_); rintro e w3 ⟨rfl, h3⟩)
        replace z0 := (h3.cell (p := ⟨w1.heap.size, 0, none⟩) hz.out).trans z0
        have K := Lib.hid (HB.out.trans (h3.mono HB.out.size))
        clear z1 h3
        go_wp2_with fail
        go_ret2
        exact ⟨rfl, K.out⟩

end Go.Proofs.Ytodddahjibccoaa
