/-
  'group.addresses', 'isAny', 'mayBe', 'Check'. Contracts over the translated program.
-/
import Derived.Test.YthpafojeadbjlaaGrS
import Derived.Test.YthpafojeadbjlaaFlCk
import Derived.Test.YthpafojeadbjlaaRowO
import Derived.Test.YthpafojeadbjlaaTst

import Derived.Laws.AppendOwn
import Derived.StillTailTactics
import Derived.LoopTactic
import Derived.OwnWalk
import Derived.OwnWalkIn
import Derived.Deep.Cut
import Derived.Deep.QuietTactic
import Derived.BigQuiet
namespace Go.Proofs.Ythpafojeadbjlaa
open Go.RowKit
set_option linter.unusedVariables false
set_option linter.unusedSimpArgs false

theorem info_Ad : (Try.prog.info? 35).map (fun i => (i.zero, i.size, i.bytes)) = some (some (.string ByteArray.empty), 1, 16) := by kernel_rfl
theorem str_new (w : World) (xs : List Value) (t : TypeId) : ∀ j u, xs[j]? = some u → (w.alloc (.cells xs.toArray t)).cell? ((⟨w.heap.size, 0, none⟩ : Addr).add j) = some u := by
  intro j u hj
  have e : (⟨w.heap.size, 0, none⟩ : Addr).add j = ⟨w.heap.size, j, none⟩ := by unfold Addr.add; split <;> simp_all
  rw [e]
  exact cell_of_block (heap_new w _) (by simpa using hj)
theorem one_str (s : ByteArray) : ∀ u ∈ [Value.string s], u.oneCell' = true := by intro u hu; simp at hu; subst hu; rfl
theorem nm_take {l : List Tm} {k : Nat} {x : Tm} (h : l[k]? = some x) : (nmS (l.take (k + 1))).map Value.string = (nmS (l.take k)).map Value.string ++ [.string x.1] := by
  rw [List.take_succ_eq_append_getElem (List.getElem?_eq_some_iff.1 h).1, (List.getElem?_eq_some_iff.1 h).2]
  simp [nmS]

set_option maxHeartbeats 4000000 in
set_option maxRecDepth 100000 in
theorem addresses_c (v : Value) (l : List Tm) (w : World) (hl : l.length ≤ 1000000) (h : RowsAt 2 cellsTm w v l) : Calls Try.prog 72 #[v] w fun e w' => ∃ u, e = .returned u ∧ AddrsG w.heap.size true w' u (nmS l) ∧ Below w.heap.size w w' := by
  obtain ⟨p, cap, b, off, rfl, hp, hc⟩ := h
  have HP := Lib.hid hp
  have HC := Lib.hid hc
  obtain ⟨i0, hi0, hz0, hz1, hz2⟩ := info_parts info_Ad
  obtain ⟨n, hn⟩ : ∃ n, n = l.length := ⟨_, rfl⟩
  have HNN := Lib.hid hn
  rw [← hn] at hl
  rw [← hn]
  clear hp hc hn
  go_enter Try.func72, Try.ntmps72
  go_wp2_with fail
  go_loopw [3, 5, 8] (fun s3 _ i wr => ∃ k : Nat, k ≤ n ∧ i = .int .i64 k ∧ Hid (wr.ownsRow w.heap.size 35 1 s3 k ((nmS (l.take k)).map Value.string)) ∧ Hid (Below w.heap.size w wr)) (fun _ _ i _ => n - (intOf i).toNat)
  case atStart => exact ⟨0, Nat.zero_le _, rfl, Lib.hid (World.ownsRow_nil _ _ _ _), Lib.hid (Below.refl _ _)⟩
  case round =>
    obtain ⟨k, hk, rfl, HO, KB⟩ := hrel
    by_cases hlt : k < n
    · obtain ⟨x, hx⟩ : ∃ x, l[k]? = some x := ⟨_, List.getElem?_eq_getElem (by rw [← HNN.out]; exact hlt)⟩
      have hne : l ≠ [] := by rintro rfl; simp at hx
      obtain rfl := HP.out hne
      have HTK := Lib.hid (nm_take hx)
      have x0 : wr.cell? ⟨b, off + k * 2, none⟩ = some (.string x.1) := gcell_below KB.out (HC.out k _ hx 0 _ rfl)
      have x1 : wr.cell? ⟨b, off + k * 2 + 1, none⟩ = some (.int .i64 x.2) := gcell_below KB.out (HC.out k _ hx 1 _ rfl)
      generalize x.1 = xs at x0 HTK
      generalize x.2 = xa at x1
      have d1 : decide (k < n) = true := decide_eq_true hlt
      have d2 : decide ((k : Int) < (n : Int)) = true := decide_eq_true (by omega)
      have d3 : decide (n ≤ k) = false := decide_eq_false (by omega)
      have d4 : decide (0 ≤ (k : Int)) = true := decide_eq_true (by omega)
      clear hx hne
      go_upto_region 5 with fail
      have HE1 := Lib.hid (heap_new wr (.cells #[.string xs, .int .i64 xa] 65))
      have HO1 := Lib.hid (HO.out.alloc (.cells #[.string xs, .int .i64 xa] 65))
      have KB1 := Lib.hid (KB.out.alloc KB.out.size (.cells #[.string xs, .int .i64 xa] 65))
      clear x0 x1 d1 d2 d3 d4 HO KB
      generalize wr.alloc (.cells #[.string xs, .int .i64 xa] 65) = W1 at HE1 HO1 KB1 ⊢
      generalize wr.heap.size = eb at HE1 ⊢
      have e0 : W1.cell? ⟨eb, 0, none⟩ = some (.string xs) := cell_of_block HE1.out rfl
      have NEW := Lib.hid (str_new W1 [.string xs] 35)
      have HO5 := Lib.hid (HO1.out.alloc (.cells #[.string xs] 35))
      have K5 := Lib.hid (KB1.out.alloc KB1.out.size (.cells #[.string xs] 35))
      have n11 := Lib.hid (show k + 1 ≤ maxLen by unfold maxLen; omega)
      have n22 := Lib.hid (show (k + 1) * 16 ≤ 140737488355328 by omega)
      have n33 := Lib.hid (show w.heap.size ≤ (W1.alloc (.cells #[.string xs] 35)).heap.size from K5.out.size)
      have oc := Lib.hid (one_str xs)
      clear HO1 KB1 HE1
      go_wp2_with (at_builtin; refine wpList_append_own _ rfl _ _ 26 rfl w.heap.size 35 i0 (.string ByteArray.empty) 1 16 Try.underlying26 hi0 hz0 hz1 hz2 rfl (by decide) _ _ _ rfl HO5.out ⟨W1.heap.size, 0, none⟩ 1 1 [.string xs] rfl rfl NEW.out oc.out n11.out n22.out n33.out ?_)
      intro v' w6 hown' hgrow _
      have HO6 := Lib.hid hown'
      have K6 := Lib.hid (K5.out.grown hgrow n33.out (fun j hj => (HO5.out.lt j hj).1))
      clear hown' hgrow HO5 K5 NEW e0
      go_wp2_with fail
      go_roundw
      case rel => exact ⟨k + 1, by omega, by go_num, Lib.hid (by rw [HTK.out]; exact HO6.out), K6⟩
      case measure => simp [intOf]; omega
    · obtain rfl : k = n := by omega
      rw [List.take_of_length_le (by rw [HNN.out]; exact Nat.le_refl _)] at HO
      have HA := Lib.hid (AddrsG.of_owns HO.out)
      clear hlt
      go_wp2_with fail
      go_ret
      exact ⟨_, rfl, HA.out, KB.out⟩

set_option maxHeartbeats 1000000 in
set_option maxRecDepth 100000 in
theorem isAny_c (ex : Bool) (tm : Int) (p : Option Addr) (n c : Nat) (w : World) : Calls Try.prog 50 #[.agg #[.bool ex, .int .i64 tm, .slice p n c]] w fun e w' => e = .returned (.bool (ex || decide (0 < n))) ∧ Below w.heap.size w w' := by
  rcases Bool.eq_false_or_eq_true ex with rfl | rfl
  · go_enter Try.func50, Try.ntmps50
    go_wp2
    go_ret
    exact ⟨rfl, (Below.refl _ _).alloc (Nat.le_refl _) _⟩
  · by_cases h : 0 < n
    · have d1 : decide ((0 : Int) < (n : Int)) = true := decide_eq_true (by omega)
      have d2 : decide (0 < n) = true := decide_eq_true h
      go_enter Try.func50, Try.ntmps50
      go_wp2
      go_ret
      exact ⟨by simp [h], (Below.refl _ _).alloc (Nat.le_refl _) _⟩
    · have d1 : decide ((0 : Int) < (n : Int)) = false := decide_eq_false (by omega)
      have d2 : decide (0 < n) = false := decide_eq_false h
      go_enter Try.func50, Try.ntmps50
      go_wp2
      go_ret
      exact ⟨by simp [h], (Below.refl _ _).alloc (Nat.le_refl _) _⟩

def mayT (m l now : Int) : Bool := decide (1 ≤ m) && decide (m ≤ 1000000) && decide (1 ≤ l) && decide (l ≤ 1000000) && decide (1 ≤ now) && decide (now ≤ 1099511627776)
set_option maxHeartbeats 8000000 in
set_option maxRecDepth 100000 in
theorem gchk_c (ex : Bool) (tm : Int) (v : Value) (l : List Tm) (w : World) (hl : l.length ≤ 1000000) (h : RowsAt 2 cellsTm w v l) : Calls Try.prog 49 #[.agg #[.bool ex, .int .i64 tm, v]] w fun e w' => e = .returned (.int .i64 (chkS ⟨ex, tm, l⟩)) ∧ Below w.heap.size w w' := by
  have HH := Lib.hid h
  have ADC := Lib.hid fun (U : World) (kz : Below w.heap.size w U) => addresses_c v l U hl (h.below kz)
  obtain ⟨p, cap, b, off, rfl, hp, hc⟩ := h
  have HP := Lib.hid hp
  have HC := Lib.hid hc
  have NO := Lib.hid fun (h : ¬ (l.length ≤ 60 ∧ 0 ≤ tm ∧ ex = decide (0 < tm) ∧ (∀ x ∈ l, okX ex x = true) ∧ upB (nmS l) = true)) => chk_no (s := ⟨ex, tm, l⟩) h
  have YES := Lib.hid (chk_last (s := ⟨ex, tm, l⟩))
  generalize chkS ⟨ex, tm, l⟩ = cv at NO YES ⊢
  obtain ⟨n, hn⟩ : ∃ n, n = l.length := ⟨_, rfl⟩
  have HNN := Lib.hid hn
  have HBX := Lib.hid (heap_new w (.cells #[.bool ex, .int .i64 tm, .slice p n cap] 32))
  have KB0 := Lib.hid (show Below w.heap.size w (w.alloc (.cells #[.bool ex, .int .i64 tm, .slice p n cap] 32)) from (Below.refl _ _).alloc (Nat.le_refl _) _)
  rw [← hn] at hl
  rw [← hn]
  clear hp hc hn
  by_cases h1 : 60 < n
  · have q1 : decide ((60 : Int) < (n : Int)) = true := decide_eq_true (by omega)
    have N3 := Lib.hid (NO.out (by rw [← HNN.out]; omega))
    clear h1
    go_enter Try.func49, Try.ntmps49
    go_wp2_with fail
    go_ret
    exact ⟨by rw [N3.out]; rfl, KB0.out⟩
  · have q1 : decide ((60 : Int) < (n : Int)) = false := decide_eq_false (by omega)
    by_cases h2 : tm < 0
    · have q2 : decide (tm < 0) = true := decide_eq_true h2
      have N3 := Lib.hid (NO.out (by omega))
      clear h1 h2
      go_enter Try.func49, Try.ntmps49
      go_wp2_with fail
      go_ret
      exact ⟨by rw [N3.out]; rfl, KB0.out⟩
    · have q2 : decide (tm < 0) = false := decide_eq_false h2
      by_cases h3 : ex = decide (0 < tm)
      · have n60 : n ≤ 60 := by omega
        have YE := Lib.hid (YES.out (by show l.length ≤ 60; rw [← HNN.out]; exact n60) (show 0 ≤ tm by omega) h3)
        have NX := Lib.hid (fun (h : ¬ ∀ x ∈ l, okX ex x = true) => NO.out (fun k => h k.2.2.2.1))
        have q3 : (ex != decide (0 < tm)) = false := by rw [h3]; simp
        have q4 : (ex ^^ decide (0 < tm)) = false := by rw [h3]; simp
        have q5 : (ex == decide (0 < tm)) = true := by rw [h3]; simp
        have HX3 := Lib.hid h3
        clear h1 h2 h3 NO YES
        go_enter Try.func49, Try.ntmps49
        go_wp2_with fail
        obtain ⟨sb, hsb⟩ : ∃ sb, sb = w.heap.size := ⟨_, rfl⟩
        generalize w.alloc (.cells #[.bool ex, .int .i64 tm, .slice p n cap] 32) = W1 at HBX KB0 ⊢
        rw [← hsb] at HBX ⊢
        have HSB := Lib.hid hsb
        clear hsb q1 q2 q3 q4 q5
        (try go_wp2_with fail)
        go_loopw [4, 25] (fun _ i wr => ∃ k : Nat, k ≤ n ∧ i = .int .i64 k ∧ Hid (∀ x ∈ l.take k, okX ex x = true) ∧ Hid (Below W1.heap.size W1 wr)) (fun _ i _ => n - (intOf i).toNat)
        case atStart => exact ⟨0, Nat.zero_le _, rfl, Lib.hid (by simp), Lib.hid (Below.refl _ _)⟩
        case round =>
          obtain ⟨k, hk, rfl, HG, KB⟩ := hrel
          by_cases hlt : k < n
          · obtain ⟨x, hx⟩ : ∃ x, l[k]? = some x := ⟨_, List.getElem?_eq_getElem (by rw [← HNN.out]; exact hlt)⟩
            have hne : l ≠ [] := by rintro rfl; simp at hx
            obtain rfl := HP.out hne
            have KW := Lib.hid (KB0.out.trans (KB.out.mono KB0.out.size))
            have BAD := Lib.hid (fun (h : okX ex x = false) => NX.out (fun k => by have := k x (List.mem_of_getElem? hx); rw [h] at this; cases this))
            have GOOD := Lib.hid (fun (h : okX ex x = true) => (fun y hy => by
              rw [List.take_succ_eq_append_getElem (List.getElem?_eq_some_iff.1 hx).1, (List.getElem?_eq_some_iff.1 hx).2, List.mem_append, List.mem_singleton] at hy
              rcases hy with hy | rfl
              · exact HG.out y hy
              · exact h : ∀ y ∈ l.take (k + 1), okX ex y = true))
            have x0 : wr.cell? ⟨b, off + k * 2, none⟩ = some (.string x.1) := gcell_below KW.out (HC.out k _ hx 0 _ rfl)
            have x1 : wr.cell? ⟨b, off + k * 2 + 1, none⟩ = some (.int .i64 x.2) := gcell_below KW.out (HC.out k _ hx 1 _ rfl)
            have HOX := Lib.hid (show okX ex x = (decide (0 ≤ x.2) && (ex || decide (x.2 ≠ 0))) from rfl)
            generalize okX ex x = ov at BAD GOOD HOX
            generalize x.1 = xs at x0
            generalize x.2 = xa at x1 HOX
            have d1 : decide (k < n) = true := decide_eq_true hlt
            have d2 : decide ((k : Int) < (n : Int)) = true := decide_eq_true (by omega)
            have d3 : decide (n ≤ k) = false := decide_eq_false (by omega)
            have d4 : decide (0 ≤ (k : Int)) = true := decide_eq_true (by omega)
            clear hx hne KW HG
            go_upto_region 6 with fail
            have HE1 := Lib.hid (heap_new wr (.cells #[.string xs, .int .i64 xa] 65))
            have KB1 := Lib.hid (KB.out.alloc KB.out.size (.cells #[.string xs, .int .i64 xa] 65))
            clear x0 x1 d1 d2 d3 d4 KB
            generalize wr.alloc (.cells #[.string xs, .int .i64 xa] 65) = W2 at HE1 KB1 ⊢
            generalize wr.heap.size = eb at HE1 ⊢
            have HB2 := Lib.hid (below_block KB1.out (lt_of_block HBX.out) HBX.out)
            have e1 : W2.cell? ⟨eb, 1, none⟩ = some (.int .i64 xa) := cell_of_block HE1.out rfl
            have s0 : W2.cell? ⟨sb, 0, none⟩ = some (.bool ex) := cell_of_block HB2.out rfl
            have lt1 := gcell_lt e1
            have lt2 := gcell_lt s0
            by_cases g1 : xa < 0
            · have f1 : decide (xa < 0) = true := decide_eq_true g1
              have BB := Lib.hid (BAD.out (by rw [HOX.out, decide_eq_false (by omega : ¬ 0 ≤ xa)]; rfl))
              have KZ := Lib.hid (KB0.out.trans (KB1.out.mono KB0.out.size))
              clear g1
              go_wp2_with fail
              go_ret
              exact ⟨by rw [BB.out]; rfl, KZ.out⟩
            · have f1 : decide (xa < 0) = false := decide_eq_false g1
              by_cases g2 : xa = 0
              · rcases Bool.eq_false_or_eq_true ex with hx1 | hx1
                · have HEX := Lib.hid (GOOD.out (by rw [HOX.out, hx1, decide_eq_true (by omega : 0 ≤ xa)]; rfl))
                  rw [hx1] at s0
                  obtain ⟨z1, z2⟩ := eq_t g2
                  clear g1 g2 hx1
                  go_wp2_with fail
                  go_roundw
                  case rel => exact ⟨k + 1, by omega, by go_num, HEX, KB1⟩
                  case measure => simp [intOf]; omega
                · have BB := Lib.hid (BAD.out (by rw [HOX.out, hx1, g2]; rfl))
                  have KZ := Lib.hid (KB0.out.trans (KB1.out.mono KB0.out.size))
                  rw [hx1] at s0
                  obtain ⟨z1, z2⟩ := eq_t g2
                  clear g1 g2 hx1
                  go_wp2_with fail
                  go_ret
                  exact ⟨by rw [BB.out]; rfl, KZ.out⟩
              · have HEX := Lib.hid (GOOD.out (by rw [HOX.out, decide_eq_true (by omega : 0 ≤ xa), decide_eq_true g2]; simp))
                obtain ⟨z1, z2⟩ := ne_t g2
                clear g1 g2
                go_wp2_with fail
                go_roundw
                case rel => exact ⟨k + 1, by omega, by go_num, HEX, KB1⟩
                case measure => simp [intOf]; omega
          · obtain rfl : k = n := by omega
            rw [List.take_of_length_le (by rw [HNN.out]; exact Nat.le_refl _)] at HG
            have YF := Lib.hid (YE.out HG.out)
            have KW := Lib.hid (KB0.out.trans (KB.out.mono KB0.out.size))
            have HB2 := Lib.hid (below_block KB.out (lt_of_block HBX.out) HBX.out)
            have s2 : wr.cell? ⟨sb, 2, none⟩ = some (.slice p k cap) := cell_of_block HB2.out rfl
            clear hlt YE HG
            rw [← HNN.out] at ADC
            go_wp2_with fail
            ((with_reducible refine (ADC.out _ KW.out).mono ?_); rintro e w3 ⟨u, rfl, hu, k3⟩)
            obtain ⟨pu, cu, rfl⟩ := hu.slice
            have CK := Lib.hid (check_c false _ (nmS l) w3 (by rw [nm_len, ← HNN.out]; omega) hu.at)
            have K3 := Lib.hid (KW.out.trans (k3.mono KW.out.size))
            clear hu k3 s2
            go_wp2_with fail
            ((with_reducible refine CK.out.mono ?_); rintro e w4 ⟨rfl, k4⟩)
            have K4 := Lib.hid (K3.out.trans (k4.mono K3.out.size))
            go_wp2_with fail
            go_ret
            exact ⟨by rw [YF.out]; rfl, K4.out⟩
      · have N3 := Lib.hid (NO.out (fun k => h3 k.2.2.1))
        have q3 : (ex != decide (0 < tm)) = true := by
          cases ex <;> simp at h3 ⊢ <;> omega
        have q4 : (ex ^^ decide (0 < tm)) = true := by
          cases ex <;> simp at h3 ⊢ <;> omega
        have q5 : (ex == decide (0 < tm)) = false := by
          cases ex <;> simp at h3 ⊢ <;> omega
        clear h1 h2 h3
        go_enter Try.func49, Try.ntmps49
        go_wp2_with fail
        go_ret
        exact ⟨by rw [N3.out]; rfl, KB0.out⟩
end Go.Proofs.Ythpafojeadbjlaa
