/-
  siphonref17.Names. A contract over the translated program.
-/
import Derived.Test.YtceilgeefegbmaaGrV
namespace Go.Proofs.Ytceilgeefegbmaa
open Go Go.Maps Go.WideMaps
open Go.RowKit
set_option linter.unusedVariables false
set_option linter.unusedSimpArgs false

theorem names_take {l : List Tm} {k : Nat} {x : Tm} (q : Tm → Bool) (h : l[k]? = some x) : nmS ((l.take (k + 1)).filter q) = nmS ((l.take k).filter q) ++ (if q x then [x.1] else []) := by
  rw [List.take_succ_eq_append_getElem (List.getElem?_eq_some_iff.1 h).1, (List.getElem?_eq_some_iff.1 h).2, List.filter_append]
  unfold nmS
  rw [List.map_append]
  congr 1
  simp only [List.filter_cons, List.filter_nil]
  split <;> rfl
set_option maxHeartbeats 8000000 in
set_option maxRecDepth 100000 in
theorem names17_c (ex : Bool) (tm : Int) (v : Value) (l : List Tm) (bl : Bool) (w : World) (hl : l.length ≤ 1000000) (h1 : RowsAt 2 cellsTm w v l) :
    Calls Try.prog 28 #[.agg #[.bool ex, .int .i64 tm, v], .bool bl] w fun e w' => ∃ u, e = .returned u ∧ AddrsAt w' u (nmS (l.filter fun x => decide (x.2 = 0) == bl)) ∧ Below w.heap.size w w' := by
  obtain ⟨p, cap, rfl⟩ := h1.slice
  obtain ⟨i0, hi0, hz0, hz1, hz2⟩ := info_parts info_Ad
  obtain ⟨n, hn⟩ : ∃ n, n = l.length := ⟨_, rfl⟩
  have HNN := Lib.hid hn
  rw [← hn] at h1 hl ⊢
  have B0 := (Below.refl w.heap.size w).alloc (Nat.le_refl _) (.cells #[.bool ex, .int .i64 tm, .slice p n cap] 24)
  have K1 := Lib.hid (h1.below B0)
  have HB := Lib.hid B0
  have E1 := Lib.hid (heap_new w (.cells #[.bool ex, .int .i64 tm, .slice p n cap] 24))
  clear B0 h1 hn
  go_enter Try.func28, Try.ntmps28
  go_upto_region 1 with fail
  generalize w.alloc (.cells #[.bool ex, .int .i64 tm, .slice p n cap] 24) = W at K1 HB E1 ⊢
  have hwb := lt_of_block E1.out
  go_wp2_with fail
  go_loopw [5, 6] (fun s5 i wr => ∃ k m : Nat, k ≤ n ∧ m ≤ k ∧ i = .int .i64 k ∧ Hid (wr.ownsRow W.heap.size 25 1 s5 m ((nmS ((l.take k).filter fun x => decide (x.2 = 0) == bl)).map Value.string)) ∧ Hid (Below W.heap.size W wr)) (fun _ i _ => n - (intOf i).toNat)
  case atStart => exact ⟨0, 0, Nat.zero_le _, Nat.le_refl _, rfl, Lib.hid (World.ownsRow_nil _ _ _ _), Lib.hid (Below.refl _ _)⟩
  case round =>
    obtain ⟨k, m, hk, hm, rfl, HO, KB⟩ := hrel
    have x2 : wr.cell? ⟨w.heap.size, 2, none⟩ = some (.slice p n cap) := cell_of_block (below_block KB.out hwb E1.out) rfl
    by_cases hlt : k < n
    · obtain ⟨x, hx⟩ : ∃ x, l[k]? = some x := ⟨_, List.getElem?_eq_getElem (by rw [← HNN.out]; exact hlt)⟩
      have hne : l ≠ [] := by rintro rfl; simp at hx
      obtain ⟨q1, d1', b1, o1, hv1, hp1, hc1⟩ := K1.out
      simp only [Value.slice.injEq] at hv1
      obtain ⟨rfl, -, rfl⟩ := hv1
      obtain rfl := hp1 hne
      have HTK := Lib.hid (names_take (fun x => decide (x.2 = 0) == bl) hx)
      have r1 : wr.cell? ⟨b1, o1 + k * 2, none⟩ = some (.string x.1) := cell_below KB.out (hc1 k _ hx 0 _ rfl)
      have r2 : wr.cell? ⟨b1, o1 + k * 2 + 1, none⟩ = some (.int .i64 x.2) := cell_below KB.out (hc1 k _ hx 1 _ rfl)
      obtain ⟨xs, xt⟩ := x
      dsimp only at r1 r2 HTK
      have d3 : decide (k < n) = true := decide_eq_true hlt
      have d4 : decide ((k : Int) < (n : Int)) = true := decide_eq_true (by omega)
      have d5 : decide (0 ≤ (k : Int)) = true := decide_eq_true (by omega)
      clear hx hne hc1 hp1
      by_cases h0 : xt = 0
      · obtain ⟨z5, z6⟩ := eq_t h0
        cases bl
        · have hq : (decide (xt = 0) == false) = false := by rw [decide_eq_true h0]; rfl
          clear h0
          have HTK2 := Lib.hid (show nmS ((l.take (k + 1)).filter fun x => decide (x.2 = 0) == false) = nmS ((l.take k).filter fun x => decide (x.2 = 0) == false) by rw [HTK.out, hq]; simp)
          clear HTK hq
          go_wp2_with fail
          go_roundw
          case rel => exact ⟨k + 1, m, by omega, by omega, by go_num, Lib.hid (by rw [HTK2.out]; exact HO.out), KB⟩
          case measure => simp [intOf]; omega
        · have hq : (decide (xt = 0) == true) = true := by rw [decide_eq_true h0]; rfl
          clear h0
          have HTK2 := Lib.hid (show nmS ((l.take (k + 1)).filter fun x => decide (x.2 = 0) == true) = nmS ((l.take k).filter fun x => decide (x.2 = 0) == true) ++ [xs] by rw [HTK.out, hq]; rfl)
          go_upto_region 6 with fail
          have NEW := Lib.hid (str_new wr [.string xs] 25)
          have HO5 := Lib.hid (HO.out.alloc (.cells #[.string xs] 25))
          have K5 := Lib.hid (KB.out.alloc KB.out.size (.cells #[.string xs] 25))
          have n11 := Lib.hid (show m + 1 ≤ maxLen by unfold maxLen; omega)
          have n22 := Lib.hid (show (m + 1) * 16 ≤ 140737488355328 by omega)
          have n33 := Lib.hid (show W.heap.size ≤ (wr.alloc (.cells #[.string xs] 25)).heap.size from K5.out.size)
          have oc := Lib.hid (one_str xs)
          clear HO KB r2 HTK hq
          go_wp2_with (at_builtin; refine wpList_append_own _ rfl _ _ 35 rfl W.heap.size 25 i0 (.string ByteArray.empty) 1 16 Try.underlying35 hi0 hz0 hz1 hz2 rfl (by decide) _ _ _ rfl HO5.out ⟨wr.heap.size, 0, none⟩ 1 1 [.string xs] rfl rfl NEW.out oc.out n11.out n22.out n33.out ?_)
          intro v' w6 hown' hgrow _
          have HO6 := Lib.hid hown'
          have K6 := Lib.hid (K5.out.grown hgrow n33.out (fun j hj => (HO5.out.lt j hj).1))
          clear hown' hgrow HO5 K5 NEW r1 x2
          go_wp2_with fail
          go_roundw
          case rel => exact ⟨k + 1, m + 1, by omega, by omega, by go_num, Lib.hid (by rw [HTK2.out, List.map_append]; simpa using HO6.out), K6⟩
          case measure => simp [intOf]; omega
      · obtain ⟨z5, z6⟩ := ne_t h0
        cases bl
        · have hq : (decide (xt = 0) == false) = true := by rw [decide_eq_false h0]; rfl
          clear h0
          have HTK2 := Lib.hid (show nmS ((l.take (k + 1)).filter fun x => decide (x.2 = 0) == false) = nmS ((l.take k).filter fun x => decide (x.2 = 0) == false) ++ [xs] by rw [HTK.out, hq]; rfl)
          go_upto_region 6 with fail
          have NEW := Lib.hid (str_new wr [.string xs] 25)
          have HO5 := Lib.hid (HO.out.alloc (.cells #[.string xs] 25))
          have K5 := Lib.hid (KB.out.alloc KB.out.size (.cells #[.string xs] 25))
          have n11 := Lib.hid (show m + 1 ≤ maxLen by unfold maxLen; omega)
          have n22 := Lib.hid (show (m + 1) * 16 ≤ 140737488355328 by omega)
          have n33 := Lib.hid (show W.heap.size ≤ (wr.alloc (.cells #[.string xs] 25)).heap.size from K5.out.size)
          have oc := Lib.hid (one_str xs)
          clear HO KB r2 HTK hq
          go_wp2_with (at_builtin; refine wpList_append_own _ rfl _ _ 35 rfl W.heap.size 25 i0 (.string ByteArray.empty) 1 16 Try.underlying35 hi0 hz0 hz1 hz2 rfl (by decide) _ _ _ rfl HO5.out ⟨wr.heap.size, 0, none⟩ 1 1 [.string xs] rfl rfl NEW.out oc.out n11.out n22.out n33.out ?_)
          intro v' w6 hown' hgrow _
          have HO6 := Lib.hid hown'
          have K6 := Lib.hid (K5.out.grown hgrow n33.out (fun j hj => (HO5.out.lt j hj).1))
          clear hown' hgrow HO5 K5 NEW r1 x2
          go_wp2_with fail
          go_roundw
          case rel => exact ⟨k + 1, m + 1, by omega, by omega, by go_num, Lib.hid (by rw [HTK2.out, List.map_append]; simpa using HO6.out), K6⟩
          case measure => simp [intOf]; omega
        · have hq : (decide (xt = 0) == true) = false := by rw [decide_eq_false h0]; rfl
          clear h0
          have HTK2 := Lib.hid (show nmS ((l.take (k + 1)).filter fun x => decide (x.2 = 0) == true) = nmS ((l.take k).filter fun x => decide (x.2 = 0) == true) by rw [HTK.out, hq]; simp)
          clear HTK hq
          go_wp2_with fail
          go_roundw
          case rel => exact ⟨k + 1, m, by omega, by omega, by go_num, Lib.hid (by rw [HTK2.out]; exact HO.out), KB⟩
          case measure => simp [intOf]; omega
    · obtain rfl : k = n := by omega
      rw [List.take_of_length_le (by rw [HNN.out]; exact Nat.le_refl _)] at HO
      have HA := Lib.hid (AddrsG.of_owns HO.out)
      have d3 : decide (k < k) = false := decide_eq_false (by omega)
      have d4 : decide ((k : Int) < (k : Int)) = false := decide_eq_false (by omega)
      clear hlt
      go_wp2_with fail
      go_ret
      exact ⟨_, rfl, HA.out.at, gk_call HB.out KB.out⟩
end Go.Proofs.Ytceilgeefegbmaa
