/-
  The document's 'Active'. A contract over the translated program.
-/
import Derived.Test.YtolmkflhddlcnaaTaO
import Derived.Test.YtolmkflhddlcnaaTaL
namespace Go.Proofs.Ytolmkflhddlcnaa
open Go.RowKit
set_option linter.unusedVariables false
set_option linter.unusedSimpArgs false

set_option maxHeartbeats 8000000 in
set_option maxRecDepth 100000 in
theorem ractive_c {w : World} {vi vl : Value} {ids : List Int} {L : List Lk} (hi : RowsAt 1 cellsU64 w vi ids) (hL : RowsAt 5 cellsLk w vl L) (hM : MayT ids L) :
    Calls Try.prog 18 #[vi, vl] w fun r w' => ∃ u, r = .returned u ∧ IntsAt w' u (actN (restL ids L) L.length) ∧ Below w.heap.size w w' := by
  have RC := Lib.hid (rrest_c hi hL hM)
  have l40 := hM.l40
  obtain ⟨i0, hi0, hz0, hz1, hz2⟩ := info_parts info_I
  clear hi hL hM
  go_enter Try.func18, Try.ntmps18
  go_wp2_with fail
  ((with_reducible refine RC.out.mono ?_); rintro e w1 ⟨u, rfl, hu, k1⟩)
  replace hu := rowsAt_own (by decide) pr_len hu
  have K1 := Lib.hid k1
  have HLN := Lib.hid (show (restL ids L).length = L.length by simp [restL])
  obtain ⟨X, hX⟩ : ∃ X, X = restL ids L := ⟨_, rfl⟩
  have HXX := Lib.hid hX
  rw [← hX] at hu HLN
  obtain ⟨pr, capr, br, offr, rfl, hpr, hcr⟩ := hu
  have HPR := Lib.hid hpr
  have HCR := Lib.hid hcr
  obtain ⟨n, hn⟩ : ∃ n, n = X.length := ⟨_, rfl⟩
  have HNN := Lib.hid hn
  have hn40 : n ≤ 40 := by rw [hn, HLN.out]; exact l40
  rw [← hn]
  clear k1 RC hpr hcr hX hn
  go_wp2_with fail
  go_loopw [6, 7] (fun s6 i wr => ∃ k : Nat, k ≤ n ∧ i = .int .i64 k ∧ Hid (wr.ownsRow w1.heap.size 3 1 s6 (actN X k).length ((actN X k).map (Value.int .i64))) ∧ Hid (Below w1.heap.size w1 wr)) (fun _ i _ => n - (intOf i).toNat)
  case atStart => exact ⟨0, Nat.zero_le _, rfl, Lib.hid (World.ownsRow_nil _ _ _ _), Lib.hid (Below.refl _ _)⟩
  case round =>
    obtain ⟨k, hk, rfl, HO, K2⟩ := hrel
    have KB := Lib.hid (K1.out.trans (K2.out.mono K1.out.size))
    by_cases hlt : k < n
    · obtain ⟨x, hx⟩ : ∃ x, X[k]? = some x := ⟨_, List.getElem?_eq_getElem (by rw [← HNN.out]; exact hlt)⟩
      have hneX : X ≠ [] := by rintro rfl; simp at hx
      obtain rfl := HPR.out hneX
      obtain ⟨ra, rb⟩ := x
      have x0 : wr.cell? ⟨br, offr + k * 2, none⟩ = some (.int .i64 ra) := gcell_below K2.out (HCR.out k _ hx 0 _ rfl)
      have x1 : wr.cell? ⟨br, offr + k * 2 + 1, none⟩ = some (.int .i64 rb) := gcell_below K2.out (HCR.out k _ hx 1 _ rfl)
      have HOK := Lib.hid (show okR X k = (ra != 3 && rb != 3) by unfold okR; rw [hx])
      have d1 : decide (k < n) = true := decide_eq_true hlt
      have d2 : decide ((k : Int) < (n : Int)) = true := decide_eq_true (by omega)
      have d3 : decide (n ≤ k) = false := decide_eq_false (by omega)
      have d4 : decide (0 ≤ (k : Int)) = true := decide_eq_true (by omega)
      clear hx hneX
      by_cases ha : ra = 3
      · obtain ⟨a1, a2⟩ := eq_t ha
        have NOK := Lib.hid (show okR X k = false by rw [HOK.out]; simp [ha])
        have HAN := Lib.hid (actN_no NOK.out)
        have a3 : (ra != 3) = false := by simp [ha]
        clear ha
        go_wp2_with fail
        go_roundw
        case rel => exact ⟨k + 1, by omega, by go_num, Lib.hid (by rw [HAN.out]; exact HO.out), K2⟩
        case measure => simp [intOf]; omega
      · obtain ⟨a1, a2⟩ := ne_t ha
        have a3 : (ra != 3) = true := by simp [ha]
        by_cases hb : rb = 3
        · obtain ⟨b1, b2⟩ := eq_t hb
          have b3 : (rb != 3) = false := by simp [hb]
          have NOK := Lib.hid (show okR X k = false by rw [HOK.out]; simp [hb])
          have HAN := Lib.hid (actN_no NOK.out)
          clear ha hb
          go_wp2_with fail
          go_roundw
          case rel => exact ⟨k + 1, by omega, by go_num, Lib.hid (by rw [HAN.out]; exact HO.out), K2⟩
          case measure => simp [intOf]; omega
        · obtain ⟨b1, b2⟩ := ne_t hb
          have b3 : (rb != 3) = true := by simp [hb]
          have YOK := Lib.hid (show okR X k = true by rw [HOK.out, a3, b3]; rfl)
          have HAN := Lib.hid (show (actN X (k + 1)).map (Value.int .i64) = (actN X k).map (Value.int .i64) ++ [.int .i64 (k : Int)] by rw [actN_yes YOK.out, map_snoc])
          have HAL := Lib.hid (show (actN X (k + 1)).length = (actN X k).length + 1 by rw [actN_yes YOK.out]; simp)
          clear ha hb
          have NEW := Lib.hid (cells_new wr [.int .i64 (k : Int)] 3)
          have HO5 := Lib.hid ((HO.out).alloc (.cells #[.int .i64 (k : Int)] 3))
          have K5 := Lib.hid ((K2.out).alloc (K2.out).size (.cells #[.int .i64 (k : Int)] 3))
          have n11 := Lib.hid (show (actN X k).length + 1 ≤ maxLen by unfold maxLen; have := actN_len X k; omega)
          have n22 := Lib.hid (show ((actN X k).length + 1) * 8 ≤ 140737488355328 by have := actN_len X k; omega)
          have n33 := Lib.hid (show w1.heap.size ≤ (wr.alloc (.cells #[.int .i64 (k : Int)] 3)).heap.size from K5.out.size)
          have oc := Lib.hid (one_int (k : Int))
          go_wp2_with (at_builtin; refine wpList_append_own _ rfl _ _ 33 rfl w1.heap.size 3 i0 (.int .i64 0) 1 8 Try.underlying33 hi0 hz0 hz1 hz2 rfl (by decide) _ _ _ rfl HO5.out ⟨wr.heap.size, 0, none⟩ 1 1 [.int .i64 (k : Int)] rfl rfl NEW.out oc.out n11.out n22.out n33.out ?_)
          intro v' w6 hown' hgrow _
          have HO6 := Lib.hid hown'
          have K6 := Lib.hid (K5.out.grown hgrow n33.out (fun j hj => (HO5.out.lt j hj).1))
          clear hown' hgrow HO5 K5 NEW
          go_wp2_with fail
          go_roundw
          case rel => exact ⟨k + 1, by omega, by go_num, Lib.hid (by rw [HAN.out, HAL.out]; exact HO6.out), K6⟩
          case measure => simp [intOf]; omega
    · obtain rfl : k = n := by omega
      have HI := Lib.hid (IntsAt.of_owns HO.out)
      rw [HNN.out, HLN.out, HXX.out] at HI
      clear hlt
      go_wp2_with fail
      go_ret
      exact ⟨_, rfl, HI.out, KB.out⟩
end Go.Proofs.Ytolmkflhddlcnaa
