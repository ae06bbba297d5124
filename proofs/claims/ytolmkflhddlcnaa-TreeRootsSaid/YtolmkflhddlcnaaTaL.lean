/-
  'tree.Active': the links that are used. A contract over the translated program.
-/
import Derived.Test.YtolmkflhddlcnaaTaK
namespace Go.Proofs.Ytolmkflhddlcnaa
open Go.RowKit
set_option linter.unusedVariables false
set_option linter.unusedSimpArgs false

/-- Which of the links are active, by their roles: of the first n. -/
def okR (r : List (Int × Int)) (i : Nat) : Bool := match r[i]? with
  | some p => p.1 != 3 && p.2 != 3
  | none => false
def actN (r : List (Int × Int)) (n : Nat) : List Int := ((List.range n).filter (okR r)).map fun i : Nat => (i : Int)
theorem actN_len (r : List (Int × Int)) (n : Nat) : (actN r n).length ≤ n := by
  unfold actN
  rw [List.length_map]
  exact Nat.le_trans (List.length_filter_le _ _) (by simp)
theorem actN_yes {r : List (Int × Int)} {k : Nat} (h : okR r k = true) : actN r (k + 1) = actN r k ++ [(k : Int)] := by
  unfold actN
  rw [List.range_succ, List.filter_append, List.map_append]
  simp [h]
theorem actN_no {r : List (Int × Int)} {k : Nat} (h : okR r k = false) : actN r (k + 1) = actN r k := by
  unfold actN
  rw [List.range_succ, List.filter_append, List.map_append]
  simp [h]
/-- WHAT Active ANSWERS. -/
def ActPost (ids : List Int) (L : List Lk) (w : World) (e : Ending) (w' : World) : Prop :=
  ((MayT ids L ∧ ∃ u, e = .returned (.tuple #[u, .int .i64 0]) ∧ IntsAt w' u (actN (restL ids L) L.length)) ∨ (¬ MayT ids L ∧ e = .returned (.tuple #[.slice none 0 0, .int .i64 3]))) ∧ Below w.heap.size w w'
theorem act_no {ids : List Int} {L : List Lk} {w w' : World} (h : ¬ MayT ids L) (k : Below w.heap.size w w') : ActPost ids L w (.returned (.tuple #[.slice none 0 0, .int .i64 3])) w' := ⟨Or.inr ⟨h, rfl⟩, k⟩
theorem act_yes {ids : List Int} {L : List Lk} {w w' : World} {u : Value} (h : MayT ids L) (hu : IntsAt w' u (actN (restL ids L) L.length)) (k : Below w.heap.size w w') : ActPost ids L w (.returned (.tuple #[u, .int .i64 0])) w' := ⟨Or.inl ⟨h, u, rfl, hu⟩, k⟩
theorem map_snoc (l : List Int) (k : Int) : (l ++ [k]).map (Value.int .i64) = l.map (Value.int .i64) ++ [.int .i64 k] := by simp

set_option maxHeartbeats 8000000 in
set_option maxRecDepth 100000 in
theorem active_c (vi vl : Value) (ids : List Int) (L : List Lk) (w : World) (hi : RowsAt 1 cellsU64 w vi ids) (hc : CapOk vi) (hL : RowsAt 5 cellsLk w vl L) (qi : ids.length ≤ 9223372036854775807) (ql : L.length ≤ 9223372036854775807) : Calls Try.prog 14 #[vi, vl] w (ActPost ids L w) := by
  have RC := Lib.hid (rest_c vi vl ids L w hi hc hL qi ql)
  obtain ⟨i0, hi0, hz0, hz1, hz2⟩ := info_parts info_I
  clear hi hc hL
  go_enter Try.func14, Try.ntmps14
  go_wp2_with fail
  ((with_reducible refine RC.out.mono ?_); rintro e w1 ⟨(⟨hM, u, rfl, hu, -⟩ | ⟨hM, rfl⟩), k1⟩)
  · have K1 := Lib.hid k1
    have HM := Lib.hid hM
    have l40 := hM.l40
    have HLN := Lib.hid (show (restL ids L).length = L.length by simp [restL])
    obtain ⟨X, hX⟩ : ∃ X, X = restL ids L := ⟨_, rfl⟩
    have HXX := Lib.hid hX
    rw [← hX] at hu HLN
    obtain ⟨pr, capr, br, offr, rfl, hpr, hcr⟩ := hu
    have HPR := Lib.hid hpr
    have HCR := Lib.hid hcr
    obtain ⟨n, hn⟩ : ∃ n, n = X.length := ⟨_, rfl⟩
    have HNN := Lib.hid hn
    have hn40 : n ≤ 40 := by rw [hn, HLN.out]; exact l40
    rw [← hn]
    clear hM k1 RC hpr hcr hX hn
    go_wp2_with fail
    go_loopw [8, 9, 10, 22] (fun s8 _ _ i wr => ∃ k : Nat, k ≤ n ∧ i = .int .i64 k ∧ Hid (wr.ownsRow w1.heap.size 3 1 s8 (actN X k).length ((actN X k).map (Value.int .i64))) ∧ Hid (Below w1.heap.size w1 wr)) (fun _ _ _ i _ => n - (intOf i).toNat)
    case atStart => exact ⟨0, Nat.zero_le _, rfl, Lib.hid (World.ownsRow_nil _ _ _ _), Lib.hid (Below.refl _ _)⟩
    case round =>
      obtain ⟨k, hk, rfl, HO, K2⟩ := hrel
      have KB := Lib.hid (K1.out.trans (K2.out.mono K1.out.size))
      by_cases hlt : k < n
      · obtain ⟨x, hx⟩ : ∃ x, X[k]? = some x := ⟨_, List.getElem?_eq_getElem (by rw [← HNN.out]; exact hlt)⟩
        have hneX : X ≠ [] := by rintro rfl; simp at hx
        obtain rfl := HPR.out hneX
        obtain ⟨ra, rb⟩ := x
        have x0 : wr.cell? ⟨br, offr + k * 2, none⟩ = some (.int .i64 ra) := gcell_below K2.out (HCR.out k _ hx 0 _ rfl)
        have x1 : wr.cell? ⟨br, offr + k * 2 + 1, none⟩ = some (.int .i64 rb) := gcell_below K2.out (HCR.out k _ hx 1 _ rfl)
        have HOK := Lib.hid (show okR X k = (ra != 3 && rb != 3) by unfold okR; rw [hx])
        have d1 : decide (k < n) = true := decide_eq_true hlt
        have d2 : decide ((k : Int) < (n : Int)) = true := decide_eq_true (by omega)
        have d3 : decide (n ≤ k) = false := decide_eq_false (by omega)
        have d4 : decide (0 ≤ (k : Int)) = true := decide_eq_true (by omega)
        clear hx hneX
        go_upto_region 8 with fail
        have HE1 := Lib.hid (heap_new wr (.cells #[.int .i64 ra, .int .i64 rb] 38))
        have HO1 := Lib.hid (HO.out.alloc (.cells #[.int .i64 ra, .int .i64 rb] 38))
        have KB1 := Lib.hid (K2.out.alloc K2.out.size (.cells #[.int .i64 ra, .int .i64 rb] 38))
        clear x0 x1 d1 d2 d3 d4 HO KB K2
        generalize wr.alloc (.cells #[.int .i64 ra, .int .i64 rb] 38) = W1 at HE1 HO1 KB1 ⊢
        generalize wr.heap.size = eb at HE1 ⊢
        have HR := Lib.hid (show RowsAt 1 cellsI64 W1 (.slice (some ⟨eb, 0, none⟩) 2 2) [ra, rb] from ⟨_, 2, eb, 0, rfl, fun _ => rfl, fun j x hj i u hu => by
          have hi1 : i = 0 := by have := (List.getElem?_eq_some_iff.1 hu).1; simp [cellsI64] at this; omega
          subst hi1
          rcases j with _ | _ | j
          · simp at hj; subst hj; simp [cellsI64] at hu; subst hu; exact cell_of_block HE1.out rfl
          · simp at hj; subst hj; simp [cellsI64] at hu; subst hu; exact cell_of_block HE1.out rfl
          · simp at hj⟩)
        have CC := Lib.hid (containsI_c (.slice (some ⟨eb, 0, none⟩) 2 2) [ra, rb] 3 W1 (by simp) HR.out)
        have e0 : W1.cell? ⟨eb, 0, none⟩ = some (.int .i64 ra) := cell_of_block HE1.out rfl
        have lte : eb < W1.heap.size := lt_of_block HE1.out
        by_cases hb : (3 : Int) ∈ [ra, rb]
        · have NOK := Lib.hid (show okR X k = false by rw [HOK.out]; simp at hb; rcases hb with h | h <;> simp [← h])
          have HAN := Lib.hid (actN_no NOK.out)
          rw [decide_eq_true hb] at CC
          clear hb
          go_wp2_with fail
          ((with_reducible refine CC.out.mono ?_); rintro e w3 ⟨rfl, rfl⟩)
          go_wp2_with fail
          go_roundw
          case rel => exact ⟨k + 1, by omega, by go_num, Lib.hid (by rw [HAN.out]; exact HO1.out), KB1⟩
          case measure => simp [intOf]; omega
        · have YOK := Lib.hid (show okR X k = true by rw [HOK.out]; simp at hb; simp; exact ⟨fun h => hb.1 h.symm, fun h => hb.2 h.symm⟩)
          have HAN := Lib.hid (show (actN X (k + 1)).map (Value.int .i64) = (actN X k).map (Value.int .i64) ++ [.int .i64 (k : Int)] by rw [actN_yes YOK.out, map_snoc])
          have HAL := Lib.hid (show (actN X (k + 1)).length = (actN X k).length + 1 by rw [actN_yes YOK.out]; simp)
          rw [decide_eq_false hb] at CC
          clear hb
          have NEW := Lib.hid (cells_new W1 [.int .i64 (k : Int)] 3)
          have HO5 := Lib.hid ((HO1.out).alloc (.cells #[.int .i64 (k : Int)] 3))
          have K5 := Lib.hid ((KB1.out).alloc (KB1.out).size (.cells #[.int .i64 (k : Int)] 3))
          have n11 := Lib.hid (show (actN X k).length + 1 ≤ maxLen by unfold maxLen; have := actN_len X k; omega)
          have n22 := Lib.hid (show ((actN X k).length + 1) * 8 ≤ 140737488355328 by have := actN_len X k; omega)
          have n33 := Lib.hid (show w1.heap.size ≤ (W1.alloc (.cells #[.int .i64 (k : Int)] 3)).heap.size from K5.out.size)
          have oc := Lib.hid (one_int (k : Int))
          clear HO1 KB1
          go_wp2_with fail
          ((with_reducible refine CC.out.mono ?_); rintro e w3 ⟨rfl, rfl⟩)
          go_wp2_with (at_builtin; refine wpList_append_own _ rfl _ _ 33 rfl w1.heap.size 3 i0 (.int .i64 0) 1 8 Try.underlying33 hi0 hz0 hz1 hz2 rfl (by decide) _ _ _ rfl HO5.out ⟨W1.heap.size, 0, none⟩ 1 1 [.int .i64 (k : Int)] rfl rfl NEW.out oc.out n11.out n22.out n33.out ?_)
          intro v' w6 hown' hgrow _
          have HO6 := Lib.hid hown'
          have K6 := Lib.hid (K5.out.grown hgrow n33.out (fun j hj => (HO5.out.lt j hj).1))
          clear hown' hgrow HO5 K5 NEW
          go_wp2_with fail
          go_roundw
          case rel => exact ⟨k + 1, by omega, by go_num, Lib.hid (by rw [HAN.out, HAL.out]; exact HO6.out), K6⟩
          case measure => simp [intOf]; omega
      · obtain rfl : k = n := by omega
        have HI := Lib.hid (IntsAt.of_owns HO.out)
        rw [HNN.out, HLN.out, HXX.out] at HI
        clear hlt
        go_wp2_with fail
        go_ret2
        exact act_yes HM.out HI.out KB.out
  · have K1 := Lib.hid k1
    have HN := Lib.hid hM
    clear k1 hM RC
    go_wp2_with fail
    go_ret2
    exact act_no HN.out K1.out
end Go.Proofs.Ytolmkflhddlcnaa
