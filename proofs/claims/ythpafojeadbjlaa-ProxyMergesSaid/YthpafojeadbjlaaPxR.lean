/-
  GrX, GrY, GrAA in one text.
-/
import Derived.Test.YthpafojeadbjlaaGrC
import Derived.Test.YthpafojeadbjlaaGrB
namespace Go.Proofs.Ythpafojeadbjlaa
open Go Go.Maps Go.WideMaps
open Go.RowKit
set_option linter.unusedVariables false
set_option linter.unusedSimpArgs false

theorem gk_call {W w w' : World} (h : Below W.heap.size W w) (k : Below w.heap.size w w') : Below W.heap.size W w' := h.trans (k.mono h.size)

theorem names_take {l : List Tm} {k : Nat} {x : Tm} (q : Tm → Bool) (h : l[k]? = some x) : nmS ((l.take (k + 1)).filter q) = nmS ((l.take k).filter q) ++ (if q x then [x.1] else []) := by
  rw [List.take_succ_eq_append_getElem (List.getElem?_eq_some_iff.1 h).1, (List.getElem?_eq_some_iff.1 h).2, List.filter_append]
  unfold nmS
  rw [List.map_append]
  congr 1
  simp only [List.filter_cons, List.filter_nil]
  split <;> rfl
set_option maxHeartbeats 8000000 in
set_option maxRecDepth 100000 in
theorem names17_c (ex : Bool) (tm : Int) (v : Value) (l : List Tm) (bl : Bool) (w : World) (hl : l.length ≤ 1000000) (h1 : RowsAt 2 cellsTm w v l) :
    Calls Try.prog 31 #[.agg #[.bool ex, .int .i64 tm, v], .bool bl] w fun e w' => ∃ u, e = .returned u ∧ AddrsAt w' u (nmS (l.filter fun x => decide (x.2 = 0) == bl)) ∧ Below w.heap.size w w' := by
  obtain ⟨p, cap, rfl⟩ := h1.slice
  obtain ⟨i0, hi0, hz0, hz1, hz2⟩ := info_parts info_Ad
  obtain ⟨n, hn⟩ : ∃ n, n = l.length := ⟨_, rfl⟩
  have HNN := Lib.hid hn
  rw [← hn] at h1 hl ⊢
  have B0 := (Below.refl w.heap.size w).alloc (Nat.le_refl _) (.cells #[.bool ex, .int .i64 tm, .slice p n cap] 32)
  have K1 := Lib.hid (h1.below B0)
  have HB := Lib.hid B0
  have E1 := Lib.hid (heap_new w (.cells #[.bool ex, .int .i64 tm, .slice p n cap] 32))
  clear B0 h1 hn
  go_enter Try.func31, Try.ntmps31
  go_upto_region 1 with fail
  generalize w.alloc (.cells #[.bool ex, .int .i64 tm, .slice p n cap] 32) = W at K1 HB E1 ⊢
  have hwb := lt_of_block E1.out
  go_wp2_with fail
  go_loopw [5, 6] (fun s5 i wr => ∃ k m : Nat, k ≤ n ∧ m ≤ k ∧ i = .int .i64 k ∧ Hid (wr.ownsRow W.heap.size 35 1 s5 m ((nmS ((l.take k).filter fun x => decide (x.2 = 0) == bl)).map Value.string)) ∧ Hid (Below W.heap.size W wr)) (fun _ i _ => n - (intOf i).toNat)
  case atStart => exact ⟨0, 0, Nat.zero_le _, Nat.le_refl _, rfl, Lib.hid (World.ownsRow_nil _ _ _ _), Lib.hid (Below.refl _ _)⟩
  case round =>
    obtain ⟨k, m, hk, hm, rfl, HO, KB⟩ := hrel
    have x2 : wr.cell? ⟨w.heap.size, 2, none⟩ = some (.slice p n cap) := cell_of_block (below_block KB.out hwb E1.out) rfl
    by_cases hlt : k < n
    · obtain ⟨x, hx⟩ : ∃ x, l[k]? = some x := ⟨_, List.getElem?_eq_getElem (by rw [← HNN.out]; exact hlt)⟩
      have hne : l ≠ [] := by rintro rfl; simp at hx
      obtain ⟨q1, d1', b1, o1, hv1, hp1, hc1⟩ := K1.out
      simp only [Value.slice.injEq] at hv1
      obtain ⟨rfl, -, rfl⟩ := hv1
      obtain rfl := hp1 hne
      have HTK := Lib.hid (names_take (fun x => decide (x.2 = 0) == bl) hx)
      have r1 : wr.cell? ⟨b1, o1 + k * 2, none⟩ = some (.string x.1) := cell_below KB.out (hc1 k _ hx 0 _ rfl)
      have r2 : wr.cell? ⟨b1, o1 + k * 2 + 1, none⟩ = some (.int .i64 x.2) := cell_below KB.out (hc1 k _ hx 1 _ rfl)
      obtain ⟨xs, xt⟩ := x
      dsimp only at r1 r2 HTK
      have d3 : decide (k < n) = true := decide_eq_true hlt
      have d4 : decide ((k : Int) < (n : Int)) = true := decide_eq_true (by omega)
      have d5 : decide (0 ≤ (k : Int)) = true := decide_eq_true (by omega)
      clear hx hne hc1 hp1
      by_cases h0 : xt = 0
      · obtain ⟨z5, z6⟩ := eq_t h0
        cases bl
        · have hq : (decide (xt = 0) == false) = false := by rw [decide_eq_true h0]; rfl
          clear h0
          have HTK2 := Lib.hid (show nmS ((l.take (k + 1)).filter fun x => decide (x.2 = 0) == false) = nmS ((l.take k).filter fun x => decide (x.2 = 0) == false) by rw [HTK.out, hq]; simp)
          clear HTK hq
          go_wp2_with fail
          go_roundw
          case rel => exact ⟨k + 1, m, by omega, by omega, by go_num, Lib.hid (by rw [HTK2.out]; exact HO.out), KB⟩
          case measure => simp [intOf]; omega
        · have hq : (decide (xt = 0) == true) = true := by rw [decide_eq_true h0]; rfl
          clear h0
          have HTK2 := Lib.hid (show nmS ((l.take (k + 1)).filter fun x => decide (x.2 = 0) == true) = nmS ((l.take k).filter fun x => decide (x.2 = 0) == true) ++ [xs] by rw [HTK.out, hq]; rfl)
          go_upto_region 6 with fail
          have NEW := Lib.hid (str_new wr [.string xs] 35)
          have HO5 := Lib.hid (HO.out.alloc (.cells #[.string xs] 35))
          have K5 := Lib.hid (KB.out.alloc KB.out.size (.cells #[.string xs] 35))
          have n11 := Lib.hid (show m + 1 ≤ maxLen by unfold maxLen; omega)
          have n22 := Lib.hid (show (m + 1) * 16 ≤ 140737488355328 by omega)
          have n33 := Lib.hid (show W.heap.size ≤ (wr.alloc (.cells #[.string xs] 35)).heap.size from K5.out.size)
          have oc := Lib.hid (one_str xs)
          clear HO KB r2 HTK hq
          go_wp2_with (at_builtin; refine wpList_append_own _ rfl _ _ 26 rfl W.heap.size 35 i0 (.string ByteArray.empty) 1 16 Try.underlying26 hi0 hz0 hz1 hz2 rfl (by decide) _ _ _ rfl HO5.out ⟨wr.heap.size, 0, none⟩ 1 1 [.string xs] rfl rfl NEW.out oc.out n11.out n22.out n33.out ?_)
          intro v' w6 hown' hgrow _
          have HO6 := Lib.hid hown'
          have K6 := Lib.hid (K5.out.grown hgrow n33.out (fun j hj => (HO5.out.lt j hj).1))
          clear hown' hgrow HO5 K5 NEW r1 x2
          go_wp2_with fail
          go_roundw
          case rel => exact ⟨k + 1, m + 1, by omega, by omega, by go_num, Lib.hid (by rw [HTK2.out, List.map_append]; simpa using HO6.out), K6⟩
          case measure => simp [intOf]; omega
      · obtain ⟨z5, z6⟩ := ne_t h0
        cases bl
        · have hq : (decide (xt = 0) == false) = true := by rw [decide_eq_false h0]; rfl
          clear h0
          have HTK2 := Lib.hid (show nmS ((l.take (k + 1)).filter fun x => decide (x.2 = 0) == false) = nmS ((l.take k).filter fun x => decide (x.2 = 0) == false) ++ [xs] by rw [HTK.out, hq]; rfl)
          go_upto_region 6 with fail
          have NEW := Lib.hid (str_new wr [.string xs] 35)
          have HO5 := Lib.hid (HO.out.alloc (.cells #[.string xs] 35))
          have K5 := Lib.hid (KB.out.alloc KB.out.size (.cells #[.string xs] 35))
          have n11 := Lib.hid (show m + 1 ≤ maxLen by unfold maxLen; omega)
          have n22 := Lib.hid (show (m + 1) * 16 ≤ 140737488355328 by omega)
          have n33 := Lib.hid (show W.heap.size ≤ (wr.alloc (.cells #[.string xs] 35)).heap.size from K5.out.size)
          have oc := Lib.hid (one_str xs)
          clear HO KB r2 HTK hq
          go_wp2_with (at_builtin; refine wpList_append_own _ rfl _ _ 26 rfl W.heap.size 35 i0 (.string ByteArray.empty) 1 16 Try.underlying26 hi0 hz0 hz1 hz2 rfl (by decide) _ _ _ rfl HO5.out ⟨wr.heap.size, 0, none⟩ 1 1 [.string xs] rfl rfl NEW.out oc.out n11.out n22.out n33.out ?_)
          intro v' w6 hown' hgrow _
          have HO6 := Lib.hid hown'
          have K6 := Lib.hid (K5.out.grown hgrow n33.out (fun j hj => (HO5.out.lt j hj).1))
          clear hown' hgrow HO5 K5 NEW r1 x2
          go_wp2_with fail
          go_roundw
          case rel => exact ⟨k + 1, m + 1, by omega, by omega, by go_num, Lib.hid (by rw [HTK2.out, List.map_append]; simpa using HO6.out), K6⟩
          case measure => simp [intOf]; omega
        · have hq : (decide (xt = 0) == true) = false := by rw [decide_eq_false h0]; rfl
          clear h0
          have HTK2 := Lib.hid (show nmS ((l.take (k + 1)).filter fun x => decide (x.2 = 0) == true) = nmS ((l.take k).filter fun x => decide (x.2 = 0) == true) by rw [HTK.out, hq]; simp)
          clear HTK hq
          go_wp2_with fail
          go_roundw
          case rel => exact ⟨k + 1, m, by omega, by omega, by go_num, Lib.hid (by rw [HTK2.out]; exact HO.out), KB⟩
          case measure => simp [intOf]; omega
    · obtain rfl : k = n := by omega
      rw [List.take_of_length_le (by rw [HNN.out]; exact Nat.le_refl _)] at HO
      have HA := Lib.hid (AddrsG.of_owns HO.out)
      have d3 : decide (k < k) = false := decide_eq_false (by omega)
      have d4 : decide ((k : Int) < (k : Int)) = false := decide_eq_false (by omega)
      clear hlt
      go_wp2_with fail
      go_ret
      exact ⟨_, rfl, HA.out.at, gk_call HB.out KB.out⟩

/-- Sources one behind the other, each as it may be. -/
def ckF (ex : Bool) : Option ByteArray → List Tm → Bool
  | _, [] => true
  | none, x :: r => okX ex x && ckF ex (some x.1) r
  | some p, x :: r => okX ex x && (sl p x.1 && ckF ex (some x.1) r)
theorem ck_some (ex : Bool) : ∀ (l : List Tm) (p : ByteArray), ckF ex (some p) l = (l.all (okX ex) && upB (p :: nmS l))
  | [], p => by simp [ckF, upB, nmS]
  | x :: r, p => by
    unfold ckF
    rw [ck_some ex r x.1]
    show _ = (((x :: r).all (okX ex)) && (sl p x.1 && upB (x.1 :: nmS r)))
    rw [List.all_cons]
    cases okX ex x <;> cases sl p x.1 <;> cases r.all (okX ex) <;> simp
theorem ck_none (ex : Bool) (l : List Tm) : ckF ex none l = (l.all (okX ex) && upB (nmS l)) := by
  rcases l with _ | ⟨x, r⟩
  · simp [ckF, upB, nmS]
  · unfold ckF
    rw [ck_some]
    show _ = (((x :: r).all (okX ex)) && upB (x.1 :: nmS r))
    rw [List.all_cons, Bool.and_assoc]
/-- The name ahead of place k. -/
def prevN (l : List Tm) (k : Nat) : Option ByteArray := if k = 0 then none else (l[k - 1]?).map fun x => x.1
theorem ck_step {ex : Bool} {l : List Tm} {k : Nat} {x : Tm} (h : l[k]? = some x) : ckF ex (prevN l k) (l.drop k) = (okX ex x && ((match prevN l k with | none => true | some p => sl p x.1) && ckF ex (prevN l (k + 1)) (l.drop (k + 1)))) := by
  obtain ⟨hk, hx⟩ := List.getElem?_eq_some_iff.1 h
  have e : prevN l (k + 1) = some x.1 := by
    unfold prevN
    rw [if_neg (by omega)]
    show (l[k]?).map _ = _
    rw [h]
    rfl
  rw [List.drop_eq_getElem_cons hk, hx, e]
  rcases prevN l k with _ | p
  · simp [ckF]
  · rfl
theorem okS_ck (ex : Bool) (tm : Int) (l : List Tm) : okS ⟨ex, tm, l⟩ = (decide (l.length ≤ 60) && decide (0 ≤ tm) && (ex == decide (0 < tm)) && ckF ex none l) := by
  rw [ck_none]
  unfold okS
  simp only [Bool.and_assoc]

set_option maxHeartbeats 8000000 in
set_option maxRecDepth 100000 in
theorem rchk17_c (ex : Bool) (tm : Int) (v : Value) (l : List Tm) (w : World) (hl : l.length ≤ 1000000) (h1 : RowsAt 2 cellsTm w v l) :
    Calls Try.prog 51 #[.agg #[.bool ex, .int .i64 tm, v]] w fun e w' => e = .returned (.int .i64 (chkS ⟨ex, tm, l⟩)) ∧ Below w.heap.size w w' := by
  obtain ⟨p, cap, rfl⟩ := h1.slice
  have HV := Lib.hid (show chkS ⟨ex, tm, l⟩ = if (decide (l.length ≤ 60) && decide (0 ≤ tm) && (ex == decide (0 < tm)) && ckF ex none l) = true then 0 else 3 by unfold chkS; rw [okS_ck])
  generalize chkS ⟨ex, tm, l⟩ = cv at HV ⊢
  obtain ⟨n, hn⟩ : ∃ n, n = l.length := ⟨_, rfl⟩
  have HNN := Lib.hid hn
  rw [← hn] at h1 hl HV ⊢
  have B0 := (Below.refl w.heap.size w).alloc (Nat.le_refl _) (.cells #[.bool ex, .int .i64 tm, .slice p n cap] 32)
  have K1 := Lib.hid (h1.below B0)
  have HB := Lib.hid B0
  have E1 := Lib.hid (heap_new w (.cells #[.bool ex, .int .i64 tm, .slice p n cap] 32))
  clear B0 h1 hn
  by_cases c1 : 60 < n
  · have V := Lib.hid (show cv = 3 by rw [HV.out, decide_eq_false (show ¬ n ≤ 60 by omega)]; rfl)
    have d1 : decide ((60 : Int) < (n : Int)) = true := decide_eq_true (by omega)
    clear c1 HV
    go_enter Try.func51, Try.ntmps51
    go_upto_region 1 with fail
    generalize w.alloc (.cells #[.bool ex, .int .i64 tm, .slice p n cap] 32) = W at K1 HB E1 ⊢
    have x0 : W.cell? ⟨w.heap.size, 0, none⟩ = some (.bool ex) := cell_of_block E1.out rfl
    have x1 : W.cell? ⟨w.heap.size, 1, none⟩ = some (.int .i64 tm) := cell_of_block E1.out rfl
    have x2 : W.cell? ⟨w.heap.size, 2, none⟩ = some (.slice p n cap) := cell_of_block E1.out rfl
    go_wp2_with fail
    go_ret
    exact ⟨by rw [V.out]; rfl, HB.out⟩
  · have d1 : decide ((60 : Int) < (n : Int)) = false := decide_eq_false (by omega)
    have hn60 : decide (n ≤ 60) = true := decide_eq_true (by omega)
    by_cases c2 : ex = decide (1 ≤ tm)
    · by_cases c3 : ex = false ∧ tm ≠ 0
      · obtain ⟨rfl, c3⟩ := c3
        have V := Lib.hid (show cv = 3 by
          have h2 : ¬ (1 ≤ tm) := by simpa using c2.symm
          rw [HV.out, decide_eq_false (show ¬ 0 ≤ tm by omega)]
          simp)
        have d2 : decide (1 ≤ tm) = false := c2.symm
        obtain ⟨e5, e6⟩ := ne_t c3
        clear c1 c2 c3 HV
        go_enter Try.func51, Try.ntmps51
        go_upto_region 1 with fail
        generalize w.alloc (.cells #[.bool false, .int .i64 tm, .slice p n cap] 32) = W at K1 HB E1 ⊢
        have x0 : W.cell? ⟨w.heap.size, 0, none⟩ = some (.bool false) := cell_of_block E1.out rfl
        have x1 : W.cell? ⟨w.heap.size, 1, none⟩ = some (.int .i64 tm) := cell_of_block E1.out rfl
        have x2 : W.cell? ⟨w.heap.size, 2, none⟩ = some (.slice p n cap) := cell_of_block E1.out rfl
        go_wp2_with fail
        go_ret
        exact ⟨by rw [V.out]; rfl, HB.out⟩
      · have V0 := Lib.hid (show cv = if ckF ex none l = true then 0 else 3 by
          have h0 : 0 ≤ tm ∧ decide (0 < tm) = decide (1 ≤ tm) := by
            refine ⟨?_, decide_eq_decide.2 (by omega)⟩
            rcases Int.lt_or_le tm 0 with k | k
            · exfalso
              refine c3 ⟨?_, by omega⟩
              rw [c2, decide_eq_false (by omega)]
            · exact k
          rw [HV.out, hn60, decide_eq_true h0.1, h0.2, ← c2]
          simp)
        clear HV c1 hn60
        cases ex
        · have d2 : decide (1 ≤ tm) = false := c2.symm
          have htm : tm = 0 := by
            rcases Int.lt_trichotomy tm 0 with k | k | k
            · exact absurd ⟨rfl, by omega⟩ c3
            · exact k
            · exact absurd ⟨rfl, by omega⟩ c3
          obtain ⟨e5, e6⟩ := eq_t htm
          clear c2 c3 htm
          go_enter Try.func51, Try.ntmps51
          go_upto_region 1 with fail
          generalize w.alloc (.cells #[.bool false, .int .i64 tm, .slice p n cap] 32) = W at K1 HB E1 ⊢
          have x0 : W.cell? ⟨w.heap.size, 0, none⟩ = some (.bool false) := cell_of_block E1.out rfl
          have x1 : W.cell? ⟨w.heap.size, 1, none⟩ = some (.int .i64 tm) := cell_of_block E1.out rfl
          have x2 : W.cell? ⟨w.heap.size, 2, none⟩ = some (.slice p n cap) := cell_of_block E1.out rfl
          have hwb := lt_of_block E1.out
          go_wp2_with fail
          go_loopw [3] (fun i wr => ∃ k : Nat, k ≤ n ∧ i = .int .i64 k ∧ Hid (ckF false (prevN l k) (l.drop k) = ckF false none l) ∧ Hid (Below W.heap.size W wr)) (fun i _ => n - (intOf i).toNat)
          case atStart => exact ⟨0, Nat.zero_le _, rfl, Lib.hid rfl, Lib.hid (Below.refl _ _)⟩
          case round =>
            clear x0 x1 x2
            obtain ⟨k, hk, rfl, HQ, HW⟩ := hrel
            have E3 := Lib.hid (below_block HW.out hwb E1.out)
            have K3 := Lib.hid (K1.out.below HW.out)
            have B3 := Lib.hid (gk_call HB.out HW.out)
            have x0 : wr.cell? ⟨w.heap.size, 0, none⟩ = some (.bool false) := cell_of_block E3.out rfl
            have x2 : wr.cell? ⟨w.heap.size, 2, none⟩ = some (.slice p n cap) := cell_of_block E3.out rfl
            by_cases hlt : k < n
            · obtain ⟨x, hx⟩ : ∃ x, l[k]? = some x := ⟨_, List.getElem?_eq_getElem (by rw [← HNN.out]; exact hlt)⟩
              have hne : l ≠ [] := by rintro rfl; simp at hx
              have S1 := Lib.hid (ck_step (ex := false) hx)
              obtain ⟨q1, d1', b1, o1, hv1, hp1, hc1⟩ := K3.out
              simp only [Value.slice.injEq] at hv1
              obtain ⟨rfl, -, rfl⟩ := hv1
              obtain rfl := hp1 hne
              have r1 : wr.cell? ⟨b1, o1 + k * 2, none⟩ = some (.string x.1) := hc1 k _ hx 0 _ rfl
              have r2 : wr.cell? ⟨b1, o1 + k * 2 + 1, none⟩ = some (.int .i64 x.2) := hc1 k _ hx 1 _ rfl
              have d3 : decide (k < n) = true := decide_eq_true hlt
              have d4 : decide ((k : Int) < (n : Int)) = true := decide_eq_true (by omega)
              have d5 : decide (0 ≤ (k : Int)) = true := decide_eq_true (by omega)
              obtain ⟨xs, xt⟩ := x
              dsimp only at r1 r2
              have T := Lib.hid (heap_new wr (.cells #[.string xs, .int .i64 xt] 65))
              have k7 := (Below.refl wr.heap.size wr).alloc (Nat.le_refl _) (.cells #[.string xs, .int .i64 xt] 65)
              have HW7 := Lib.hid (HW.out.alloc HW.out.size (.cells #[.string xs, .int .i64 xt] 65))
              have HB7 := Lib.hid (B3.out.alloc B3.out.size (.cells #[.string xs, .int .i64 xt] 65))
              have E7 := Lib.hid (show (wr.alloc (.cells #[.string xs, .int .i64 xt] 65)).heap[w.heap.size]? = _ from heap_old E3.out)
              have HC7 := Lib.hid (fun j y (hy : l[j]? = some y) => (show (wr.alloc (.cells #[.string xs, .int .i64 xt] 65)).cell? ⟨b1, o1 + j * 2, none⟩ = some (.string y.1) from cell_below k7 (hc1 j _ hy 0 _ rfl)))
              clear hc1 hp1
              go_upto_region 7 with fail
              clear r1 r2 x0 x2 k7
              generalize wr.alloc (.cells #[.string xs, .int .i64 xt] 65) = W7 at T HW7 HB7 E7 HC7 ⊢
              generalize wr.heap.size = tb at T ⊢
              have t0 : W7.cell? ⟨tb, 0, none⟩ = some (.string xs) := cell_of_block T.out rfl
              have t1 : W7.cell? ⟨tb, 1, none⟩ = some (.int .i64 xt) := cell_of_block T.out rfl
              have x0 : W7.cell? ⟨w.heap.size, 0, none⟩ = some (.bool false) := cell_of_block E7.out rfl
              have x2 : W7.cell? ⟨w.heap.size, 2, none⟩ = some (.slice (some ⟨b1, o1, none⟩) n cap) := cell_of_block E7.out rfl
              rcases Int.lt_or_le xt 0 with hneg | hpos
              · have hb : okX false (xs, xt) = false := by unfold okX; rw [decide_eq_false (show ¬ 0 ≤ xt by omega)]; rfl
                have dn : decide (xt < 0) = true := decide_eq_true hneg
                have V := Lib.hid (show cv = 3 by rw [V0.out, ← HQ.out, S1.out, hb]; simp)
                clear HQ S1 V0
                go_wp2_with fail
                go_quiet (fail)
                go_wp2_with fail
                go_ret
                exact ⟨by rw [V.out]; rfl, below_drewN HB7.out _⟩
              · have dn : decide (xt < 0) = false := decide_eq_false (by omega)
                by_cases h0 : xt = 0
                · have hb : okX false (xs, xt) = false := by subst h0; rfl
                  obtain ⟨z5, z6⟩ := eq_t h0
                  have V := Lib.hid (show cv = 3 by rw [V0.out, ← HQ.out, S1.out, hb]; simp)
                  clear HQ S1 V0
                  go_wp2_with fail
                  go_quiet (fail)
                  go_wp2_with fail
                  go_ret
                  exact ⟨by rw [V.out]; rfl, below_drewN HB7.out _⟩
                have hg : okX false (xs, xt) = true := by unfold okX; rw [decide_eq_true (show 0 ≤ xt from hpos), decide_eq_true (show xt ≠ 0 from h0)]; rfl
                obtain ⟨z5, z6⟩ := ne_t h0
                rcases k with _ | j
                · have HN := Lib.hid (show ckF false (prevN l (0 + 1)) (l.drop (0 + 1)) = ckF false none l by rw [← HQ.out, S1.out, hg]; simp [prevN])
                  have d6 : decide ((0 : Int) < ((0 : Nat) : Int)) = false := by decide
                  clear HQ S1
                  go_wp2_with fail
                  go_quiet (fail)
                  go_wp2_with fail
                  go_roundw
                  case rel => exact ⟨0 + 1, by omega, by go_num, HN, Lib.hid (below_drewN HW7.out _)⟩
                  case measure => simp [intOf]; omega
                · obtain ⟨y, hy⟩ : ∃ y, l[j]? = some y := ⟨_, List.getElem?_eq_getElem (by have := (List.getElem?_eq_some_iff.1 hx).1; omega)⟩
                  have q1 := HC7.out j y hy
                  have hp : prevN l (j + 1) = some y.1 := by
                    unfold prevN
                    rw [if_neg (by omega)]
                    show (l[j]?).map _ = _
                    rw [hy]
                    rfl
                  generalize y.1 = ys at q1 hp
                  have hw : IntKind.i64.wrap (((j + 1 : Nat) : Int) - 1) = (j : Int) := by rw [show ((j + 1 : Nat) : Int) - 1 = (j : Int) from by omega]; exact IntWalk.i64_in _ (by omega)
                  have hn' : ((j : Int)).toNat = j := by omega
                  have hj0 : (0 : Int) ≤ (j : Int) := by omega
                  have hj1 : (j : Int) < (n : Int) := by omega
                  have d6 : decide ((0 : Int) < ((j + 1 : Nat) : Int)) = true := decide_eq_true (by omega)
                  rcases h : sl ys xs with _ | _
                  · have V := Lib.hid (show cv = 3 by rw [V0.out, ← HQ.out, S1.out, hg, hp]; simp [h])
                    have g1 := fun t => geq_of (x := ys) (y := xs) (r := true) (by rw [h]; rfl) t
                    clear HQ S1 V0 h hx hy HC7
                    go_wp2_with fail
                    go_quiet (fail)
                    go_wp2_with fail
                    go_ret
                    exact ⟨by rw [V.out]; rfl, below_drewN HB7.out _⟩
                  · have HN := Lib.hid (show ckF false (prevN l (j + 1 + 1)) (l.drop (j + 1 + 1)) = ckF false none l by rw [← HQ.out, S1.out, hg, hp]; simp [h])
                    have g1 := fun t => geq_of (x := ys) (y := xs) (r := false) (by rw [h]; rfl) t
                    clear h hx hy HC7
                    clear HQ S1
                    go_wp2_with fail
                    go_quiet (fail)
                    go_wp2_with fail
                    go_roundw
                    case rel => exact ⟨j + 1 + 1, by omega, by go_num, HN, Lib.hid (below_drewN HW7.out _)⟩
                    case measure => simp [intOf]; omega
            · obtain rfl : k = n := by omega
              have V := Lib.hid (show cv = 0 by
                have h2 : l.drop k = [] := by rw [HNN.out, List.drop_length]
                have h := HQ.out
                rw [h2] at h
                rw [V0.out, ← h]
                cases prevN l k <;> rfl)
              have d3 : decide (k < k) = false := decide_eq_false (by omega)
              have d4 : decide ((k : Int) < (k : Int)) = false := decide_eq_false (by omega)
              go_wp2_with fail
              go_ret
              exact ⟨by rw [V.out]; rfl, B3.out⟩
        · have d2 : decide (1 ≤ tm) = true := c2.symm
          clear c2 c3
          go_enter Try.func51, Try.ntmps51
          go_upto_region 1 with fail
          generalize w.alloc (.cells #[.bool true, .int .i64 tm, .slice p n cap] 32) = W at K1 HB E1 ⊢
          have x0 : W.cell? ⟨w.heap.size, 0, none⟩ = some (.bool true) := cell_of_block E1.out rfl
          have x1 : W.cell? ⟨w.heap.size, 1, none⟩ = some (.int .i64 tm) := cell_of_block E1.out rfl
          have x2 : W.cell? ⟨w.heap.size, 2, none⟩ = some (.slice p n cap) := cell_of_block E1.out rfl
          have hwb := lt_of_block E1.out
          go_wp2_with fail
          go_loopw [3] (fun i wr => ∃ k : Nat, k ≤ n ∧ i = .int .i64 k ∧ Hid (ckF true (prevN l k) (l.drop k) = ckF true none l) ∧ Hid (Below W.heap.size W wr)) (fun i _ => n - (intOf i).toNat)
          case atStart => exact ⟨0, Nat.zero_le _, rfl, Lib.hid rfl, Lib.hid (Below.refl _ _)⟩
          case round =>
            clear x0 x1 x2
            obtain ⟨k, hk, rfl, HQ, HW⟩ := hrel
            have E3 := Lib.hid (below_block HW.out hwb E1.out)
            have K3 := Lib.hid (K1.out.below HW.out)
            have B3 := Lib.hid (gk_call HB.out HW.out)
            have x0 : wr.cell? ⟨w.heap.size, 0, none⟩ = some (.bool true) := cell_of_block E3.out rfl
            have x2 : wr.cell? ⟨w.heap.size, 2, none⟩ = some (.slice p n cap) := cell_of_block E3.out rfl
            by_cases hlt : k < n
            · obtain ⟨x, hx⟩ : ∃ x, l[k]? = some x := ⟨_, List.getElem?_eq_getElem (by rw [← HNN.out]; exact hlt)⟩
              have hne : l ≠ [] := by rintro rfl; simp at hx
              have S1 := Lib.hid (ck_step (ex := true) hx)
              obtain ⟨q1, d1', b1, o1, hv1, hp1, hc1⟩ := K3.out
              simp only [Value.slice.injEq] at hv1
              obtain ⟨rfl, -, rfl⟩ := hv1
              obtain rfl := hp1 hne
              have r1 : wr.cell? ⟨b1, o1 + k * 2, none⟩ = some (.string x.1) := hc1 k _ hx 0 _ rfl
              have r2 : wr.cell? ⟨b1, o1 + k * 2 + 1, none⟩ = some (.int .i64 x.2) := hc1 k _ hx 1 _ rfl
              have d3 : decide (k < n) = true := decide_eq_true hlt
              have d4 : decide ((k : Int) < (n : Int)) = true := decide_eq_true (by omega)
              have d5 : decide (0 ≤ (k : Int)) = true := decide_eq_true (by omega)
              obtain ⟨xs, xt⟩ := x
              dsimp only at r1 r2
              have T := Lib.hid (heap_new wr (.cells #[.string xs, .int .i64 xt] 65))
              have k7 := (Below.refl wr.heap.size wr).alloc (Nat.le_refl _) (.cells #[.string xs, .int .i64 xt] 65)
              have HW7 := Lib.hid (HW.out.alloc HW.out.size (.cells #[.string xs, .int .i64 xt] 65))
              have HB7 := Lib.hid (B3.out.alloc B3.out.size (.cells #[.string xs, .int .i64 xt] 65))
              have E7 := Lib.hid (show (wr.alloc (.cells #[.string xs, .int .i64 xt] 65)).heap[w.heap.size]? = _ from heap_old E3.out)
              have HC7 := Lib.hid (fun j y (hy : l[j]? = some y) => (show (wr.alloc (.cells #[.string xs, .int .i64 xt] 65)).cell? ⟨b1, o1 + j * 2, none⟩ = some (.string y.1) from cell_below k7 (hc1 j _ hy 0 _ rfl)))
              clear hc1 hp1
              go_upto_region 7 with fail
              clear r1 r2 x0 x2 k7
              generalize wr.alloc (.cells #[.string xs, .int .i64 xt] 65) = W7 at T HW7 HB7 E7 HC7 ⊢
              generalize wr.heap.size = tb at T ⊢
              have t0 : W7.cell? ⟨tb, 0, none⟩ = some (.string xs) := cell_of_block T.out rfl
              have t1 : W7.cell? ⟨tb, 1, none⟩ = some (.int .i64 xt) := cell_of_block T.out rfl
              have x0 : W7.cell? ⟨w.heap.size, 0, none⟩ = some (.bool true) := cell_of_block E7.out rfl
              have x2 : W7.cell? ⟨w.heap.size, 2, none⟩ = some (.slice (some ⟨b1, o1, none⟩) n cap) := cell_of_block E7.out rfl
              rcases Int.lt_or_le xt 0 with hneg | hpos
              · have hb : okX true (xs, xt) = false := by unfold okX; rw [decide_eq_false (show ¬ 0 ≤ xt by omega)]; rfl
                have dn : decide (xt < 0) = true := decide_eq_true hneg
                have V := Lib.hid (show cv = 3 by rw [V0.out, ← HQ.out, S1.out, hb]; simp)
                clear HQ S1 V0
                go_wp2_with fail
                go_quiet (fail)
                go_wp2_with fail
                go_ret
                exact ⟨by rw [V.out]; rfl, below_drewN HB7.out _⟩
              · have dn : decide (xt < 0) = false := decide_eq_false (by omega)
                have hg : okX true (xs, xt) = true := by unfold okX; rw [decide_eq_true (show 0 ≤ xt from hpos)]; rfl
                rcases k with _ | j
                · have HN := Lib.hid (show ckF true (prevN l (0 + 1)) (l.drop (0 + 1)) = ckF true none l by rw [← HQ.out, S1.out, hg]; simp [prevN])
                  have d6 : decide ((0 : Int) < ((0 : Nat) : Int)) = false := by decide
                  clear HQ S1
                  go_wp2_with fail
                  go_quiet (fail)
                  go_wp2_with fail
                  go_roundw
                  case rel => exact ⟨0 + 1, by omega, by go_num, HN, Lib.hid (below_drewN HW7.out _)⟩
                  case measure => simp [intOf]; omega
                · obtain ⟨y, hy⟩ : ∃ y, l[j]? = some y := ⟨_, List.getElem?_eq_getElem (by have := (List.getElem?_eq_some_iff.1 hx).1; omega)⟩
                  have q1 := HC7.out j y hy
                  have hp : prevN l (j + 1) = some y.1 := by
                    unfold prevN
                    rw [if_neg (by omega)]
                    show (l[j]?).map _ = _
                    rw [hy]
                    rfl
                  generalize y.1 = ys at q1 hp
                  have hw : IntKind.i64.wrap (((j + 1 : Nat) : Int) - 1) = (j : Int) := by rw [show ((j + 1 : Nat) : Int) - 1 = (j : Int) from by omega]; exact IntWalk.i64_in _ (by omega)
                  have hn' : ((j : Int)).toNat = j := by omega
                  have hj0 : (0 : Int) ≤ (j : Int) := by omega
                  have hj1 : (j : Int) < (n : Int) := by omega
                  have d6 : decide ((0 : Int) < ((j + 1 : Nat) : Int)) = true := decide_eq_true (by omega)
                  rcases h : sl ys xs with _ | _
                  · have V := Lib.hid (show cv = 3 by rw [V0.out, ← HQ.out, S1.out, hg, hp]; simp [h])
                    have g1 := fun t => geq_of (x := ys) (y := xs) (r := true) (by rw [h]; rfl) t
                    clear HQ S1 V0 h hx hy HC7
                    go_wp2_with fail
                    go_quiet (fail)
                    go_wp2_with fail
                    go_ret
                    exact ⟨by rw [V.out]; rfl, below_drewN HB7.out _⟩
                  · have HN := Lib.hid (show ckF true (prevN l (j + 1 + 1)) (l.drop (j + 1 + 1)) = ckF true none l by rw [← HQ.out, S1.out, hg, hp]; simp [h])
                    have g1 := fun t => geq_of (x := ys) (y := xs) (r := false) (by rw [h]; rfl) t
                    clear h hx hy HC7
                    clear HQ S1
                    go_wp2_with fail
                    go_quiet (fail)
                    go_wp2_with fail
                    go_roundw
                    case rel => exact ⟨j + 1 + 1, by omega, by go_num, HN, Lib.hid (below_drewN HW7.out _)⟩
                    case measure => simp [intOf]; omega
            · obtain rfl : k = n := by omega
              have V := Lib.hid (show cv = 0 by
                have h2 : l.drop k = [] := by rw [HNN.out, List.drop_length]
                have h := HQ.out
                rw [h2] at h
                rw [V0.out, ← h]
                cases prevN l k <;> rfl)
              have d3 : decide (k < k) = false := decide_eq_false (by omega)
              have d4 : decide ((k : Int) < (k : Int)) = false := decide_eq_false (by omega)
              go_wp2_with fail
              go_ret
              exact ⟨by rw [V.out]; rfl, B3.out⟩
    · have V := Lib.hid (show cv = 3 by
        have h2 : (ex == decide (0 < tm)) = false := by
          rw [beq_eq_false_iff_ne]
          intro k
          refine c2 (k.trans (decide_eq_decide.2 (by omega)))
        rw [HV.out, h2]
        simp)
      have d2 : ∃ b, decide (1 ≤ tm) = b ∧ ex = !b := by
        refine ⟨decide (1 ≤ tm), rfl, ?_⟩
        cases ex <;> cases hh : decide (1 ≤ tm) <;> simp_all
      obtain ⟨b, d2, hb⟩ := d2
      clear c1 c2 HV
      cases b
      · replace hb : ex = true := hb
        subst hb
        go_enter Try.func51, Try.ntmps51
        go_upto_region 1 with fail
        generalize w.alloc (.cells #[.bool true, .int .i64 tm, .slice p n cap] 32) = W at K1 HB E1 ⊢
        have x0 : W.cell? ⟨w.heap.size, 0, none⟩ = some (.bool true) := cell_of_block E1.out rfl
        have x1 : W.cell? ⟨w.heap.size, 1, none⟩ = some (.int .i64 tm) := cell_of_block E1.out rfl
        have x2 : W.cell? ⟨w.heap.size, 2, none⟩ = some (.slice p n cap) := cell_of_block E1.out rfl
        go_wp2_with fail
        go_ret
        exact ⟨by rw [V.out]; rfl, HB.out⟩
      · replace hb : ex = false := hb
        subst hb
        go_enter Try.func51, Try.ntmps51
        go_upto_region 1 with fail
        generalize w.alloc (.cells #[.bool false, .int .i64 tm, .slice p n cap] 32) = W at K1 HB E1 ⊢
        have x0 : W.cell? ⟨w.heap.size, 0, none⟩ = some (.bool false) := cell_of_block E1.out rfl
        have x1 : W.cell? ⟨w.heap.size, 1, none⟩ = some (.int .i64 tm) := cell_of_block E1.out rfl
        have x2 : W.cell? ⟨w.heap.size, 2, none⟩ = some (.slice p n cap) := cell_of_block E1.out rfl
        go_wp2_with fail
        go_ret
        exact ⟨by rw [V.out]; rfl, HB.out⟩

set_option maxHeartbeats 16000000 in
set_option maxRecDepth 100000 in
theorem rexp17_c (ex : Bool) (tm : Int) (v : Value) (l : List Tm) (now : Int) (w : World) (hl : l.length ≤ 1000000) (h : RowsAt 2 cellsTm w v l) : Calls Try.prog 30 #[.agg #[.bool ex, .int .i64 tm, v], .int .i64 now] w (StPost (expS ⟨ex, tm, l⟩ now).1 (expS ⟨ex, tm, l⟩ now).2 w) := by
  have CK := Lib.hid fun (U : World) (kz : Below w.heap.size w U) => rchk17_c ex tm v l U hl (h.below kz)
  obtain ⟨p, cap, b, off, rfl, hp, hc⟩ := h
  have HP := Lib.hid hp
  have HC := Lib.hid hc
  obtain ⟨i0, hi0, hz0, hz1, hz2⟩ := info_parts info_Tm
  obtain ⟨n, hn⟩ : ∃ n, n = l.length := ⟨_, rfl⟩
  have HNN := Lib.hid hn
  have hB2 := Lib.hid (show Below w.heap.size w ((w.alloc (.cells #[.bool ex, .int .i64 tm, .slice p n cap] 32)).alloc (.cells #[.bool false, .int .i64 0, .slice none 0 0] 32)) from ((Below.refl _ w).alloc (Nat.le_refl _) _).alloc (by simp) _)
  have HSB0 := Lib.hid (show ((w.alloc (.cells #[.bool ex, .int .i64 tm, .slice p n cap] 32)).alloc (.cells #[.bool false, .int .i64 0, .slice none 0 0] 32)).heap[w.heap.size]? = some (.cells #[.bool ex, .int .i64 tm, .slice p n cap] 32 (0, 0)) from heap_old (heap_new w _))
  have HRB0 := Lib.hid (show ((w.alloc (.cells #[.bool ex, .int .i64 tm, .slice p n cap] 32)).alloc (.cells #[.bool false, .int .i64 0, .slice none 0 0] 32)).heap[w.heap.size + 1]? = some (.cells #[.bool false, .int .i64 0, .slice none 0 0] 32 (0, 0)) from by have h := heap_new (w.alloc (.cells #[.bool ex, .int .i64 tm, .slice p n cap] 32)) (.cells #[.bool false, .int .i64 0, .slice none 0 0] 32); simpa using h)
  rw [← hn] at hl CK
  rw [← hn]
  clear hp hc hn
  rcases Bool.eq_false_or_eq_true (okS ⟨ex, tm, l⟩) with hok | hok
  · have HE := Lib.hid (exp_yes (now := now) hok)
    have HST := Lib.hid (show stE ⟨ex, tm, l⟩ now = ⟨exE ⟨ex, tm, l⟩ now, if exE ⟨ex, tm, l⟩ now then tm else 0, l.flatMap (keepX (exE ⟨ex, tm, l⟩ now) now)⟩ from rfl)
    have HEE := Lib.hid (show exE ⟨ex, tm, l⟩ now = (ex && decide (now < tm)) from rfl)
    rw [chk_yes hok] at CK
    rw [HE.out, HST.out]
    have HANY := Lib.hid (show anyS ⟨exE ⟨ex, tm, l⟩ now, if exE ⟨ex, tm, l⟩ now then tm else 0, l.flatMap (keepX (exE ⟨ex, tm, l⟩ now) now)⟩ = (exE ⟨ex, tm, l⟩ now || decide (0 < (l.flatMap (keepX (exE ⟨ex, tm, l⟩ now) now)).length)) from rfl)
    simp only
    rw [HANY.out]
    clear HE HST HANY hok
    generalize exE ⟨ex, tm, l⟩ now = ev at HEE ⊢
    obtain ⟨fl, hfl⟩ : ∃ fl, fl = l.flatMap (keepX ev now) := ⟨_, rfl⟩
    rw [← hfl]
    have HFL := Lib.hid hfl
    have HFIN := Lib.hid (fun (sv : Value) (w' : World) (hr : RowsAt 2 cellsTm w' sv fl) (hk : Below w.heap.size w w') => show StPost ⟨ev, if ev = true then tm else 0, fl⟩ (ev || decide (0 < fl.length)) w (.returned (.tuple #[.agg #[.bool ev, .int .i64 (if ev = true then tm else 0), sv], .bool (ev || decide (0 < fl.length))])) w' from ⟨sv, rfl, hr, hk⟩)
    generalize StPost ⟨ev, if ev = true then tm else 0, fl⟩ (ev || decide (0 < fl.length)) w = Q at HFIN ⊢
    clear hfl
    go_enter Try.func30, Try.ntmps30
    go_upto_region 1 with fail
    generalize (w.alloc (.cells #[.bool ex, .int .i64 tm, .slice p n cap] 32)).alloc (.cells #[.bool false, .int .i64 0, .slice none 0 0] 32) = W2 at hB2 HSB0 HRB0 ⊢
    generalize hrb : w.heap.size + 1 = rb at HRB0 ⊢
    have HGR := Lib.hid (show w.heap.size ≤ rb by omega)
    obtain ⟨sb, hsb⟩ : ∃ sb, sb = w.heap.size := ⟨_, rfl⟩
    rw [← hsb] at HSB0 ⊢
    have s0 : W2.cell? ⟨sb, 0, none⟩ = some (.bool ex) := cell_of_block HSB0.out rfl
    have s1 : W2.cell? ⟨sb, 1, none⟩ = some (.int .i64 tm) := cell_of_block HSB0.out rfl
    have s2 : W2.cell? ⟨sb, 2, none⟩ = some (.slice p n cap) := cell_of_block HSB0.out rfl
    clear hrb hsb
    go_wp2_with fail
    ((with_reducible refine (CK.out _ hB2.out).mono ?_); rintro e w3 ⟨rfl, k3⟩)
    have hB3 := Lib.hid (hB2.out.trans (k3.mono hB2.out.size))
    have HSB := Lib.hid (below_block k3 (lt_of_block HSB0.out) HSB0.out)
    have HRB := Lib.hid (below_block k3 (lt_of_block HRB0.out) HRB0.out)
    clear s0 s1 s2 k3 hB2 HSB0 HRB0 CK
    cases ex
    · obtain rfl : ev = false := HEE.out
      clear HEE
      have s0 : w3.cell? ⟨sb, 0, none⟩ = some (.bool false) := cell_of_block HSB.out rfl
      have s1 : w3.cell? ⟨sb, 1, none⟩ = some (.int .i64 tm) := cell_of_block HSB.out rfl
      go_upto_region 6 with fail
      have HLB := Lib.hid (heap_new w3 (.cells #[.bool false, .int .i64 0, .slice none 0 0] 32))
      have HNLS := Lib.hid (show w3.heap.size ≠ sb from fun e => by have := lt_of_block HSB.out; omega)
      have HNLR := Lib.hid (show w3.heap.size ≠ rb from fun e => by have := lt_of_block HRB.out; omega)
      have HGL := Lib.hid (show w.heap.size ≤ w3.heap.size from hB3.out.size)
      replace HSB := Lib.hid (heap_old (p := .cells #[.bool false, .int .i64 0, .slice none 0 0] 32) HSB.out)
      replace HRB := Lib.hid (heap_old (p := .cells #[.bool false, .int .i64 0, .slice none 0 0] 32) HRB.out)
      have HB4 := Lib.hid (hB3.out.alloc hB3.out.size (.cells #[.bool false, .int .i64 0, .slice none 0 0] 32))
      clear hB3 s0 s1
      generalize w3.alloc (.cells #[.bool false, .int .i64 0, .slice none 0 0] 32) = W4 at HLB HSB HRB HB4 ⊢
      generalize w3.heap.size = lb at HLB HNLS HNLR HGL ⊢
      go_wp2_with fail
      go_loopw [7] (fun i wr => ∃ (k c : Nat) (sv : Value), k ≤ n ∧ c ≤ k ∧ i = .int .i64 k ∧ Hid (wr.ownsRow w.heap.size 65 2 sv c (((l.take k).flatMap (keepX false now)).flatMap cellsTm)) ∧ Hid (wr.heap[lb]? = some (.cells #[.bool false, .int .i64 0, sv] 32 (0, 0))) ∧ Hid (wr.heap[rb]? = some (.cells #[.bool false, .int .i64 0, .slice none 0 0] 32 (0, 0))) ∧ Hid (wr.heap[sb]? = some (.cells #[.bool false, .int .i64 tm, .slice p n cap] 32 (0, 0))) ∧ Hid (Below w.heap.size w wr)) (fun i _ => n - (intOf i).toNat)
      case atStart => exact ⟨0, 0, _, Nat.zero_le _, Nat.le_refl _, rfl, Lib.hid (World.ownsRow_nil _ _ _ _), HLB, HRB, HSB, HB4⟩
      case round =>
        clear HLB HRB HB4 HSB
        obtain ⟨k, c, sv, hk, hck, rfl, HO, HL, HR, HS, KB⟩ := hrel
        obtain ⟨sp, sc, rfl⟩ := g_slice HO.out
        have s2 : wr.cell? ⟨sb, 2, none⟩ = some (.slice p n cap) := cell_of_block HS.out rfl
        by_cases hlt : k < n
        · obtain ⟨x, hx⟩ : ∃ x, l[k]? = some x := ⟨_, List.getElem?_eq_getElem (by rw [← HNN.out]; exact hlt)⟩
          have hne : l ≠ [] := by rintro rfl; simp at hx
          obtain rfl := HP.out hne
          have HTK := Lib.hid (keep_take (ex := false) (now := now) hx)
          have x0 : wr.cell? ⟨b, off + k * 2, none⟩ = some (.string x.1) := gcell_below KB.out (HC.out k _ hx 0 _ rfl)
          have x1 : wr.cell? ⟨b, off + k * 2 + 1, none⟩ = some (.int .i64 x.2) := gcell_below KB.out (HC.out k _ hx 1 _ rfl)
          have HKX := Lib.hid (show keepX false now x = if now < x.2 then [(x.1, x.2)] else if false = true then [(x.1, 0)] else [] from rfl)
          generalize keepX false now x = kx at HTK HKX
          generalize x.1 = xs at x0 HKX
          generalize x.2 = xa at x1 HKX
          have d1 : decide (k < n) = true := decide_eq_true hlt
          have d2 : decide ((k : Int) < (n : Int)) = true := decide_eq_true (by omega)
          have d4 : decide (0 ≤ (k : Int)) = true := decide_eq_true (by omega)
          clear hx hne
          go_upto_region 10 with fail
          have HE1 := Lib.hid (heap_new wr (.cells #[.string xs, .int .i64 xa] 65))
          have HO1 := Lib.hid (HO.out.alloc (.cells #[.string xs, .int .i64 xa] 65))
          have KB1 := Lib.hid (KB.out.alloc KB.out.size (.cells #[.string xs, .int .i64 xa] 65))
          have HL1 := Lib.hid (heap_old (p := .cells #[.string xs, .int .i64 xa] 65) HL.out)
          have HR1 := Lib.hid (heap_old (p := .cells #[.string xs, .int .i64 xa] 65) HR.out)
          have HS1 := Lib.hid (heap_old (p := .cells #[.string xs, .int .i64 xa] 65) HS.out)
          clear x0 x1 s2 HO KB HL HR HS
          generalize wr.alloc (.cells #[.string xs, .int .i64 xa] 65) = W1 at HE1 HO1 KB1 HL1 HR1 HS1 ⊢
          generalize wr.heap.size = eb at HE1 ⊢
          have e0 := cell_of_block (j := 0) HE1.out rfl
          have e1 := cell_of_block (j := 1) HE1.out rfl
          by_cases hq : now < xa
          · have q1 : decide (now < xa) = true := decide_eq_true hq
            have HK1 := Lib.hid (show kx = [(xs, xa)] by rw [HKX.out, if_pos hq])
            clear hq HKX
            have l0 := cell_of_block (j := 0) HL1.out rfl
            have l2 := cell_of_block (j := 2) HL1.out rfl
            go_upto_region 11 with fail
            have NEW := Lib.hid (g_new W1 [.string xs, .int .i64 xa] 65)
            have HO5 := Lib.hid (HO1.out.alloc (.cells #[.string xs, .int .i64 xa] 65))
            have K5 := Lib.hid (KB1.out.alloc KB1.out.size (.cells #[.string xs, .int .i64 xa] 65))
            have HL5 := Lib.hid (heap_old (p := .cells #[.string xs, .int .i64 xa] 65) HL1.out)
            have HR5 := Lib.hid (heap_old (p := .cells #[.string xs, .int .i64 xa] 65) HR1.out)
            have HS5 := Lib.hid (heap_old (p := .cells #[.string xs, .int .i64 xa] 65) HS1.out)
            have n11 := Lib.hid (show c + 1 ≤ maxLen by unfold maxLen; omega)
            have n22 := Lib.hid (show (c + 1) * 24 ≤ 140737488355328 by omega)
            have n33 := Lib.hid (show w.heap.size ≤ (W1.alloc (.cells #[.string xs, .int .i64 xa] 65)).heap.size from K5.out.size)
            have oc := Lib.hid (one_tm xs xa)
            clear HO1 KB1 HE1 HL1 HR1 HS1
            go_wp2_with (at_builtin; refine wpList_append_own _ rfl _ _ 30 rfl w.heap.size 65 i0 (.agg #[.string ByteArray.empty, .int .i64 0]) 2 24 Try.underlying30 hi0 hz0 hz1 hz2 rfl (by decide) _ _ _ rfl HO5.out ⟨W1.heap.size, 0, none⟩ 1 1 [.string xs, .int .i64 xa] rfl rfl NEW.out oc.out n11.out n22.out n33.out ?_)
            intro v' w6 hown' hgrow _
            have HO6 := Lib.hid hown'
            have K6 := Lib.hid (K5.out.grown hgrow n33.out (fun j hj => (HO5.out.lt j hj).1))
            have HL6 := Lib.hid (g_keeps HO5.out hgrow HL5.out (by decide))
            have HR6 := Lib.hid (g_keeps HO5.out hgrow HR5.out (by decide))
            have HS6 := Lib.hid (g_keeps HO5.out hgrow HS5.out (by decide))
            clear hown' hgrow HO5 K5 NEW e0 e1 l0 l2 HL5 HR5 HS5
            obtain ⟨vp, vc, rfl⟩ := g_slice HO6.out
            have m2 := cell_of_block (j := 2) HL6.out rfl
            have fm2 := free_of_block (j := 2) HL6.out
            have HO7 := Lib.hid (g_set (j := 2) (u := .slice vp (c + 1) vc) HO6.out HL6.out (by decide))
            have HL7 := Lib.hid (heap_store (j := 2) (v := .slice vp (c + 1) vc) HL6.out)
            have HR7 := Lib.hid (heap_store_other (j := 2) (v := .slice vp (c + 1) vc) HR6.out (Ne.symm HNLR.out))
            have HS7 := Lib.hid (heap_store_other (j := 2) (v := .slice vp (c + 1) vc) HS6.out (Ne.symm HNLS.out))
            have K7 := Lib.hid (K6.out.setCell (p := ⟨lb, 2, none⟩) HGL.out (.slice vp (c + 1) vc))
            have HTL := Lib.hid (show ((l.take (k + 1)).flatMap (keepX false now)).flatMap cellsTm = ((l.take k).flatMap (keepX false now)).flatMap cellsTm ++ [.string xs, .int .i64 xa] by rw [HTK.out, HK1.out, List.flatMap_append]; rfl)
            go_wp2_with fail
            go_roundw
            case rel => exact ⟨k + 1, c + 1, _, by omega, by omega, by go_num, Lib.hid (by rw [HTL.out]; exact HO7.out), HL7, HR7, HS7, K7⟩
            case measure => simp [intOf]; omega
          · have q1 : decide (now < xa) = false := decide_eq_false hq
            have HK1 := Lib.hid (show kx = [] by rw [HKX.out, if_neg hq]; rfl)
            clear hq HKX
            have l0 := cell_of_block (j := 0) HL1.out rfl
            have HTL := Lib.hid (show ((l.take (k + 1)).flatMap (keepX false now)).flatMap cellsTm = ((l.take k).flatMap (keepX false now)).flatMap cellsTm by rw [HTK.out, HK1.out]; simp)
            clear HE1
            go_wp2_with fail
            go_roundw
            case rel => exact ⟨k + 1, c, _, by omega, by omega, by go_num, Lib.hid (by rw [HTL.out]; exact HO1.out), HL1, HR1, HS1, KB1⟩
            case measure => simp [intOf]; omega
        · obtain rfl : k = n := by omega
          rw [List.take_of_length_le (by rw [HNN.out]; exact Nat.le_refl _), ← HFL.out] at HO
          have HA := Lib.hid (rowsAt_own (by decide) tm_len HO.out)
          have HCN := Lib.hid (show c = fl.length by obtain ⟨p2, c2, e2⟩ := HA.out.slice; injection e2)
          have d1 : decide (k < k) = false := decide_eq_false (by omega)
          have d2 : decide ((k : Int) < (k : Int)) = false := decide_eq_false (by omega)
          have r0 := free_of_block (j := 0) HR.out
          have r1 := free_of_block (j := 1) HR.out
          have r2 := free_of_block (j := 2) HR.out
          have r3 : wr.cell? ⟨rb, 0, none⟩ = some (.bool false) := cell_of_block HR.out rfl
          have r4 : wr.cell? ⟨rb, 1, none⟩ = some (.int .i64 0) := cell_of_block HR.out rfl
          have r5 : wr.cell? ⟨rb, 2, none⟩ = some (.slice none 0 0) := cell_of_block HR.out rfl
          have l0 : wr.cell? ⟨lb, 0, none⟩ = some (.bool false) := cell_of_block HL.out rfl
          have l1 : wr.cell? ⟨lb, 1, none⟩ = some (.int .i64 0) := cell_of_block HL.out rfl
          have l2 : wr.cell? ⟨lb, 2, none⟩ = some (.slice sp c sc) := cell_of_block HL.out rfl
          clear hlt HA
          by_cases hc0 : c = 0
          · subst hc0
            have hfl : fl = [] := by
              have h := HCN.out
              exact List.length_eq_zero_iff.1 (by omega)
            have HZ := Lib.hid (heap_store (j := 2) (v := .slice none 0 0) (heap_store (j := 1) (v := .int .i64 0) (heap_store (j := 0) (v := .bool false) HR.out)))
            have KZ := Lib.hid (((KB.out.setCell (p := ⟨rb, 0, none⟩) HGR.out (.bool false)).setCell (p := ⟨rb, 1, none⟩) HGR.out (.int .i64 0)).setCell (p := ⟨rb, 2, none⟩) HGR.out (.slice none 0 0))
            have HF := Lib.hid (HFIN.out (.slice none 0 0) _ (by rw [hfl]; exact RowsAt.nil _) KZ.out)
            rw [hfl] at HF
            go_wp2_with fail
            have z0 := cell_of_block (j := 0) HZ.out rfl
            have z1 := cell_of_block (j := 1) HZ.out rfl
            have z2 := cell_of_block (j := 2) HZ.out rfl
            exact bodyPost_ret (v := .tuple #[.agg #[.bool false, .int .i64 0, .slice none 0 0], .bool false]) (by simp [results, Try.results30, go_sem, z0, z1, z2]) rfl HF.out
          · have dc1 : decide (c = 0) = false := decide_eq_false hc0
            have dc2 : decide ((c : Int) = 0) = false := decide_eq_false (by omega)
            have HPT := Lib.hid (show (false || decide (0 < fl.length)) = true by rw [← HCN.out, decide_eq_true (show 0 < c by omega)]; rfl)
            have HZ := Lib.hid (heap_store (j := 2) (v := .slice sp c sc) (heap_store (j := 1) (v := .int .i64 0) (heap_store (j := 0) (v := .bool false) HR.out)))
            have KZ := Lib.hid (((KB.out.setCell (p := ⟨rb, 0, none⟩) HGR.out (.bool false)).setCell (p := ⟨rb, 1, none⟩) HGR.out (.int .i64 0)).setCell (p := ⟨rb, 2, none⟩) HGR.out (.slice sp c sc))
            have HA8 := Lib.hid (rowsAt_own (by decide) tm_len (g_set (j := 2) (u := .slice sp c sc) (g_set (j := 1) (u := .int .i64 0) (g_set (j := 0) (u := .bool false) HO.out HR.out (by decide)) (heap_store (j := 0) (v := .bool false) HR.out) (by decide)) (heap_store (j := 1) (v := .int .i64 0) (heap_store (j := 0) (v := .bool false) HR.out)) (by decide)))
            have HF := Lib.hid (HFIN.out _ _ HA8.out KZ.out)
            go_wp2_with fail
            have z0 := cell_of_block (j := 0) (v := .bool false) HZ.out rfl
            have z1 := cell_of_block (j := 1) (v := .int .i64 0) HZ.out rfl
            have z2 := cell_of_block (j := 2) (v := .slice sp c sc) HZ.out rfl
            exact bodyPost_ret (v := .tuple #[.agg #[.bool false, .int .i64 0, .slice sp c sc], .bool true]) (by simp [results, Try.results30, go_sem, z0, z1, z2]) rfl (by have h := HF.out; rw [HPT.out] at h; exact h)
    · by_cases hlt0 : now < tm
      · have dq : decide (now < tm) = true := decide_eq_true hlt0
        obtain rfl : ev = true := by rw [HEE.out, dq]; rfl
        clear HEE hlt0
        have s0 : w3.cell? ⟨sb, 0, none⟩ = some (.bool true) := cell_of_block HSB.out rfl
        have s1 : w3.cell? ⟨sb, 1, none⟩ = some (.int .i64 tm) := cell_of_block HSB.out rfl
        go_upto_region 4 with fail
        have HLB0 := Lib.hid (heap_new w3 (.cells #[.bool true, .int .i64 0, .slice none 0 0] 32))
        have HNLS := Lib.hid (show w3.heap.size ≠ sb from fun e => by have := lt_of_block HSB.out; omega)
        have HNLR := Lib.hid (show w3.heap.size ≠ rb from fun e => by have := lt_of_block HRB.out; omega)
        have HGL := Lib.hid (show w.heap.size ≤ w3.heap.size from hB3.out.size)
        replace HSB := Lib.hid (heap_old (p := .cells #[.bool true, .int .i64 0, .slice none 0 0] 32) HSB.out)
        replace HRB := Lib.hid (heap_old (p := .cells #[.bool true, .int .i64 0, .slice none 0 0] 32) HRB.out)
        have HB40 := Lib.hid (hB3.out.alloc hB3.out.size (.cells #[.bool true, .int .i64 0, .slice none 0 0] 32))
        clear hB3 s0 s1
        generalize w3.alloc (.cells #[.bool true, .int .i64 0, .slice none 0 0] 32) = W40 at HLB0 HSB HRB HB40 ⊢
        generalize w3.heap.size = lb at HLB0 HNLS HNLR HGL ⊢
        have s1 : W40.cell? ⟨sb, 1, none⟩ = some (.int .i64 tm) := cell_of_block HSB.out rfl
        have l0 : W40.cell? ⟨lb, 0, none⟩ = some (.bool true) := cell_of_block HLB0.out rfl
        have l1 : W40.cell? ⟨lb, 1, none⟩ = some (.int .i64 0) := cell_of_block HLB0.out rfl
        have f1 := free_of_block (j := 1) HLB0.out
        go_upto_region 6 with fail
        have HLB := Lib.hid (show (W40.setCell ⟨lb, 1, none⟩ (.int .i64 tm)).heap[lb]? = some (.cells #[.bool true, .int .i64 tm, .slice none 0 0] 32 (0, 0)) from heap_store (j := 1) (v := .int .i64 tm) HLB0.out)
        replace HSB := Lib.hid (heap_store_other (j := 1) (v := .int .i64 tm) HSB.out (Ne.symm HNLS.out))
        replace HRB := Lib.hid (heap_store_other (j := 1) (v := .int .i64 tm) HRB.out (Ne.symm HNLR.out))
        have HB4 := Lib.hid (HB40.out.setCell (p := ⟨lb, 1, none⟩) HGL.out (.int .i64 tm))
        clear s1 l0 l1 f1 HLB0 HB40
        generalize W40.setCell ⟨lb, 1, none⟩ (.int .i64 tm) = W4 at HLB HSB HRB HB4 ⊢
        go_wp2_with fail
        go_loopw [7] (fun i wr => ∃ (k c : Nat) (sv : Value), k ≤ n ∧ c ≤ k ∧ i = .int .i64 k ∧ Hid (wr.ownsRow w.heap.size 65 2 sv c (((l.take k).flatMap (keepX true now)).flatMap cellsTm)) ∧ Hid (wr.heap[lb]? = some (.cells #[.bool true, .int .i64 tm, sv] 32 (0, 0))) ∧ Hid (wr.heap[rb]? = some (.cells #[.bool false, .int .i64 0, .slice none 0 0] 32 (0, 0))) ∧ Hid (wr.heap[sb]? = some (.cells #[.bool true, .int .i64 tm, .slice p n cap] 32 (0, 0))) ∧ Hid (Below w.heap.size w wr)) (fun i _ => n - (intOf i).toNat)
        case atStart => exact ⟨0, 0, _, Nat.zero_le _, Nat.le_refl _, rfl, Lib.hid (World.ownsRow_nil _ _ _ _), HLB, HRB, HSB, HB4⟩
        case round =>
          clear HLB HRB HB4 HSB
          obtain ⟨k, c, sv, hk, hck, rfl, HO, HL, HR, HS, KB⟩ := hrel
          obtain ⟨sp, sc, rfl⟩ := g_slice HO.out
          have s2 : wr.cell? ⟨sb, 2, none⟩ = some (.slice p n cap) := cell_of_block HS.out rfl
          by_cases hlt : k < n
          · obtain ⟨x, hx⟩ : ∃ x, l[k]? = some x := ⟨_, List.getElem?_eq_getElem (by rw [← HNN.out]; exact hlt)⟩
            have hne : l ≠ [] := by rintro rfl; simp at hx
            obtain rfl := HP.out hne
            have HTK := Lib.hid (keep_take (ex := true) (now := now) hx)
            have x0 : wr.cell? ⟨b, off + k * 2, none⟩ = some (.string x.1) := gcell_below KB.out (HC.out k _ hx 0 _ rfl)
            have x1 : wr.cell? ⟨b, off + k * 2 + 1, none⟩ = some (.int .i64 x.2) := gcell_below KB.out (HC.out k _ hx 1 _ rfl)
            have HKX := Lib.hid (show keepX true now x = if now < x.2 then [(x.1, x.2)] else if true = true then [(x.1, 0)] else [] from rfl)
            generalize keepX true now x = kx at HTK HKX
            generalize x.1 = xs at x0 HKX
            generalize x.2 = xa at x1 HKX
            have d1 : decide (k < n) = true := decide_eq_true hlt
            have d2 : decide ((k : Int) < (n : Int)) = true := decide_eq_true (by omega)
            have d4 : decide (0 ≤ (k : Int)) = true := decide_eq_true (by omega)
            clear hx hne
            go_upto_region 10 with fail
            have HE1 := Lib.hid (heap_new wr (.cells #[.string xs, .int .i64 xa] 65))
            have HO1 := Lib.hid (HO.out.alloc (.cells #[.string xs, .int .i64 xa] 65))
            have KB1 := Lib.hid (KB.out.alloc KB.out.size (.cells #[.string xs, .int .i64 xa] 65))
            have HL1 := Lib.hid (heap_old (p := .cells #[.string xs, .int .i64 xa] 65) HL.out)
            have HR1 := Lib.hid (heap_old (p := .cells #[.string xs, .int .i64 xa] 65) HR.out)
            have HS1 := Lib.hid (heap_old (p := .cells #[.string xs, .int .i64 xa] 65) HS.out)
            clear x0 x1 s2 HO KB HL HR HS
            generalize wr.alloc (.cells #[.string xs, .int .i64 xa] 65) = W1 at HE1 HO1 KB1 HL1 HR1 HS1 ⊢
            generalize wr.heap.size = eb at HE1 ⊢
            have e0 := cell_of_block (j := 0) HE1.out rfl
            have e1 := cell_of_block (j := 1) HE1.out rfl
            by_cases hq : now < xa
            · have q1 : decide (now < xa) = true := decide_eq_true hq
              have HK1 := Lib.hid (show kx = [(xs, xa)] by rw [HKX.out, if_pos hq])
              clear hq HKX
              have l0 := cell_of_block (j := 0) HL1.out rfl
              have l2 := cell_of_block (j := 2) HL1.out rfl
              go_upto_region 11 with fail
              have NEW := Lib.hid (g_new W1 [.string xs, .int .i64 xa] 65)
              have HO5 := Lib.hid (HO1.out.alloc (.cells #[.string xs, .int .i64 xa] 65))
              have K5 := Lib.hid (KB1.out.alloc KB1.out.size (.cells #[.string xs, .int .i64 xa] 65))
              have HL5 := Lib.hid (heap_old (p := .cells #[.string xs, .int .i64 xa] 65) HL1.out)
              have HR5 := Lib.hid (heap_old (p := .cells #[.string xs, .int .i64 xa] 65) HR1.out)
              have HS5 := Lib.hid (heap_old (p := .cells #[.string xs, .int .i64 xa] 65) HS1.out)
              have n11 := Lib.hid (show c + 1 ≤ maxLen by unfold maxLen; omega)
              have n22 := Lib.hid (show (c + 1) * 24 ≤ 140737488355328 by omega)
              have n33 := Lib.hid (show w.heap.size ≤ (W1.alloc (.cells #[.string xs, .int .i64 xa] 65)).heap.size from K5.out.size)
              have oc := Lib.hid (one_tm xs xa)
              clear HO1 KB1 HE1 HL1 HR1 HS1
              go_wp2_with (at_builtin; refine wpList_append_own _ rfl _ _ 30 rfl w.heap.size 65 i0 (.agg #[.string ByteArray.empty, .int .i64 0]) 2 24 Try.underlying30 hi0 hz0 hz1 hz2 rfl (by decide) _ _ _ rfl HO5.out ⟨W1.heap.size, 0, none⟩ 1 1 [.string xs, .int .i64 xa] rfl rfl NEW.out oc.out n11.out n22.out n33.out ?_)
              intro v' w6 hown' hgrow _
              have HO6 := Lib.hid hown'
              have K6 := Lib.hid (K5.out.grown hgrow n33.out (fun j hj => (HO5.out.lt j hj).1))
              have HL6 := Lib.hid (g_keeps HO5.out hgrow HL5.out (by decide))
              have HR6 := Lib.hid (g_keeps HO5.out hgrow HR5.out (by decide))
              have HS6 := Lib.hid (g_keeps HO5.out hgrow HS5.out (by decide))
              clear hown' hgrow HO5 K5 NEW e0 e1 l0 l2 HL5 HR5 HS5
              obtain ⟨vp, vc, rfl⟩ := g_slice HO6.out
              have m2 := cell_of_block (j := 2) HL6.out rfl
              have fm2 := free_of_block (j := 2) HL6.out
              have HO7 := Lib.hid (g_set (j := 2) (u := .slice vp (c + 1) vc) HO6.out HL6.out (by decide))
              have HL7 := Lib.hid (heap_store (j := 2) (v := .slice vp (c + 1) vc) HL6.out)
              have HR7 := Lib.hid (heap_store_other (j := 2) (v := .slice vp (c + 1) vc) HR6.out (Ne.symm HNLR.out))
              have HS7 := Lib.hid (heap_store_other (j := 2) (v := .slice vp (c + 1) vc) HS6.out (Ne.symm HNLS.out))
              have K7 := Lib.hid (K6.out.setCell (p := ⟨lb, 2, none⟩) HGL.out (.slice vp (c + 1) vc))
              have HTL := Lib.hid (show ((l.take (k + 1)).flatMap (keepX true now)).flatMap cellsTm = ((l.take k).flatMap (keepX true now)).flatMap cellsTm ++ [.string xs, .int .i64 xa] by rw [HTK.out, HK1.out, List.flatMap_append]; rfl)
              go_wp2_with fail
              go_roundw
              case rel => exact ⟨k + 1, c + 1, _, by omega, by omega, by go_num, Lib.hid (by rw [HTL.out]; exact HO7.out), HL7, HR7, HS7, K7⟩
              case measure => simp [intOf]; omega
            · have q1 : decide (now < xa) = false := decide_eq_false hq
              have HK1 := Lib.hid (show kx = [(xs, 0)] by rw [HKX.out, if_neg hq]; rfl)
              clear hq HKX
              have l0 := cell_of_block (j := 0) HL1.out rfl
              have l2 := cell_of_block (j := 2) HL1.out rfl
              go_upto_region 13 with fail
              have NEW := Lib.hid (g_new W1 [.string xs, .int .i64 0] 65)
              have HO5 := Lib.hid (HO1.out.alloc (.cells #[.string xs, .int .i64 0] 65))
              have K5 := Lib.hid (KB1.out.alloc KB1.out.size (.cells #[.string xs, .int .i64 0] 65))
              have HL5 := Lib.hid (heap_old (p := .cells #[.string xs, .int .i64 0] 65) HL1.out)
              have HR5 := Lib.hid (heap_old (p := .cells #[.string xs, .int .i64 0] 65) HR1.out)
              have HS5 := Lib.hid (heap_old (p := .cells #[.string xs, .int .i64 0] 65) HS1.out)
              have n11 := Lib.hid (show c + 1 ≤ maxLen by unfold maxLen; omega)
              have n22 := Lib.hid (show (c + 1) * 24 ≤ 140737488355328 by omega)
              have n33 := Lib.hid (show w.heap.size ≤ (W1.alloc (.cells #[.string xs, .int .i64 0] 65)).heap.size from K5.out.size)
              have oc := Lib.hid (one_tm xs 0)
              clear HO1 KB1 HE1 HL1 HR1 HS1
              go_wp2_with (at_builtin; refine wpList_append_own _ rfl _ _ 30 rfl w.heap.size 65 i0 (.agg #[.string ByteArray.empty, .int .i64 0]) 2 24 Try.underlying30 hi0 hz0 hz1 hz2 rfl (by decide) _ _ _ rfl HO5.out ⟨W1.heap.size, 0, none⟩ 1 1 [.string xs, .int .i64 0] rfl rfl NEW.out oc.out n11.out n22.out n33.out ?_)
              intro v' w6 hown' hgrow _
              have HO6 := Lib.hid hown'
              have K6 := Lib.hid (K5.out.grown hgrow n33.out (fun j hj => (HO5.out.lt j hj).1))
              have HL6 := Lib.hid (g_keeps HO5.out hgrow HL5.out (by decide))
              have HR6 := Lib.hid (g_keeps HO5.out hgrow HR5.out (by decide))
              have HS6 := Lib.hid (g_keeps HO5.out hgrow HS5.out (by decide))
              clear hown' hgrow HO5 K5 NEW e0 e1 l0 l2 HL5 HR5 HS5
              obtain ⟨vp, vc, rfl⟩ := g_slice HO6.out
              have m2 := cell_of_block (j := 2) HL6.out rfl
              have fm2 := free_of_block (j := 2) HL6.out
              have HO7 := Lib.hid (g_set (j := 2) (u := .slice vp (c + 1) vc) HO6.out HL6.out (by decide))
              have HL7 := Lib.hid (heap_store (j := 2) (v := .slice vp (c + 1) vc) HL6.out)
              have HR7 := Lib.hid (heap_store_other (j := 2) (v := .slice vp (c + 1) vc) HR6.out (Ne.symm HNLR.out))
              have HS7 := Lib.hid (heap_store_other (j := 2) (v := .slice vp (c + 1) vc) HS6.out (Ne.symm HNLS.out))
              have K7 := Lib.hid (K6.out.setCell (p := ⟨lb, 2, none⟩) HGL.out (.slice vp (c + 1) vc))
              have HTL := Lib.hid (show ((l.take (k + 1)).flatMap (keepX true now)).flatMap cellsTm = ((l.take k).flatMap (keepX true now)).flatMap cellsTm ++ [.string xs, .int .i64 0] by rw [HTK.out, HK1.out, List.flatMap_append]; rfl)
              go_wp2_with fail
              go_roundw
              case rel => exact ⟨k + 1, c + 1, _, by omega, by omega, by go_num, Lib.hid (by rw [HTL.out]; exact HO7.out), HL7, HR7, HS7, K7⟩
              case measure => simp [intOf]; omega
          · obtain rfl : k = n := by omega
            rw [List.take_of_length_le (by rw [HNN.out]; exact Nat.le_refl _), ← HFL.out] at HO
            have HA := Lib.hid (rowsAt_own (by decide) tm_len HO.out)
            have HCN := Lib.hid (show c = fl.length by obtain ⟨p2, c2, e2⟩ := HA.out.slice; injection e2)
            have d1 : decide (k < k) = false := decide_eq_false (by omega)
            have d2 : decide ((k : Int) < (k : Int)) = false := decide_eq_false (by omega)
            have r0 := free_of_block (j := 0) HR.out
            have r1 := free_of_block (j := 1) HR.out
            have r2 := free_of_block (j := 2) HR.out
            have r3 : wr.cell? ⟨rb, 0, none⟩ = some (.bool false) := cell_of_block HR.out rfl
            have r4 : wr.cell? ⟨rb, 1, none⟩ = some (.int .i64 0) := cell_of_block HR.out rfl
            have r5 : wr.cell? ⟨rb, 2, none⟩ = some (.slice none 0 0) := cell_of_block HR.out rfl
            have l0 : wr.cell? ⟨lb, 0, none⟩ = some (.bool true) := cell_of_block HL.out rfl
            have l1 : wr.cell? ⟨lb, 1, none⟩ = some (.int .i64 tm) := cell_of_block HL.out rfl
            have l2 : wr.cell? ⟨lb, 2, none⟩ = some (.slice sp c sc) := cell_of_block HL.out rfl
            clear hlt HA
            have HPT := Lib.hid (show (true || decide (0 < fl.length)) = true from rfl)
            have HZ := Lib.hid (heap_store (j := 2) (v := .slice sp c sc) (heap_store (j := 1) (v := .int .i64 tm) (heap_store (j := 0) (v := .bool true) HR.out)))
            have KZ := Lib.hid (((KB.out.setCell (p := ⟨rb, 0, none⟩) HGR.out (.bool true)).setCell (p := ⟨rb, 1, none⟩) HGR.out (.int .i64 tm)).setCell (p := ⟨rb, 2, none⟩) HGR.out (.slice sp c sc))
            have HA8 := Lib.hid (rowsAt_own (by decide) tm_len (g_set (j := 2) (u := .slice sp c sc) (g_set (j := 1) (u := .int .i64 tm) (g_set (j := 0) (u := .bool true) HO.out HR.out (by decide)) (heap_store (j := 0) (v := .bool true) HR.out) (by decide)) (heap_store (j := 1) (v := .int .i64 tm) (heap_store (j := 0) (v := .bool true) HR.out)) (by decide)))
            have HF := Lib.hid (HFIN.out _ _ HA8.out KZ.out)
            go_wp2_with fail
            have z0 := cell_of_block (j := 0) (v := .bool true) HZ.out rfl
            have z1 := cell_of_block (j := 1) (v := .int .i64 tm) HZ.out rfl
            have z2 := cell_of_block (j := 2) (v := .slice sp c sc) HZ.out rfl
            exact bodyPost_ret (v := .tuple #[.agg #[.bool true, .int .i64 tm, .slice sp c sc], .bool true]) (by simp [results, Try.results30, go_sem, z0, z1, z2]) rfl (by have h := HF.out; rw [HPT.out] at h; exact h)
      · have dq : decide (now < tm) = false := decide_eq_false hlt0
        obtain rfl : ev = false := by rw [HEE.out, dq]; rfl
        clear HEE hlt0
        have s0 : w3.cell? ⟨sb, 0, none⟩ = some (.bool true) := cell_of_block HSB.out rfl
        have s1 : w3.cell? ⟨sb, 1, none⟩ = some (.int .i64 tm) := cell_of_block HSB.out rfl
        go_upto_region 6 with fail
        have HLB := Lib.hid (heap_new w3 (.cells #[.bool false, .int .i64 0, .slice none 0 0] 32))
        have HNLS := Lib.hid (show w3.heap.size ≠ sb from fun e => by have := lt_of_block HSB.out; omega)
        have HNLR := Lib.hid (show w3.heap.size ≠ rb from fun e => by have := lt_of_block HRB.out; omega)
        have HGL := Lib.hid (show w.heap.size ≤ w3.heap.size from hB3.out.size)
        replace HSB := Lib.hid (heap_old (p := .cells #[.bool false, .int .i64 0, .slice none 0 0] 32) HSB.out)
        replace HRB := Lib.hid (heap_old (p := .cells #[.bool false, .int .i64 0, .slice none 0 0] 32) HRB.out)
        have HB4 := Lib.hid (hB3.out.alloc hB3.out.size (.cells #[.bool false, .int .i64 0, .slice none 0 0] 32))
        clear hB3 s0 s1
        generalize w3.alloc (.cells #[.bool false, .int .i64 0, .slice none 0 0] 32) = W4 at HLB HSB HRB HB4 ⊢
        generalize w3.heap.size = lb at HLB HNLS HNLR HGL ⊢
        go_wp2_with fail
        go_loopw [7] (fun i wr => ∃ (k c : Nat) (sv : Value), k ≤ n ∧ c ≤ k ∧ i = .int .i64 k ∧ Hid (wr.ownsRow w.heap.size 65 2 sv c (((l.take k).flatMap (keepX false now)).flatMap cellsTm)) ∧ Hid (wr.heap[lb]? = some (.cells #[.bool false, .int .i64 0, sv] 32 (0, 0))) ∧ Hid (wr.heap[rb]? = some (.cells #[.bool false, .int .i64 0, .slice none 0 0] 32 (0, 0))) ∧ Hid (wr.heap[sb]? = some (.cells #[.bool true, .int .i64 tm, .slice p n cap] 32 (0, 0))) ∧ Hid (Below w.heap.size w wr)) (fun i _ => n - (intOf i).toNat)
        case atStart => exact ⟨0, 0, _, Nat.zero_le _, Nat.le_refl _, rfl, Lib.hid (World.ownsRow_nil _ _ _ _), HLB, HRB, HSB, HB4⟩
        case round =>
          clear HLB HRB HB4 HSB
          obtain ⟨k, c, sv, hk, hck, rfl, HO, HL, HR, HS, KB⟩ := hrel
          obtain ⟨sp, sc, rfl⟩ := g_slice HO.out
          have s2 : wr.cell? ⟨sb, 2, none⟩ = some (.slice p n cap) := cell_of_block HS.out rfl
          by_cases hlt : k < n
          · obtain ⟨x, hx⟩ : ∃ x, l[k]? = some x := ⟨_, List.getElem?_eq_getElem (by rw [← HNN.out]; exact hlt)⟩
            have hne : l ≠ [] := by rintro rfl; simp at hx
            obtain rfl := HP.out hne
            have HTK := Lib.hid (keep_take (ex := false) (now := now) hx)
            have x0 : wr.cell? ⟨b, off + k * 2, none⟩ = some (.string x.1) := gcell_below KB.out (HC.out k _ hx 0 _ rfl)
            have x1 : wr.cell? ⟨b, off + k * 2 + 1, none⟩ = some (.int .i64 x.2) := gcell_below KB.out (HC.out k _ hx 1 _ rfl)
            have HKX := Lib.hid (show keepX false now x = if now < x.2 then [(x.1, x.2)] else if false = true then [(x.1, 0)] else [] from rfl)
            generalize keepX false now x = kx at HTK HKX
            generalize x.1 = xs at x0 HKX
            generalize x.2 = xa at x1 HKX
            have d1 : decide (k < n) = true := decide_eq_true hlt
            have d2 : decide ((k : Int) < (n : Int)) = true := decide_eq_true (by omega)
            have d4 : decide (0 ≤ (k : Int)) = true := decide_eq_true (by omega)
            clear hx hne
            go_upto_region 10 with fail
            have HE1 := Lib.hid (heap_new wr (.cells #[.string xs, .int .i64 xa] 65))
            have HO1 := Lib.hid (HO.out.alloc (.cells #[.string xs, .int .i64 xa] 65))
            have KB1 := Lib.hid (KB.out.alloc KB.out.size (.cells #[.string xs, .int .i64 xa] 65))
            have HL1 := Lib.hid (heap_old (p := .cells #[.string xs, .int .i64 xa] 65) HL.out)
            have HR1 := Lib.hid (heap_old (p := .cells #[.string xs, .int .i64 xa] 65) HR.out)
            have HS1 := Lib.hid (heap_old (p := .cells #[.string xs, .int .i64 xa] 65) HS.out)
            clear x0 x1 s2 HO KB HL HR HS
            generalize wr.alloc (.cells #[.string xs, .int .i64 xa] 65) = W1 at HE1 HO1 KB1 HL1 HR1 HS1 ⊢
            generalize wr.heap.size = eb at HE1 ⊢
            have e0 := cell_of_block (j := 0) HE1.out rfl
            have e1 := cell_of_block (j := 1) HE1.out rfl
            by_cases hq : now < xa
            · have q1 : decide (now < xa) = true := decide_eq_true hq
              have HK1 := Lib.hid (show kx = [(xs, xa)] by rw [HKX.out, if_pos hq])
              clear hq HKX
              have l0 := cell_of_block (j := 0) HL1.out rfl
              have l2 := cell_of_block (j := 2) HL1.out rfl
              go_upto_region 11 with fail
              have NEW := Lib.hid (g_new W1 [.string xs, .int .i64 xa] 65)
              have HO5 := Lib.hid (HO1.out.alloc (.cells #[.string xs, .int .i64 xa] 65))
              have K5 := Lib.hid (KB1.out.alloc KB1.out.size (.cells #[.string xs, .int .i64 xa] 65))
              have HL5 := Lib.hid (heap_old (p := .cells #[.string xs, .int .i64 xa] 65) HL1.out)
              have HR5 := Lib.hid (heap_old (p := .cells #[.string xs, .int .i64 xa] 65) HR1.out)
              have HS5 := Lib.hid (heap_old (p := .cells #[.string xs, .int .i64 xa] 65) HS1.out)
              have n11 := Lib.hid (show c + 1 ≤ maxLen by unfold maxLen; omega)
              have n22 := Lib.hid (show (c + 1) * 24 ≤ 140737488355328 by omega)
              have n33 := Lib.hid (show w.heap.size ≤ (W1.alloc (.cells #[.string xs, .int .i64 xa] 65)).heap.size from K5.out.size)
              have oc := Lib.hid (one_tm xs xa)
              clear HO1 KB1 HE1 HL1 HR1 HS1
              go_wp2_with (at_builtin; refine wpList_append_own _ rfl _ _ 30 rfl w.heap.size 65 i0 (.agg #[.string ByteArray.empty, .int .i64 0]) 2 24 Try.underlying30 hi0 hz0 hz1 hz2 rfl (by decide) _ _ _ rfl HO5.out ⟨W1.heap.size, 0, none⟩ 1 1 [.string xs, .int .i64 xa] rfl rfl NEW.out oc.out n11.out n22.out n33.out ?_)
              intro v' w6 hown' hgrow _
              have HO6 := Lib.hid hown'
              have K6 := Lib.hid (K5.out.grown hgrow n33.out (fun j hj => (HO5.out.lt j hj).1))
              have HL6 := Lib.hid (g_keeps HO5.out hgrow HL5.out (by decide))
              have HR6 := Lib.hid (g_keeps HO5.out hgrow HR5.out (by decide))
              have HS6 := Lib.hid (g_keeps HO5.out hgrow HS5.out (by decide))
              clear hown' hgrow HO5 K5 NEW e0 e1 l0 l2 HL5 HR5 HS5
              obtain ⟨vp, vc, rfl⟩ := g_slice HO6.out
              have m2 := cell_of_block (j := 2) HL6.out rfl
              have fm2 := free_of_block (j := 2) HL6.out
              have HO7 := Lib.hid (g_set (j := 2) (u := .slice vp (c + 1) vc) HO6.out HL6.out (by decide))
              have HL7 := Lib.hid (heap_store (j := 2) (v := .slice vp (c + 1) vc) HL6.out)
              have HR7 := Lib.hid (heap_store_other (j := 2) (v := .slice vp (c + 1) vc) HR6.out (Ne.symm HNLR.out))
              have HS7 := Lib.hid (heap_store_other (j := 2) (v := .slice vp (c + 1) vc) HS6.out (Ne.symm HNLS.out))
              have K7 := Lib.hid (K6.out.setCell (p := ⟨lb, 2, none⟩) HGL.out (.slice vp (c + 1) vc))
              have HTL := Lib.hid (show ((l.take (k + 1)).flatMap (keepX false now)).flatMap cellsTm = ((l.take k).flatMap (keepX false now)).flatMap cellsTm ++ [.string xs, .int .i64 xa] by rw [HTK.out, HK1.out, List.flatMap_append]; rfl)
              go_wp2_with fail
              go_roundw
              case rel => exact ⟨k + 1, c + 1, _, by omega, by omega, by go_num, Lib.hid (by rw [HTL.out]; exact HO7.out), HL7, HR7, HS7, K7⟩
              case measure => simp [intOf]; omega
            · have q1 : decide (now < xa) = false := decide_eq_false hq
              have HK1 := Lib.hid (show kx = [] by rw [HKX.out, if_neg hq]; rfl)
              clear hq HKX
              have l0 := cell_of_block (j := 0) HL1.out rfl
              have HTL := Lib.hid (show ((l.take (k + 1)).flatMap (keepX false now)).flatMap cellsTm = ((l.take k).flatMap (keepX false now)).flatMap cellsTm by rw [HTK.out, HK1.out]; simp)
              clear HE1
              go_wp2_with fail
              go_roundw
              case rel => exact ⟨k + 1, c, _, by omega, by omega, by go_num, Lib.hid (by rw [HTL.out]; exact HO1.out), HL1, HR1, HS1, KB1⟩
              case measure => simp [intOf]; omega
          · obtain rfl : k = n := by omega
            rw [List.take_of_length_le (by rw [HNN.out]; exact Nat.le_refl _), ← HFL.out] at HO
            have HA := Lib.hid (rowsAt_own (by decide) tm_len HO.out)
            have HCN := Lib.hid (show c = fl.length by obtain ⟨p2, c2, e2⟩ := HA.out.slice; injection e2)
            have d1 : decide (k < k) = false := decide_eq_false (by omega)
            have d2 : decide ((k : Int) < (k : Int)) = false := decide_eq_false (by omega)
            have r0 := free_of_block (j := 0) HR.out
            have r1 := free_of_block (j := 1) HR.out
            have r2 := free_of_block (j := 2) HR.out
            have r3 : wr.cell? ⟨rb, 0, none⟩ = some (.bool false) := cell_of_block HR.out rfl
            have r4 : wr.cell? ⟨rb, 1, none⟩ = some (.int .i64 0) := cell_of_block HR.out rfl
            have r5 : wr.cell? ⟨rb, 2, none⟩ = some (.slice none 0 0) := cell_of_block HR.out rfl
            have l0 : wr.cell? ⟨lb, 0, none⟩ = some (.bool false) := cell_of_block HL.out rfl
            have l1 : wr.cell? ⟨lb, 1, none⟩ = some (.int .i64 0) := cell_of_block HL.out rfl
            have l2 : wr.cell? ⟨lb, 2, none⟩ = some (.slice sp c sc) := cell_of_block HL.out rfl
            clear hlt HA
            by_cases hc0 : c = 0
            · subst hc0
              have hfl : fl = [] := by
                have h := HCN.out
                exact List.length_eq_zero_iff.1 (by omega)
              have HZ := Lib.hid (heap_store (j := 2) (v := .slice none 0 0) (heap_store (j := 1) (v := .int .i64 0) (heap_store (j := 0) (v := .bool false) HR.out)))
              have KZ := Lib.hid (((KB.out.setCell (p := ⟨rb, 0, none⟩) HGR.out (.bool false)).setCell (p := ⟨rb, 1, none⟩) HGR.out (.int .i64 0)).setCell (p := ⟨rb, 2, none⟩) HGR.out (.slice none 0 0))
              have HF := Lib.hid (HFIN.out (.slice none 0 0) _ (by rw [hfl]; exact RowsAt.nil _) KZ.out)
              rw [hfl] at HF
              go_wp2_with fail
              have z0 := cell_of_block (j := 0) HZ.out rfl
              have z1 := cell_of_block (j := 1) HZ.out rfl
              have z2 := cell_of_block (j := 2) HZ.out rfl
              exact bodyPost_ret (v := .tuple #[.agg #[.bool false, .int .i64 0, .slice none 0 0], .bool false]) (by simp [results, Try.results30, go_sem, z0, z1, z2]) rfl HF.out
            · have dc1 : decide (c = 0) = false := decide_eq_false hc0
              have dc2 : decide ((c : Int) = 0) = false := decide_eq_false (by omega)
              have HPT := Lib.hid (show (false || decide (0 < fl.length)) = true by rw [← HCN.out, decide_eq_true (show 0 < c by omega)]; rfl)
              have HZ := Lib.hid (heap_store (j := 2) (v := .slice sp c sc) (heap_store (j := 1) (v := .int .i64 0) (heap_store (j := 0) (v := .bool false) HR.out)))
              have KZ := Lib.hid (((KB.out.setCell (p := ⟨rb, 0, none⟩) HGR.out (.bool false)).setCell (p := ⟨rb, 1, none⟩) HGR.out (.int .i64 0)).setCell (p := ⟨rb, 2, none⟩) HGR.out (.slice sp c sc))
              have HA8 := Lib.hid (rowsAt_own (by decide) tm_len (g_set (j := 2) (u := .slice sp c sc) (g_set (j := 1) (u := .int .i64 0) (g_set (j := 0) (u := .bool false) HO.out HR.out (by decide)) (heap_store (j := 0) (v := .bool false) HR.out) (by decide)) (heap_store (j := 1) (v := .int .i64 0) (heap_store (j := 0) (v := .bool false) HR.out)) (by decide)))
              have HF := Lib.hid (HFIN.out _ _ HA8.out KZ.out)
              go_wp2_with fail
              have z0 := cell_of_block (j := 0) (v := .bool false) HZ.out rfl
              have z1 := cell_of_block (j := 1) (v := .int .i64 0) HZ.out rfl
              have z2 := cell_of_block (j := 2) (v := .slice sp c sc) HZ.out rfl
              exact bodyPost_ret (v := .tuple #[.agg #[.bool false, .int .i64 0, .slice sp c sc], .bool true]) (by simp [results, Try.results30, go_sem, z0, z1, z2]) rfl (by have h := HF.out; rw [HPT.out] at h; exact h)
  · have HE := Lib.hid (exp_no (now := now) hok)
    rw [chk_bad hok] at CK
    rw [HE.out]
    clear HE hok
    go_enter Try.func30, Try.ntmps30
    go_upto_region 1 with fail
    generalize (w.alloc (.cells #[.bool ex, .int .i64 tm, .slice p n cap] 32)).alloc (.cells #[.bool false, .int .i64 0, .slice none 0 0] 32) = W2 at hB2 HSB0 HRB0 ⊢
    generalize hrb : w.heap.size + 1 = rb at HRB0 ⊢
    have HGR := Lib.hid (show w.heap.size ≤ rb by omega)
    have s0 : W2.cell? ⟨w.heap.size, 0, none⟩ = some (.bool ex) := cell_of_block HSB0.out rfl
    have s1 : W2.cell? ⟨w.heap.size, 1, none⟩ = some (.int .i64 tm) := cell_of_block HSB0.out rfl
    have s2 : W2.cell? ⟨w.heap.size, 2, none⟩ = some (.slice p n cap) := cell_of_block HSB0.out rfl
    clear hrb
    go_wp2_with fail
    ((with_reducible refine (CK.out _ hB2.out).mono ?_); rintro e w3 ⟨rfl, k3⟩)
    have hB3 := Lib.hid (hB2.out.trans (k3.mono hB2.out.size))
    have HRB := Lib.hid (below_block k3 (lt_of_block HRB0.out) HRB0.out)
    clear s0 s1 s2 k3 hB2 HSB0 HRB0 CK
    have r0 : w3.cell? ⟨rb, 0, none⟩ = some (.bool false) := cell_of_block HRB.out rfl
    have r1 : w3.cell? ⟨rb, 1, none⟩ = some (.int .i64 0) := cell_of_block HRB.out rfl
    have r2 : w3.cell? ⟨rb, 2, none⟩ = some (.slice none 0 0) := cell_of_block HRB.out rfl
    have f0 := free_of_block (j := 0) HRB.out
    have f1 := free_of_block (j := 1) HRB.out
    have f2 := free_of_block (j := 2) HRB.out
    have KZ := Lib.hid (((hB3.out.setCell (p := ⟨rb, 0, none⟩) HGR.out (.bool false)).setCell (p := ⟨rb, 1, none⟩) HGR.out (.int .i64 0)).setCell (p := ⟨rb, 2, none⟩) HGR.out (.slice none 0 0))
    have HZ := Lib.hid (heap_store (j := 2) (v := .slice none 0 0) (heap_store (j := 1) (v := .int .i64 0) (heap_store (j := 0) (v := .bool false) HRB.out)))
    go_wp2_with fail
    have z0 := cell_of_block (j := 0) HZ.out rfl
    have z1 := cell_of_block (j := 1) HZ.out rfl
    have z2 := cell_of_block (j := 2) HZ.out rfl
    exact bodyPost_ret (v := .tuple #[.agg #[.bool false, .int .i64 0, .slice none 0 0], .bool false]) (by simp [results, Try.results30, go_sem, z0, z1, z2]) rfl ⟨_, rfl, RowsAt.nil _, KZ.out⟩

end Go.Proofs.Ythpafojeadbjlaa
