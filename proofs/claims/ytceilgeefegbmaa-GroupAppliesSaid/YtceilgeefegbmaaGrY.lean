/-
  siphonref17.Check. A contract over the translated program.
-/
import Derived.Test.YtceilgeefegbmaaGrV
namespace Go.Proofs.Ytceilgeefegbmaa
open Go Go.Maps Go.WideMaps
open Go.RowKit
set_option linter.unusedVariables false
set_option linter.unusedSimpArgs false

/-- Sources one behind the other, each as it may be. -/
def ckF (ex : Bool) : Option ByteArray → List Tm → Bool
  | _, [] => true
  | none, x :: r => okX ex x && ckF ex (some x.1) r
  | some p, x :: r => okX ex x && (sl p x.1 && ckF ex (some x.1) r)
theorem ck_some (ex : Bool) : ∀ (l : List Tm) (p : ByteArray), ckF ex (some p) l = (l.all (okX ex) && upB (p :: nmS l))
  | [], p => by simp [ckF, upB, nmS]
  | x :: r, p => by
    unfold ckF
    rw [ck_some ex r x.1]
    show _ = (((x :: r).all (okX ex)) && (sl p x.1 && upB (x.1 :: nmS r)))
    rw [List.all_cons]
    cases okX ex x <;> cases sl p x.1 <;> cases r.all (okX ex) <;> simp
theorem ck_none (ex : Bool) (l : List Tm) : ckF ex none l = (l.all (okX ex) && upB (nmS l)) := by
  rcases l with _ | ⟨x, r⟩
  · simp [ckF, upB, nmS]
  · unfold ckF
    rw [ck_some]
    show _ = (((x :: r).all (okX ex)) && upB (x.1 :: nmS r))
    rw [List.all_cons, Bool.and_assoc]
/-- The name ahead of place k. -/
def prevN (l : List Tm) (k : Nat) : Option ByteArray := if k = 0 then none else (l[k - 1]?).map fun x => x.1
theorem ck_step {ex : Bool} {l : List Tm} {k : Nat} {x : Tm} (h : l[k]? = some x) : ckF ex (prevN l k) (l.drop k) = (okX ex x && ((match prevN l k with | none => true | some p => sl p x.1) && ckF ex (prevN l (k + 1)) (l.drop (k + 1)))) := by
  obtain ⟨hk, hx⟩ := List.getElem?_eq_some_iff.1 h
  have e : prevN l (k + 1) = some x.1 := by
    unfold prevN
    rw [if_neg (by omega)]
    show (l[k]?).map _ = _
    rw [h]
    rfl
  rw [List.drop_eq_getElem_cons hk, hx, e]
  rcases prevN l k with _ | p
  · simp [ckF]
  · rfl
theorem okS_ck (ex : Bool) (tm : Int) (l : List Tm) : okS ⟨ex, tm, l⟩ = (decide (l.length ≤ 60) && decide (0 ≤ tm) && (ex == decide (0 < tm)) && ckF ex none l) := by
  rw [ck_none]
  unfold okS
  simp only [Bool.and_assoc]

set_option maxHeartbeats 8000000 in
set_option maxRecDepth 100000 in
theorem rchk17_c (ex : Bool) (tm : Int) (v : Value) (l : List Tm) (w : World) (hl : l.length ≤ 1000000) (h1 : RowsAt 2 cellsTm w v l) :
    Calls Try.prog 17 #[.agg #[.bool ex, .int .i64 tm, v]] w fun e w' => e = .returned (.int .i64 (chkS ⟨ex, tm, l⟩)) ∧ Below w.heap.size w w' := by
  obtain ⟨p, cap, rfl⟩ := h1.slice
  have HV := Lib.hid (show chkS ⟨ex, tm, l⟩ = if (decide (l.length ≤ 60) && decide (0 ≤ tm) && (ex == decide (0 < tm)) && ckF ex none l) = true then 0 else 3 by unfold chkS; rw [okS_ck])
  generalize chkS ⟨ex, tm, l⟩ = cv at HV ⊢
  obtain ⟨n, hn⟩ : ∃ n, n = l.length := ⟨_, rfl⟩
  have HNN := Lib.hid hn
  rw [← hn] at h1 hl HV ⊢
  have B0 := (Below.refl w.heap.size w).alloc (Nat.le_refl _) (.cells #[.bool ex, .int .i64 tm, .slice p n cap] 24)
  have K1 := Lib.hid (h1.below B0)
  have HB := Lib.hid B0
  have E1 := Lib.hid (heap_new w (.cells #[.bool ex, .int .i64 tm, .slice p n cap] 24))
  clear B0 h1 hn
  by_cases c1 : 60 < n
  · have V := Lib.hid (show cv = 3 by rw [HV.out, decide_eq_false (show ¬ n ≤ 60 by omega)]; rfl)
    have d1 : decide ((60 : Int) < (n : Int)) = true := decide_eq_true (by omega)
    clear c1 HV
    go_enter Try.func17, Try.ntmps17
    go_upto_region 1 with fail
    generalize w.alloc (.cells #[.bool ex, .int .i64 tm, .slice p n cap] 24) = W at K1 HB E1 ⊢
    have x0 : W.cell? ⟨w.heap.size, 0, none⟩ = some (.bool ex) := cell_of_block E1.out rfl
    have x1 : W.cell? ⟨w.heap.size, 1, none⟩ = some (.int .i64 tm) := cell_of_block E1.out rfl
    have x2 : W.cell? ⟨w.heap.size, 2, none⟩ = some (.slice p n cap) := cell_of_block E1.out rfl
    go_wp2_with fail
    go_ret
    exact ⟨by rw [V.out]; rfl, HB.out⟩
  · have d1 : decide ((60 : Int) < (n : Int)) = false := decide_eq_false (by omega)
    have hn60 : decide (n ≤ 60) = true := decide_eq_true (by omega)
    by_cases c2 : ex = decide (1 ≤ tm)
    · by_cases c3 : ex = false ∧ tm ≠ 0
      · obtain ⟨rfl, c3⟩ := c3
        have V := Lib.hid (show cv = 3 by
          have h2 : ¬ (1 ≤ tm) := by simpa using c2.symm
          rw [HV.out, decide_eq_false (show ¬ 0 ≤ tm by omega)]
          simp)
        have d2 : decide (1 ≤ tm) = false := c2.symm
        obtain ⟨e5, e6⟩ := ne_t c3
        clear c1 c2 c3 HV
        go_enter Try.func17, Try.ntmps17
        go_upto_region 1 with fail
        generalize w.alloc (.cells #[.bool false, .int .i64 tm, .slice p n cap] 24) = W at K1 HB E1 ⊢
        have x0 : W.cell? ⟨w.heap.size, 0, none⟩ = some (.bool false) := cell_of_block E1.out rfl
        have x1 : W.cell? ⟨w.heap.size, 1, none⟩ = some (.int .i64 tm) := cell_of_block E1.out rfl
        have x2 : W.cell? ⟨w.heap.size, 2, none⟩ = some (.slice p n cap) := cell_of_block E1.out rfl
        go_wp2_with fail
        go_ret
        exact ⟨by rw [V.out]; rfl, HB.out⟩
      · have V0 := Lib.hid (show cv = if ckF ex none l = true then 0 else 3 by
          have h0 : 0 ≤ tm ∧ decide (0 < tm) = decide (1 ≤ tm) := by
            refine ⟨?_, decide_eq_decide.2 (by omega)⟩
            rcases Int.lt_or_le tm 0 with k | k
            · exfalso
              refine c3 ⟨?_, by omega⟩
              rw [c2, decide_eq_false (by omega)]
            · exact k
          rw [HV.out, hn60, decide_eq_true h0.1, h0.2, ← c2]
          simp)
        clear HV c1 hn60
        cases ex
        · have d2 : decide (1 ≤ tm) = false := c2.symm
          have htm : tm = 0 := by
            rcases Int.lt_trichotomy tm 0 with k | k | k
            · exact absurd ⟨rfl, by omega⟩ c3
            · exact k
            · exact absurd ⟨rfl, by omega⟩ c3
          obtain ⟨e5, e6⟩ := eq_t htm
          clear c2 c3 htm
          go_enter Try.func17, Try.ntmps17
          go_upto_region 1 with fail
          generalize w.alloc (.cells #[.bool false, .int .i64 tm, .slice p n cap] 24) = W at K1 HB E1 ⊢
          have x0 : W.cell? ⟨w.heap.size, 0, none⟩ = some (.bool false) := cell_of_block E1.out rfl
          have x1 : W.cell? ⟨w.heap.size, 1, none⟩ = some (.int .i64 tm) := cell_of_block E1.out rfl
          have x2 : W.cell? ⟨w.heap.size, 2, none⟩ = some (.slice p n cap) := cell_of_block E1.out rfl
          have hwb := lt_of_block E1.out
          go_wp2_with fail
          go_loopw [3] (fun i wr => ∃ k : Nat, k ≤ n ∧ i = .int .i64 k ∧ Hid (ckF false (prevN l k) (l.drop k) = ckF false none l) ∧ Hid (Below W.heap.size W wr)) (fun i _ => n - (intOf i).toNat)
          case atStart => exact ⟨0, Nat.zero_le _, rfl, Lib.hid rfl, Lib.hid (Below.refl _ _)⟩
          case round =>
            clear x0 x1 x2
            obtain ⟨k, hk, rfl, HQ, HW⟩ := hrel
            have E3 := Lib.hid (below_block HW.out hwb E1.out)
            have K3 := Lib.hid (K1.out.below HW.out)
            have B3 := Lib.hid (gk_call HB.out HW.out)
            have x0 : wr.cell? ⟨w.heap.size, 0, none⟩ = some (.bool false) := cell_of_block E3.out rfl
            have x2 : wr.cell? ⟨w.heap.size, 2, none⟩ = some (.slice p n cap) := cell_of_block E3.out rfl
            by_cases hlt : k < n
            · obtain ⟨x, hx⟩ : ∃ x, l[k]? = some x := ⟨_, List.getElem?_eq_getElem (by rw [← HNN.out]; exact hlt)⟩
              have hne : l ≠ [] := by rintro rfl; simp at hx
              have S1 := Lib.hid (ck_step (ex := false) hx)
              obtain ⟨q1, d1', b1, o1, hv1, hp1, hc1⟩ := K3.out
              simp only [Value.slice.injEq] at hv1
              obtain ⟨rfl, -, rfl⟩ := hv1
              obtain rfl := hp1 hne
              have r1 : wr.cell? ⟨b1, o1 + k * 2, none⟩ = some (.string x.1) := hc1 k _ hx 0 _ rfl
              have r2 : wr.cell? ⟨b1, o1 + k * 2 + 1, none⟩ = some (.int .i64 x.2) := hc1 k _ hx 1 _ rfl
              have d3 : decide (k < n) = true := decide_eq_true hlt
              have d4 : decide ((k : Int) < (n : Int)) = true := decide_eq_true (by omega)
              have d5 : decide (0 ≤ (k : Int)) = true := decide_eq_true (by omega)
              obtain ⟨xs, xt⟩ := x
              dsimp only at r1 r2
              have T := Lib.hid (heap_new wr (.cells #[.string xs, .int .i64 xt] 56))
              have k7 := (Below.refl wr.heap.size wr).alloc (Nat.le_refl _) (.cells #[.string xs, .int .i64 xt] 56)
              have HW7 := Lib.hid (HW.out.alloc HW.out.size (.cells #[.string xs, .int .i64 xt] 56))
              have HB7 := Lib.hid (B3.out.alloc B3.out.size (.cells #[.string xs, .int .i64 xt] 56))
              have E7 := Lib.hid (show (wr.alloc (.cells #[.string xs, .int .i64 xt] 56)).heap[w.heap.size]? = _ from heap_old E3.out)
              have HC7 := Lib.hid (fun j y (hy : l[j]? = some y) => (show (wr.alloc (.cells #[.string xs, .int .i64 xt] 56)).cell? ⟨b1, o1 + j * 2, none⟩ = some (.string y.1) from cell_below k7 (hc1 j _ hy 0 _ rfl)))
              clear hc1 hp1
              go_upto_region 7 with fail
              clear r1 r2 x0 x2 k7
              generalize wr.alloc (.cells #[.string xs, .int .i64 xt] 56) = W7 at T HW7 HB7 E7 HC7 ⊢
              generalize wr.heap.size = tb at T ⊢
              have t0 : W7.cell? ⟨tb, 0, none⟩ = some (.string xs) := cell_of_block T.out rfl
              have t1 : W7.cell? ⟨tb, 1, none⟩ = some (.int .i64 xt) := cell_of_block T.out rfl
              have x0 : W7.cell? ⟨w.heap.size, 0, none⟩ = some (.bool false) := cell_of_block E7.out rfl
              have x2 : W7.cell? ⟨w.heap.size, 2, none⟩ = some (.slice (some ⟨b1, o1, none⟩) n cap) := cell_of_block E7.out rfl
              rcases Int.lt_or_le xt 0 with hneg | hpos
              · have hb : okX false (xs, xt) = false := by unfold okX; rw [decide_eq_false (show ¬ 0 ≤ xt by omega)]; rfl
                have dn : decide (xt < 0) = true := decide_eq_true hneg
                have V := Lib.hid (show cv = 3 by rw [V0.out, ← HQ.out, S1.out, hb]; simp)
                clear HQ S1 V0
                go_wp2_with fail
                go_quiet (fail)
                go_wp2_with fail
                go_ret
                exact ⟨by rw [V.out]; rfl, below_drewN HB7.out _⟩
              · have dn : decide (xt < 0) = false := decide_eq_false (by omega)
                by_cases h0 : xt = 0
                · have hb : okX false (xs, xt) = false := by subst h0; rfl
                  obtain ⟨z5, z6⟩ := eq_t h0
                  have V := Lib.hid (show cv = 3 by rw [V0.out, ← HQ.out, S1.out, hb]; simp)
                  clear HQ S1 V0
                  go_wp2_with fail
                  go_quiet (fail)
                  go_wp2_with fail
                  go_ret
                  exact ⟨by rw [V.out]; rfl, below_drewN HB7.out _⟩
                have hg : okX false (xs, xt) = true := by unfold okX; rw [decide_eq_true (show 0 ≤ xt from hpos), decide_eq_true (show xt ≠ 0 from h0)]; rfl
                obtain ⟨z5, z6⟩ := ne_t h0
                rcases k with _ | j
                · have HN := Lib.hid (show ckF false (prevN l (0 + 1)) (l.drop (0 + 1)) = ckF false none l by rw [← HQ.out, S1.out, hg]; simp [prevN])
                  have d6 : decide ((0 : Int) < ((0 : Nat) : Int)) = false := by decide
                  clear HQ S1
                  go_wp2_with fail
                  go_quiet (fail)
                  go_wp2_with fail
                  go_roundw
                  case rel => exact ⟨0 + 1, by omega, by go_num, HN, Lib.hid (below_drewN HW7.out _)⟩
                  case measure => simp [intOf]; omega
                · obtain ⟨y, hy⟩ : ∃ y, l[j]? = some y := ⟨_, List.getElem?_eq_getElem (by have := (List.getElem?_eq_some_iff.1 hx).1; omega)⟩
                  have q1 := HC7.out j y hy
                  have hp : prevN l (j + 1) = some y.1 := by
                    unfold prevN
                    rw [if_neg (by omega)]
                    show (l[j]?).map _ = _
                    rw [hy]
                    rfl
                  generalize y.1 = ys at q1 hp
                  have hw : IntKind.i64.wrap (((j + 1 : Nat) : Int) - 1) = (j : Int) := by rw [show ((j + 1 : Nat) : Int) - 1 = (j : Int) from by omega]; exact IntWalk.i64_in _ (by omega)
                  have hn' : ((j : Int)).toNat = j := by omega
                  have hj0 : (0 : Int) ≤ (j : Int) := by omega
                  have hj1 : (j : Int) < (n : Int) := by omega
                  have d6 : decide ((0 : Int) < ((j + 1 : Nat) : Int)) = true := decide_eq_true (by omega)
                  rcases h : sl ys xs with _ | _
                  · have V := Lib.hid (show cv = 3 by rw [V0.out, ← HQ.out, S1.out, hg, hp]; simp [h])
                    have g1 := fun t => geq_of (x := ys) (y := xs) (r := true) (by rw [h]; rfl) t
                    clear HQ S1 V0 h hx hy HC7
                    go_wp2_with fail
                    go_quiet (fail)
                    go_wp2_with fail
                    go_ret
                    exact ⟨by rw [V.out]; rfl, below_drewN HB7.out _⟩
                  · have HN := Lib.hid (show ckF false (prevN l (j + 1 + 1)) (l.drop (j + 1 + 1)) = ckF false none l by rw [← HQ.out, S1.out, hg, hp]; simp [h])
                    have g1 := fun t => geq_of (x := ys) (y := xs) (r := false) (by rw [h]; rfl) t
                    clear h hx hy HC7
                    clear HQ S1
                    go_wp2_with fail
                    go_quiet (fail)
                    go_wp2_with fail
                    go_roundw
                    case rel => exact ⟨j + 1 + 1, by omega, by go_num, HN, Lib.hid (below_drewN HW7.out _)⟩
                    case measure => simp [intOf]; omega
            · obtain rfl : k = n := by omega
              have V := Lib.hid (show cv = 0 by
                have h2 : l.drop k = [] := by rw [HNN.out, List.drop_length]
                have h := HQ.out
                rw [h2] at h
                rw [V0.out, ← h]
                cases prevN l k <;> rfl)
              have d3 : decide (k < k) = false := decide_eq_false (by omega)
              have d4 : decide ((k : Int) < (k : Int)) = false := decide_eq_false (by omega)
              go_wp2_with fail
              go_ret
              exact ⟨by rw [V.out]; rfl, B3.out⟩
        · have d2 : decide (1 ≤ tm) = true := c2.symm
          clear c2 c3
          go_enter Try.func17, Try.ntmps17
          go_upto_region 1 with fail
          generalize w.alloc (.cells #[.bool true, .int .i64 tm, .slice p n cap] 24) = W at K1 HB E1 ⊢
          have x0 : W.cell? ⟨w.heap.size, 0, none⟩ = some (.bool true) := cell_of_block E1.out rfl
          have x1 : W.cell? ⟨w.heap.size, 1, none⟩ = some (.int .i64 tm) := cell_of_block E1.out rfl
          have x2 : W.cell? ⟨w.heap.size, 2, none⟩ = some (.slice p n cap) := cell_of_block E1.out rfl
          have hwb := lt_of_block E1.out
          go_wp2_with fail
          go_loopw [3] (fun i wr => ∃ k : Nat, k ≤ n ∧ i = .int .i64 k ∧ Hid (ckF true (prevN l k) (l.drop k) = ckF true none l) ∧ Hid (Below W.heap.size W wr)) (fun i _ => n - (intOf i).toNat)
          case atStart => exact ⟨0, Nat.zero_le _, rfl, Lib.hid rfl, Lib.hid (Below.refl _ _)⟩
          case round =>
            clear x0 x1 x2
            obtain ⟨k, hk, rfl, HQ, HW⟩ := hrel
            have E3 := Lib.hid (below_block HW.out hwb E1.out)
            have K3 := Lib.hid (K1.out.below HW.out)
            have B3 := Lib.hid (gk_call HB.out HW.out)
            have x0 : wr.cell? ⟨w.heap.size, 0, none⟩ = some (.bool true) := cell_of_block E3.out rfl
            have x2 : wr.cell? ⟨w.heap.size, 2, none⟩ = some (.slice p n cap) := cell_of_block E3.out rfl
            by_cases hlt : k < n
            · obtain ⟨x, hx⟩ : ∃ x, l[k]? = some x := ⟨_, List.getElem?_eq_getElem (by rw [← HNN.out]; exact hlt)⟩
              have hne : l ≠ [] := by rintro rfl; simp at hx
              have S1 := Lib.hid (ck_step (ex := true) hx)
              obtain ⟨q1, d1', b1, o1, hv1, hp1, hc1⟩ := K3.out
              simp only [Value.slice.injEq] at hv1
              obtain ⟨rfl, -, rfl⟩ := hv1
              obtain rfl := hp1 hne
              have r1 : wr.cell? ⟨b1, o1 + k * 2, none⟩ = some (.string x.1) := hc1 k _ hx 0 _ rfl
              have r2 : wr.cell? ⟨b1, o1 + k * 2 + 1, none⟩ = some (.int .i64 x.2) := hc1 k _ hx 1 _ rfl
              have d3 : decide (k < n) = true := decide_eq_true hlt
              have d4 : decide ((k : Int) < (n : Int)) = true := decide_eq_true (by omega)
              have d5 : decide (0 ≤ (k : Int)) = true := decide_eq_true (by omega)
              obtain ⟨xs, xt⟩ := x
              dsimp only at r1 r2
              have T := Lib.hid (heap_new wr (.cells #[.string xs, .int .i64 xt] 56))
              have k7 := (Below.refl wr.heap.size wr).alloc (Nat.le_refl _) (.cells #[.string xs, .int .i64 xt] 56)
              have HW7 := Lib.hid (HW.out.alloc HW.out.size (.cells #[.string xs, .int .i64 xt] 56))
              have HB7 := Lib.hid (B3.out.alloc B3.out.size (.cells #[.string xs, .int .i64 xt] 56))
              have E7 := Lib.hid (show (wr.alloc (.cells #[.string xs, .int .i64 xt] 56)).heap[w.heap.size]? = _ from heap_old E3.out)
              have HC7 := Lib.hid (fun j y (hy : l[j]? = some y) => (show (wr.alloc (.cells #[.string xs, .int .i64 xt] 56)).cell? ⟨b1, o1 + j * 2, none⟩ = some (.string y.1) from cell_below k7 (hc1 j _ hy 0 _ rfl)))
              clear hc1 hp1
              go_upto_region 7 with fail
              clear r1 r2 x0 x2 k7
              generalize wr.alloc (.cells #[.string xs, .int .i64 xt] 56) = W7 at T HW7 HB7 E7 HC7 ⊢
              generalize wr.heap.size = tb at T ⊢
              have t0 : W7.cell? ⟨tb, 0, none⟩ = some (.string xs) := cell_of_block T.out rfl
              have t1 : W7.cell? ⟨tb, 1, none⟩ = some (.int .i64 xt) := cell_of_block T.out rfl
              have x0 : W7.cell? ⟨w.heap.size, 0, none⟩ = some (.bool true) := cell_of_block E7.out rfl
              have x2 : W7.cell? ⟨w.heap.size, 2, none⟩ = some (.slice (some ⟨b1, o1, none⟩) n cap) := cell_of_block E7.out rfl
              rcases Int.lt_or_le xt 0 with hneg | hpos
              · have hb : okX true (xs, xt) = false := by unfold okX; rw [decide_eq_false (show ¬ 0 ≤ xt by omega)]; rfl
                have dn : decide (xt < 0) = true := decide_eq_true hneg
                have V := Lib.hid (show cv = 3 by rw [V0.out, ← HQ.out, S1.out, hb]; simp)
                clear HQ S1 V0
                go_wp2_with fail
                go_quiet (fail)
                go_wp2_with fail
                go_ret
                exact ⟨by rw [V.out]; rfl, below_drewN HB7.out _⟩
              · have dn : decide (xt < 0) = false := decide_eq_false (by omega)
                have hg : okX true (xs, xt) = true := by unfold okX; rw [decide_eq_true (show 0 ≤ xt from hpos)]; rfl
                rcases k with _ | j
                · have HN := Lib.hid (show ckF true (prevN l (0 + 1)) (l.drop (0 + 1)) = ckF true none l by rw [← HQ.out, S1.out, hg]; simp [prevN])
                  have d6 : decide ((0 : Int) < ((0 : Nat) : Int)) = false := by decide
                  clear HQ S1
                  go_wp2_with fail
                  go_quiet (fail)
                  go_wp2_with fail
                  go_roundw
                  case rel => exact ⟨0 + 1, by omega, by go_num, HN, Lib.hid (below_drewN HW7.out _)⟩
                  case measure => simp [intOf]; omega
                · obtain ⟨y, hy⟩ : ∃ y, l[j]? = some y := ⟨_, List.getElem?_eq_getElem (by have := (List.getElem?_eq_some_iff.1 hx).1; omega)⟩
                  have q1 := HC7.out j y hy
                  have hp : prevN l (j + 1) = some y.1 := by
                    unfold prevN
                    rw [if_neg (by omega)]
                    show (l[j]?).map _ = _
                    rw [hy]
                    rfl
                  generalize y.1 = ys at q1 hp
                  have hw : IntKind.i64.wrap (((j + 1 : Nat) : Int) - 1) = (j : Int) := by rw [show ((j + 1 : Nat) : Int) - 1 = (j : Int) from by omega]; exact IntWalk.i64_in _ (by omega)
                  have hn' : ((j : Int)).toNat = j := by omega
                  have hj0 : (0 : Int) ≤ (j : Int) := by omega
                  have hj1 : (j : Int) < (n : Int) := by omega
                  have d6 : decide ((0 : Int) < ((j + 1 : Nat) : Int)) = true := decide_eq_true (by omega)
                  rcases h : sl ys xs with _ | _
                  · have V := Lib.hid (show cv = 3 by rw [V0.out, ← HQ.out, S1.out, hg, hp]; simp [h])
                    have g1 := fun t => geq_of (x := ys) (y := xs) (r := true) (by rw [h]; rfl) t
                    clear HQ S1 V0 h hx hy HC7
                    go_wp2_with fail
                    go_quiet (fail)
                    go_wp2_with fail
                    go_ret
                    exact ⟨by rw [V.out]; rfl, below_drewN HB7.out _⟩
                  · have HN := Lib.hid (show ckF true (prevN l (j + 1 + 1)) (l.drop (j + 1 + 1)) = ckF true none l by rw [← HQ.out, S1.out, hg, hp]; simp [h])
                    have g1 := fun t => geq_of (x := ys) (y := xs) (r := false) (by rw [h]; rfl) t
                    clear h hx hy HC7
                    clear HQ S1
                    go_wp2_with fail
                    go_quiet (fail)
                    go_wp2_with fail
                    go_roundw
                    case rel => exact ⟨j + 1 + 1, by omega, by go_num, HN, Lib.hid (below_drewN HW7.out _)⟩
                    case measure => simp [intOf]; omega
            · obtain rfl : k = n := by omega
              have V := Lib.hid (show cv = 0 by
                have h2 : l.drop k = [] := by rw [HNN.out, List.drop_length]
                have h := HQ.out
                rw [h2] at h
                rw [V0.out, ← h]
                cases prevN l k <;> rfl)
              have d3 : decide (k < k) = false := decide_eq_false (by omega)
              have d4 : decide ((k : Int) < (k : Int)) = false := decide_eq_false (by omega)
              go_wp2_with fail
              go_ret
              exact ⟨by rw [V.out]; rfl, B3.out⟩
    · have V := Lib.hid (show cv = 3 by
        have h2 : (ex == decide (0 < tm)) = false := by
          rw [beq_eq_false_iff_ne]
          intro k
          refine c2 (k.trans (decide_eq_decide.2 (by omega)))
        rw [HV.out, h2]
        simp)
      have d2 : ∃ b, decide (1 ≤ tm) = b ∧ ex = !b := by
        refine ⟨decide (1 ≤ tm), rfl, ?_⟩
        cases ex <;> cases hh : decide (1 ≤ tm) <;> simp_all
      obtain ⟨b, d2, hb⟩ := d2
      clear c1 c2 HV
      cases b
      · replace hb : ex = true := hb
        subst hb
        go_enter Try.func17, Try.ntmps17
        go_upto_region 1 with fail
        generalize w.alloc (.cells #[.bool true, .int .i64 tm, .slice p n cap] 24) = W at K1 HB E1 ⊢
        have x0 : W.cell? ⟨w.heap.size, 0, none⟩ = some (.bool true) := cell_of_block E1.out rfl
        have x1 : W.cell? ⟨w.heap.size, 1, none⟩ = some (.int .i64 tm) := cell_of_block E1.out rfl
        have x2 : W.cell? ⟨w.heap.size, 2, none⟩ = some (.slice p n cap) := cell_of_block E1.out rfl
        go_wp2_with fail
        go_ret
        exact ⟨by rw [V.out]; rfl, HB.out⟩
      · replace hb : ex = false := hb
        subst hb
        go_enter Try.func17, Try.ntmps17
        go_upto_region 1 with fail
        generalize w.alloc (.cells #[.bool false, .int .i64 tm, .slice p n cap] 24) = W at K1 HB E1 ⊢
        have x0 : W.cell? ⟨w.heap.size, 0, none⟩ = some (.bool false) := cell_of_block E1.out rfl
        have x1 : W.cell? ⟨w.heap.size, 1, none⟩ = some (.int .i64 tm) := cell_of_block E1.out rfl
        have x2 : W.cell? ⟨w.heap.size, 2, none⟩ = some (.slice p n cap) := cell_of_block E1.out rfl
        go_wp2_with fail
        go_ret
        exact ⟨by rw [V.out]; rfl, HB.out⟩
end Go.Proofs.Ytceilgeefegbmaa
