/-
  Bridges and links: tree.Check. Contracts over the translated program.
-/
import Derived.Test.YtolmkflhddlcnaaTrM
import Derived.Lib.QuietBelow
import Derived.BigQuiet
namespace Go.Proofs.Ytolmkflhddlcnaa
open Go.RowKit
set_option linter.unusedVariables false
set_option linter.unusedSimpArgs false

/-- WHAT Check ANSWERS. -/
def ChkPost (ids : List Int) (L : List Lk) (w : World) (e : Ending) (w' : World) : Prop :=
  ((MayT ids L ∧ e = .returned (.int .i64 0)) ∨ (¬ MayT ids L ∧ e = .returned (.int .i64 3))) ∧ Below w.heap.size w w'
theorem chk_no {ids : List Int} {L : List Lk} {w w' : World} (h : ¬ MayT ids L) (k : Below w.heap.size w w') : ChkPost ids L w (.returned (.int .i64 3)) w' := ⟨Or.inr ⟨h, rfl⟩, k⟩

set_option maxHeartbeats 8000000 in
set_option maxRecDepth 100000 in
theorem chk_c (vi vl : Value) (ids : List Int) (L : List Lk) (w : World) (hi : RowsAt 1 cellsU64 w vi ids) (hc : CapOk vi) (hL : RowsAt 5 cellsLk w vl L) (qi : ids.length ≤ 9223372036854775807) (ql : L.length ≤ 9223372036854775807) : Calls Try.prog 11 #[vi, vl] w (ChkPost ids L w) := by
  obtain ⟨pi, capi, rfl⟩ := hi.slice
  obtain ⟨pl, capl, rfl⟩ := hL.slice
  have hcap := hc _ _ _ rfl
  have HI := Lib.hid hi
  have HL := Lib.hid hL
  clear hi hL hc
  by_cases s1 : ids.length < 1
  · have k1 : decide ((ids.length : Int) < 1) = true := decide_eq_true (by omega)
    have E := Lib.hid (show ¬ MayT ids L from fun h => by have := h.n1; omega)
    clear s1
    go_enter Try.func11, Try.ntmps11
    go_wp2
    go_ret
    exact chk_no E.out (Below.refl _ _)
  · have k1 : decide ((ids.length : Int) < 1) = false := decide_eq_false (by omega)
    by_cases s2 : 12 < ids.length
    · have k2 : decide ((12 : Int) < (ids.length : Int)) = true := decide_eq_true (by omega)
      have E := Lib.hid (show ¬ MayT ids L from fun h => by have := h.n12; omega)
      clear s1 s2
      go_enter Try.func11, Try.ntmps11
      go_wp2
      go_ret
      exact chk_no E.out (Below.refl _ _)
    · have k2 : decide ((12 : Int) < (ids.length : Int)) = false := decide_eq_false (by omega)
      by_cases s3 : 40 < L.length
      · have k3 : decide ((40 : Int) < (L.length : Int)) = true := decide_eq_true (by omega)
        have E := Lib.hid (show ¬ MayT ids L from fun h => by have := h.l40; omega)
        clear s1 s2 s3
        go_enter Try.func11, Try.ntmps11
        go_wp2
        go_ret
        exact chk_no E.out (Below.refl _ _)
      · have k3 : decide ((40 : Int) < (L.length : Int)) = false := decide_eq_false (by omega)
        obtain ⟨bb, offi, cI⟩ : ∃ bb off, pi = some ⟨bb, off, none⟩ ∧ ∀ (j : Nat) (hj : j < ids.length), w.cell? ⟨bb, off + j, none⟩ = some (.int .u64 ids[j]) := by
          obtain ⟨p, cap, b, off, hv, hp, hc⟩ := HI.out
          cases hv
          have hne : ids ≠ [] := by rintro rfl; simp at s1
          refine ⟨b, off, hp hne, fun j hj => ?_⟩
          have := hc j _ (List.getElem?_eq_getElem hj) 0 _ rfl
          simpa using this
        obtain ⟨rfl, cI⟩ := cI
        have CI := Lib.hid cI
        clear cI
        have CON := Lib.hid fun (k : Nat) (hk : k ≤ ids.length) (x : Int) => containsU_c (.slice (some ⟨bb, offi, none⟩) k capi) (ids.take k) x w (by rw [List.length_take]; omega) (HI.out.take k hk capi)
        go_enter Try.func11, Try.ntmps11
        go_wp2_with fail
        clear k1 k2 k3
        go_loopw [5, 6, 27] (fun _ _ i wr => ∃ k : Nat, k ≤ ids.length ∧ i = .int .i64 k ∧ Hid ((ids.take k).Nodup) ∧ w = wr) (fun _ _ i _ => ids.length - (intOf i).toNat)
        case atStart => exact ⟨0, Nat.zero_le _, rfl, Lib.hid (by simp), by trivial⟩
        case round =>
          obtain ⟨k, hk, rfl, HN, rfl⟩ := hrel
          by_cases hlt : k < ids.length
          · have xc := CI.out k hlt
            have HT := Lib.hid (show ids.take (k + 1) = ids.take k ++ [ids[k]] from List.take_succ_eq_append_getElem hlt)
            generalize ids[k] = x at xc HT
            have hk1 : decide (ids.length ≤ k) = false := decide_eq_false (by omega)
            have C1 := Lib.hid (CON.out k hk x)
            have hcap1 : k ≤ capi := by omega
            by_cases hx : x ∈ ids.take k
            · have E := Lib.hid (show ¬ MayT ids L from fun h => by
                have h1 : (ids.take (k + 1)).Nodup := h.nd.sublist (List.take_sublist _ _)
                rw [HT.out, List.nodup_append] at h1
                exact h1.2.2 x hx x (by simp) rfl)
              rw [decide_eq_true hx] at C1
              clear hx HN HT
              go_wp2_with fail
              ((with_reducible refine C1.out.mono ?_); rintro e w1 ⟨rfl, rfl⟩)
              go_wp2_with fail
              go_ret
              exact chk_no E.out (Below.refl _ _)
            · have HN1 := Lib.hid (show (ids.take (k + 1)).Nodup by
                rw [HT.out, List.nodup_append]
                refine ⟨HN.out, by simp, fun a ha b hb => ?_⟩
                simp at hb
                rintro rfl
                exact hx (hb ▸ ha))
              rw [decide_eq_false hx] at C1
              clear hx HN HT
              go_wp2_with fail
              ((with_reducible refine C1.out.mono ?_); rintro e w1 ⟨rfl, rfl⟩)
              go_wp2_with fail
              go_roundw
              case rel => exact ⟨k + 1, by omega, by go_num, HN1, by trivial⟩
              case measure => simp [intOf]; omega
          · obtain rfl : k = ids.length := by omega
            rw [List.take_of_length_le (Nat.le_refl _)] at HN
            clear hlt hk CON CI
            obtain ⟨n, hn⟩ : ∃ n, n = ids.length := ⟨_, rfl⟩
            have HNN := Lib.hid hn
            rw [← hn] at s1 s2 qi hcap ⊢
            clear hn
            go_wp2_with fail
            go_loopw [8, 40] (fun _ i wr => ∃ k : Nat, k ≤ L.length ∧ i = .int .i64 k ∧ Hid (∀ l ∈ L.take k, 1 ≤ l.2.2.2.2 ∧ l.2.2.2.2 ≤ 200000000) ∧ Hid (Below w.heap.size w wr)) (fun _ i _ => L.length - (intOf i).toNat)
            case atStart => exact ⟨0, Nat.zero_le _, rfl, Lib.hid (by simp), Lib.hid (Below.refl _ _)⟩
            case round =>
              obtain ⟨k, hk, rfl, HG, KB⟩ := hrel
              by_cases hlt : k < L.length
              · obtain ⟨pb', capb, lb, offl, hv, hp, hcl⟩ := HL.out
                cases hv
                have hne : L ≠ [] := by rintro rfl; simp at hlt
                obtain rfl := hp hne
                have hx : L[k]? = some L[k] := List.getElem?_eq_getElem hlt
                have x0 : wr.cell? ⟨lb, offl + k * 5, none⟩ = some _ := gcell_below KB.out (hcl k _ hx 0 _ rfl)
                have x1 : wr.cell? ⟨lb, offl + k * 5 + 1, none⟩ = some _ := gcell_below KB.out (hcl k _ hx 1 _ rfl)
                have x2 : wr.cell? ⟨lb, offl + k * 5 + 2, none⟩ = some _ := gcell_below KB.out (hcl k _ hx 2 _ rfl)
                have x3 : wr.cell? ⟨lb, offl + k * 5 + 3, none⟩ = some _ := gcell_below KB.out (hcl k _ hx 3 _ rfl)
                have x4 : wr.cell? ⟨lb, offl + k * 5 + 4, none⟩ = some _ := gcell_below KB.out (hcl k _ hx 4 _ rfl)
                have HT := Lib.hid (show L.take (k + 1) = L.take k ++ [L[k]] from List.take_succ_eq_append_getElem hlt)
                have HM := Lib.hid (List.getElem_mem hlt)
                clear hx hne hp hcl
                generalize L[k] = l at x0 x1 x2 x3 x4 HT HM
                obtain ⟨a, pa, b, pb, c⟩ := l
                simp only at x0 x1 x2 x3 x4
                have hk1 : decide (L.length ≤ k) = false := decide_eq_false (by omega)
                have HB1 := Lib.hid ((KB.out.alloc KB.out.size (.cells #[.int .i64 a, .int .i64 pa, .int .i64 b, .int .i64 pb, .int .i64 c] 45)))
                by_cases c1 : c < 1
                · have d1 : decide (c < 1) = true := decide_eq_true c1
                  have E := Lib.hid (show ¬ MayT ids L from fun h => by have := ((may_iff ids L).1 h).2.2.2.2.1 _ HM.out; simp only at this; omega)
                  clear c1
                  go_wp2_with fail
                  go_ret
                  exact chk_no E.out HB1.out
                · have d1 : decide (c < 1) = false := decide_eq_false c1
                  by_cases c2 : 200000000 < c
                  · have d2 : decide (200000000 < c) = true := decide_eq_true c2
                    have E := Lib.hid (show ¬ MayT ids L from fun h => by have := ((may_iff ids L).1 h).2.2.2.2.1 _ HM.out; simp only at this; omega)
                    clear c1 c2
                    go_wp2_with fail
                    go_ret
                    exact chk_no E.out HB1.out
                  · have d2 : decide (200000000 < c) = false := decide_eq_false c2
                    have HG1 := Lib.hid (show ∀ l ∈ L.take (k + 1), 1 ≤ l.2.2.2.2 ∧ l.2.2.2.2 ≤ 200000000 from fun x hx => by
                      rw [HT.out] at hx
                      rcases List.mem_append.1 hx with hx | hx
                      · exact HG.out x hx
                      · simp at hx; rw [hx]; simp only; omega)
                    clear c1 c2
                    go_wp2_with fail
                    go_roundw
                    case rel => exact ⟨k + 1, by omega, by go_num, HG1, HB1⟩
                    case measure => simp [intOf]; omega
              · obtain rfl : k = L.length := by omega
                rw [List.take_of_length_le (Nat.le_refl _)] at HG
                clear hlt hk
                have AE1 := Lib.hid (allEnds_c (.slice pl L.length capl) L wr (by omega) (HL.out.below KB.out))
                go_wp2_with fail
                ((with_reducible refine AE1.out.mono ?_); rintro e w3 ⟨u, R, rfl, r1, r2, r3, r4⟩)
                obtain ⟨pr, capr, rfl⟩ := r3.slice
                have RP := Lib.hid r1
                have RU := Lib.hid r2
                have RR := Lib.hid r3
                have KB3 := Lib.hid (KB.out.trans (r4.mono KB.out.size))
                have qR : R.length ≤ 1000000 := by rw [r1.length_eq, pends_len]; omega
                clear r1 r2 r3 r4 AE1 KB
                go_wp2_with fail
                go_loopw [10, 11, 57] (fun _ _ i wr => ∃ k : Nat, k ≤ R.length ∧ i = .int .i64 k ∧ Hid (∀ e ∈ R.take k, mayP n e = true) ∧ Hid (∀ (i : Nat) (x y : Pe), i + 1 < k → R[i]? = some x → R[i + 1]? = some y → meetP y x = false) ∧ Hid (Below w3.heap.size w3 wr)) (fun _ _ i _ => R.length - (intOf i).toNat)
                case atStart => exact ⟨0, Nat.zero_le _, rfl, Lib.hid (by simp), Lib.hid (by intro i x y h; omega), Lib.hid (Below.refl _ _)⟩
                case round =>
                  obtain ⟨k, hk, rfl, HA, HD, KR⟩ := hrel
                  by_cases hlt : k < R.length
                  · obtain ⟨px, capx, lb, offl, hv, hp, hcl⟩ := RR.out
                    cases hv
                    have hne : R ≠ [] := by rintro rfl; simp at hlt
                    obtain rfl := hp hne
                    have hx : R[k]? = some R[k] := List.getElem?_eq_getElem hlt
                    have hcl' := Lib.hid hcl
                    have x0 : wr.cell? ⟨lb, offl + k * 4, none⟩ = some _ := gcell_below KR.out (hcl k _ hx 0 _ rfl)
                    have x1 : wr.cell? ⟨lb, offl + k * 4 + 1, none⟩ = some _ := gcell_below KR.out (hcl k _ hx 1 _ rfl)
                    have x2 : wr.cell? ⟨lb, offl + k * 4 + 2, none⟩ = some _ := gcell_below KR.out (hcl k _ hx 2 _ rfl)
                    have x3 : wr.cell? ⟨lb, offl + k * 4 + 3, none⟩ = some _ := gcell_below KR.out (hcl k _ hx 3 _ rfl)
                    have HT := Lib.hid (show R.take (k + 1) = R.take k ++ [R[k]] from List.take_succ_eq_append_getElem hlt)
                    have HM := Lib.hid (List.getElem_mem hlt)
                    have HX := Lib.hid hx
                    clear hx hne hp hcl
                    generalize R[k] = l at x0 x1 x2 x3 HT HM HX
                    obtain ⟨b1, p1, l1, s1⟩ := l
                    simp only at x0 x1 x2 x3
                    have hk1 : decide (R.length ≤ k) = false := decide_eq_false (by omega)
                    go_upto_region 19 with fail
                    have K1 := Lib.hid (KR.out.alloc KR.out.size (.cells #[.int .i64 b1, .int .i64 p1, .int .i64 l1, .int .i64 s1] 54))
                    have HB1 := Lib.hid (heap_new wr (.cells #[.int .i64 b1, .int .i64 p1, .int .i64 l1, .int .i64 s1] 54))
                    clear x0 x1 x2 x3
                    generalize wr.alloc (.cells #[.int .i64 b1, .int .i64 p1, .int .i64 l1, .int .i64 s1] 54) = W1 at K1 HB1 ⊢
                    generalize wr.heap.size = eb at HB1 ⊢
                    have z0 : W1.cell? ⟨eb, 0, none⟩ = some (.int .i64 b1) := cell_of_block HB1.out rfl
                    have z1 : W1.cell? ⟨eb, 1, none⟩ = some (.int .i64 p1) := cell_of_block HB1.out rfl
                    have z2 : W1.cell? ⟨eb, 2, none⟩ = some (.int .i64 l1) := cell_of_block HB1.out rfl
                    have z3 : W1.cell? ⟨eb, 3, none⟩ = some (.int .i64 s1) := cell_of_block HB1.out rfl
                    have q0 := cell_regrown z0
                    have q1 := cell_regrown z1
                    have q2 := cell_regrown z2
                    have q3 := cell_regrown z3
                    have M1 := Lib.hid fun U => mayBe_c b1 p1 l1 s1 n U
                    cases hm : mayP n (b1, p1, l1, s1) with
                    | false =>
                      rw [hm] at M1
                      have E := Lib.hid (show ¬ MayT ids L from fun h => by
                        have h1 := ((may_iff ids L).1 h).2.2.2.2.2.1 _ (RP.out.mem_iff.1 HM.out)
                        rw [← HNN.out, hm] at h1
                        cases h1)
                      have C1 := fun d os => Calls.regrown_of (M1.out (Go.Sort.grow (redrawn W1 d) os))
                      have C2 := C1
                      clear hm HT HX HM HA HD
                      go_wp2_with fail
                      refine wp_region_quiet_below (by kernel_rfl) (by kernel_rfl) ?_
                      iterate 6 (with_reducible refine wpQuiet_step (fun K hK => ?_); go_simp; first | (with_reducible refine hK _ ?_; clear hK K) | (with_reducible apply Exists.intro; with_reducible refine ⟨fun _ => ?_, hK _ ?_⟩; (first | with_reducible exact C1 _ _ | with_reducible exact C2 _ _); clear hK K))
                      iterate 11 (with_reducible refine Go.BigFrame.wpQuiet_skip (by kernel_rfl) ?_)
                      iterate 1 (with_reducible refine wpQuiet_step (fun K hK => ?_); go_simp; first | (with_reducible refine hK _ ?_; clear hK K) | (with_reducible apply Exists.intro; with_reducible refine ⟨fun _ => ?_, hK _ ?_⟩; (first | with_reducible exact C1 _ _ | with_reducible exact C2 _ _); clear hK K))
                      with_reducible refine wpQuiet_nil ?_
                      intro _ hw
                      obtain ⟨⟨dq, osq⟩, hw2⟩ := hw
                      subst hw2
                      have G := below_regrown W1 dq osq
                      generalize Go.Sort.grow (redrawn W1 dq) osq = W at G ⊢
                      have KW := Lib.hid (K1.out.trans (G.mono K1.out.size))
                      go_wp2_with fail
                      go_ret
                      exact chk_no E.out (KB3.out.trans (KW.out.mono KB3.out.size))
                    | true =>
                      rw [hm] at M1
                      have HA1 := Lib.hid (show ∀ e ∈ R.take (k + 1), mayP n e = true from fun e he => by
                        rw [HT.out] at he
                        rcases List.mem_append.1 he with he | he
                        · exact HA.out e he
                        · simp at he; rw [he]; exact hm)
                      have C1 := fun d os => Calls.regrown_of (M1.out (Go.Sort.grow (redrawn W1 d) os))
                      clear hm HT HM HA
                      by_cases hk0 : k = 0
                      · subst hk0
                        have HD1 := Lib.hid (show ∀ (i : Nat) (x y : Pe), i + 1 < 0 + 1 → R[i]? = some x → R[i + 1]? = some y → meetP y x = false from fun i x y h => by omega)
                        have C2 := C1
                        go_wp2_with fail
                        refine wp_region_quiet_below (by kernel_rfl) (by kernel_rfl) ?_
                        iterate 9 (with_reducible refine wpQuiet_step (fun K hK => ?_); go_simp; first | (with_reducible refine hK _ ?_; clear hK K) | (with_reducible apply Exists.intro; with_reducible refine ⟨fun _ => ?_, hK _ ?_⟩; (first | with_reducible exact C1 _ _ | with_reducible exact C2 _ _); clear hK K))
                        iterate 7 (with_reducible refine Go.BigFrame.wpQuiet_skip (by kernel_rfl) ?_)
                        iterate 2 (with_reducible refine wpQuiet_step (fun K hK => ?_); go_simp; first | (with_reducible refine hK _ ?_; clear hK K) | (with_reducible apply Exists.intro; with_reducible refine ⟨fun _ => ?_, hK _ ?_⟩; (first | with_reducible exact C1 _ _ | with_reducible exact C2 _ _); clear hK K))
                        with_reducible refine wpQuiet_nil ?_
                        intro _ hw
                        obtain ⟨⟨dq, osq⟩, hw2⟩ := hw
                        subst hw2
                        have G := below_regrown W1 dq osq
                        generalize Go.Sort.grow (redrawn W1 dq) osq = W at G ⊢
                        have KW := Lib.hid (K1.out.trans (G.mono K1.out.size))
                        go_wp2_with fail
                        go_roundw
                        case rel => exact ⟨0 + 1, by omega, by go_num, HA1, HD1, KW⟩
                        case measure => simp [intOf]; omega
                      · obtain ⟨k', rfl⟩ : ∃ k', k = k' + 1 := ⟨k - 1, by omega⟩
                        have hx' : R[k']? = some (R[k']'(by omega)) := List.getElem?_eq_getElem _
                        have HX' := Lib.hid hx'
                        have y0 : W1.cell? ⟨lb, offl + k' * 4, none⟩ = some _ := gcell_below K1.out (hcl'.out k' _ hx' 0 _ rfl)
                        have y1 : W1.cell? ⟨lb, offl + k' * 4 + 1, none⟩ = some _ := gcell_below K1.out (hcl'.out k' _ hx' 1 _ rfl)
                        have y2 : W1.cell? ⟨lb, offl + k' * 4 + 2, none⟩ = some _ := gcell_below K1.out (hcl'.out k' _ hx' 2 _ rfl)
                        have y3 : W1.cell? ⟨lb, offl + k' * 4 + 3, none⟩ = some _ := gcell_below K1.out (hcl'.out k' _ hx' 3 _ rfl)
                        clear hx'
                        generalize R[k']'(by omega) = m at y0 y1 y2 y3 HX'
                        obtain ⟨b2, p2, l2, s2⟩ := m
                        simp only at y0 y1 y2 y3
                        have r0 := cell_regrown y0
                        have r1 := cell_regrown y1
                        have r2 := cell_regrown y2
                        have r3 := cell_regrown y3
                        have g1 : decide ((0 : Int) < ((k' + 1 : Nat) : Int)) = true := decide_eq_true (by omega)
                        have hs : IntKind.i64.wrap (((k' + 1 : Nat) : Int) - 1) = (k' : Int) := by rw [IntWalk.i64_in _ (by omega)]; omega
                        have hs2 : IntKind.i64.wrap ((k' : Int) + 1 - 1) = (k' : Int) := by rw [IntWalk.i64_in _ (by omega)]; omega
                        have hs3 : IntKind.i64.wrap (k' : Int) = (k' : Int) := IntWalk.i64_in _ (by omega)
                        have g2 : decide ((k' : Int) < (R.length : Int)) = true := decide_eq_true (by omega)
                        have g5 : decide ((0 : Int) < (k' : Int) + 1) = true := decide_eq_true (by omega)
                        have g6 : k' < R.length := by omega
                        have g3 : decide (k' < R.length) = true := decide_eq_true (by omega)
                        have g4 : decide (R.length ≤ k') = false := decide_eq_false (by omega)
                        have M2 := Lib.hid fun U => meets_c b1 p1 l1 s1 b2 p2 l2 s2 U
                        cases hmm : meetP (b1, p1, l1, s1) (b2, p2, l2, s2) with
                        | true =>
                          rw [hmm] at M2
                          have E := Lib.hid (show ¬ MayT ids L from fun h => not_pairs HX'.out HX.out hmm ((perm_meet RP.out).2 ((may_iff ids L).1 h).2.2.2.2.2.2))
                          have C2 := fun d os => Calls.regrown_of (M2.out (Go.Sort.grow (redrawn W1 d) os))
                          clear hmm HD
                          go_wp2_with fail
                          refine wp_region_quiet_below (by kernel_rfl) (by kernel_rfl) ?_
                          iterate 18 (with_reducible refine wpQuiet_step (fun K hK => ?_); go_simp; first | (with_reducible refine hK _ ?_; clear hK K) | (with_reducible apply Exists.intro; with_reducible refine ⟨fun _ => ?_, hK _ ?_⟩; (first | with_reducible exact C1 _ _ | with_reducible exact C2 _ _); clear hK K))
                          with_reducible refine wpQuiet_nil ?_
                          intro _ hw
                          obtain ⟨⟨dq, osq⟩, hw2⟩ := hw
                          subst hw2
                          have G := below_regrown W1 dq osq
                          generalize Go.Sort.grow (redrawn W1 dq) osq = W at G ⊢
                          have KW := Lib.hid (K1.out.trans (G.mono K1.out.size))
                          go_wp2_with fail
                          go_ret
                          exact chk_no E.out (KB3.out.trans (KW.out.mono KB3.out.size))
                        | false =>
                          rw [hmm] at M2
                          have HD1 := Lib.hid (show ∀ (i : Nat) (x y : Pe), i + 1 < k' + 1 + 1 → R[i]? = some x → R[i + 1]? = some y → meetP y x = false from fun i x y h h1 h2 => by
                            by_cases hi : i + 1 < k' + 1
                            · exact HD.out i x y hi h1 h2
                            · obtain rfl : i = k' := by omega
                              have e1 := HX'.out
                              have e2 := HX.out
                              rw [h1] at e1
                              rw [h2] at e2
                              cases e1
                              cases e2
                              exact hmm)
                          have C2 := fun d os => Calls.regrown_of (M2.out (Go.Sort.grow (redrawn W1 d) os))
                          clear hmm HD
                          go_wp2_with fail
                          refine wp_region_quiet_below (by kernel_rfl) (by kernel_rfl) ?_
                          iterate 18 (with_reducible refine wpQuiet_step (fun K hK => ?_); go_simp; first | (with_reducible refine hK _ ?_; clear hK K) | (with_reducible apply Exists.intro; with_reducible refine ⟨fun _ => ?_, hK _ ?_⟩; (first | with_reducible exact C1 _ _ | with_reducible exact C2 _ _); clear hK K))
                          with_reducible refine wpQuiet_nil ?_
                          intro _ hw
                          obtain ⟨⟨dq, osq⟩, hw2⟩ := hw
                          subst hw2
                          have G := below_regrown W1 dq osq
                          generalize Go.Sort.grow (redrawn W1 dq) osq = W at G ⊢
                          have KW := Lib.hid (K1.out.trans (G.mono K1.out.size))
                          go_wp2_with fail
                          go_roundw
                          case rel => exact ⟨k' + 1 + 1, by omega, by go_num, HA1, HD1, KW⟩
                          case measure => simp [intOf]; omega
                  · obtain rfl : k = R.length := by omega
                    rw [List.take_of_length_le (Nat.le_refl _)] at HA
                    have E := Lib.hid (show MayT ids L from (may_iff ids L).2 ⟨by rw [← HNN.out]; omega, by rw [← HNN.out]; omega, by omega, HN.out, HG.out, fun e he => by rw [← HNN.out]; exact HA.out e (RP.out.mem_iff.2 he), (perm_meet RP.out).1 (up_pairs RU.out fun i x y h1 h2 => HD.out i x y (List.getElem?_eq_some_iff.1 h2).1 h1 h2)⟩)
                    have KF := Lib.hid (KB3.out.trans (KR.out.mono KB3.out.size))
                    clear hlt
                    go_wp2_with fail
                    go_ret
                    exact ⟨Or.inl ⟨E.out, rfl⟩, KF.out⟩

end Go.Proofs.Ytolmkflhddlcnaa
