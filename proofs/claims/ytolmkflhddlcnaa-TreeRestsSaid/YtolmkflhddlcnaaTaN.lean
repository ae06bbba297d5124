/-
  The document's 'settled' of trees: the best vectors at rest. A contract over the translated program.
-/
import Derived.Test.YtolmkflhddlcnaaTaM
namespace Go.Proofs.Ytolmkflhddlcnaa
open Go.RowKit
set_option linter.unusedVariables false
set_option linter.unusedSimpArgs false

set_option maxHeartbeats 8000000 in
set_option maxRecDepth 100000 in
theorem rsettled_c {w : World} {vi vl : Value} {ids : List Int} {L : List Lk} (hi : RowsAt 1 cellsU64 w vi ids) (hl : RowsAt 5 cellsLk w vl (endsL L)) (hM : MayT ids L) :
    Calls Try.prog 30 #[vi, vl] w fun r w' => ∃ u, r = .returned u ∧ RowsAt 4 cellsV4 w' u (listB ids.length (restB ids L)) ∧ Below w.heap.size w w' := by
  have n1 := hM.n1
  have n12 := hM.n12
  have HI := Lib.hid hi
  have HL := Lib.hid hl
  have HM := Lib.hid hM
  obtain ⟨pi, capi, bi, offi, rfl, hpi, hci⟩ := hi
  obtain ⟨pl, capl, rfl⟩ := hl.slice
  have hne : ids ≠ [] := by rintro rfl; simp at n1
  obtain rfl := hpi hne
  have HCI := Lib.hid hci
  obtain ⟨i0, hi0, hz0, hz1, hz2⟩ := info_parts info_V4
  obtain ⟨n, hn⟩ : ∃ n, n = ids.length := ⟨_, rfl⟩
  have HNN := Lib.hid hn
  have HN := Lib.hid (fun k (hk : k < n) => hn ▸ hk : ∀ k, k < n → k < ids.length)
  rw [← hn] at n1 n12 HI
  rw [← hn]
  clear hpi hci hne hl hM hn
  go_enter Try.func30, Try.ntmps30
  go_wp2_with fail
  go_loopw [5, 6] (fun s5 i wr => ∃ k : Nat, k ≤ n ∧ i = .int .i64 k ∧ Hid (wr.ownsRow w.heap.size 79 4 s5 k ((listB k (bstT (idAt ids) (endsL L) 0)).flatMap cellsV4)) ∧ Hid (Below w.heap.size w wr)) (fun _ i _ => n - (intOf i).toNat)
  case atStart => exact ⟨0, Nat.zero_le _, rfl, Lib.hid (World.ownsRow_nil _ _ _ _), Lib.hid (Below.refl _ _)⟩
  case round =>
    obtain ⟨k, hk, rfl, HO, KB⟩ := hrel
    by_cases hlt : k < n
    · have HK := Lib.hid (HN.out k hlt)
      have xi : wr.cell? ⟨bi, offi + k, none⟩ = some (.int .u64 (idAt ids k)) := gcell_below KB.out (by have := HCI.out k _ (idAt_at HK.out) 0 _ rfl; simpa using this)
      have d1 : decide (k < n) = true := decide_eq_true hlt
      have d2 : decide ((k : Int) < (n : Int)) = true := decide_eq_true (by omega)
      have d3 : decide (n ≤ k) = false := decide_eq_false (by omega)
      have d4 : decide (0 ≤ (k : Int)) = true := decide_eq_true (by omega)
      have HSN := Lib.hid (show (listB (k + 1) (bstT (idAt ids) (endsL L) 0)).flatMap cellsV4 = (listB k (bstT (idAt ids) (endsL L) 0)).flatMap cellsV4 ++ [.int .u64 (idAt ids k), .int .i64 0, .int .u64 (idAt ids k), .int .i64 0] from listB_snoc k (bstT (idAt ids) (endsL L) 0))
      generalize idAt ids k = x at xi HSN
      have RO := Lib.hid fun (U : World) => rown_c x U
      go_wp2_with fail
      clear d1 d2 d3 d4 xi
      ((with_reducible refine (RO.out _).mono ?_); rintro e w2 ⟨rfl, k2⟩)
      have NEW := Lib.hid (cells_new w2 [.int .u64 x, .int .i64 0, .int .u64 x, .int .i64 0] 79)
      have HO5 := Lib.hid ((iowns_below HO.out k2).alloc (.cells #[.int .u64 x, .int .i64 0, .int .u64 x, .int .i64 0] 79))
      have K5 := Lib.hid ((KB.out.trans (k2.mono KB.out.size)).alloc (KB.out.trans (k2.mono KB.out.size)).size (.cells #[.int .u64 x, .int .i64 0, .int .u64 x, .int .i64 0] 79))
      have n11 := Lib.hid (show k + 1 ≤ maxLen by unfold maxLen; omega)
      have n22 := Lib.hid (show (k + 1) * 32 ≤ 140737488355328 by omega)
      have n33 := Lib.hid (show w.heap.size ≤ (w2.alloc (.cells #[.int .u64 x, .int .i64 0, .int .u64 x, .int .i64 0] 79)).heap.size from K5.out.size)
      have oc := Lib.hid (v4_one (x, 0, x, 0))
      clear HO KB k2 RO
      go_wp2_with (at_builtin; refine wpList_append_own _ rfl _ _ 63 rfl w.heap.size 79 i0 (.agg #[.int .u64 0, .int .i64 0, .int .u64 0, .int .i64 0]) 4 32 Try.underlying63 hi0 hz0 hz1 hz2 rfl (by decide) _ _ _ rfl HO5.out ⟨w2.heap.size, 0, none⟩ 1 1 [.int .u64 x, .int .i64 0, .int .u64 x, .int .i64 0] rfl rfl NEW.out oc.out n11.out n22.out n33.out ?_)
      intro v' w6 hown' hgrow _
      have HO6 := Lib.hid hown'
      have K6 := Lib.hid (K5.out.grown hgrow n33.out (fun j hj => (HO5.out.lt j hj).1))
      clear hown' hgrow HO5 K5 NEW
      go_wp2_with fail
      go_roundw
      case rel => exact ⟨k + 1, by omega, by go_num, Lib.hid (by rw [HSN.out]; exact HO6.out), K6⟩
      case measure => simp [intOf]; omega
    · obtain rfl : k = n := by omega
      clear hlt
      have HB0 := Lib.hid (show RowsAt 4 cellsV4 wr u5 (listB k (bstT (idAt ids) (endsL L) 0)) from rowsAt_own (by decide) v4_len HO.out)
      clear HO
      go_wp2_with fail
      go_loopw [5, 7, 8, 9, 10, 11] (fun s5 i _ _ _ _ wt => ∃ t : Nat, t ≤ k ∧ i = .int .i64 t ∧ Hid (RowsAt 4 cellsV4 wt s5 (listB k (bstT (idAt ids) (endsL L) t))) ∧ Hid (Below w.heap.size w wt)) (fun _ i _ _ _ _ _ => k - (intOf i).toNat)
      case atStart => exact ⟨0, Nat.zero_le _, rfl, HB0, KB⟩
      case round =>
        clear HB0 KB
        obtain ⟨t, ht, rfl, HBT, KB⟩ := hrel
        by_cases htk : t < k
        · have d1 : decide (t < k) = true := decide_eq_true htk
          have d2 : decide ((t : Int) < (k : Int)) = true := decide_eq_true (by omega)
          have d3 : decide (k ≤ t) = false := decide_eq_false (by omega)
          go_wp2_with fail
          clear d1 d2 d3
          obtain ⟨wo, rfl⟩ : ∃ wo, wo = wr := ⟨_, rfl⟩
          go_loopw [8, 9, 10, 11] (fun s8 i _ _ wu => ∃ q : Nat, q ≤ k ∧ i = .int .i64 q ∧ Hid (wu.ownsRow wo.heap.size 79 4 s8 q ((listB q (bstT (idAt ids) (endsL L) (t + 1))).flatMap cellsV4)) ∧ Hid (Below wo.heap.size wo wu)) (fun _ i _ _ _ => k - (intOf i).toNat)
          case atStart => exact ⟨0, Nat.zero_le _, rfl, Lib.hid (World.ownsRow_nil _ _ _ _), Lib.hid (Below.refl _ _)⟩
          case round =>
            obtain ⟨q, hq, rfl, HO, KU⟩ := hrel
            by_cases hlt : q < k
            · have HK := Lib.hid (HN.out q hlt)
              have KW := Lib.hid (KB.out.trans (KU.out.mono KB.out.size))
              have xi : wr.cell? ⟨bi, offi + q, none⟩ = some (.int .u64 (idAt ids q)) := gcell_below KW.out (by have := HCI.out q _ (idAt_at HK.out) 0 _ rfl; simpa using this)
              have d1 : decide (q < k) = true := decide_eq_true hlt
              have d2 : decide ((q : Int) < (k : Int)) = true := decide_eq_true (by omega)
              have d3 : decide (k ≤ q) = false := decide_eq_false (by omega)
              have d4 : decide (0 ≤ (q : Int)) = true := decide_eq_true (by omega)
              have HBL := Lib.hid (show RowsAt 4 cellsV4 wo u5 (listB ids.length (bstT (idAt ids) (endsL L) t)) by rw [← HNN.out]; exact HBT.out)
              have RH := Lib.hid fun (U : World) (kz : Below wr.heap.size wr U) => rheard_c (w := U) (HI.out.below (KW.out.trans (kz.mono KW.out.size))) (HL.out.below (KW.out.trans (kz.mono KW.out.size))) (HBL.out.below (KU.out.trans (kz.mono KU.out.size))) HM.out q
              have RB := Lib.hid fun (U : World) (u : Value) (h : RowsAt 6 cellsHd U u (hdsT (idAt ids) (endsL L) (bstT (idAt ids) (endsL L) t) q)) => rbest_c (idAt ids q) u _ U (by rw [hds_len]; omega) h
              have HV := Lib.hid (show (bestL (idAt ids q) (hdsT (idAt ids) (endsL L) (bstT (idAt ids) (endsL L) t) q)).2 = bstT (idAt ids) (endsL L) (t + 1) q from rfl)
              rw [HV.out] at RB
              have HSN := Lib.hid (listB_snoc q (bstT (idAt ids) (endsL L) (t + 1)))
              clear HV HK
              generalize bstT (idAt ids) (endsL L) (t + 1) q = V at RB HSN
              generalize (bestL (idAt ids q) (hdsT (idAt ids) (endsL L) (bstT (idAt ids) (endsL L) t) q)).1 = P at RB
              generalize idAt ids q = x at RB xi
              obtain ⟨v0, v1, v2, v3⟩ := V
              go_upto_region 13 with fail
              have KF := Lib.hid fun (U : World) (kz : Below wr.heap.size wr U) => gcell_below kz xi
              have k0 := (Below.refl wr.heap.size wr).drew
              refine wp_region_held_drew (S := fun U => U.cell? ⟨bi, offi + q, none⟩ = some (.int .u64 x)) (by kernel_rfl) (KF.out _ k0) (fun hH => ?_)
              refine wpAnyH_take (i := 0) (oi := { dst := some 39, op := Op.move (Operand.tmp 0), type := 22, pos := "ref.go:85", after := #[], guard := none }) (v := .slice (some ⟨bi, offi, none⟩) k capi) rfl (by kernel_rfl) (by kernel_rfl) (by kernel_rfl) (fun _ _ _ h => h) (Or.inl ⟨by kernel_rfl, ?_⟩) hH ?_
              · intro w hSw; (try dsimp only at hSw); go_simp; (try rfl)
              try simp only [Act.put, List.setIfInBounds_toArray, List.set_cons_zero, List.set_cons_succ]
              refine wpAnyH_take (i := 1) (oi := { dst := some 40, op := Op.move (Operand.tmp 9), type := 3, pos := "ref.go:85", after := #[], guard := none }) (v := .int .i64 (q : Int)) rfl (by kernel_rfl) (by kernel_rfl) (by kernel_rfl) (fun _ _ _ h => h) (Or.inl ⟨by kernel_rfl, ?_⟩) hH ?_
              · intro w hSw; (try dsimp only at hSw); go_simp; (try rfl)
              try simp only [Act.put, List.setIfInBounds_toArray, List.set_cons_zero, List.set_cons_succ]
              refine wpAnyH_take (i := 2) (oi := { dst := some 41, op := Op.indexAddr 22 (Operand.tmp 39) (Operand.tmp 40), type := 0, pos := "ref.go:85", after := #[{ on := 0, ground := Ground.data }, { on := 1, ground := Ground.data }], guard := none }) (v := .pointer (some ⟨bi, offi + q, none⟩)) rfl (by kernel_rfl) (by kernel_rfl) (by kernel_rfl) (fun _ _ _ h => h) (Or.inl ⟨by kernel_rfl, ?_⟩) hH ?_
              · intro w hSw; (try dsimp only at hSw); go_simp; (try rfl)
              try simp only [Act.put, List.setIfInBounds_toArray, List.set_cons_zero, List.set_cons_succ]
              refine wpAnyH_take (i := 3) (oi := { dst := some 42, op := Op.load 44 (Operand.tmp 41), type := 44, pos := "ref.go:85", after := #[{ on := 2, ground := Ground.data }], guard := none }) (v := .int .u64 x) rfl (by kernel_rfl) (by kernel_rfl) (by kernel_rfl) (fun _ _ _ h => h) (Or.inl ⟨by kernel_rfl, ?_⟩) hH ?_
              · intro w hSw; (try dsimp only at hSw); go_simp; (try rfl)
              try simp only [Act.put, List.setIfInBounds_toArray, List.set_cons_zero, List.set_cons_succ]
              refine wpAnyH_take (i := 4) (oi := { dst := some 43, op := Op.move (Operand.tmp 0), type := 22, pos := "ref.go:85", after := #[], guard := none }) (v := .slice (some ⟨bi, offi, none⟩) k capi) rfl (by kernel_rfl) (by kernel_rfl) (by kernel_rfl) (fun _ _ _ h => h) (Or.inl ⟨by kernel_rfl, ?_⟩) hH ?_
              · intro w hSw; (try dsimp only at hSw); go_simp; (try rfl)
              try simp only [Act.put, List.setIfInBounds_toArray, List.set_cons_zero, List.set_cons_succ]
              refine wpAnyH_take (i := 5) (oi := { dst := some 44, op := Op.move (Operand.tmp 1), type := 46, pos := "ref.go:85", after := #[], guard := none }) (v := .slice pl (endsL L).length capl) rfl (by kernel_rfl) (by kernel_rfl) (by kernel_rfl) (fun _ _ _ h => h) (Or.inl ⟨by kernel_rfl, ?_⟩) hH ?_
              · intro w hSw; (try dsimp only at hSw); go_simp; (try rfl)
              try simp only [Act.put, List.setIfInBounds_toArray, List.set_cons_zero, List.set_cons_succ]
              refine wpAnyH_take (i := 6) (oi := { dst := some 45, op := Op.move (Operand.tmp 5), type := 63, pos := "ref.go:85", after := #[], guard := none }) (v := u5) rfl (by kernel_rfl) (by kernel_rfl) (by kernel_rfl) (fun _ _ _ h => h) (Or.inl ⟨by kernel_rfl, ?_⟩) hH ?_
              · intro w hSw; (try dsimp only at hSw); go_simp; (try rfl)
              try simp only [Act.put, List.setIfInBounds_toArray, List.set_cons_zero, List.set_cons_succ]
              refine wpAnyH_take (i := 7) (oi := { dst := some 46, op := Op.move (Operand.tmp 9), type := 3, pos := "ref.go:85", after := #[], guard := none }) (v := .int .i64 (q : Int)) rfl (by kernel_rfl) (by kernel_rfl) (by kernel_rfl) (fun _ _ _ h => h) (Or.inl ⟨by kernel_rfl, ?_⟩) hH ?_
              · intro w hSw; (try dsimp only at hSw); go_simp; (try rfl)
              try simp only [Act.put, List.setIfInBounds_toArray, List.set_cons_zero, List.set_cons_succ]
              refine wpAnyH_ready (rs := [8, 13]) (by kernel_rfl) (by simp) ?_
              refine AllReadyH.cons rfl (fun K hK => ?_) ?_
              · go_simp
                with_reducible refine (RH.out _ k0).mono ?_
                rintro e w1 ⟨u, rfl, ru, hb1⟩
                (try go_wp2_with fail)
                have k1 := k0.trans (hb1.mono k0.size)
                refine hK.out _ _ (KF.out _ k1) (fun hH => ?_)
                clear hK K
                try simp only [Act.put, List.setIfInBounds_toArray, List.set_cons_zero, List.set_cons_succ]
                refine wpAnyH_ready (rs := [9, 13]) (by kernel_rfl) (by simp) ?_
                refine AllReadyH.cons rfl (fun K hK => ?_) ?_
                · go_simp
                  with_reducible refine (RB.out _ u ru).mono ?_
                  rintro e w2 ⟨rfl, hb2⟩
                  (try go_wp2_with fail)
                  have k2 := k1.trans (hb2.mono k1.size)
                  refine hK.out _ _ (KF.out _ k2) (fun hH => ?_)
                  clear hK K
                  try simp only [Act.put, List.setIfInBounds_toArray, List.set_cons_zero, List.set_cons_succ]
                  refine wpAnyH_take (i := 10) (oi := { dst := some 38, op := Op.move (Operand.tmp 48), type := 81, pos := "ref.go:85", after := #[{ on := 9, ground := Ground.data }], guard := none }) (v := .tuple #[.int .i64 P, .agg #[.int .u64 v0, .int .i64 v1, .int .u64 v2, .int .i64 v3]]) rfl (by kernel_rfl) (by kernel_rfl) (by kernel_rfl) (fun _ _ _ h => h) (Or.inl ⟨by kernel_rfl, ?_⟩) hH ?_
                  · intro w hSw; (try dsimp only at hSw); go_simp; (try rfl)
                  try simp only [Act.put, List.setIfInBounds_toArray, List.set_cons_zero, List.set_cons_succ]
                  refine wpAnyH_take (i := 11) (oi := { dst := some 49, op := Op.extract (Operand.tmp 38) 0, type := 3, pos := "ref.go:85", after := #[{ on := 10, ground := Ground.data }], guard := none }) (v := .int .i64 P) rfl (by kernel_rfl) (by kernel_rfl) (by kernel_rfl) (fun _ _ _ h => h) (Or.inl ⟨by kernel_rfl, ?_⟩) hH ?_
                  · intro w hSw; (try dsimp only at hSw); go_simp; (try rfl)
                  try simp only [Act.put, List.setIfInBounds_toArray, List.set_cons_zero, List.set_cons_succ]
                  refine wpAnyH_take (i := 12) (oi := { dst := some 50, op := Op.extract (Operand.tmp 38) 1, type := 79, pos := "ref.go:85", after := #[{ on := 10, ground := Ground.data }, { on := 14, ground := Ground.gcOnly Departure.lateStores }], guard := none }) (v := .agg #[.int .u64 v0, .int .i64 v1, .int .u64 v2, .int .i64 v3]) rfl (by kernel_rfl) (by kernel_rfl) (by kernel_rfl) (fun _ _ _ h => h) (Or.inl ⟨by kernel_rfl, ?_⟩) hH ?_
                  · intro w hSw; (try dsimp only at hSw); go_simp; (try rfl)
                  try simp only [Act.put, List.setIfInBounds_toArray, List.set_cons_zero, List.set_cons_succ]
                  refine wpAnyH_ready (rs := [13]) (by kernel_rfl) (by simp) ?_
                  refine AllReadyH.cons rfl (fun K hK => ?_) AllReadyH.nil
                  go_simp
                  have ka3 : Below wr.heap.size wr ((w2.alloc (.cells #[.int .u64 0, .int .i64 0, .int .u64 0, .int .i64 0] 79))) := (k2.alloc k2.size (.cells #[.int .u64 0, .int .i64 0, .int .u64 0, .int .i64 0] 79))
                  have ba3 : ((w2.alloc (.cells #[.int .u64 0, .int .i64 0, .int .u64 0, .int .i64 0] 79))).heap[w2.heap.size]? = some (.cells #[.int .u64 0, .int .i64 0, .int .u64 0, .int .i64 0] 79 (0, 0)) := heap_new w2 (.cells #[.int .u64 0, .int .i64 0, .int .u64 0, .int .i64 0] 79)
                  refine hK.out _ _ (KF.out _ ka3) (fun hH => ?_)
                  clear hK K
                  try simp only [Act.put, List.setIfInBounds_toArray, List.set_cons_zero, List.set_cons_succ]
                  refine wpAnyH_take (i := 14) (oi := { dst := some 10, op := Op.assign (Operand.tmp 49), type := 3, pos := "ref.go:85", after := #[{ on := 11, ground := Ground.data }, { on := 9, ground := Ground.chain }, { on := 0, ground := Ground.phase }, { on := 1, ground := Ground.phase }, { on := 2, ground := Ground.phase }, { on := 3, ground := Ground.phase }, { on := 4, ground := Ground.phase }, { on := 5, ground := Ground.phase }, { on := 6, ground := Ground.phase }, { on := 7, ground := Ground.phase }, { on := 8, ground := Ground.phase }, { on := 9, ground := Ground.phase }, { on := 10, ground := Ground.phase }, { on := 11, ground := Ground.phase }, { on := 12, ground := Ground.textOnly Departure.lateStores }, { on := 13, ground := Ground.phase }], guard := none }) (v := .int .i64 P) rfl (by kernel_rfl) (by kernel_rfl) (by kernel_rfl) (fun _ _ _ h => h) (Or.inl ⟨by kernel_rfl, ?_⟩) hH ?_
                  · intro w hSw; (try dsimp only at hSw); go_simp; (try rfl)
                  try simp only [Act.put, List.setIfInBounds_toArray, List.set_cons_zero, List.set_cons_succ]
                  refine wpAnyH_ready (rs := [15]) (by kernel_rfl) (by simp) ?_
                  refine AllReadyH.cons rfl (fun K hK => ?_) AllReadyH.nil
                  go_simp
                  have kx := k2.alloc k2.size (.cells #[.int .u64 v0, .int .i64 v1, .int .u64 v2, .int .i64 v3] 79)
                  have bx : ((w2.alloc (.cells #[.int .u64 v0, .int .i64 v1, .int .u64 v2, .int .i64 v3] 79))).heap[w2.heap.size]? = some (.cells #[.int .u64 v0, .int .i64 v1, .int .u64 v2, .int .i64 v3] 79 (0, 0)) := heap_new w2 (.cells #[.int .u64 v0, .int .i64 v1, .int .u64 v2, .int .i64 v3] 79)
                  refine hK.out _ _ (KF.out _ kx) (fun hH => ?_)
                  clear hK K
                  try simp only [Act.put, List.setIfInBounds_toArray, List.set_cons_zero, List.set_cons_succ]
                  refine wpAnyH_done (by kernel_rfl) ?_ _
                  generalize (w2.alloc (.cells #[.int .u64 v0, .int .i64 v1, .int .u64 v2, .int .i64 v3] 79)) = WX at kx bx hH ⊢
                  clear hH KF RH RB xi d1 d2 d3 d4
                  have KX := Lib.hid (KU.out.trans (kx.mono KU.out.size))
                  have HOX := Lib.hid (iowns_below HO.out kx)
                  have z0 : WX.cell? ⟨w2.heap.size, 0, none⟩ = some (.int .u64 v0) := cell_of_block bx rfl
                  have z1 : WX.cell? ⟨w2.heap.size, 1, none⟩ = some (.int .i64 v1) := cell_of_block bx rfl
                  have z2 : WX.cell? ⟨w2.heap.size, 2, none⟩ = some (.int .u64 v2) := cell_of_block bx rfl
                  have z3 : WX.cell? ⟨w2.heap.size, 3, none⟩ = some (.int .i64 v3) := cell_of_block bx rfl
                  have NEW := Lib.hid (cells_new WX [.int .u64 v0, .int .i64 v1, .int .u64 v2, .int .i64 v3] 79)
                  have HO5 := Lib.hid (HOX.out.alloc (.cells #[.int .u64 v0, .int .i64 v1, .int .u64 v2, .int .i64 v3] 79))
                  have K5 := Lib.hid (KX.out.alloc KX.out.size (.cells #[.int .u64 v0, .int .i64 v1, .int .u64 v2, .int .i64 v3] 79))
                  have n11 := Lib.hid (show q + 1 ≤ maxLen by unfold maxLen; omega)
                  have n22 := Lib.hid (show (q + 1) * 32 ≤ 140737488355328 by omega)
                  have n33 := Lib.hid (show wo.heap.size ≤ (WX.alloc (.cells #[.int .u64 v0, .int .i64 v1, .int .u64 v2, .int .i64 v3] 79)).heap.size from K5.out.size)
                  have oc := Lib.hid (v4_one (v0, v1, v2, v3))
                  clear HOX kx bx
                  go_wp2_with (at_builtin; refine wpList_append_own _ rfl _ _ 63 rfl wo.heap.size 79 i0 (.agg #[.int .u64 0, .int .i64 0, .int .u64 0, .int .i64 0]) 4 32 Try.underlying63 hi0 hz0 hz1 hz2 rfl (by decide) _ _ _ rfl HO5.out ⟨WX.heap.size, 0, none⟩ 1 1 [.int .u64 v0, .int .i64 v1, .int .u64 v2, .int .i64 v3] rfl rfl NEW.out oc.out n11.out n22.out n33.out ?_)
                  intro v' w6 hown' hgrow _
                  have HO6 := Lib.hid hown'
                  have K6 := Lib.hid (K5.out.grown hgrow n33.out (fun j hj => (HO5.out.lt j hj).1))
                  clear hown' hgrow HO5 K5 NEW
                  go_wp2_with fail
                  go_roundw
                  case rel => exact ⟨q + 1, by omega, by go_num, Lib.hid (by rw [HSN.out]; exact HO6.out), K6⟩
                  case measure => simp [intOf]; omega
                · refine AllReadyH.cons rfl (fun K hK => ?_) AllReadyH.nil
                  go_simp
                  have ka2 : Below wr.heap.size wr ((w1.alloc (.cells #[.int .u64 0, .int .i64 0, .int .u64 0, .int .i64 0] 79))) := (k1.alloc k1.size (.cells #[.int .u64 0, .int .i64 0, .int .u64 0, .int .i64 0] 79))
                  have ba2 : ((w1.alloc (.cells #[.int .u64 0, .int .i64 0, .int .u64 0, .int .i64 0] 79))).heap[w1.heap.size]? = some (.cells #[.int .u64 0, .int .i64 0, .int .u64 0, .int .i64 0] 79 (0, 0)) := heap_new w1 (.cells #[.int .u64 0, .int .i64 0, .int .u64 0, .int .i64 0] 79)
                  refine hK.out _ _ (KF.out _ ka2) (fun hH => ?_)
                  clear hK K
                  try simp only [Act.put, List.setIfInBounds_toArray, List.set_cons_zero, List.set_cons_succ]
                  refine wpAnyH_ready (rs := [9]) (by kernel_rfl) (by simp) ?_
                  refine AllReadyH.cons rfl (fun K hK => ?_) AllReadyH.nil
                  go_simp
                  with_reducible refine (RB.out _ u (ru.below ((Below.refl _ _).alloc (Nat.le_refl _) _))).mono ?_
                  rintro e w3 ⟨rfl, hb3⟩
                  (try go_wp2_with fail)
                  have k3 := ka2.trans (hb3.mono ka2.size)
                  have bc3 := below_block hb3 (lt_of_block ba2) ba2
                  refine hK.out _ _ (KF.out _ k3) (fun hH => ?_)
                  clear hK K
                  try simp only [Act.put, List.setIfInBounds_toArray, List.set_cons_zero, List.set_cons_succ]
                  refine wpAnyH_take (i := 10) (oi := { dst := some 38, op := Op.move (Operand.tmp 48), type := 81, pos := "ref.go:85", after := #[{ on := 9, ground := Ground.data }], guard := none }) (v := .tuple #[.int .i64 P, .agg #[.int .u64 v0, .int .i64 v1, .int .u64 v2, .int .i64 v3]]) rfl (by kernel_rfl) (by kernel_rfl) (by kernel_rfl) (fun _ _ _ h => h) (Or.inl ⟨by kernel_rfl, ?_⟩) hH ?_
                  · intro w hSw; (try dsimp only at hSw); go_simp; (try rfl)
                  try simp only [Act.put, List.setIfInBounds_toArray, List.set_cons_zero, List.set_cons_succ]
                  refine wpAnyH_take (i := 11) (oi := { dst := some 49, op := Op.extract (Operand.tmp 38) 0, type := 3, pos := "ref.go:85", after := #[{ on := 10, ground := Ground.data }], guard := none }) (v := .int .i64 P) rfl (by kernel_rfl) (by kernel_rfl) (by kernel_rfl) (fun _ _ _ h => h) (Or.inl ⟨by kernel_rfl, ?_⟩) hH ?_
                  · intro w hSw; (try dsimp only at hSw); go_simp; (try rfl)
                  try simp only [Act.put, List.setIfInBounds_toArray, List.set_cons_zero, List.set_cons_succ]
                  refine wpAnyH_take (i := 12) (oi := { dst := some 50, op := Op.extract (Operand.tmp 38) 1, type := 79, pos := "ref.go:85", after := #[{ on := 10, ground := Ground.data }, { on := 14, ground := Ground.gcOnly Departure.lateStores }], guard := none }) (v := .agg #[.int .u64 v0, .int .i64 v1, .int .u64 v2, .int .i64 v3]) rfl (by kernel_rfl) (by kernel_rfl) (by kernel_rfl) (fun _ _ _ h => h) (Or.inl ⟨by kernel_rfl, ?_⟩) hH ?_
                  · intro w hSw; (try dsimp only at hSw); go_simp; (try rfl)
                  try simp only [Act.put, List.setIfInBounds_toArray, List.set_cons_zero, List.set_cons_succ]
                  refine wpAnyH_take (i := 14) (oi := { dst := some 10, op := Op.assign (Operand.tmp 49), type := 3, pos := "ref.go:85", after := #[{ on := 11, ground := Ground.data }, { on := 9, ground := Ground.chain }, { on := 0, ground := Ground.phase }, { on := 1, ground := Ground.phase }, { on := 2, ground := Ground.phase }, { on := 3, ground := Ground.phase }, { on := 4, ground := Ground.phase }, { on := 5, ground := Ground.phase }, { on := 6, ground := Ground.phase }, { on := 7, ground := Ground.phase }, { on := 8, ground := Ground.phase }, { on := 9, ground := Ground.phase }, { on := 10, ground := Ground.phase }, { on := 11, ground := Ground.phase }, { on := 12, ground := Ground.textOnly Departure.lateStores }, { on := 13, ground := Ground.phase }], guard := none }) (v := .int .i64 P) rfl (by kernel_rfl) (by kernel_rfl) (by kernel_rfl) (fun _ _ _ h => h) (Or.inl ⟨by kernel_rfl, ?_⟩) hH ?_
                  · intro w hSw; (try dsimp only at hSw); go_simp; (try rfl)
                  try simp only [Act.put, List.setIfInBounds_toArray, List.set_cons_zero, List.set_cons_succ]
                  refine wpAnyH_ready (rs := [15]) (by kernel_rfl) (by simp) ?_
                  refine AllReadyH.cons rfl (fun K hK => ?_) AllReadyH.nil
                  have z0 := cell_of_block (j := 0) bc3 rfl
                  have fz0 := free_of_block (j := 0) bc3
                  have z1 := cell_of_block (j := 1) bc3 rfl
                  have fz1 := free_of_block (j := 1) bc3
                  have z2 := cell_of_block (j := 2) bc3 rfl
                  have fz2 := free_of_block (j := 2) bc3
                  have z3 := cell_of_block (j := 3) bc3 rfl
                  have fz3 := free_of_block (j := 3) bc3
                  go_simp
                  have kx := ((((k3.setCell (p := ⟨w1.heap.size, 0, none⟩) (k1.size) (.int .u64 v0)).setCell (p := ⟨w1.heap.size, 1, none⟩) (k1.size) (.int .i64 v1)).setCell (p := ⟨w1.heap.size, 2, none⟩) (k1.size) (.int .u64 v2)).setCell (p := ⟨w1.heap.size, 3, none⟩) (k1.size) (.int .i64 v3))
                  have bx : ((((w3.setCell ⟨w1.heap.size, 0, none⟩ (.int .u64 v0)).setCell ⟨w1.heap.size, 1, none⟩ (.int .i64 v1)).setCell ⟨w1.heap.size, 2, none⟩ (.int .u64 v2)).setCell ⟨w1.heap.size, 3, none⟩ (.int .i64 v3)).heap[w1.heap.size]? = some (.cells #[.int .u64 v0, .int .i64 v1, .int .u64 v2, .int .i64 v3] 79 (0, 0)) := (heap_store (j := 3) (v := .int .i64 v3) (heap_store (j := 2) (v := .int .u64 v2) (heap_store (j := 1) (v := .int .i64 v1) (heap_store (j := 0) (v := .int .u64 v0) bc3))))
                  clear z0 fz0 z1 fz1 z2 fz2 z3 fz3
                  refine hK.out _ _ (KF.out _ kx) (fun hH => ?_)
                  clear hK K
                  try simp only [Act.put, List.setIfInBounds_toArray, List.set_cons_zero, List.set_cons_succ]
                  refine wpAnyH_done (by kernel_rfl) ?_ _
                  generalize ((((w3.setCell ⟨w1.heap.size, 0, none⟩ (.int .u64 v0)).setCell ⟨w1.heap.size, 1, none⟩ (.int .i64 v1)).setCell ⟨w1.heap.size, 2, none⟩ (.int .u64 v2)).setCell ⟨w1.heap.size, 3, none⟩ (.int .i64 v3)) = WX at kx bx hH ⊢
                  clear hH KF RH RB xi d1 d2 d3 d4
                  have KX := Lib.hid (KU.out.trans (kx.mono KU.out.size))
                  have HOX := Lib.hid (iowns_below HO.out kx)
                  have z0 : WX.cell? ⟨w1.heap.size, 0, none⟩ = some (.int .u64 v0) := cell_of_block bx rfl
                  have z1 : WX.cell? ⟨w1.heap.size, 1, none⟩ = some (.int .i64 v1) := cell_of_block bx rfl
                  have z2 : WX.cell? ⟨w1.heap.size, 2, none⟩ = some (.int .u64 v2) := cell_of_block bx rfl
                  have z3 : WX.cell? ⟨w1.heap.size, 3, none⟩ = some (.int .i64 v3) := cell_of_block bx rfl
                  have NEW := Lib.hid (cells_new WX [.int .u64 v0, .int .i64 v1, .int .u64 v2, .int .i64 v3] 79)
                  have HO5 := Lib.hid (HOX.out.alloc (.cells #[.int .u64 v0, .int .i64 v1, .int .u64 v2, .int .i64 v3] 79))
                  have K5 := Lib.hid (KX.out.alloc KX.out.size (.cells #[.int .u64 v0, .int .i64 v1, .int .u64 v2, .int .i64 v3] 79))
                  have n11 := Lib.hid (show q + 1 ≤ maxLen by unfold maxLen; omega)
                  have n22 := Lib.hid (show (q + 1) * 32 ≤ 140737488355328 by omega)
                  have n33 := Lib.hid (show wo.heap.size ≤ (WX.alloc (.cells #[.int .u64 v0, .int .i64 v1, .int .u64 v2, .int .i64 v3] 79)).heap.size from K5.out.size)
                  have oc := Lib.hid (v4_one (v0, v1, v2, v3))
                  clear HOX kx bx
                  go_wp2_with (at_builtin; refine wpList_append_own _ rfl _ _ 63 rfl wo.heap.size 79 i0 (.agg #[.int .u64 0, .int .i64 0, .int .u64 0, .int .i64 0]) 4 32 Try.underlying63 hi0 hz0 hz1 hz2 rfl (by decide) _ _ _ rfl HO5.out ⟨WX.heap.size, 0, none⟩ 1 1 [.int .u64 v0, .int .i64 v1, .int .u64 v2, .int .i64 v3] rfl rfl NEW.out oc.out n11.out n22.out n33.out ?_)
                  intro v' w6 hown' hgrow _
                  have HO6 := Lib.hid hown'
                  have K6 := Lib.hid (K5.out.grown hgrow n33.out (fun j hj => (HO5.out.lt j hj).1))
                  clear hown' hgrow HO5 K5 NEW
                  go_wp2_with fail
                  go_roundw
                  case rel => exact ⟨q + 1, by omega, by go_num, Lib.hid (by rw [HSN.out]; exact HO6.out), K6⟩
                  case measure => simp [intOf]; omega
              · refine AllReadyH.cons rfl (fun K hK => ?_) AllReadyH.nil
                go_simp
                have ka1 : Below wr.heap.size wr ((wr.alloc (.cells #[.int .u64 0, .int .i64 0, .int .u64 0, .int .i64 0] 79)).drew) := (k0.alloc k0.size (.cells #[.int .u64 0, .int .i64 0, .int .u64 0, .int .i64 0] 79))
                have ba1 : ((wr.alloc (.cells #[.int .u64 0, .int .i64 0, .int .u64 0, .int .i64 0] 79)).drew).heap[wr.heap.size]? = some (.cells #[.int .u64 0, .int .i64 0, .int .u64 0, .int .i64 0] 79 (0, 0)) := heap_new wr (.cells #[.int .u64 0, .int .i64 0, .int .u64 0, .int .i64 0] 79)
                refine hK.out _ _ (KF.out _ ka1) (fun hH => ?_)
                clear hK K
                try simp only [Act.put, List.setIfInBounds_toArray, List.set_cons_zero, List.set_cons_succ]
                refine wpAnyH_ready (rs := [8]) (by kernel_rfl) (by simp) ?_
                refine AllReadyH.cons rfl (fun K hK => ?_) AllReadyH.nil
                go_simp
                with_reducible refine (RH.out _ ka1).mono ?_
                rintro e w2 ⟨u, rfl, ru, hb2⟩
                (try go_wp2_with fail)
                have k2 := ka1.trans (hb2.mono ka1.size)
                have bc2 := below_block hb2 (lt_of_block ba1) ba1
                refine hK.out _ _ (KF.out _ k2) (fun hH => ?_)
                clear hK K
                try simp only [Act.put, List.setIfInBounds_toArray, List.set_cons_zero, List.set_cons_succ]
                refine wpAnyH_ready (rs := [9]) (by kernel_rfl) (by simp) ?_
                refine AllReadyH.cons rfl (fun K hK => ?_) AllReadyH.nil
                go_simp
                with_reducible refine (RB.out _ u ru).mono ?_
                rintro e w3 ⟨rfl, hb3⟩
                (try go_wp2_with fail)
                have k3 := k2.trans (hb3.mono k2.size)
                have bc3 := below_block hb3 (lt_of_block bc2) bc2
                refine hK.out _ _ (KF.out _ k3) (fun hH => ?_)
                clear hK K
                try simp only [Act.put, List.setIfInBounds_toArray, List.set_cons_zero, List.set_cons_succ]
                refine wpAnyH_take (i := 10) (oi := { dst := some 38, op := Op.move (Operand.tmp 48), type := 81, pos := "ref.go:85", after := #[{ on := 9, ground := Ground.data }], guard := none }) (v := .tuple #[.int .i64 P, .agg #[.int .u64 v0, .int .i64 v1, .int .u64 v2, .int .i64 v3]]) rfl (by kernel_rfl) (by kernel_rfl) (by kernel_rfl) (fun _ _ _ h => h) (Or.inl ⟨by kernel_rfl, ?_⟩) hH ?_
                · intro w hSw; (try dsimp only at hSw); go_simp; (try rfl)
                try simp only [Act.put, List.setIfInBounds_toArray, List.set_cons_zero, List.set_cons_succ]
                refine wpAnyH_take (i := 11) (oi := { dst := some 49, op := Op.extract (Operand.tmp 38) 0, type := 3, pos := "ref.go:85", after := #[{ on := 10, ground := Ground.data }], guard := none }) (v := .int .i64 P) rfl (by kernel_rfl) (by kernel_rfl) (by kernel_rfl) (fun _ _ _ h => h) (Or.inl ⟨by kernel_rfl, ?_⟩) hH ?_
                · intro w hSw; (try dsimp only at hSw); go_simp; (try rfl)
                try simp only [Act.put, List.setIfInBounds_toArray, List.set_cons_zero, List.set_cons_succ]
                refine wpAnyH_take (i := 12) (oi := { dst := some 50, op := Op.extract (Operand.tmp 38) 1, type := 79, pos := "ref.go:85", after := #[{ on := 10, ground := Ground.data }, { on := 14, ground := Ground.gcOnly Departure.lateStores }], guard := none }) (v := .agg #[.int .u64 v0, .int .i64 v1, .int .u64 v2, .int .i64 v3]) rfl (by kernel_rfl) (by kernel_rfl) (by kernel_rfl) (fun _ _ _ h => h) (Or.inl ⟨by kernel_rfl, ?_⟩) hH ?_
                · intro w hSw; (try dsimp only at hSw); go_simp; (try rfl)
                try simp only [Act.put, List.setIfInBounds_toArray, List.set_cons_zero, List.set_cons_succ]
                refine wpAnyH_take (i := 14) (oi := { dst := some 10, op := Op.assign (Operand.tmp 49), type := 3, pos := "ref.go:85", after := #[{ on := 11, ground := Ground.data }, { on := 9, ground := Ground.chain }, { on := 0, ground := Ground.phase }, { on := 1, ground := Ground.phase }, { on := 2, ground := Ground.phase }, { on := 3, ground := Ground.phase }, { on := 4, ground := Ground.phase }, { on := 5, ground := Ground.phase }, { on := 6, ground := Ground.phase }, { on := 7, ground := Ground.phase }, { on := 8, ground := Ground.phase }, { on := 9, ground := Ground.phase }, { on := 10, ground := Ground.phase }, { on := 11, ground := Ground.phase }, { on := 12, ground := Ground.textOnly Departure.lateStores }, { on := 13, ground := Ground.phase }], guard := none }) (v := .int .i64 P) rfl (by kernel_rfl) (by kernel_rfl) (by kernel_rfl) (fun _ _ _ h => h) (Or.inl ⟨by kernel_rfl, ?_⟩) hH ?_
                · intro w hSw; (try dsimp only at hSw); go_simp; (try rfl)
                try simp only [Act.put, List.setIfInBounds_toArray, List.set_cons_zero, List.set_cons_succ]
                refine wpAnyH_ready (rs := [15]) (by kernel_rfl) (by simp) ?_
                refine AllReadyH.cons rfl (fun K hK => ?_) AllReadyH.nil
                have z0 := cell_of_block (j := 0) bc3 rfl
                have fz0 := free_of_block (j := 0) bc3
                have z1 := cell_of_block (j := 1) bc3 rfl
                have fz1 := free_of_block (j := 1) bc3
                have z2 := cell_of_block (j := 2) bc3 rfl
                have fz2 := free_of_block (j := 2) bc3
                have z3 := cell_of_block (j := 3) bc3 rfl
                have fz3 := free_of_block (j := 3) bc3
                go_simp
                have kx := ((((k3.setCell (p := ⟨wr.heap.size, 0, none⟩) (Nat.le_refl _) (.int .u64 v0)).setCell (p := ⟨wr.heap.size, 1, none⟩) (Nat.le_refl _) (.int .i64 v1)).setCell (p := ⟨wr.heap.size, 2, none⟩) (Nat.le_refl _) (.int .u64 v2)).setCell (p := ⟨wr.heap.size, 3, none⟩) (Nat.le_refl _) (.int .i64 v3))
                have bx : ((((w3.setCell ⟨wr.heap.size, 0, none⟩ (.int .u64 v0)).setCell ⟨wr.heap.size, 1, none⟩ (.int .i64 v1)).setCell ⟨wr.heap.size, 2, none⟩ (.int .u64 v2)).setCell ⟨wr.heap.size, 3, none⟩ (.int .i64 v3)).heap[wr.heap.size]? = some (.cells #[.int .u64 v0, .int .i64 v1, .int .u64 v2, .int .i64 v3] 79 (0, 0)) := (heap_store (j := 3) (v := .int .i64 v3) (heap_store (j := 2) (v := .int .u64 v2) (heap_store (j := 1) (v := .int .i64 v1) (heap_store (j := 0) (v := .int .u64 v0) bc3))))
                clear z0 fz0 z1 fz1 z2 fz2 z3 fz3
                refine hK.out _ _ (KF.out _ kx) (fun hH => ?_)
                clear hK K
                try simp only [Act.put, List.setIfInBounds_toArray, List.set_cons_zero, List.set_cons_succ]
                refine wpAnyH_done (by kernel_rfl) ?_ _
                generalize ((((w3.setCell ⟨wr.heap.size, 0, none⟩ (.int .u64 v0)).setCell ⟨wr.heap.size, 1, none⟩ (.int .i64 v1)).setCell ⟨wr.heap.size, 2, none⟩ (.int .u64 v2)).setCell ⟨wr.heap.size, 3, none⟩ (.int .i64 v3)) = WX at kx bx hH ⊢
                clear hH KF RH RB xi d1 d2 d3 d4
                have KX := Lib.hid (KU.out.trans (kx.mono KU.out.size))
                have HOX := Lib.hid (iowns_below HO.out kx)
                have z0 : WX.cell? ⟨wr.heap.size, 0, none⟩ = some (.int .u64 v0) := cell_of_block bx rfl
                have z1 : WX.cell? ⟨wr.heap.size, 1, none⟩ = some (.int .i64 v1) := cell_of_block bx rfl
                have z2 : WX.cell? ⟨wr.heap.size, 2, none⟩ = some (.int .u64 v2) := cell_of_block bx rfl
                have z3 : WX.cell? ⟨wr.heap.size, 3, none⟩ = some (.int .i64 v3) := cell_of_block bx rfl
                have NEW := Lib.hid (cells_new WX [.int .u64 v0, .int .i64 v1, .int .u64 v2, .int .i64 v3] 79)
                have HO5 := Lib.hid (HOX.out.alloc (.cells #[.int .u64 v0, .int .i64 v1, .int .u64 v2, .int .i64 v3] 79))
                have K5 := Lib.hid (KX.out.alloc KX.out.size (.cells #[.int .u64 v0, .int .i64 v1, .int .u64 v2, .int .i64 v3] 79))
                have n11 := Lib.hid (show q + 1 ≤ maxLen by unfold maxLen; omega)
                have n22 := Lib.hid (show (q + 1) * 32 ≤ 140737488355328 by omega)
                have n33 := Lib.hid (show wo.heap.size ≤ (WX.alloc (.cells #[.int .u64 v0, .int .i64 v1, .int .u64 v2, .int .i64 v3] 79)).heap.size from K5.out.size)
                have oc := Lib.hid (v4_one (v0, v1, v2, v3))
                clear HOX kx bx
                go_wp2_with (at_builtin; refine wpList_append_own _ rfl _ _ 63 rfl wo.heap.size 79 i0 (.agg #[.int .u64 0, .int .i64 0, .int .u64 0, .int .i64 0]) 4 32 Try.underlying63 hi0 hz0 hz1 hz2 rfl (by decide) _ _ _ rfl HO5.out ⟨WX.heap.size, 0, none⟩ 1 1 [.int .u64 v0, .int .i64 v1, .int .u64 v2, .int .i64 v3] rfl rfl NEW.out oc.out n11.out n22.out n33.out ?_)
                intro v' w6 hown' hgrow _
                have HO6 := Lib.hid hown'
                have K6 := Lib.hid (K5.out.grown hgrow n33.out (fun j hj => (HO5.out.lt j hj).1))
                clear hown' hgrow HO5 K5 NEW
                go_wp2_with fail
                go_roundw
                case rel => exact ⟨q + 1, by omega, by go_num, Lib.hid (by rw [HSN.out]; exact HO6.out), K6⟩
                case measure => simp [intOf]; omega
            · obtain rfl : q = k := by omega
              clear hlt
              have HB1 := Lib.hid (show RowsAt 4 cellsV4 wr u8 (listB q (bstT (idAt ids) (endsL L) (t + 1))) from rowsAt_own (by decide) v4_len HO.out)
              have KW := Lib.hid (KB.out.trans (KU.out.mono KB.out.size))
              clear HO KB KU HBT
              go_wp2_with fail
              go_roundw
              case rel => exact ⟨t + 1, by omega, by go_num, HB1, KW⟩
              case measure => simp [intOf]; omega
        · obtain rfl : t = k := by omega
          clear htk
          have d1 : decide (t < t) = false := decide_eq_false (by omega)
          have d3 : decide (t ≤ t) = true := decide_eq_true (by omega)
          go_wp2_with fail
          go_ret
          refine ⟨_, rfl, ?_, KB.out⟩
          have h := HBT.out
          rw [HNN.out] at h
          rw [HNN.out]
          exact h
end Go.Proofs.Ytolmkflhddlcnaa
