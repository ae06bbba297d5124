/-
  'tree.mesh.goRound': all tell once. A contract over the translated program.
-/
import Derived.Test.YtolmkflhddlcnaaTaI
namespace Go.Proofs.Ytolmkflhddlcnaa
open Go.RowKit
set_option linter.unusedVariables false
set_option linter.unusedSimpArgs false

/-- Rows that begin with a number lie elsewhere than the mesh. -/
theorem HasM.rows_set {α : Type} {size : Nat} {cells : α → List Value} (h0 : 0 < size) (hcl : ∀ a, ∃ k x, (cells a)[0]? = some (.int k x)) {w : World} {m : Nat} {vi vl vb : Value} {ab cap : Nat} {ids : List Int} {L : List Lk} {R : List Pe} {bst : List V4} (h : HasM w m vi vl vb ab cap ids L R bst) {v : Value} {l : List α} (hr : RowsAt size cells w v l) (u : Value) : RowsAt size cells (w.setCell ⟨m, 3, none⟩ u) v l := by
  obtain ⟨p, cap', b, off, rfl, hp, hc⟩ := hr
  refine ⟨p, cap', b, off, rfl, hp, fun j x hj i y hy => gcell_only (Only.setCell w m 3 u) (fun e => ?_) (hc j x hj i y hy)⟩
  obtain ⟨k, z, hz⟩ := hcl x
  have c0 := hc j x hj 0 _ hz
  obtain ⟨pi, ci, hvi⟩ := h.idr.slice
  obtain ⟨pl, cl, hvl⟩ := h.lkr.slice
  obtain ⟨pb, cb, hvb⟩ := h.bsr.slice
  have hm := h.mesh
  rw [hvi, hvl, hvb] at hm
  subst e
  unfold World.cell? at c0
  simp only [hm] at c0
  generalize off + j * size + 0 = o at c0
  rcases o with _ | _ | _ | _ | o <;> simp at c0

set_option maxHeartbeats 8000000 in
set_option maxRecDepth 100000 in
theorem round_c {w : World} {m : Nat} {vi vl vb : Value} {ab cap : Nat} {ids : List Int} {L : List Lk} {R : List Pe} {t : Nat} (h : HasM w m vi vl vb ab cap ids L R (listB ids.length (bstT (idAt ids) (endsL L) t))) (hR : RowR ids L R) :
    Calls Try.prog 26 #[.pointer (some ⟨m, 0, none⟩)] w fun r w' => r = .returned (.tuple #[]) ∧ ∃ vb', HasM w' m vi vl vb' ab cap ids L R (listB ids.length (bstT (idAt ids) (endsL L) (t + 1))) ∧ ∀ B, B ≤ w.heap.size → B ≤ m → Below B w w' := by
  have n1 := hR.may.n1
  have n12 := hR.may.n12
  have HH := Lib.hid h
  have HRR := Lib.hid hR
  obtain ⟨pi, capi, bi, offi, rfl, hpi, hci⟩ := h.idr
  have hne : ids ≠ [] := by rintro rfl; simp at n1
  obtain rfl := hpi hne
  have HCI := Lib.hid hci
  obtain ⟨i0, hi, hz0, hz1, hz2⟩ := info_parts info_V4
  have m0 : w.cell? ⟨m, 0, none⟩ = some (.slice (some ⟨bi, offi, none⟩) ids.length capi) := cell_of_block h.mesh rfl
  obtain ⟨n, hn⟩ : ∃ n, n = ids.length := ⟨_, rfl⟩
  have HNN := Lib.hid hn
  have HN := Lib.hid (fun k (hk : k < n) => hn ▸ hk : ∀ k, k < n → k < ids.length)
  rw [← hn] at m0 n1 n12
  rw [← hn]
  clear hpi hci hne h hR hn
  go_enter Try.func26, Try.ntmps26
  go_wp2_with fail
  clear m0
  go_loopw [2, 3, 4, 5, 6, 12] (fun s2 _ _ _ _ i wr => ∃ k : Nat, k ≤ n ∧ i = .int .i64 k ∧ Hid (wr.ownsRow w.heap.size 79 4 s2 k ((listB k (bstT (idAt ids) (endsL L) (t + 1))).flatMap cellsV4)) ∧ Hid (Below w.heap.size w wr)) (fun _ _ _ _ _ i _ => n - (intOf i).toNat)
  case atStart => exact ⟨0, Nat.zero_le _, rfl, Lib.hid (World.ownsRow_nil _ _ _ _), Lib.hid (Below.refl _ _)⟩
  case round =>
    obtain ⟨k, hk, rfl, HO, KB⟩ := hrel
    by_cases hlt : k < n
    · have HK := Lib.hid (HN.out k hlt)
      have xi : wr.cell? ⟨bi, offi + k, none⟩ = some (.int .u64 (idAt ids k)) := gcell_below KB.out (by have := HCI.out k _ (idAt_at HK.out) 0 _ rfl; simpa using this)
      have d1 : decide (k < n) = true := decide_eq_true hlt
      have d2 : decide ((k : Int) < (n : Int)) = true := decide_eq_true (by omega)
      have d3 : decide (n ≤ k) = false := decide_eq_false (by omega)
      have d4 : decide (0 ≤ (k : Int)) = true := decide_eq_true (by omega)
      have HC := Lib.hid (heard_c (HH.out.below KB.out) HRR.out k HK.out)
      go_wp2_with fail
      clear d1 d2 d3 d4 xi
      ((with_reducible refine HC.out.mono ?_); rintro e w2 ⟨u, rfl, r2, k2⟩)
      have HB := Lib.hid (pbest_c (idAt ids k) u (heardP (idAt ids) L R (bstT (idAt ids) (endsL L) t) k) w2 (by rw [HRR.out.len]; have := HRR.out.last_le (b := k) (Nat.le_refl _); omega) r2)
      rw [HRR.out.best] at HB
      have HV := Lib.hid (show (bestL (idAt ids k) (hdsT (idAt ids) (endsL L) (bstT (idAt ids) (endsL L) t) k)).2 = bstT (idAt ids) (endsL L) (t + 1) k from rfl)
      rw [HV.out] at HB
      have HO2 := Lib.hid (iowns_below HO.out k2)
      have K2 := Lib.hid (KB.out.trans (k2.mono KB.out.size))
      have HSN := Lib.hid (listB_snoc k (bstT (idAt ids) (endsL L) (t + 1)))
      clear HC r2 k2 HO KB HV
      generalize bstT (idAt ids) (endsL L) (t + 1) k = V at HB HSN
      generalize (bestL (idAt ids k) (hdsT (idAt ids) (endsL L) (bstT (idAt ids) (endsL L) t) k)).1 = P at HB
      obtain ⟨va, vb_, vc, vd⟩ := V
      go_wp2_with fail
      ((with_reducible refine HB.out.mono ?_); rintro e w3 ⟨rfl, k3⟩)
      have HO3 := Lib.hid ((iowns_below HO2.out k3).alloc (.cells #[.int .u64 va, .int .i64 vb_, .int .u64 vc, .int .i64 vd] 79))
      have K3 := Lib.hid ((K2.out.trans (k3.mono K2.out.size)).alloc (K2.out.trans (k3.mono K2.out.size)).size (.cells #[.int .u64 va, .int .i64 vb_, .int .u64 vc, .int .i64 vd] 79))
      have HE3 := Lib.hid (heap_new w3 (.cells #[.int .u64 va, .int .i64 vb_, .int .u64 vc, .int .i64 vd] 79))
      clear HB HO2 K2 k3
      go_upto_region 5 with fail
      generalize w3.alloc (.cells #[.int .u64 va, .int .i64 vb_, .int .u64 vc, .int .i64 vd] 79) = W4 at HO3 K3 HE3 ⊢
      generalize w3.heap.size = eb at HE3 ⊢
      have z0 : W4.cell? ⟨eb, 0, none⟩ = some (.int .u64 va) := cell_of_block HE3.out rfl
      have z1 : W4.cell? ⟨eb, 1, none⟩ = some (.int .i64 vb_) := cell_of_block HE3.out rfl
      have z2 : W4.cell? ⟨eb, 2, none⟩ = some (.int .u64 vc) := cell_of_block HE3.out rfl
      have z3 : W4.cell? ⟨eb, 3, none⟩ = some (.int .i64 vd) := cell_of_block HE3.out rfl
      have NEW := Lib.hid (cells_new W4 [.int .u64 va, .int .i64 vb_, .int .u64 vc, .int .i64 vd] 79)
      have HO5 := Lib.hid (HO3.out.alloc (.cells #[.int .u64 va, .int .i64 vb_, .int .u64 vc, .int .i64 vd] 79))
      have K5 := Lib.hid (K3.out.alloc K3.out.size (.cells #[.int .u64 va, .int .i64 vb_, .int .u64 vc, .int .i64 vd] 79))
      have n11 := Lib.hid (show k + 1 ≤ maxLen by unfold maxLen; omega)
      have n22 := Lib.hid (show (k + 1) * 32 ≤ 140737488355328 by omega)
      have n33 := Lib.hid (show w.heap.size ≤ (W4.alloc (.cells #[.int .u64 va, .int .i64 vb_, .int .u64 vc, .int .i64 vd] 79)).heap.size from K5.out.size)
      have oc := Lib.hid (v4_one (va, vb_, vc, vd))
      clear HO3 K3
      go_wp2_with (at_builtin; refine wpList_append_own _ rfl _ _ 63 rfl w.heap.size 79 i0 (.agg #[.int .u64 0, .int .i64 0, .int .u64 0, .int .i64 0]) 4 32 Try.underlying63 hi hz0 hz1 hz2 rfl (by decide) _ _ _ rfl HO5.out ⟨W4.heap.size, 0, none⟩ 1 1 [.int .u64 va, .int .i64 vb_, .int .u64 vc, .int .i64 vd] rfl rfl NEW.out oc.out n11.out n22.out n33.out ?_)
      intro v' w6 hown' hgrow _
      have HO6 := Lib.hid hown'
      have K6 := Lib.hid (K5.out.grown hgrow n33.out (fun j hj => (HO5.out.lt j hj).1))
      clear hown' hgrow HO5 K5 NEW z0 z1 z2 z3 HE3
      go_wp2_with fail
      go_roundw
      case rel => exact ⟨k + 1, by omega, by go_num, Lib.hid (by rw [HSN.out]; exact HO6.out), K6⟩
      case measure => simp [intOf]; omega
    · obtain rfl : k = n := by omega
      have HM1 := Lib.hid (HH.out.below KB.out)
      have y3 : wr.cell? ⟨m, 3, none⟩ = some vb := cell_of_block HM1.out.mesh rfl
      have f3 := free_of_block (j := 3) HM1.out.mesh
      have lt1 : m < wr.heap.size := lt_of_block HM1.out.mesh
      obtain ⟨a, c, hs⟩ := owns_slice HO.out
      subst hs
      clear hlt
      go_wp2_with fail
      go_end0
      have hkk := HNN.out
      subst hkk
      refine ⟨rfl, .slice a ids.length c, ?_, fun B hB hm => (KB.out.mono hB).setCell (p := ⟨m, 3, none⟩) hm _⟩
      have hm := HM1.out
      refine ⟨?_, hm.rows_set (by decide) (fun x => ⟨_, _, rfl⟩) hm.idr _, hm.rows_set (by decide) (fun x => ⟨_, _, rfl⟩) hm.lkr _, fun b hb => ?_, ?_, hm.hne⟩
      · have h1 := heap_store (j := 3) (v := .slice a ids.length c) hm.mesh
        exact h1
      · obtain ⟨v, h1, h2⟩ := hm.at_ b hb
        exact ⟨v, gcell_only (Only.setCell wr m 3 _) hm.hne h1, hm.rows_set (by decide) (fun x => ⟨_, _, rfl⟩) h2 _⟩
      · have h1 := owns_only HO.out (Only.setCell wr m 3 (.slice a ids.length c)) hm.mesh (by decide)
        exact rowsAt_own (by decide) v4_len h1
end Go.Proofs.Ytolmkflhddlcnaa
