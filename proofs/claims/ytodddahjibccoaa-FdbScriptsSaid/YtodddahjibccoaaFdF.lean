/-
  The program's table: Learn. A contract over the translated program.
-/
import Derived.Test.YtodddahjibccoaaFdP
import Derived.Deep.RegionHeld3
namespace Go.Proofs.Ytodddahjibccoaa
open Go Go.Maps Go.WideMaps
open Go.RowKit
set_option linter.unusedVariables false
set_option linter.unusedSimpArgs false

variable {w w' : World} {p mb : Nat} {room age : Int} {R : List E4}

theorem lrn_no {v : Int} {m : ByteArray} {q now : Int} (h : mayL v m q = false ∨ timeB now = false) : lrnF room R v m q now = R := by
  unfold lrnF
  rw [if_neg]
  rcases h with h | h <;> simp [h]

set_option maxHeartbeats 4000000 in
set_option maxRecDepth 100000 in
theorem learn_no (h : HasF w p mb room age (mF R)) (hr : 1 ≤ room) (v : Int) (m : ByteArray) (q now : Int) (hn : mayL v m q = false ∨ timeB now = false) :
    Calls Try.prog 14 #[.pointer (some ⟨p, 0, none⟩), .int .i64 v, .string m, .int .i64 q, .int .i64 now] w fun e w' => e = .returned (.bool false) ∧ w' = w := by
  have c0 := h.c0
  have H1 := Lib.hid fun U => flrn_c v m q U
  have H2 := Lib.hid fun U => fmay_c now U
  obtain ⟨k1, k2⟩ := ne_t (show room ≠ 0 by omega)
  clear h hr
  cases hm : mayL v m q with
  | false =>
    rw [hm] at H1
    clear hn
    go_enter Try.func14, Try.ntmps14
    go_wp2_with fail
    ((with_reducible refine (H1.out _).mono ?_); rintro e w1 ⟨rfl, rfl⟩)
    go_wp2_with fail
    go_ret
    exact ⟨rfl, rfl⟩
  | true =>
    have ht : timeB now = false := hn.resolve_left (by rw [hm]; simp)
    rw [hm] at H1
    rw [ht] at H2
    clear hn
    go_enter Try.func14, Try.ntmps14
    go_wp2_with fail
    ((with_reducible refine (H1.out _).mono ?_); rintro e w1 ⟨rfl, rfl⟩)
    go_wp2_with fail
    ((with_reducible refine (H2.out _).mono ?_); rintro e w1 ⟨rfl, rfl⟩)
    go_wp2_with fail
    go_ret
    exact ⟨rfl, rfl⟩

/-- What stands at a place of the heap: a station. -/
def At2 (w : World) (sb : Nat) (v : Int) (m : ByteArray) : Prop := w.heap[sb]? = some (.cells #[.int .i64 v, .string m] 52 (0, 0))

theorem kf_alloc {W w : World} (h : Below W.heap.size W w) (o : Obj) : Below W.heap.size W (w.alloc o) := h.alloc h.size o
theorem tw_alt {w w1 w' : World} {p mb : Nat} (h : Below w.heap.size w w1) (k : Tw w1 w' p mb) : Tw w w' p mb := (Tw.ofBelow h).trans k

set_option maxHeartbeats 8000000 in
set_option maxRecDepth 100000 in
/-- THE LAST THIRD: the entry is put in. -/
theorem learn_ok (h : HasF w p mb room age (mF R)) (hg : GoodF R) (hr : 1 ≤ room) (hr2 : room ≤ 1024) (hl : (R.length : Int) ≤ room) (v : Int) (m : ByteArray) (q now : Int) (hm : mayL v m q = true) (ht : timeB now = true) :
    Calls Try.prog 14 #[.pointer (some ⟨p, 0, none⟩), .int .i64 v, .string m, .int .i64 q, .int .i64 now] w fun e w' => e = .returned (.bool true) ∧ HasF w' p mb room age (mF (lrnF room R v m q now)) ∧ Tw w w' p mb := by
  have hok := may_ok (v := v) (m := m) (p := q) (now := now) (by rw [hm, ht]; rfl)
  have hk : WfK v m := wf_ok hok
  have hkey := Lib.hid (keyE v m hk)
  have c0 := h.c0
  have H := Lib.hid h
  have H1 := Lib.hid fun U => flrn_c v m q U
  have H2 := Lib.hid fun U => fmay_c now U
  have H3 := Lib.hid fun U => clone_c m U (by have := hok.2.2.1; simp only at this; omega)
  rw [hm] at H1
  rw [ht] at H2
  obtain ⟨k1, k2⟩ := ne_t (show room ≠ 0 by omega)
  have E := Lib.hid (show lrnF room R v m q now = if hasF R v m then setF R v m (q, now) else insF (drvF room R) v m (q, now) by unfold lrnF; rw [hm, ht]; rfl)
  have LW := Lib.hid (at_F hg.wf hk)
  have LH := Lib.hid (has_F hg.wf hk)
  clear h hok hm ht
  go_enter Try.func14, Try.ntmps14
  go_wp2_with fail
  ((with_reducible refine (H1.out _).mono ?_); rintro e w1 ⟨rfl, rfl⟩)
  go_wp2_with fail
  ((with_reducible refine (H2.out _).mono ?_); rintro e w1 ⟨rfl, rfl⟩)
  go_wp2_with fail
  ((with_reducible refine (H3.out _).mono ?_); rintro e w2 ⟨rfl, h2⟩)
  have hB := h2.alloc h2.size (.cells #[.int .i64 v, .string m] 52)
  have hs := Lib.hid (heap_new w2 (.cells #[.int .i64 v, .string m] 52))
  have HB := Lib.hid hB
  have hsb := Lib.hid h2.size
  have hlp := Lib.hid (And.intro H.out.lt H.out.2.lt)
  clear h2 c0 H1 H2 H3 hB
  go_upto_region 4 with fail
  generalize w2.alloc (.cells #[.int .i64 v, .string m] 52) = W at hs HB ⊢
  generalize w2.heap.size = sb at hs hsb ⊢
  have HW := Lib.hid (H.out.below HB.out)
  have ha := LW.out
  have hh' := LH.out
  have HLK := Lib.hid fun (U : World) (kz : Below W.heap.size W U) => (HW.out.below kz).2.look law_ST und_MF (zero_HF U) hkey.out
  rw [ha, hh'] at HLK
  obtain ⟨qp, qa, hq⟩ : ∃ qp qa, atF R v m = (qp, qa) := ⟨_, _, rfl⟩
  rw [hq] at HLK
  unfold tmV at HLK
  simp only at HLK
  clear ha hh' hq
  generalize hhh : hasF R v m = hh at HLK E
  have HH := Lib.hid hhh
  have KF := Lib.hid fun (U : World) (kz : Below W.heap.size W U) => (⟨(HW.out.below kz).c2, cell_of_block (j := 0) (below_block kz (lt_of_block hs.out) hs.out) rfl, cell_of_block (j := 1) (below_block kz (lt_of_block hs.out) hs.out) rfl, HLK.out U kz, kz⟩ : U.cell? ⟨p, 2, none⟩ = some (.map (some mb)) ∧ U.cell? ⟨sb, 0, none⟩ = some (.int .i64 v) ∧ U.cell? ⟨sb, 1, none⟩ = some (.string m) ∧ (Instr.lookup 46 (.map (some mb)) (.agg #[.int .i64 v, .string m]) true).run Try.prog U = .ok (.tuple #[.agg #[.int .i64 qp, .int .i64 qa], .bool hh]) U ∧ Below W.heap.size W U)
  have k0 := Below.refl W.heap.size W
  clear hhh
  go_region_held3 (fun U => U.cell? ⟨p, 2, none⟩ = some (.map (some mb)) ∧ U.cell? ⟨sb, 0, none⟩ = some (.int .i64 v) ∧ U.cell? ⟨sb, 1, none⟩ = some (.string m) ∧ (Instr.lookup 46 (.map (some mb)) (.agg #[.int .i64 v, .string m]) true).run Try.prog U = .ok (.tuple #[.agg #[.int .i64 qp, .int .i64 qa], .bool hh]) U ∧ Below W.heap.size W U)
    (first | with_reducible exact KF.out _ (kf_alloc k0 _).drew | with_reducible exact KF.out _ (kf_alloc k0.drew _) | with_reducible exact KF.out _ k0.drew)
    (fail)
  all_goals
    rename_i hx
    clear hx
    have HW2 := Lib.hid (show HasF (W.alloc (.cells #[.int .i64 qp, .int .i64 qa] 54)).drew p mb room age (mF R) from HW.out.below (kf_alloc k0 _).drew)
    have hs2 := Lib.hid (show At2 (W.alloc (.cells #[.int .i64 qp, .int .i64 qa] 54)).drew sb v m from below_block (kf_alloc k0 (.cells #[.int .i64 qp, .int .i64 qa] 54)).drew (lt_of_block hs.out) hs.out)
    have HB2 := Lib.hid (HB.out.trans (((kf_alloc k0 (.cells #[.int .i64 qp, .int .i64 qa] 54)).drew).mono HB.out.size))
    clear HW hs HB KF HLK k0
    generalize (W.alloc (.cells #[.int .i64 qp, .int .i64 qa] 54)).drew = W2 at HW2 hs2 HB2 ⊢
    cases hh with
    | true =>
      have hP := Lib.hid (show (putT (mF R) (litE v m) (q, now)).Perm (mF (lrnF room R v m q now)) by
        rw [E.out, if_pos rfl, put_F hg.wf hk]
        exact (put_set hg.up HH.out).map _)
      go_upto_region 5 with fail
      go_quiet (fail)
      have HW3 := Lib.hid (show HasF (W2.drewN nq) p mb room age (mF R) from HW2.out)
      have hs3 := Lib.hid (show At2 (W2.drewN nq) sb v m from hs2.out)
      have T3 := Lib.hid (show Tw w1 (W2.drewN nq) p mb from Tw.ofBelow (below_drewN HB2.out nq))
      clear HW2 hs2 HB2
      generalize W2.drewN nq = W3 at HW3 hs3 T3 ⊢
      have c2 := HW3.out.c2
      have x0 := cell_of_block (j := 0) hs3.out rfl
      have x1 := cell_of_block (j := 1) hs3.out rfl
      have hmx := Lib.hid (show (mF R).length < maxLen by rw [len_mF]; unfold maxLen; omega)
      go_upto_region 7 with fail
      go_still_tail 8, (by kernel_rfl)
      change wpList _ _ _ _ _ W3.drew
      have hmp := Lib.hid (show Mp W3.drew Try.prog 52 mb (mF R) from HW3.out.2)
      clear c2 x0 x1
      go_wp2_with (first | (at_mapUpdate; refine wpList_store_mp _ rfl _ _ _ 46 rfl 52 54 law_ST und_MF mb (mF R) rfl hmp.out hmx.out _ _ _ _ rfl rfl hkey.out ?_; intro w7 hm7 ht7) | go_in)
      go_ret
      exact ⟨rfl, HasF.perm (HasF.turn (w := W3.drew) HW3.out hm7 ht7) hP.out, T3.out.trans ((show Tw W3 W3.drew p mb from ⟨rfl, rfl, rfl, Nat.le_refl _, fun _ _ _ _ => rfl⟩).trans (Tw.turned (w := W3.drew) ht7))⟩
    | false =>
      have c0 := HW2.out.c0
      have c2 := HW2.out.c2
      have hln := fun (n : Nat) => Mp.len (w := W2.drewN n) (show Mp (W2.drewN n) Try.prog 52 mb (mF R) from HW2.out.2) und_MF 3
      have hln0 := Mp.len HW2.out.2 und_MF 3
      have hln1 := Mp.len (w := W2.drew) (show Mp W2.drew Try.prog 52 mb (mF R) from HW2.out.2) und_MF 3
      rw [len_mF] at hln0 hln1
      simp only [len_mF] at hln
      by_cases hfull : room ≤ (R.length : Int)
      · have d1 : decide (room ≤ (R.length : Int)) = true := decide_eq_true hfull
        have hne : R ≠ [] := by rintro rfl; simp at hfull; omega
        have hdr : drvF room R = R.eraseIdx (oldI R) := by unfold drvF; rw [if_pos hfull]
        have hgd := Lib.hid (hg.sub (drv_sub room R))
        have hP := Lib.hid (show (putT (mF (R.eraseIdx (oldI R))) (litE v m) (q, now)).Perm (mF (lrnF room R v m q now)) by
          rw [E.out, if_neg (by simp), ← hdr, put_F hgd.out.wf hk]
          exact (put_ins (has_sub (drv_sub room R) HH.out)).map _)
        have HD := Lib.hid fun (U : World) (hU : HasF U p mb room age (mF R)) => drive_c hU hg hne
        have hdl := Lib.hid (show (R.eraseIdx (oldI R)).length ≤ R.length from (List.eraseIdx_sublist _ _).length_le)
        clear hfull hdr
        go_upto_region 5 with fail
        go_quiet (fail)
        have HW3 := Lib.hid (show HasF (W2.drewN nq) p mb room age (mF R) from HW2.out)
        have hs3 := Lib.hid (show At2 (W2.drewN nq) sb v m from hs2.out)
        have T3 := Lib.hid (show Tw w1 (W2.drewN nq) p mb from Tw.ofBelow (below_drewN HB2.out nq))
        clear HW2 hs2 HB2 c0 c2 hln hln0 hln1
        generalize W2.drewN nq = W3 at HW3 hs3 T3 ⊢
        go_wp2_with fail
        ((with_reducible refine (HD.out _ HW3.out).mono ?_); rintro e w4 ⟨rfl, h4, t4⟩)
        have HW4 := Lib.hid h4
        have hs4 := Lib.hid (show At2 w4 sb v m from (t4.block sb (lt_of_block hs3.out) (by have := hlp.out; have := hsb.out; omega) (by have := hlp.out; have := hsb.out; omega)).trans hs3.out)
        have T4 := Lib.hid (T3.out.trans t4)
        clear h4 t4 HW3 hs3 T3 HD
        go_upto_region 7 with fail
        have HW3 := HW4
        have hs3 := hs4
        have T3 := T4
        generalize w4 = W3 at HW3 hs3 T3 ⊢
        clear HW4 hs4 T4
        have c2 := HW3.out.c2
        have x0 := cell_of_block (j := 0) hs3.out rfl
        have x1 := cell_of_block (j := 1) hs3.out rfl
        have hmx := Lib.hid (show (mF (R.eraseIdx (oldI R))).length < maxLen by rw [len_mF]; unfold maxLen; have := hdl.out; omega)
        go_upto_region 7 with fail
        go_still_tail 8, (by kernel_rfl)
        change wpList _ _ _ _ _ W3.drew
        have hmp := Lib.hid (show Mp W3.drew Try.prog 52 mb (mF (R.eraseIdx (oldI R))) from HW3.out.2)
        clear c2 x0 x1
        go_wp2_with (first | (at_mapUpdate; refine wpList_store_mp _ rfl _ _ _ 46 rfl 52 54 law_ST und_MF mb (mF (R.eraseIdx (oldI R))) rfl hmp.out hmx.out _ _ _ _ rfl rfl hkey.out ?_; intro w7 hm7 ht7) | go_in)
        go_ret
        exact ⟨rfl, HasF.perm (HasF.turn (w := W3.drew) HW3.out hm7 ht7) hP.out, T3.out.trans ((show Tw W3 W3.drew p mb from ⟨rfl, rfl, rfl, Nat.le_refl _, fun _ _ _ _ => rfl⟩).trans (Tw.turned (w := W3.drew) ht7))⟩
      · have d1 : decide (room ≤ (R.length : Int)) = false := decide_eq_false hfull
        have hdr : drvF room R = R := by unfold drvF; rw [if_neg hfull]
        have hP := Lib.hid (show (putT (mF R) (litE v m) (q, now)).Perm (mF (lrnF room R v m q now)) by
          rw [E.out, if_neg (by simp), hdr, put_F hg.wf hk]
          exact (put_ins HH.out).map _)
        clear hfull hdr
        go_upto_region 5 with fail
        go_quiet (fail)
        have HW3 := Lib.hid (show HasF (W2.drewN nq) p mb room age (mF R) from HW2.out)
        have hs3 := Lib.hid (show At2 (W2.drewN nq) sb v m from hs2.out)
        have T3 := Lib.hid (show Tw w1 (W2.drewN nq) p mb from Tw.ofBelow (below_drewN HB2.out nq))
        clear HW2 hs2 HB2 c0 c2 hln hln0 hln1
        generalize W2.drewN nq = W3 at HW3 hs3 T3 ⊢
        have c2 := HW3.out.c2
        have x0 := cell_of_block (j := 0) hs3.out rfl
        have x1 := cell_of_block (j := 1) hs3.out rfl
        have hmx := Lib.hid (show (mF R).length < maxLen by rw [len_mF]; unfold maxLen; omega)
        go_upto_region 7 with fail
        go_still_tail 8, (by kernel_rfl)
        change wpList _ _ _ _ _ W3.drew
        have hmp := Lib.hid (show Mp W3.drew Try.prog 52 mb (mF R) from HW3.out.2)
        clear c2 x0 x1
        go_wp2_with (first | (at_mapUpdate; refine wpList_store_mp _ rfl _ _ _ 46 rfl 52 54 law_ST und_MF mb (mF R) rfl hmp.out hmx.out _ _ _ _ rfl rfl hkey.out ?_; intro w7 hm7 ht7) | go_in)
        go_ret
        exact ⟨rfl, HasF.perm (HasF.turn (w := W3.drew) HW3.out hm7 ht7) hP.out, T3.out.trans ((show Tw W3 W3.drew p mb from ⟨rfl, rfl, rfl, Nat.le_refl _, fun _ _ _ _ => rfl⟩).trans (Tw.turned (w := W3.drew) ht7))⟩

end Go.Proofs.Ytodddahjibccoaa
