/-
  The document's Decide. Contracts over the translated program.
-/
import Derived.Test.YtpaehbmhdjnofaaFwD
namespace Go.Proofs.Ytpaehbmhdjnofaa
open Go Go.Maps Go.WideMaps
open Go.RowKit
set_option linter.unusedVariables false
set_option linter.unusedSimpArgs false

set_option maxHeartbeats 16000000 in
set_option maxRecDepth 100000 in
theorem rdecide_c (pt : Int) (vm vo vr vw : Value) (lo ov rc kn fl : Bool) (M O R N : List Int) (w : World) (h : CasOk w vm vo vr vw M O R N) (p1 : -9223372036854775808 ≤ pt) (p2 : pt ≤ 9223372036854775807) :
    Calls Try.prog 15 #[.agg #[.int .i64 pt, vm, vo, vr, vw, .bool lo, .bool ov, .bool rc, .bool kn, .bool fl]] w (IPost w (decL ⟨pt, M, O, R, N, lo, ov, rc, kn, fl⟩)) := by
  obtain ⟨pm, cm, rfl⟩ := h.m.slice
  obtain ⟨po, co, rfl⟩ := h.o.slice
  obtain ⟨pr, cr, rfl⟩ := h.r.slice
  obtain ⟨pw, cw, rfl⟩ := h.n.slice
  obtain ⟨nm, hnm⟩ : ∃ nm, nm = M.length := ⟨_, rfl⟩
  obtain ⟨no, hno⟩ : ∃ no, no = O.length := ⟨_, rfl⟩
  obtain ⟨nr, hnr⟩ : ∃ nr, nr = R.length := ⟨_, rfl⟩
  obtain ⟨nw, hnw⟩ : ∃ nw, nw = N.length := ⟨_, rfl⟩
  rw [← hnm, ← hno, ← hnr, ← hnw] at h ⊢
  have HB := Lib.hid (heap_new w (.cells #[.int .i64 pt, .slice pm nm cm, .slice po no co, .slice pr nr cr, .slice pw nw cw, .bool lo, .bool ov, .bool rc, .bool kn, .bool fl] 24))
  have K0 := Lib.hid (show Below w.heap.size w (w.alloc (.cells #[.int .i64 pt, .slice pm nm cm, .slice po no co, .slice pr nr cr, .slice pw nw cw, .bool lo, .bool ov, .bool rc, .bool kn, .bool fl] 24)) from (Below.refl _ _).alloc (Nat.le_refl _) _)
  have HC := Lib.hid h
  clear hnm hno hnr hnw h
  have HFL := Lib.hid (fun U (k : Below w.heap.size w U) => rflood_c pt _ _ _ _ lo ov rc kn fl M O R N U (HC.out.below k) p1 p2)
  obtain ⟨f, hf⟩ : ∃ f : Int → Bool, f = decP ⟨pt, M, O, R, N, lo, ov, rc, kn, fl⟩ := ⟨_, rfl⟩
  have HFE := Lib.hid (show ∀ x, f x = (hasB R x || (kn && hasB N x)) from fun x => by rw [hf]; rfl)
  have HLL := Lib.hid (show (floL ⟨pt, M, O, R, N, lo, ov, rc, kn, fl⟩).length ≤ 1000 from Nat.le_trans (flo_len ⟨pt, M, O, R, N, lo, ov, rc, kn, fl⟩) HC.out.lm)
  have HQ1 := Lib.hid (show allP ⟨pt, M, O, R, N, lo, ov, rc, kn, fl⟩ = true → ∀ u U, IntsAt U u (floL ⟨pt, M, O, R, N, lo, ov, rc, kn, fl⟩) → Below w.heap.size w U → IPost w (decL ⟨pt, M, O, R, N, lo, ov, rc, kn, fl⟩) (.returned u) U from fun ha u U h1 h2 => ⟨u, rfl, by unfold decL; rw [if_pos ha]; exact h1, h2⟩)
  have HQ2 := Lib.hid (show allP ⟨pt, M, O, R, N, lo, ov, rc, kn, fl⟩ = false → ∀ u U, IntsAt U u ((floL ⟨pt, M, O, R, N, lo, ov, rc, kn, fl⟩).filter f) → Below w.heap.size w U → IPost w (decL ⟨pt, M, O, R, N, lo, ov, rc, kn, fl⟩) (.returned u) U from fun ha u U h1 h2 => ⟨u, rfl, by unfold decL; rw [if_neg (by rw [ha]; simp), ← rdec_eq, ← hf]; exact h1, h2⟩)
  have HAP := Lib.hid (show allP ⟨pt, M, O, R, N, lo, ov, rc, kn, fl⟩ = (lo || ov || rc || (!kn && fl)) from rfl)
  generalize IPost w (decL ⟨pt, M, O, R, N, lo, ov, rc, kn, fl⟩) = Q at HQ1 HQ2 ⊢
  unfold IPost at HFL
  generalize floL ⟨pt, M, O, R, N, lo, ov, rc, kn, fl⟩ = L at HFL HLL HQ1 HQ2
  generalize allP ⟨pt, M, O, R, N, lo, ov, rc, kn, fl⟩ = al at HAP HQ1 HQ2
  clear hf
  go_enter Try.func15, Try.ntmps15
  go_upto_region 1 with fail
  generalize w.alloc (.cells #[.int .i64 pt, .slice pm nm cm, .slice po no co, .slice pr nr cr, .slice pw nw cw, .bool lo, .bool ov, .bool rc, .bool kn, .bool fl] 24) = W at HB K0 ⊢
  have x0 : W.cell? ⟨w.heap.size, 0, none⟩ = some (.int .i64 pt) := cell_of_block HB.out rfl
  have x1 : W.cell? ⟨w.heap.size, 1, none⟩ = some (.slice pm nm cm) := cell_of_block HB.out rfl
  have x2 : W.cell? ⟨w.heap.size, 2, none⟩ = some (.slice po no co) := cell_of_block HB.out rfl
  have x3 : W.cell? ⟨w.heap.size, 3, none⟩ = some (.slice pr nr cr) := cell_of_block HB.out rfl
  have x4 : W.cell? ⟨w.heap.size, 4, none⟩ = some (.slice pw nw cw) := cell_of_block HB.out rfl
  have x5 : W.cell? ⟨w.heap.size, 5, none⟩ = some (.bool lo) := cell_of_block HB.out rfl
  have x6 : W.cell? ⟨w.heap.size, 6, none⟩ = some (.bool ov) := cell_of_block HB.out rfl
  have x7 : W.cell? ⟨w.heap.size, 7, none⟩ = some (.bool rc) := cell_of_block HB.out rfl
  have x8 : W.cell? ⟨w.heap.size, 8, none⟩ = some (.bool kn) := cell_of_block HB.out rfl
  have x9 : W.cell? ⟨w.heap.size, 9, none⟩ = some (.bool fl) := cell_of_block HB.out rfl
  go_wp2_with fail
  ((with_reducible refine (HFL.out W K0.out).mono ?_); rintro e w1 ⟨u, rfl, h1, k1⟩)
  have HA1 := Lib.hid h1
  have HB1 := Lib.hid (below_block k1 (lt_of_block HB.out) HB.out)
  have K1 := Lib.hid (K0.out.trans (k1.mono K0.out.size))
  clear h1 k1 HFL HB K0 x0 x1 x2 x3 x4 x5 x6 x7 x8 x9
  have y3 : w1.cell? ⟨w.heap.size, 3, none⟩ = some (.slice pr nr cr) := cell_of_block HB1.out rfl
  have y4 : w1.cell? ⟨w.heap.size, 4, none⟩ = some (.slice pw nw cw) := cell_of_block HB1.out rfl
  have y5 : w1.cell? ⟨w.heap.size, 5, none⟩ = some (.bool lo) := cell_of_block HB1.out rfl
  have y6 : w1.cell? ⟨w.heap.size, 6, none⟩ = some (.bool ov) := cell_of_block HB1.out rfl
  have y7 : w1.cell? ⟨w.heap.size, 7, none⟩ = some (.bool rc) := cell_of_block HB1.out rfl
  have y8 : w1.cell? ⟨w.heap.size, 8, none⟩ = some (.bool kn) := cell_of_block HB1.out rfl
  have y9 : w1.cell? ⟨w.heap.size, 9, none⟩ = some (.bool fl) := cell_of_block HB1.out rfl
  go_upto_region 2 with fail
  go_cut [26] (fun s26 wx => s26 = .bool al ∧ w1 = wx)
  case first =>
    rcases Bool.eq_false_or_eq_true lo with rfl | rfl
    · obtain rfl : al = true := by rw [HAP.out]; rfl
      go_wp2_with fail
      go_meet
      exact ⟨rfl, rfl⟩
    · rcases Bool.eq_false_or_eq_true ov with rfl | rfl
      · obtain rfl : al = true := by rw [HAP.out]; rfl
        go_wp2_with fail
        go_meet
        exact ⟨rfl, rfl⟩
      · rcases Bool.eq_false_or_eq_true rc with rfl | rfl
        · obtain rfl : al = true := by rw [HAP.out]; rfl
          go_wp2_with fail
          go_meet
          exact ⟨rfl, rfl⟩
        · rcases Bool.eq_false_or_eq_true kn with rfl | rfl
          · obtain rfl : al = false := by rw [HAP.out]; rfl
            go_wp2_with fail
            go_meet
            exact ⟨rfl, rfl⟩
          · obtain rfl : al = fl := by rw [HAP.out]; cases fl <;> rfl
            go_wp2_with fail
            go_meet
            exact ⟨rfl, rfl⟩
  case rest =>
  obtain ⟨rfl, rfl⟩ := hcut
  rcases Bool.eq_false_or_eq_true al with rfl | rfl
  · have HF := Lib.hid (HQ1.out rfl u w1 HA1.out K1.out)
    clear HQ1 HQ2 HB1 K1 HA1 y3 y4 y5 y6 y7 y8 y9
    go_wp2_with fail
    exact HF.out
  have HQ := Lib.hid (HQ2.out rfl)
  clear HQ1 HQ2 y3 y4 y5 y6 y7 y8 y9 HAP
  obtain ⟨pl, cl, b1, o1, rfl, hp1, hc1⟩ := HA1.out
  have HP := Lib.hid hp1
  have HCL := Lib.hid hc1
  obtain ⟨n, hn⟩ : ∃ n, n = L.length := ⟨_, rfl⟩
  have HNN := Lib.hid hn
  rw [← hn] at HA1 ⊢
  have hnl : n ≤ 1000 := by rw [hn]; exact HLL.out
  clear hp1 hc1 hn
  obtain ⟨i0, hi0, hz0, hz1, hz2⟩ := info_parts info_FI
  go_wp2_with fail
  go_loopw [4, 5] (fun s i wr => ∃ (k m : Nat), k ≤ n ∧ m ≤ k ∧ i = .int .i64 k ∧ Hid (wr.ownsRow w1.heap.size 3 1 s m (((L.take k).filter f).map (Value.int .i64))) ∧ Hid (Below w1.heap.size w1 wr)) (fun _ i _ => n - (intOf i).toNat)
  case atStart => exact ⟨0, 0, Nat.zero_le _, Nat.le_refl _, rfl, Lib.hid (World.ownsRow_nil _ _ _ _), Lib.hid (Below.refl _ _)⟩
  case round =>
    obtain ⟨k, m, hk, hmk, rfl, HO, KB⟩ := hrel
    by_cases hlt : k < n
    · obtain ⟨x, hx⟩ : ∃ x, L[k]? = some x := ⟨_, List.getElem?_eq_getElem (by rw [← HNN.out]; exact hlt)⟩
      have hne : L ≠ [] := by rintro rfl; simp at hx
      obtain rfl := HP.out hne
      have HTK := Lib.hid (keep_int (f := f) hx)
      have x0 : wr.cell? ⟨b1, o1 + k, none⟩ = some (.int .i64 x) := icell_below KB.out (HCL.out k x hx)
      have HBr := Lib.hid (below_block KB.out (lt_of_block HB1.out) HB1.out)
      have HX := Lib.hid (show ∀ U, Below wr.heap.size wr U → U.cell? ⟨b1, o1 + k, none⟩ = some (.int .i64 x) from fun U hU => icell_below hU x0)
      have y3 : wr.cell? ⟨w.heap.size, 3, none⟩ = some (.slice pr nr cr) := cell_of_block HBr.out rfl
      have y4 : wr.cell? ⟨w.heap.size, 4, none⟩ = some (.slice pw nw cw) := cell_of_block HBr.out rfl
      have y8 : wr.cell? ⟨w.heap.size, 8, none⟩ = some (.bool kn) := cell_of_block HBr.out rfl
      have d1 : decide (k < n) = true := decide_eq_true hlt
      have d2 : decide ((k : Int) < (n : Int)) = true := decide_eq_true (by omega)
      have d4 : decide (0 ≤ (k : Int)) = true := decide_eq_true (by omega)
      have d5 : (0 : Int) ≤ (k : Int) := by omega
      have d6 : (k : Int) < (n : Int) := by omega
      have HFX := Lib.hid (HFE.out x)
      have HR := Lib.hid (fun q => (rhas_c (.slice pr nr cr) R x (wr.drewN q) (by have := HC.out.lr; omega) ((HC.out.r.below K1.out).below (below_drewN KB.out q))).mono (fun e w9 h9 => And.intro h9.1 h9.2.symm))
      have HN := Lib.hid (fun q => (rhas_c (.slice pw nw cw) N x (wr.drewN q) (by have := HC.out.ln; omega) ((HC.out.n.below K1.out).below (below_drewN KB.out q))).mono (fun e w9 h9 => And.intro h9.1 h9.2.symm))
      generalize hasB R x = hr at HR HFX
      generalize hasB N x = hn at HN HFX
      clear hx hne HBr
      rcases Bool.eq_false_or_eq_true hr with rfl | rfl
      · have hf : f x = true := HFX.out.trans (by first | rfl | simp)
        have HT2 := Lib.hid (show ((L.take (k + 1)).filter f).map (Value.int .i64) = ((L.take k).filter f).map (Value.int .i64) ++ [.int .i64 x] by rw [HTK.out, hf]; rfl)
        clear HTK HFX hf
        go_wp2_with fail
        go_quiet ((first | (go_at_call 18; with_reducible exact Calls.quiet_of_same (HR.out _)) | (go_at_call 18; with_reducible exact Calls.quiet_of_same (HN.out _))))
        have HO3 := Lib.hid (iowns_below HO.out (show Below wr.heap.size wr (wr.drewN nq) from below_drewN (Below.refl _ _) _))
        have KB3 := Lib.hid (show Below w1.heap.size w1 (wr.drewN nq) from below_drewN KB.out _)
        have x3 := HX.out (wr.drewN nq) (below_drewN (Below.refl _ _) _)
        clear HO KB x0 HX y3 y4 y8
        generalize wr.drewN nq = w3 at HO3 KB3 x3 ⊢
        go_upto_region 9 with fail
        have NEW := Lib.hid (int_fresh w3 [.int .i64 x] 3)
        have HO5 := Lib.hid (HO3.out.alloc (.cells #[.int .i64 x] 3))
        have K5 := Lib.hid (KB3.out.alloc KB3.out.size (.cells #[.int .i64 x] 3))
        have n11 := Lib.hid (show m + 1 ≤ maxLen by unfold maxLen; omega)
        have n22 := Lib.hid (show (m + 1) * 8 ≤ 140737488355328 by omega)
        have n33 := Lib.hid (show w1.heap.size ≤ (w3.alloc (.cells #[.int .i64 x] 3)).heap.size from K5.out.size)
        have oc := Lib.hid (one_i64 x)
        clear HO3 KB3
        go_wp2_with (at_builtin; refine wpList_append_own _ rfl _ _ 22 rfl w1.heap.size 3 i0 (.int .i64 0) 1 8 Try.underlying22 hi0 hz0 hz1 hz2 rfl (by decide) _ _ _ rfl HO5.out ⟨w3.heap.size, 0, none⟩ 1 1 [.int .i64 x] rfl rfl NEW.out oc.out n11.out n22.out n33.out ?_)
        intro v' w6 hown' hgrow _
        have HO6 := Lib.hid hown'
        have K6 := Lib.hid (K5.out.grown hgrow n33.out (fun j hj => (HO5.out.lt j hj).1))
        clear hown' hgrow HO5 K5 NEW
        go_wp2_with fail
        go_roundw
        case rel => exact ⟨k + 1, m + 1, by omega, by omega, by go_num, Lib.hid (by rw [HT2.out]; exact HO6.out), K6⟩
        case measure => simp [intOf]; omega
      · rcases Bool.eq_false_or_eq_true kn with rfl | rfl
        · rcases Bool.eq_false_or_eq_true hn with rfl | rfl
          · have hf : f x = true := HFX.out.trans (by first | rfl | simp)
            have HT2 := Lib.hid (show ((L.take (k + 1)).filter f).map (Value.int .i64) = ((L.take k).filter f).map (Value.int .i64) ++ [.int .i64 x] by rw [HTK.out, hf]; rfl)
            clear HTK HFX hf
            go_wp2_with fail
            go_quiet ((first | (go_at_call 18; with_reducible exact Calls.quiet_of_same (HR.out _)) | (go_at_call 18; with_reducible exact Calls.quiet_of_same (HN.out _))))
            have HO3 := Lib.hid (iowns_below HO.out (show Below wr.heap.size wr (wr.drewN nq) from below_drewN (Below.refl _ _) _))
            have KB3 := Lib.hid (show Below w1.heap.size w1 (wr.drewN nq) from below_drewN KB.out _)
            have x3 := HX.out (wr.drewN nq) (below_drewN (Below.refl _ _) _)
            clear HO KB x0 HX y3 y4 y8
            generalize wr.drewN nq = w3 at HO3 KB3 x3 ⊢
            go_upto_region 9 with fail
            have NEW := Lib.hid (int_fresh w3 [.int .i64 x] 3)
            have HO5 := Lib.hid (HO3.out.alloc (.cells #[.int .i64 x] 3))
            have K5 := Lib.hid (KB3.out.alloc KB3.out.size (.cells #[.int .i64 x] 3))
            have n11 := Lib.hid (show m + 1 ≤ maxLen by unfold maxLen; omega)
            have n22 := Lib.hid (show (m + 1) * 8 ≤ 140737488355328 by omega)
            have n33 := Lib.hid (show w1.heap.size ≤ (w3.alloc (.cells #[.int .i64 x] 3)).heap.size from K5.out.size)
            have oc := Lib.hid (one_i64 x)
            clear HO3 KB3
            go_wp2_with (at_builtin; refine wpList_append_own _ rfl _ _ 22 rfl w1.heap.size 3 i0 (.int .i64 0) 1 8 Try.underlying22 hi0 hz0 hz1 hz2 rfl (by decide) _ _ _ rfl HO5.out ⟨w3.heap.size, 0, none⟩ 1 1 [.int .i64 x] rfl rfl NEW.out oc.out n11.out n22.out n33.out ?_)
            intro v' w6 hown' hgrow _
            have HO6 := Lib.hid hown'
            have K6 := Lib.hid (K5.out.grown hgrow n33.out (fun j hj => (HO5.out.lt j hj).1))
            clear hown' hgrow HO5 K5 NEW
            go_wp2_with fail
            go_roundw
            case rel => exact ⟨k + 1, m + 1, by omega, by omega, by go_num, Lib.hid (by rw [HT2.out]; exact HO6.out), K6⟩
            case measure => simp [intOf]; omega
          · have hf : f x = false := HFX.out.trans (by first | rfl | simp)
            have HT2 := Lib.hid (show ((L.take (k + 1)).filter f).map (Value.int .i64) = ((L.take k).filter f).map (Value.int .i64) by rw [HTK.out, hf]; simp)
            clear HTK HFX hf
            go_wp2_with fail
            go_quiet ((first | (go_at_call 18; with_reducible exact Calls.quiet_of_same (HR.out _)) | (go_at_call 18; with_reducible exact Calls.quiet_of_same (HN.out _))))
            have HO3 := Lib.hid (iowns_below HO.out (show Below wr.heap.size wr (wr.drewN nq) from below_drewN (Below.refl _ _) _))
            have KB3 := Lib.hid (show Below w1.heap.size w1 (wr.drewN nq) from below_drewN KB.out _)
            clear HO KB x0 HX y3 y4 y8
            generalize wr.drewN nq = w3 at HO3 KB3 ⊢
            go_wp2_with fail
            go_roundw
            case rel => exact ⟨k + 1, m, by omega, by omega, by go_num, Lib.hid (by rw [HT2.out]; exact HO3.out), KB3⟩
            case measure => simp [intOf]; omega
        · have hf : f x = false := HFX.out.trans (by first | rfl | simp)
          have HT2 := Lib.hid (show ((L.take (k + 1)).filter f).map (Value.int .i64) = ((L.take k).filter f).map (Value.int .i64) by rw [HTK.out, hf]; simp)
          clear HTK HFX hf
          go_wp2_with fail
          go_quiet ((first | (go_at_call 18; with_reducible exact Calls.quiet_of_same (HR.out _)) | (go_at_call 18; with_reducible exact Calls.quiet_of_same (HN.out _))))
          have HO3 := Lib.hid (iowns_below HO.out (show Below wr.heap.size wr (wr.drewN nq) from below_drewN (Below.refl _ _) _))
          have KB3 := Lib.hid (show Below w1.heap.size w1 (wr.drewN nq) from below_drewN KB.out _)
          clear HO KB x0 HX y3 y4 y8
          generalize wr.drewN nq = w3 at HO3 KB3 ⊢
          go_wp2_with fail
          go_roundw
          case rel => exact ⟨k + 1, m, by omega, by omega, by go_num, Lib.hid (by rw [HT2.out]; exact HO3.out), KB3⟩
          case measure => simp [intOf]; omega
    · obtain rfl : k = n := by omega
      rw [List.take_of_length_le (by rw [HNN.out]; exact Nat.le_refl _)] at HO
      have HF := Lib.hid (HQ.out _ wr (IntsAt.of_owns HO.out) (K1.out.trans (KB.out.mono K1.out.size)))
      clear hlt HO HQ
      go_wp2_with fail
      exact HF.out

end Go.Proofs.Ytpaehbmhdjnofaa
