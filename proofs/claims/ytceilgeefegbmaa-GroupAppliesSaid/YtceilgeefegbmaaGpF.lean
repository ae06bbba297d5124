/-
  The document's but at each kind. Contracts over the translated program.
-/
import Derived.Test.YtceilgeefegbmaaGpBB
import Derived.Deep.RegionHeld3
namespace Go.Proofs.Ytceilgeefegbmaa
open Go Go.Maps Go.WideMaps
open Go.RowKit
set_option linter.unusedVariables false
set_option linter.unusedSimpArgs false

set_option maxHeartbeats 16000000 in
set_option maxRecDepth 100000 in
theorem but17_1 (ex : Bool) (tm : Int) (q : Option Addr) (n c : Nat) (l : List Tm) (vr : Value) (r : List ByteArray) (m : Int) (w : World) (hl0 : l.length ≤ 100) (hr0 : r.length ≤ 100) (hR : RowsAt 2 cellsTm w (.slice q n c) l) (hRR : AddrsAt w vr r) :
    Calls Try.prog 37 #[.agg #[.bool ex, .int .i64 tm, .slice q n c], .int .i64 1, vr, .int .i64 m] w (CgPost (butP tm l 1 r m) w) := by
  rw [show butP tm l 1 r m = ⟨true, tm, allS (allS (keptS [] (namesR l) l) (lessF (namesB l) r) 0) r m, false, []⟩ from by simp [butP, restP]]
  have HQ := Lib.hid (show ∀ U vs va, RowsAt 2 cellsTm U vs (⟨true, tm, allS (allS (keptS [] (namesR l) l) (lessF (namesB l) r) 0) r m, false, []⟩ : Cg).src → AddrsAt U va (⟨true, tm, allS (allS (keptS [] (namesR l) l) (lessF (namesB l) r) 0) r m, false, []⟩ : Cg).al → Below w.heap.size w U → CgPost ⟨true, tm, allS (allS (keptS [] (namesR l) l) (lessF (namesB l) r) 0) r m, false, []⟩ w (.returned (.tuple #[.agg #[.bool (⟨true, tm, allS (allS (keptS [] (namesR l) l) (lessF (namesB l) r) 0) r m, false, []⟩ : Cg).ex, .int .i64 (⟨true, tm, allS (allS (keptS [] (namesR l) l) (lessF (namesB l) r) 0) r m, false, []⟩ : Cg).tm, vs], .agg #[.bool (⟨true, tm, allS (allS (keptS [] (namesR l) l) (lessF (namesB l) r) 0) r m, false, []⟩ : Cg).ag, va]])) U from fun U vs va h1 h2 h3 => ⟨vs, va, rfl, h1, h2, h3⟩)
  generalize CgPost ⟨true, tm, allS (allS (keptS [] (namesR l) l) (lessF (namesB l) r) 0) r m, false, []⟩ w = Q at HQ ⊢
  simp only at HQ
  have hl := Lib.hid hl0
  have hr := Lib.hid hr0
  have hl6 := Lib.hid (Nat.le_trans hl0 (show 100 ≤ 1000000 by decide))
  have k0 : Below w.heap.size w (((w.alloc (.cells #[.bool ex, .int .i64 tm, .slice q n c] 24)).alloc (.cells #[.bool false, .int .i64 0, .slice none 0 0] 24)).alloc (.cells #[.bool false, .slice none 0 0] 47)) := (((Below.refl _ _).alloc (Nat.le_refl _) _).alloc (by simp) _).alloc (by simp; omega) _
  have KW := Lib.hid k0
  have HB := Lib.hid (show (((w.alloc (.cells #[.bool ex, .int .i64 tm, .slice q n c] 24)).alloc (.cells #[.bool false, .int .i64 0, .slice none 0 0] 24)).alloc (.cells #[.bool false, .slice none 0 0] 47)).heap[w.heap.size]? = some (.cells #[.bool ex, .int .i64 tm, .slice q n c] 24) from heap_old (heap_old (heap_new w (.cells #[.bool ex, .int .i64 tm, .slice q n c] 24))))
  have H8 := Lib.hid (show (((w.alloc (.cells #[.bool ex, .int .i64 tm, .slice q n c] 24)).alloc (.cells #[.bool false, .int .i64 0, .slice none 0 0] 24)).alloc (.cells #[.bool false, .slice none 0 0] 47)).heap[w.heap.size + 1]? = some (.cells #[.bool false, .int .i64 0, .slice none 0 0] 24) from heap_old (by simpa using heap_new (w.alloc (.cells #[.bool ex, .int .i64 tm, .slice q n c] 24)) (.cells #[.bool false, .int .i64 0, .slice none 0 0] 24)))
  have H9 := Lib.hid (show (((w.alloc (.cells #[.bool ex, .int .i64 tm, .slice q n c] 24)).alloc (.cells #[.bool false, .int .i64 0, .slice none 0 0] 24)).alloc (.cells #[.bool false, .slice none 0 0] 47)).heap[w.heap.size + 1 + 1]? = some (.cells #[.bool false, .slice none 0 0] 47) from by simpa using heap_new ((w.alloc (.cells #[.bool ex, .int .i64 tm, .slice q n c] 24)).alloc (.cells #[.bool false, .int .i64 0, .slice none 0 0] 24)) (.cells #[.bool false, .slice none 0 0] 47))
  have HR := Lib.hid (hR.below k0)
  have HRR := Lib.hid (hRR.below k0)
  have g8 := Lib.hid (show w.heap.size ≤ w.heap.size + 1 from by omega)
  have g9 := Lib.hid (show w.heap.size ≤ w.heap.size + 1 + 1 from by omega)
  have n89 := Lib.hid (show w.heap.size + 1 ≠ w.heap.size + 1 + 1 from by omega)
  have n98 := Lib.hid (Ne.symm n89.out)
  clear k0 hR hRR hl0 hr0
  go_enter Try.func37, Try.ntmps37
  go_upto_region 1 with fail
  generalize ((w.alloc (.cells #[.bool ex, .int .i64 tm, .slice q n c] 24)).alloc (.cells #[.bool false, .int .i64 0, .slice none 0 0] 24)).alloc (.cells #[.bool false, .slice none 0 0] 47) = W at HB H8 H9 HR HRR KW ⊢
  generalize w.heap.size + 1 + 1 = e9 at H9 g9 n89 n98 ⊢
  generalize w.heap.size + 1 = e8 at H8 g8 n89 n98 ⊢
  have x0 : W.cell? ⟨w.heap.size, 0, none⟩ = some (.bool ex) := cell_of_block HB.out rfl
  have x1 : W.cell? ⟨w.heap.size, 1, none⟩ = some (.int .i64 tm) := cell_of_block HB.out rfl
  have x2 : W.cell? ⟨w.heap.size, 2, none⟩ = some (.slice q n c) := cell_of_block HB.out rfl
  have NC := Lib.hid (namesR_c ex tm _ l W hl6.out HR.out)
  go_wp2_with fail
  ((with_reducible refine NC.out.mono ?_); rintro e w1 ⟨uAX, rfl, a1, k1⟩)
  replace HB := Lib.hid (below_block k1 (lt_of_block HB.out) HB.out)
  replace H8 := Lib.hid (below_block k1 (lt_of_block H8.out) H8.out)
  replace H9 := Lib.hid (below_block k1 (lt_of_block H9.out) H9.out)
  replace HR := Lib.hid (HR.out.below k1)
  replace HRR := Lib.hid (HRR.out.below k1)
  replace KW := Lib.hid (KW.out.trans (k1.mono KW.out.size))
  have AX := Lib.hid a1
  clear NC a1 k1 x0 x1 x2
  have NAX := Lib.hid (show (namesR l).length ≤ 100 from Nat.le_trans (names_len l).1 hl.out)
  have x0 : w1.cell? ⟨w.heap.size, 0, none⟩ = some (.bool ex) := cell_of_block HB.out rfl
  have x1 : w1.cell? ⟨w.heap.size, 1, none⟩ = some (.int .i64 tm) := cell_of_block HB.out rfl
  have x2 : w1.cell? ⟨w.heap.size, 2, none⟩ = some (.slice q n c) := cell_of_block HB.out rfl
  have NC := Lib.hid (namesB_c ex tm _ l w1 hl6.out HR.out)
  go_wp2_with fail
  ((with_reducible refine NC.out.mono ?_); rintro e w2 ⟨uAY, rfl, a1, k1⟩)
  replace HB := Lib.hid (below_block k1 (lt_of_block HB.out) HB.out)
  replace H8 := Lib.hid (below_block k1 (lt_of_block H8.out) H8.out)
  replace H9 := Lib.hid (below_block k1 (lt_of_block H9.out) H9.out)
  replace HR := Lib.hid (HR.out.below k1)
  replace HRR := Lib.hid (HRR.out.below k1)
  replace AX := Lib.hid (AX.out.below k1)
  replace KW := Lib.hid (KW.out.trans (k1.mono KW.out.size))
  have AY := Lib.hid a1
  clear NC a1 k1 x0 x1 x2
  have NAY := Lib.hid (show (namesB l).length ≤ 100 from Nat.le_trans (names_len l).2 hl.out)
  have x0 : w2.cell? ⟨w.heap.size, 0, none⟩ = some (.bool ex) := cell_of_block HB.out rfl
  have x1 : w2.cell? ⟨w.heap.size, 1, none⟩ = some (.int .i64 tm) := cell_of_block HB.out rfl
  have x2 : w2.cell? ⟨w.heap.size, 2, none⟩ = some (.slice q n c) := cell_of_block HB.out rfl
  go_upto_region 4 with fail
  have kA : Below w2.heap.size w2 (w2.alloc (.cells #[.bool true, .int .i64 tm, .slice none 0 0] 24)) := (Below.refl _ _).alloc (Nat.le_refl _) _
  have gp := Lib.hid (show w.heap.size ≤ w2.heap.size from KW.out.size)
  have nbp := Lib.hid (Nat.ne_of_lt (lt_of_block HB.out))
  have n8p := Lib.hid (Nat.ne_of_lt (lt_of_block H8.out))
  have n9p := Lib.hid (Nat.ne_of_lt (lt_of_block H9.out))
  replace HB := Lib.hid (below_block kA (lt_of_block HB.out) HB.out)
  replace H8 := Lib.hid (below_block kA (lt_of_block H8.out) H8.out)
  replace H9 := Lib.hid (below_block kA (lt_of_block H9.out) H9.out)
  replace HR := Lib.hid (HR.out.below kA)
  replace HRR := Lib.hid (HRR.out.below kA)
  replace AX := Lib.hid (AX.out.below kA)
  replace AY := Lib.hid (AY.out.below kA)
  replace KW := Lib.hid (KW.out.trans (kA.mono KW.out.size))
  have HP := Lib.hid (HasS17.new w2 true (tm))
  have NP := Lib.hid (show ([] : List Tm).length ≤ 0 from Nat.le_refl _)
  clear kA x0 x1 x2
  generalize w2.alloc (.cells #[.bool true, .int .i64 tm, .slice none 0 0] 24) = w3 at HB H8 H9 HR HRR KW AX AY HP ⊢
  generalize w2.heap.size = pb at gp nbp n8p n9p HP ⊢
  go_upto_region 5 with fail
  have kA : Below w3.heap.size w3 (w3.alloc (.cells #[.bool false, .slice none 0 0] 47)) := (Below.refl _ _).alloc (Nat.le_refl _) _
  have gk := Lib.hid (show w.heap.size ≤ w3.heap.size from KW.out.size)
  have nbk := Lib.hid (Nat.ne_of_lt (lt_of_block HB.out))
  have n8k := Lib.hid (Nat.ne_of_lt (lt_of_block H8.out))
  have n9k := Lib.hid (Nat.ne_of_lt (lt_of_block H9.out))
  have npk := Lib.hid (Nat.ne_of_lt HP.out.lt)
  have nap := Lib.hid (Ne.symm npk.out)
  replace HB := Lib.hid (below_block kA (lt_of_block HB.out) HB.out)
  replace H8 := Lib.hid (below_block kA (lt_of_block H8.out) H8.out)
  replace H9 := Lib.hid (below_block kA (lt_of_block H9.out) H9.out)
  replace HR := Lib.hid (HR.out.below kA)
  replace HRR := Lib.hid (HRR.out.below kA)
  replace AX := Lib.hid (AX.out.below kA)
  replace AY := Lib.hid (AY.out.below kA)
  replace HP := Lib.hid (HP.out.below kA)
  replace KW := Lib.hid (KW.out.trans (kA.mono KW.out.size))
  have HA := Lib.hid (heap_new w3 (.cells #[.bool false, .slice none 0 0] 47))
  clear kA
  generalize w3.alloc (.cells #[.bool false, .slice none 0 0] 47) = w4 at HB H8 H9 HA HR HRR KW AX AY HP ⊢
  generalize w3.heap.size = kb at gk nbk n8k n9k npk nap HA ⊢
  have LC := Lib.hid (join17_c _ _ (namesR l) (namesB l) w4 (Nat.le_trans NAX.out (by decide)) (Nat.le_trans NAY.out (by decide)) AX.out AY.out)
  unfold MPost at LC
  go_wp2_with fail
  ((with_reducible refine LC.out.mono ?_); rintro e w5 ⟨uAJ, rfl, a1, k1⟩)
  replace HB := Lib.hid (below_block k1 (lt_of_block HB.out) HB.out)
  replace H8 := Lib.hid (below_block k1 (lt_of_block H8.out) H8.out)
  replace H9 := Lib.hid (below_block k1 (lt_of_block H9.out) H9.out)
  replace HA := Lib.hid (below_block k1 (lt_of_block HA.out) HA.out)
  replace HR := Lib.hid (HR.out.below k1)
  replace HRR := Lib.hid (HRR.out.below k1)
  replace AX := Lib.hid (AX.out.below k1)
  replace AY := Lib.hid (AY.out.below k1)
  replace HP := Lib.hid (HP.out.below k1)
  replace KW := Lib.hid (KW.out.trans (k1.mono KW.out.size))
  have AJ := Lib.hid a1.at
  clear LC a1 k1
  have NAJ := Lib.hid (show (ris (namesR l ++ namesB l)).length ≤ 200 from Nat.le_trans (ris_len _) (by rw [List.length_append]; exact Nat.add_le_add NAX.out NAY.out))
  have LC := Lib.hid (rless17_c _ _ (r) (ris (namesR l ++ namesB l)) w5 (Nat.le_trans hr.out (by decide)) (Nat.le_trans NAJ.out (by decide)) HRR.out AJ.out)
  unfold MPost at LC
  go_wp2_with fail
  ((with_reducible refine LC.out.mono ?_); rintro e w6 ⟨uAR, rfl, a1, k1⟩)
  replace HB := Lib.hid (below_block k1 (lt_of_block HB.out) HB.out)
  replace H8 := Lib.hid (below_block k1 (lt_of_block H8.out) H8.out)
  replace H9 := Lib.hid (below_block k1 (lt_of_block H9.out) H9.out)
  replace HA := Lib.hid (below_block k1 (lt_of_block HA.out) HA.out)
  replace HR := Lib.hid (HR.out.below k1)
  replace HRR := Lib.hid (HRR.out.below k1)
  replace AX := Lib.hid (AX.out.below k1)
  replace AY := Lib.hid (AY.out.below k1)
  replace AJ := Lib.hid (AJ.out.below k1)
  replace HP := Lib.hid (HP.out.below k1)
  replace KW := Lib.hid (KW.out.trans (k1.mono KW.out.size))
  have AR := Lib.hid a1.at
  clear LC a1 k1
  have NAR := Lib.hid (show (lessF (r) (ris (namesR l ++ namesB l))).length ≤ 100 from Nat.le_trans (less_len2 _ _) hr.out)
  have x0 : w6.cell? ⟨w.heap.size, 0, none⟩ = some (.bool ex) := cell_of_block HB.out rfl
  have x1 : w6.cell? ⟨w.heap.size, 1, none⟩ = some (.int .i64 tm) := cell_of_block HB.out rfl
  have x2 : w6.cell? ⟨w.heap.size, 2, none⟩ = some (.slice q n c) := cell_of_block HB.out rfl
  have PC := Lib.hid (kept17_c HP.out _ (namesR l) AX.out (Nat.le_trans (Nat.add_le_add NP.out NAX.out) (by decide)) ex tm _ l hl6.out HR.out)
  unfold PuPost at PC
  go_wp2_with fail
  ((with_reducible refine PC.out.mono ?_); rintro e w7 ⟨rfl, hs9, kt⟩)
  replace HB := Lib.hid (blk_tw kt HB.out nbp.out)
  replace H8 := Lib.hid (blk_tw kt H8.out n8p.out)
  replace H9 := Lib.hid (blk_tw kt H9.out n9p.out)
  replace HA := Lib.hid (blk_tw kt HA.out nap.out)
  replace HR := Lib.hid (HP.out.rows kt HR.out)
  replace HRR := Lib.hid (HP.out.addrs kt HRR.out)
  replace AX := Lib.hid (HP.out.addrs kt AX.out)
  replace AY := Lib.hid (HP.out.addrs kt AY.out)
  replace AJ := Lib.hid (HP.out.addrs kt AJ.out)
  replace AR := Lib.hid (HP.out.addrs kt AR.out)
  replace KW := Lib.hid (bel_tw KW.out gp.out kt)
  replace HP := Lib.hid (hs9)
  clear PC hs9 kt x0 x1 x2
  replace NP := Lib.hid (show (keptS ([]) (namesR l) l).length ≤ 100 from Nat.le_trans (keptS_len _ _ _) (Nat.add_le_add NP.out NAX.out))
  have LC := Lib.hid (rless17_c _ _ (namesB l) (r) w7 (Nat.le_trans NAY.out (by decide)) (Nat.le_trans hr.out (by decide)) AY.out HRR.out)
  unfold MPost at LC
  go_wp2_with fail
  ((with_reducible refine LC.out.mono ?_); rintro e w8 ⟨uAL, rfl, a1, k1⟩)
  replace HB := Lib.hid (below_block k1 (lt_of_block HB.out) HB.out)
  replace H8 := Lib.hid (below_block k1 (lt_of_block H8.out) H8.out)
  replace H9 := Lib.hid (below_block k1 (lt_of_block H9.out) H9.out)
  replace HA := Lib.hid (below_block k1 (lt_of_block HA.out) HA.out)
  replace HR := Lib.hid (HR.out.below k1)
  replace HRR := Lib.hid (HRR.out.below k1)
  replace AX := Lib.hid (AX.out.below k1)
  replace AY := Lib.hid (AY.out.below k1)
  replace AJ := Lib.hid (AJ.out.below k1)
  replace AR := Lib.hid (AR.out.below k1)
  replace HP := Lib.hid (HP.out.below k1)
  replace KW := Lib.hid (KW.out.trans (k1.mono KW.out.size))
  have AL := Lib.hid a1.at
  clear LC a1 k1
  have NAL := Lib.hid (show (lessF (namesB l) (r)).length ≤ 100 from Nat.le_trans (less_len2 _ _) NAY.out)
  have PC := Lib.hid (all17_c HP.out _ (lessF (namesB l) (r)) AL.out (Nat.le_trans (Nat.add_le_add NP.out NAL.out) (by decide)) 0)
  unfold PuPost at PC
  go_wp2_with fail
  ((with_reducible refine PC.out.mono ?_); rintro e w9 ⟨rfl, hs9, kt⟩)
  replace HB := Lib.hid (blk_tw kt HB.out nbp.out)
  replace H8 := Lib.hid (blk_tw kt H8.out n8p.out)
  replace H9 := Lib.hid (blk_tw kt H9.out n9p.out)
  replace HA := Lib.hid (blk_tw kt HA.out nap.out)
  replace HR := Lib.hid (HP.out.rows kt HR.out)
  replace HRR := Lib.hid (HP.out.addrs kt HRR.out)
  replace AX := Lib.hid (HP.out.addrs kt AX.out)
  replace AY := Lib.hid (HP.out.addrs kt AY.out)
  replace AJ := Lib.hid (HP.out.addrs kt AJ.out)
  replace AR := Lib.hid (HP.out.addrs kt AR.out)
  replace AL := Lib.hid (HP.out.addrs kt AL.out)
  replace KW := Lib.hid (bel_tw KW.out gp.out kt)
  replace HP := Lib.hid (hs9)
  clear PC hs9 kt
  replace NP := Lib.hid (show (allS (keptS ([]) (namesR l) l) (lessF (namesB l) (r)) (0)).length ≤ 200 from Nat.le_trans (allS_len _ _ _) (Nat.add_le_add NP.out NAL.out))
  have PC := Lib.hid (all17_c HP.out _ (r) HRR.out (Nat.le_trans (Nat.add_le_add NP.out hr.out) (by decide)) m)
  unfold PuPost at PC
  go_wp2_with fail
  ((with_reducible refine PC.out.mono ?_); rintro e w10 ⟨rfl, hs9, kt⟩)
  replace HB := Lib.hid (blk_tw kt HB.out nbp.out)
  replace H8 := Lib.hid (blk_tw kt H8.out n8p.out)
  replace H9 := Lib.hid (blk_tw kt H9.out n9p.out)
  replace HA := Lib.hid (blk_tw kt HA.out nap.out)
  replace HR := Lib.hid (HP.out.rows kt HR.out)
  replace HRR := Lib.hid (HP.out.addrs kt HRR.out)
  replace AX := Lib.hid (HP.out.addrs kt AX.out)
  replace AY := Lib.hid (HP.out.addrs kt AY.out)
  replace AJ := Lib.hid (HP.out.addrs kt AJ.out)
  replace AR := Lib.hid (HP.out.addrs kt AR.out)
  replace AL := Lib.hid (HP.out.addrs kt AL.out)
  replace KW := Lib.hid (bel_tw KW.out gp.out kt)
  replace HP := Lib.hid (hs9)
  clear PC hs9 kt
  replace NP := Lib.hid (show (allS (allS (keptS ([]) (namesR l) l) (lessF (namesB l) (r)) (0)) (r) (m)).length ≤ 300 from Nat.le_trans (allS_len _ _ _) (Nat.add_le_add NP.out hr.out))
  go_upto_region 28 with fail
  clear HR HRR AX AY AJ AR AL
  have AF := Lib.hid (show AddrsAt w10 (.slice none 0 0) [] from AddrsG.nil _ _ _)
  obtain ⟨pv, PB, PR⟩ := HP.out
  obtain ⟨pq, pn, pc, rfl⟩ := rows_slice3 PR
  have RF := Lib.hid PR
  have hb := HA.out
  have h8 := H8.out
  have h9 := H9.out
  have rf := RF.out
  have af := AF.out
  have kk := KW.out
  have KF := Lib.hid (show ∀ U : World, U.heap[pb]? = some (.cells #[.bool true, .int .i64 (tm), .slice pq pn pc] 24 (0, 0)) → U.heap[kb]? = some (.cells #[.bool false, .slice none 0 0] 47 (0, 0)) → (U.cell? ⟨pb, 0, none⟩ = some (.bool true) ∧ U.cell? ⟨pb, 1, none⟩ = some (.int .i64 (tm)) ∧ U.cell? ⟨pb, 2, none⟩ = some (.slice pq pn pc) ∧ U.cell? ⟨kb, 0, none⟩ = some (.bool false) ∧ U.cell? ⟨kb, 1, none⟩ = some (.slice none 0 0)) from fun U h1 h2 => ⟨cell_of_block h1 rfl, cell_of_block h1 rfl, cell_of_block h1 rfl, cell_of_block h2 rfl, cell_of_block h2 rfl⟩)
  clear RF AF PR HP HA HB H8 H9 KW
  refine wp_region_held_drew (S := fun U => U.cell? ⟨pb, 0, none⟩ = some (.bool true) ∧ U.cell? ⟨pb, 1, none⟩ = some (.int .i64 (tm)) ∧ U.cell? ⟨pb, 2, none⟩ = some (.slice pq pn pc) ∧ U.cell? ⟨kb, 0, none⟩ = some (.bool false) ∧ U.cell? ⟨kb, 1, none⟩ = some (.slice none 0 0)) (by kernel_rfl) (KF.out _ PB hb) (fun hH => ?_)
  replace h8 : w10.drew.heap[e8]? = _ := h8
  replace h9 : w10.drew.heap[e9]? = _ := h9
  replace PB : w10.drew.heap[pb]? = _ := PB
  replace hb : w10.drew.heap[kb]? = _ := hb
  replace rf := rf.below (show Below w10.heap.size w10 w10.drew from (Below.refl _ _).drew)
  replace af := af.below (show Below w10.heap.size w10 w10.drew from (Below.refl _ _).drew)
  replace kk := kk.drew
  generalize w10.drew = Y0 at h8 h9 PB hb rf af kk hH ⊢
  have nk8 := Lib.hid (Ne.symm n8k.out)
  have nk9 := Lib.hid (Ne.symm n9k.out)
  have np8 := Lib.hid (Ne.symm n8p.out)
  have np9 := Lib.hid (Ne.symm n9p.out)
  refine wpAnyH_take (i := 0) (oi := { dst := some 88, op := Op.load 24 (Operand.tmp 12), type := 24, pos := "ref.go:152", after := #[], guard := none }) (v := .agg #[.bool true, .int .i64 (tm), .slice pq pn pc]) rfl (by kernel_rfl) (by kernel_rfl) (by kernel_rfl) (fun _ _ _ h => h) (Or.inl ⟨by kernel_rfl, ?_⟩) hH ?_
  · intro w hSw; (try dsimp only at hSw); go_simp; (try rfl)
  try simp only [Act.put, List.setIfInBounds_toArray, List.set_cons_zero, List.set_cons_succ]
  refine wpAnyH_take (i := 1) (oi := { dst := some 89, op := Op.load 47 (Operand.tmp 13), type := 47, pos := "ref.go:152", after := #[{ on := 2, ground := Ground.gcOnly Departure.lateStores }], guard := none }) (v := .agg #[.bool false, .slice none 0 0]) rfl (by kernel_rfl) (by kernel_rfl) (by kernel_rfl) (fun _ _ _ h => h) (Or.inl ⟨by kernel_rfl, ?_⟩) hH ?_
  · intro w hSw; (try dsimp only at hSw); go_simp; (try rfl)
  try simp only [Act.put, List.setIfInBounds_toArray, List.set_cons_zero, List.set_cons_succ]
  refine wpAnyH_ready (rs := [2]) (by kernel_rfl) (by simp) ?_
  refine AllReadyH.cons rfl (fun K hK => ?_) AllReadyH.nil
  have z0 := cell_of_block (j := 0) h8 rfl
  have fz0 := free_of_block (j := 0) h8
  have z1 := cell_of_block (j := 1) h8 rfl
  have fz1 := free_of_block (j := 1) h8
  have z2 := cell_of_block (j := 2) h8 rfl
  have fz2 := free_of_block (j := 2) h8
  go_simp
  clear z0 fz0 z1 fz1 z2 fz2
  have kt : Tw Y0 (((Y0.setCell ⟨e8, 0, none⟩ (.bool true)).setCell ⟨e8, 1, none⟩ (.int .i64 (tm))).setCell ⟨e8, 2, none⟩ (.slice pq pn pc)) e8 e8 := ((tw_set Y0 e8 0 (.bool true)).trans (tw_set (Y0.setCell ⟨e8, 0, none⟩ (.bool true)) e8 1 (.int .i64 (tm)))).trans (tw_set ((Y0.setCell ⟨e8, 0, none⟩ (.bool true)).setCell ⟨e8, 1, none⟩ (.int .i64 (tm))) e8 2 (.slice pq pn pc))
  replace rf := rows_tw rf h8 no_str kt
  replace af := addrs_tw af h8 no_str kt
  replace kk := bel_tw kk g8.out kt
  replace h9 := blk_tw kt h9 n98.out
  replace PB := blk_tw kt PB np8.out
  replace hb := blk_tw kt hb nk8.out
  replace h8 : ((((Y0.setCell ⟨e8, 0, none⟩ (.bool true)).setCell ⟨e8, 1, none⟩ (.int .i64 (tm))).setCell ⟨e8, 2, none⟩ (.slice pq pn pc))).heap[e8]? = some (.cells #[.bool true, .int .i64 (tm), .slice pq pn pc] 24 (0, 0)) := (heap_store (j := 2) (v := .slice pq pn pc) (heap_store (j := 1) (v := .int .i64 (tm)) (heap_store (j := 0) (v := .bool true) h8)))
  clear kt
  refine hK.out _ _ (KF.out _ PB hb) (fun hH => ?_)
  clear hK K
  try simp only [Act.put, List.setIfInBounds_toArray, List.set_cons_zero, List.set_cons_succ]
  generalize (((Y0.setCell ⟨e8, 0, none⟩ (.bool true)).setCell ⟨e8, 1, none⟩ (.int .i64 (tm))).setCell ⟨e8, 2, none⟩ (.slice pq pn pc)) = Y1 at h8 h9 PB hb rf af kk hH ⊢
  refine wpAnyH_ready (rs := [3]) (by kernel_rfl) (by simp) ?_
  refine AllReadyH.cons rfl (fun K hK => ?_) AllReadyH.nil
  have z0 := cell_of_block (j := 0) h9 rfl
  have fz0 := free_of_block (j := 0) h9
  have z1 := cell_of_block (j := 1) h9 rfl
  have fz1 := free_of_block (j := 1) h9
  go_simp
  clear z0 fz0 z1 fz1
  have kt : Tw Y1 ((Y1.setCell ⟨e9, 0, none⟩ (.bool false)).setCell ⟨e9, 1, none⟩ (.slice none 0 0)) e9 e9 := (tw_set Y1 e9 0 (.bool false)).trans (tw_set (Y1.setCell ⟨e9, 0, none⟩ (.bool false)) e9 1 (.slice none 0 0))
  replace rf := rows_tw rf h9 no_str2 kt
  replace af := addrs_tw af h9 no_str2 kt
  replace kk := bel_tw kk g9.out kt
  replace h8 := blk_tw kt h8 n89.out
  replace PB := blk_tw kt PB np9.out
  replace hb := blk_tw kt hb nk9.out
  replace h9 : (((Y1.setCell ⟨e9, 0, none⟩ (.bool false)).setCell ⟨e9, 1, none⟩ (.slice none 0 0))).heap[e9]? = some (.cells #[.bool false, .slice none 0 0] 47 (0, 0)) := (heap_store (j := 1) (v := .slice none 0 0) (heap_store (j := 0) (v := .bool false) h9))
  clear kt
  refine hK.out _ _ (KF.out _ PB hb) (fun hH => ?_)
  clear hK K
  try simp only [Act.put, List.setIfInBounds_toArray, List.set_cons_zero, List.set_cons_succ]
  generalize ((Y1.setCell ⟨e9, 0, none⟩ (.bool false)).setCell ⟨e9, 1, none⟩ (.slice none 0 0)) = Y2 at h8 h9 PB hb rf af kk hH ⊢
  refine wpAnyH_done (by kernel_rfl) ?_ _
  have HF := Lib.hid (HQ.out _ _ _ rf af kk)
  have y0 := cell_of_block (j := 0) h8 rfl
  have y1 := cell_of_block (j := 1) h8 rfl
  have y2 := cell_of_block (j := 2) h8 rfl
  have y3 := cell_of_block (j := 0) h9 rfl
  have y4 := cell_of_block (j := 1) h9 rfl
  have of8 := (fun j : Nat => free_of_block (j := j) h8)
  have of9 := (fun j : Nat => free_of_block (j := j) h9)
  clear hH h8 h9 PB hb rf af kk HQ KF
  go_wp2_with fail
  exact bodyPost_ret (v := .tuple #[.agg #[.bool true, .int .i64 (tm), .slice pq pn pc], .agg #[.bool false, .slice none 0 0]]) (by simp [results, Try.results37, go_sem, y0, y1, y2, y3, y4]) rfl HF.out

set_option maxHeartbeats 16000000 in
set_option maxRecDepth 100000 in
theorem but17_2 (ex : Bool) (tm : Int) (q : Option Addr) (n c : Nat) (l : List Tm) (vr : Value) (r : List ByteArray) (m : Int) (w : World) (hl0 : l.length ≤ 100) (hr0 : r.length ≤ 100) (hR : RowsAt 2 cellsTm w (.slice q n c) l) (hRR : AddrsAt w vr r) :
    Calls Try.prog 37 #[.agg #[.bool ex, .int .i64 tm, .slice q n c], .int .i64 2, vr, .int .i64 m] w (CgPost (butP tm l 2 r m) w) := by
  rw [show butP tm l 2 r m = ⟨true, m, allS (keptS (allS [] (bothF (namesB l) r) 0) (bothF (namesR l) r) l) (lessF r (ris (namesR l ++ namesB l))) m, false, []⟩ from by simp [butP, restP]]
  have HQ := Lib.hid (show ∀ U vs va, RowsAt 2 cellsTm U vs (⟨true, m, allS (keptS (allS [] (bothF (namesB l) r) 0) (bothF (namesR l) r) l) (lessF r (ris (namesR l ++ namesB l))) m, false, []⟩ : Cg).src → AddrsAt U va (⟨true, m, allS (keptS (allS [] (bothF (namesB l) r) 0) (bothF (namesR l) r) l) (lessF r (ris (namesR l ++ namesB l))) m, false, []⟩ : Cg).al → Below w.heap.size w U → CgPost ⟨true, m, allS (keptS (allS [] (bothF (namesB l) r) 0) (bothF (namesR l) r) l) (lessF r (ris (namesR l ++ namesB l))) m, false, []⟩ w (.returned (.tuple #[.agg #[.bool (⟨true, m, allS (keptS (allS [] (bothF (namesB l) r) 0) (bothF (namesR l) r) l) (lessF r (ris (namesR l ++ namesB l))) m, false, []⟩ : Cg).ex, .int .i64 (⟨true, m, allS (keptS (allS [] (bothF (namesB l) r) 0) (bothF (namesR l) r) l) (lessF r (ris (namesR l ++ namesB l))) m, false, []⟩ : Cg).tm, vs], .agg #[.bool (⟨true, m, allS (keptS (allS [] (bothF (namesB l) r) 0) (bothF (namesR l) r) l) (lessF r (ris (namesR l ++ namesB l))) m, false, []⟩ : Cg).ag, va]])) U from fun U vs va h1 h2 h3 => ⟨vs, va, rfl, h1, h2, h3⟩)
  generalize CgPost ⟨true, m, allS (keptS (allS [] (bothF (namesB l) r) 0) (bothF (namesR l) r) l) (lessF r (ris (namesR l ++ namesB l))) m, false, []⟩ w = Q at HQ ⊢
  simp only at HQ
  have hl := Lib.hid hl0
  have hr := Lib.hid hr0
  have hl6 := Lib.hid (Nat.le_trans hl0 (show 100 ≤ 1000000 by decide))
  have k0 : Below w.heap.size w (((w.alloc (.cells #[.bool ex, .int .i64 tm, .slice q n c] 24)).alloc (.cells #[.bool false, .int .i64 0, .slice none 0 0] 24)).alloc (.cells #[.bool false, .slice none 0 0] 47)) := (((Below.refl _ _).alloc (Nat.le_refl _) _).alloc (by simp) _).alloc (by simp; omega) _
  have KW := Lib.hid k0
  have HB := Lib.hid (show (((w.alloc (.cells #[.bool ex, .int .i64 tm, .slice q n c] 24)).alloc (.cells #[.bool false, .int .i64 0, .slice none 0 0] 24)).alloc (.cells #[.bool false, .slice none 0 0] 47)).heap[w.heap.size]? = some (.cells #[.bool ex, .int .i64 tm, .slice q n c] 24) from heap_old (heap_old (heap_new w (.cells #[.bool ex, .int .i64 tm, .slice q n c] 24))))
  have H8 := Lib.hid (show (((w.alloc (.cells #[.bool ex, .int .i64 tm, .slice q n c] 24)).alloc (.cells #[.bool false, .int .i64 0, .slice none 0 0] 24)).alloc (.cells #[.bool false, .slice none 0 0] 47)).heap[w.heap.size + 1]? = some (.cells #[.bool false, .int .i64 0, .slice none 0 0] 24) from heap_old (by simpa using heap_new (w.alloc (.cells #[.bool ex, .int .i64 tm, .slice q n c] 24)) (.cells #[.bool false, .int .i64 0, .slice none 0 0] 24)))
  have H9 := Lib.hid (show (((w.alloc (.cells #[.bool ex, .int .i64 tm, .slice q n c] 24)).alloc (.cells #[.bool false, .int .i64 0, .slice none 0 0] 24)).alloc (.cells #[.bool false, .slice none 0 0] 47)).heap[w.heap.size + 1 + 1]? = some (.cells #[.bool false, .slice none 0 0] 47) from by simpa using heap_new ((w.alloc (.cells #[.bool ex, .int .i64 tm, .slice q n c] 24)).alloc (.cells #[.bool false, .int .i64 0, .slice none 0 0] 24)) (.cells #[.bool false, .slice none 0 0] 47))
  have HR := Lib.hid (hR.below k0)
  have HRR := Lib.hid (hRR.below k0)
  have g8 := Lib.hid (show w.heap.size ≤ w.heap.size + 1 from by omega)
  have g9 := Lib.hid (show w.heap.size ≤ w.heap.size + 1 + 1 from by omega)
  have n89 := Lib.hid (show w.heap.size + 1 ≠ w.heap.size + 1 + 1 from by omega)
  have n98 := Lib.hid (Ne.symm n89.out)
  clear k0 hR hRR hl0 hr0
  go_enter Try.func37, Try.ntmps37
  go_upto_region 1 with fail
  generalize ((w.alloc (.cells #[.bool ex, .int .i64 tm, .slice q n c] 24)).alloc (.cells #[.bool false, .int .i64 0, .slice none 0 0] 24)).alloc (.cells #[.bool false, .slice none 0 0] 47) = W at HB H8 H9 HR HRR KW ⊢
  generalize w.heap.size + 1 + 1 = e9 at H9 g9 n89 n98 ⊢
  generalize w.heap.size + 1 = e8 at H8 g8 n89 n98 ⊢
  have x0 : W.cell? ⟨w.heap.size, 0, none⟩ = some (.bool ex) := cell_of_block HB.out rfl
  have x1 : W.cell? ⟨w.heap.size, 1, none⟩ = some (.int .i64 tm) := cell_of_block HB.out rfl
  have x2 : W.cell? ⟨w.heap.size, 2, none⟩ = some (.slice q n c) := cell_of_block HB.out rfl
  have NC := Lib.hid (namesR_c ex tm _ l W hl6.out HR.out)
  go_wp2_with fail
  ((with_reducible refine NC.out.mono ?_); rintro e w1 ⟨uAX, rfl, a1, k1⟩)
  replace HB := Lib.hid (below_block k1 (lt_of_block HB.out) HB.out)
  replace H8 := Lib.hid (below_block k1 (lt_of_block H8.out) H8.out)
  replace H9 := Lib.hid (below_block k1 (lt_of_block H9.out) H9.out)
  replace HR := Lib.hid (HR.out.below k1)
  replace HRR := Lib.hid (HRR.out.below k1)
  replace KW := Lib.hid (KW.out.trans (k1.mono KW.out.size))
  have AX := Lib.hid a1
  clear NC a1 k1 x0 x1 x2
  have NAX := Lib.hid (show (namesR l).length ≤ 100 from Nat.le_trans (names_len l).1 hl.out)
  have x0 : w1.cell? ⟨w.heap.size, 0, none⟩ = some (.bool ex) := cell_of_block HB.out rfl
  have x1 : w1.cell? ⟨w.heap.size, 1, none⟩ = some (.int .i64 tm) := cell_of_block HB.out rfl
  have x2 : w1.cell? ⟨w.heap.size, 2, none⟩ = some (.slice q n c) := cell_of_block HB.out rfl
  have NC := Lib.hid (namesB_c ex tm _ l w1 hl6.out HR.out)
  go_wp2_with fail
  ((with_reducible refine NC.out.mono ?_); rintro e w2 ⟨uAY, rfl, a1, k1⟩)
  replace HB := Lib.hid (below_block k1 (lt_of_block HB.out) HB.out)
  replace H8 := Lib.hid (below_block k1 (lt_of_block H8.out) H8.out)
  replace H9 := Lib.hid (below_block k1 (lt_of_block H9.out) H9.out)
  replace HR := Lib.hid (HR.out.below k1)
  replace HRR := Lib.hid (HRR.out.below k1)
  replace AX := Lib.hid (AX.out.below k1)
  replace KW := Lib.hid (KW.out.trans (k1.mono KW.out.size))
  have AY := Lib.hid a1
  clear NC a1 k1 x0 x1 x2
  have NAY := Lib.hid (show (namesB l).length ≤ 100 from Nat.le_trans (names_len l).2 hl.out)
  have x0 : w2.cell? ⟨w.heap.size, 0, none⟩ = some (.bool ex) := cell_of_block HB.out rfl
  have x1 : w2.cell? ⟨w.heap.size, 1, none⟩ = some (.int .i64 tm) := cell_of_block HB.out rfl
  have x2 : w2.cell? ⟨w.heap.size, 2, none⟩ = some (.slice q n c) := cell_of_block HB.out rfl
  go_upto_region 4 with fail
  have kA : Below w2.heap.size w2 (w2.alloc (.cells #[.bool true, .int .i64 tm, .slice none 0 0] 24)) := (Below.refl _ _).alloc (Nat.le_refl _) _
  have gp := Lib.hid (show w.heap.size ≤ w2.heap.size from KW.out.size)
  have nbp := Lib.hid (Nat.ne_of_lt (lt_of_block HB.out))
  have n8p := Lib.hid (Nat.ne_of_lt (lt_of_block H8.out))
  have n9p := Lib.hid (Nat.ne_of_lt (lt_of_block H9.out))
  replace HB := Lib.hid (below_block kA (lt_of_block HB.out) HB.out)
  replace H8 := Lib.hid (below_block kA (lt_of_block H8.out) H8.out)
  replace H9 := Lib.hid (below_block kA (lt_of_block H9.out) H9.out)
  replace HR := Lib.hid (HR.out.below kA)
  replace HRR := Lib.hid (HRR.out.below kA)
  replace AX := Lib.hid (AX.out.below kA)
  replace AY := Lib.hid (AY.out.below kA)
  replace KW := Lib.hid (KW.out.trans (kA.mono KW.out.size))
  have HP := Lib.hid (HasS17.new w2 true (tm))
  have NP := Lib.hid (show ([] : List Tm).length ≤ 0 from Nat.le_refl _)
  clear kA x0 x1 x2
  generalize w2.alloc (.cells #[.bool true, .int .i64 tm, .slice none 0 0] 24) = w3 at HB H8 H9 HR HRR KW AX AY HP ⊢
  generalize w2.heap.size = pb at gp nbp n8p n9p HP ⊢
  go_upto_region 5 with fail
  have kA : Below w3.heap.size w3 (w3.alloc (.cells #[.bool false, .slice none 0 0] 47)) := (Below.refl _ _).alloc (Nat.le_refl _) _
  have gk := Lib.hid (show w.heap.size ≤ w3.heap.size from KW.out.size)
  have nbk := Lib.hid (Nat.ne_of_lt (lt_of_block HB.out))
  have n8k := Lib.hid (Nat.ne_of_lt (lt_of_block H8.out))
  have n9k := Lib.hid (Nat.ne_of_lt (lt_of_block H9.out))
  have npk := Lib.hid (Nat.ne_of_lt HP.out.lt)
  have nap := Lib.hid (Ne.symm npk.out)
  replace HB := Lib.hid (below_block kA (lt_of_block HB.out) HB.out)
  replace H8 := Lib.hid (below_block kA (lt_of_block H8.out) H8.out)
  replace H9 := Lib.hid (below_block kA (lt_of_block H9.out) H9.out)
  replace HR := Lib.hid (HR.out.below kA)
  replace HRR := Lib.hid (HRR.out.below kA)
  replace AX := Lib.hid (AX.out.below kA)
  replace AY := Lib.hid (AY.out.below kA)
  replace HP := Lib.hid (HP.out.below kA)
  replace KW := Lib.hid (KW.out.trans (kA.mono KW.out.size))
  have HA := Lib.hid (heap_new w3 (.cells #[.bool false, .slice none 0 0] 47))
  clear kA
  generalize w3.alloc (.cells #[.bool false, .slice none 0 0] 47) = w4 at HB H8 H9 HA HR HRR KW AX AY HP ⊢
  generalize w3.heap.size = kb at gk nbk n8k n9k npk nap HA ⊢
  have LC := Lib.hid (join17_c _ _ (namesR l) (namesB l) w4 (Nat.le_trans NAX.out (by decide)) (Nat.le_trans NAY.out (by decide)) AX.out AY.out)
  unfold MPost at LC
  go_wp2_with fail
  ((with_reducible refine LC.out.mono ?_); rintro e w5 ⟨uAJ, rfl, a1, k1⟩)
  replace HB := Lib.hid (below_block k1 (lt_of_block HB.out) HB.out)
  replace H8 := Lib.hid (below_block k1 (lt_of_block H8.out) H8.out)
  replace H9 := Lib.hid (below_block k1 (lt_of_block H9.out) H9.out)
  replace HA := Lib.hid (below_block k1 (lt_of_block HA.out) HA.out)
  replace HR := Lib.hid (HR.out.below k1)
  replace HRR := Lib.hid (HRR.out.below k1)
  replace AX := Lib.hid (AX.out.below k1)
  replace AY := Lib.hid (AY.out.below k1)
  replace HP := Lib.hid (HP.out.below k1)
  replace KW := Lib.hid (KW.out.trans (k1.mono KW.out.size))
  have AJ := Lib.hid a1.at
  clear LC a1 k1
  have NAJ := Lib.hid (show (ris (namesR l ++ namesB l)).length ≤ 200 from Nat.le_trans (ris_len _) (by rw [List.length_append]; exact Nat.add_le_add NAX.out NAY.out))
  have LC := Lib.hid (rless17_c _ _ (r) (ris (namesR l ++ namesB l)) w5 (Nat.le_trans hr.out (by decide)) (Nat.le_trans NAJ.out (by decide)) HRR.out AJ.out)
  unfold MPost at LC
  go_wp2_with fail
  ((with_reducible refine LC.out.mono ?_); rintro e w6 ⟨uAR, rfl, a1, k1⟩)
  replace HB := Lib.hid (below_block k1 (lt_of_block HB.out) HB.out)
  replace H8 := Lib.hid (below_block k1 (lt_of_block H8.out) H8.out)
  replace H9 := Lib.hid (below_block k1 (lt_of_block H9.out) H9.out)
  replace HA := Lib.hid (below_block k1 (lt_of_block HA.out) HA.out)
  replace HR := Lib.hid (HR.out.below k1)
  replace HRR := Lib.hid (HRR.out.below k1)
  replace AX := Lib.hid (AX.out.below k1)
  replace AY := Lib.hid (AY.out.below k1)
  replace AJ := Lib.hid (AJ.out.below k1)
  replace HP := Lib.hid (HP.out.below k1)
  replace KW := Lib.hid (KW.out.trans (k1.mono KW.out.size))
  have AR := Lib.hid a1.at
  clear LC a1 k1
  have NAR := Lib.hid (show (lessF (r) (ris (namesR l ++ namesB l))).length ≤ 100 from Nat.le_trans (less_len2 _ _) hr.out)
  have LC := Lib.hid (rboth_c _ _ (namesB l) (r) w6 (Nat.le_trans NAY.out (by decide)) (Nat.le_trans hr.out (by decide)) AY.out HRR.out)
  unfold MPost at LC
  go_wp2_with fail
  ((with_reducible refine LC.out.mono ?_); rintro e w7 ⟨uAB, rfl, a1, k1⟩)
  replace HB := Lib.hid (below_block k1 (lt_of_block HB.out) HB.out)
  replace H8 := Lib.hid (below_block k1 (lt_of_block H8.out) H8.out)
  replace H9 := Lib.hid (below_block k1 (lt_of_block H9.out) H9.out)
  replace HA := Lib.hid (below_block k1 (lt_of_block HA.out) HA.out)
  replace HR := Lib.hid (HR.out.below k1)
  replace HRR := Lib.hid (HRR.out.below k1)
  replace AX := Lib.hid (AX.out.below k1)
  replace AY := Lib.hid (AY.out.below k1)
  replace AJ := Lib.hid (AJ.out.below k1)
  replace AR := Lib.hid (AR.out.below k1)
  replace HP := Lib.hid (HP.out.below k1)
  replace KW := Lib.hid (KW.out.trans (k1.mono KW.out.size))
  have AB := Lib.hid a1.at
  clear LC a1 k1
  have NAB := Lib.hid (show (bothF (namesB l) (r)).length ≤ 100 from Nat.le_trans (both_len _ _) NAY.out)
  have PC := Lib.hid (all17_c HP.out _ (bothF (namesB l) (r)) AB.out (Nat.le_trans (Nat.add_le_add NP.out NAB.out) (by decide)) 0)
  unfold PuPost at PC
  go_wp2_with fail
  ((with_reducible refine PC.out.mono ?_); rintro e w8 ⟨rfl, hs9, kt⟩)
  replace HB := Lib.hid (blk_tw kt HB.out nbp.out)
  replace H8 := Lib.hid (blk_tw kt H8.out n8p.out)
  replace H9 := Lib.hid (blk_tw kt H9.out n9p.out)
  replace HA := Lib.hid (blk_tw kt HA.out nap.out)
  replace HR := Lib.hid (HP.out.rows kt HR.out)
  replace HRR := Lib.hid (HP.out.addrs kt HRR.out)
  replace AX := Lib.hid (HP.out.addrs kt AX.out)
  replace AY := Lib.hid (HP.out.addrs kt AY.out)
  replace AJ := Lib.hid (HP.out.addrs kt AJ.out)
  replace AR := Lib.hid (HP.out.addrs kt AR.out)
  replace AB := Lib.hid (HP.out.addrs kt AB.out)
  replace KW := Lib.hid (bel_tw KW.out gp.out kt)
  replace HP := Lib.hid (hs9)
  clear PC hs9 kt
  replace NP := Lib.hid (show (allS ([]) (bothF (namesB l) (r)) (0)).length ≤ 100 from Nat.le_trans (allS_len _ _ _) (Nat.add_le_add NP.out NAB.out))
  go_upto_region 8 with fail
  have KF := Lib.hid (show ∀ U : World, U.heap[w.heap.size]? = some (.cells #[.bool ex, .int .i64 tm, .slice q n c] 24 (0, 0)) → (U.cell? ⟨w.heap.size, 0, none⟩ = some (.bool ex) ∧ U.cell? ⟨w.heap.size, 1, none⟩ = some (.int .i64 tm) ∧ U.cell? ⟨w.heap.size, 2, none⟩ = some (.slice q n c)) from fun U h1 => ⟨cell_of_block h1 rfl, cell_of_block h1 rfl, cell_of_block h1 rfl⟩)
  have hB := HB.out
  refine wp_region_held_drew (S := fun U => U.cell? ⟨w.heap.size, 0, none⟩ = some (.bool ex) ∧ U.cell? ⟨w.heap.size, 1, none⟩ = some (.int .i64 tm) ∧ U.cell? ⟨w.heap.size, 2, none⟩ = some (.slice q n c)) (by kernel_rfl) (KF.out _ hB) (fun hH => ?_)
  have kd : Below w8.heap.size w8 w8.drew := (Below.refl _ _).drew
  replace HB := Lib.hid (below_block kd (lt_of_block HB.out) HB.out)
  replace H8 := Lib.hid (below_block kd (lt_of_block H8.out) H8.out)
  replace H9 := Lib.hid (below_block kd (lt_of_block H9.out) H9.out)
  replace HA := Lib.hid (below_block kd (lt_of_block HA.out) HA.out)
  replace HR := Lib.hid (HR.out.below kd)
  replace HRR := Lib.hid (HRR.out.below kd)
  replace AX := Lib.hid (AX.out.below kd)
  replace AY := Lib.hid (AY.out.below kd)
  replace AJ := Lib.hid (AJ.out.below kd)
  replace AR := Lib.hid (AR.out.below kd)
  replace AB := Lib.hid (AB.out.below kd)
  replace HP := Lib.hid (HP.out.below kd)
  replace KW := Lib.hid (KW.out.trans (kd.mono KW.out.size))
  clear kd hB
  generalize w8.drew = Y0 at hH HB H8 H9 HA HR HRR KW AX AY AJ AR AB HP ⊢
  have hB := HB.out
  refine wpAnyH_take (i := 0) (oi := { dst := some 32, op := Op.move (Operand.tmp 10), type := 35, pos := "ref.go:144", after := #[], guard := none }) (v := uAX) rfl (by kernel_rfl) (by kernel_rfl) (by kernel_rfl) (fun _ _ _ h => h) (Or.inl ⟨by kernel_rfl, ?_⟩) hH ?_
  · intro w hSw; (try dsimp only at hSw); go_simp; (try rfl)
  try simp only [Act.put, List.setIfInBounds_toArray, List.set_cons_zero, List.set_cons_succ]
  refine wpAnyH_take (i := 1) (oi := { dst := some 33, op := Op.move (Operand.tmp 2), type := 35, pos := "ref.go:144", after := #[], guard := none }) (v := vr) rfl (by kernel_rfl) (by kernel_rfl) (by kernel_rfl) (fun _ _ _ h => h) (Or.inl ⟨by kernel_rfl, ?_⟩) hH ?_
  · intro w hSw; (try dsimp only at hSw); go_simp; (try rfl)
  try simp only [Act.put, List.setIfInBounds_toArray, List.set_cons_zero, List.set_cons_succ]
  refine wpAnyH_take (i := 3) (oi := { dst := some 35, op := Op.load 24 (Operand.tmp 4), type := 24, pos := "ref.go:144", after := #[], guard := none }) (v := .agg #[.bool ex, .int .i64 tm, .slice q n c]) rfl (by kernel_rfl) (by kernel_rfl) (by kernel_rfl) (fun _ _ _ h => h) (Or.inl ⟨by kernel_rfl, ?_⟩) hH ?_
  · intro w hSw; (try dsimp only at hSw); go_simp; (try rfl)
  try simp only [Act.put, List.setIfInBounds_toArray, List.set_cons_zero, List.set_cons_succ]
  refine wpAnyH_ready (rs := [2]) (by kernel_rfl) (by simp) ?_
  refine AllReadyH.cons rfl (fun K hK => ?_) AllReadyH.nil
  go_simp
  have LC := rboth_c _ _ (namesR l) (r) Y0 (Nat.le_trans NAX.out (by decide)) (Nat.le_trans hr.out (by decide)) AX.out HRR.out
  unfold MPost at LC
  with_reducible refine LC.mono ?_
  rintro e Y1 ⟨uAD, rfl, a1, k1⟩
  (try go_wp2_with fail)
  replace HB := Lib.hid (below_block k1 (lt_of_block HB.out) HB.out)
  replace H8 := Lib.hid (below_block k1 (lt_of_block H8.out) H8.out)
  replace H9 := Lib.hid (below_block k1 (lt_of_block H9.out) H9.out)
  replace HA := Lib.hid (below_block k1 (lt_of_block HA.out) HA.out)
  replace HR := Lib.hid (HR.out.below k1)
  replace HRR := Lib.hid (HRR.out.below k1)
  replace AX := Lib.hid (AX.out.below k1)
  replace AY := Lib.hid (AY.out.below k1)
  replace AJ := Lib.hid (AJ.out.below k1)
  replace AR := Lib.hid (AR.out.below k1)
  replace AB := Lib.hid (AB.out.below k1)
  replace HP := Lib.hid (HP.out.below k1)
  replace KW := Lib.hid (KW.out.trans (k1.mono KW.out.size))
  have AD_ := Lib.hid a1.at
  clear LC a1 k1 hB
  have hB := HB.out
  refine hK.out _ _ (KF.out _ hB) (fun hH => ?_)
  clear hK K
  try simp only [Act.put, List.setIfInBounds_toArray, List.set_cons_zero, List.set_cons_succ]
  refine wpAnyH_ready (rs := [4]) (by kernel_rfl) (by simp) ?_
  refine AllReadyH.cons rfl (fun K hK => ?_) AllReadyH.nil
  go_simp
  have PC := kept17_c HP.out _ (bothF (namesR l) (r)) AD_.out (Nat.le_trans (Nat.add_le_add NP.out (Nat.le_trans (both_len _ _) NAX.out)) (by decide)) ex tm _ l hl6.out HR.out
  unfold PuPost at PC
  with_reducible refine PC.mono ?_
  rintro e Y2 ⟨rfl, hs9, kt⟩
  (try go_wp2_with fail)
  replace HB := Lib.hid (blk_tw kt HB.out nbp.out)
  replace H8 := Lib.hid (blk_tw kt H8.out n8p.out)
  replace H9 := Lib.hid (blk_tw kt H9.out n9p.out)
  replace HA := Lib.hid (blk_tw kt HA.out nap.out)
  replace HR := Lib.hid (HP.out.rows kt HR.out)
  replace HRR := Lib.hid (HP.out.addrs kt HRR.out)
  replace AX := Lib.hid (HP.out.addrs kt AX.out)
  replace AY := Lib.hid (HP.out.addrs kt AY.out)
  replace AJ := Lib.hid (HP.out.addrs kt AJ.out)
  replace AR := Lib.hid (HP.out.addrs kt AR.out)
  replace AB := Lib.hid (HP.out.addrs kt AB.out)
  replace AD_ := Lib.hid (HP.out.addrs kt AD_.out)
  replace KW := Lib.hid (bel_tw KW.out gp.out kt)
  replace HP := Lib.hid (hs9)
  clear PC hs9 kt hB
  have hB := HB.out
  refine hK.out _ _ (KF.out _ hB) (fun hH => ?_)
  clear hK K
  try simp only [Act.put, List.setIfInBounds_toArray, List.set_cons_zero, List.set_cons_succ]
  refine wpAnyH_done (by kernel_rfl) ?_ _
  clear hH hB KF
  have NAD_ := Lib.hid (show (bothF (namesR l) (r)).length ≤ 100 from Nat.le_trans (both_len _ _) NAX.out)
  replace NP := Lib.hid (show (keptS (allS ([]) (bothF (namesB l) (r)) (0)) (bothF (namesR l) r) l).length ≤ 200 from Nat.le_trans (keptS_len _ _ _) (Nat.add_le_add NP.out NAD_.out))
  obtain ⟨pv, PB, PR⟩ := HP.out
  have z1 := cell_of_block (j := 1) PB rfl
  have fz1 := free_of_block (j := 1) PB
  clear PB PR
  go_upto_region 10 with fail
  have kt : Tw Y2 (Y2.setCell ⟨pb, 1, none⟩ (.int .i64 m)) pb pb := tw_set Y2 pb 1 (.int .i64 m)
  have hs9 : HasS17 (Y2.setCell ⟨pb, 1, none⟩ (.int .i64 m)) pb true (m) (keptS (allS ([]) (bothF (namesB l) (r)) (0)) (bothF (namesR l) r) l) := HP.out.set1
  replace HB := Lib.hid (blk_tw kt HB.out nbp.out)
  replace H8 := Lib.hid (blk_tw kt H8.out n8p.out)
  replace H9 := Lib.hid (blk_tw kt H9.out n9p.out)
  replace HA := Lib.hid (blk_tw kt HA.out nap.out)
  replace HR := Lib.hid (HP.out.rows kt HR.out)
  replace HRR := Lib.hid (HP.out.addrs kt HRR.out)
  replace AX := Lib.hid (HP.out.addrs kt AX.out)
  replace AY := Lib.hid (HP.out.addrs kt AY.out)
  replace AJ := Lib.hid (HP.out.addrs kt AJ.out)
  replace AR := Lib.hid (HP.out.addrs kt AR.out)
  replace AB := Lib.hid (HP.out.addrs kt AB.out)
  replace AD_ := Lib.hid (HP.out.addrs kt AD_.out)
  replace KW := Lib.hid (bel_tw KW.out gp.out kt)
  replace HP := Lib.hid (hs9)
  clear kt hs9 z1 fz1
  generalize (Y2.setCell ⟨pb, 1, none⟩ (.int .i64 m)) = w10 at HB H8 H9 HA HR HRR KW AX AY AJ AR AB AD_ HP ⊢
  have PC := Lib.hid (all17_c HP.out _ (lessF (r) (ris (namesR l ++ namesB l))) AR.out (Nat.le_trans (Nat.add_le_add NP.out NAR.out) (by decide)) m)
  unfold PuPost at PC
  go_wp2_with fail
  ((with_reducible refine PC.out.mono ?_); rintro e w11 ⟨rfl, hs9, kt⟩)
  replace HB := Lib.hid (blk_tw kt HB.out nbp.out)
  replace H8 := Lib.hid (blk_tw kt H8.out n8p.out)
  replace H9 := Lib.hid (blk_tw kt H9.out n9p.out)
  replace HA := Lib.hid (blk_tw kt HA.out nap.out)
  replace HR := Lib.hid (HP.out.rows kt HR.out)
  replace HRR := Lib.hid (HP.out.addrs kt HRR.out)
  replace AX := Lib.hid (HP.out.addrs kt AX.out)
  replace AY := Lib.hid (HP.out.addrs kt AY.out)
  replace AJ := Lib.hid (HP.out.addrs kt AJ.out)
  replace AR := Lib.hid (HP.out.addrs kt AR.out)
  replace AB := Lib.hid (HP.out.addrs kt AB.out)
  replace AD_ := Lib.hid (HP.out.addrs kt AD_.out)
  replace KW := Lib.hid (bel_tw KW.out gp.out kt)
  replace HP := Lib.hid (hs9)
  clear PC hs9 kt
  replace NP := Lib.hid (show (allS (keptS (allS ([]) (bothF (namesB l) (r)) (0)) (bothF (namesR l) r) l) (lessF (r) (ris (namesR l ++ namesB l))) (m)).length ≤ 300 from Nat.le_trans (allS_len _ _ _) (Nat.add_le_add NP.out NAR.out))
  go_upto_region 28 with fail
  clear HR HRR AX AY AJ AR AB AD_
  have AF := Lib.hid (show AddrsAt w11 (.slice none 0 0) [] from AddrsG.nil _ _ _)
  obtain ⟨pv, PB, PR⟩ := HP.out
  obtain ⟨pq, pn, pc, rfl⟩ := rows_slice3 PR
  have RF := Lib.hid PR
  have hb := HA.out
  have h8 := H8.out
  have h9 := H9.out
  have rf := RF.out
  have af := AF.out
  have kk := KW.out
  have KF := Lib.hid (show ∀ U : World, U.heap[pb]? = some (.cells #[.bool true, .int .i64 (m), .slice pq pn pc] 24 (0, 0)) → U.heap[kb]? = some (.cells #[.bool false, .slice none 0 0] 47 (0, 0)) → (U.cell? ⟨pb, 0, none⟩ = some (.bool true) ∧ U.cell? ⟨pb, 1, none⟩ = some (.int .i64 (m)) ∧ U.cell? ⟨pb, 2, none⟩ = some (.slice pq pn pc) ∧ U.cell? ⟨kb, 0, none⟩ = some (.bool false) ∧ U.cell? ⟨kb, 1, none⟩ = some (.slice none 0 0)) from fun U h1 h2 => ⟨cell_of_block h1 rfl, cell_of_block h1 rfl, cell_of_block h1 rfl, cell_of_block h2 rfl, cell_of_block h2 rfl⟩)
  clear RF AF PR HP HA HB H8 H9 KW
  refine wp_region_held_drew (S := fun U => U.cell? ⟨pb, 0, none⟩ = some (.bool true) ∧ U.cell? ⟨pb, 1, none⟩ = some (.int .i64 (m)) ∧ U.cell? ⟨pb, 2, none⟩ = some (.slice pq pn pc) ∧ U.cell? ⟨kb, 0, none⟩ = some (.bool false) ∧ U.cell? ⟨kb, 1, none⟩ = some (.slice none 0 0)) (by kernel_rfl) (KF.out _ PB hb) (fun hH => ?_)
  replace h8 : w11.drew.heap[e8]? = _ := h8
  replace h9 : w11.drew.heap[e9]? = _ := h9
  replace PB : w11.drew.heap[pb]? = _ := PB
  replace hb : w11.drew.heap[kb]? = _ := hb
  replace rf := rf.below (show Below w11.heap.size w11 w11.drew from (Below.refl _ _).drew)
  replace af := af.below (show Below w11.heap.size w11 w11.drew from (Below.refl _ _).drew)
  replace kk := kk.drew
  generalize w11.drew = Y0 at h8 h9 PB hb rf af kk hH ⊢
  have nk8 := Lib.hid (Ne.symm n8k.out)
  have nk9 := Lib.hid (Ne.symm n9k.out)
  have np8 := Lib.hid (Ne.symm n8p.out)
  have np9 := Lib.hid (Ne.symm n9p.out)
  refine wpAnyH_take (i := 0) (oi := { dst := some 88, op := Op.load 24 (Operand.tmp 12), type := 24, pos := "ref.go:152", after := #[], guard := none }) (v := .agg #[.bool true, .int .i64 (m), .slice pq pn pc]) rfl (by kernel_rfl) (by kernel_rfl) (by kernel_rfl) (fun _ _ _ h => h) (Or.inl ⟨by kernel_rfl, ?_⟩) hH ?_
  · intro w hSw; (try dsimp only at hSw); go_simp; (try rfl)
  try simp only [Act.put, List.setIfInBounds_toArray, List.set_cons_zero, List.set_cons_succ]
  refine wpAnyH_take (i := 1) (oi := { dst := some 89, op := Op.load 47 (Operand.tmp 13), type := 47, pos := "ref.go:152", after := #[{ on := 2, ground := Ground.gcOnly Departure.lateStores }], guard := none }) (v := .agg #[.bool false, .slice none 0 0]) rfl (by kernel_rfl) (by kernel_rfl) (by kernel_rfl) (fun _ _ _ h => h) (Or.inl ⟨by kernel_rfl, ?_⟩) hH ?_
  · intro w hSw; (try dsimp only at hSw); go_simp; (try rfl)
  try simp only [Act.put, List.setIfInBounds_toArray, List.set_cons_zero, List.set_cons_succ]
  refine wpAnyH_ready (rs := [2]) (by kernel_rfl) (by simp) ?_
  refine AllReadyH.cons rfl (fun K hK => ?_) AllReadyH.nil
  have z0 := cell_of_block (j := 0) h8 rfl
  have fz0 := free_of_block (j := 0) h8
  have z1 := cell_of_block (j := 1) h8 rfl
  have fz1 := free_of_block (j := 1) h8
  have z2 := cell_of_block (j := 2) h8 rfl
  have fz2 := free_of_block (j := 2) h8
  go_simp
  clear z0 fz0 z1 fz1 z2 fz2
  have kt : Tw Y0 (((Y0.setCell ⟨e8, 0, none⟩ (.bool true)).setCell ⟨e8, 1, none⟩ (.int .i64 (m))).setCell ⟨e8, 2, none⟩ (.slice pq pn pc)) e8 e8 := ((tw_set Y0 e8 0 (.bool true)).trans (tw_set (Y0.setCell ⟨e8, 0, none⟩ (.bool true)) e8 1 (.int .i64 (m)))).trans (tw_set ((Y0.setCell ⟨e8, 0, none⟩ (.bool true)).setCell ⟨e8, 1, none⟩ (.int .i64 (m))) e8 2 (.slice pq pn pc))
  replace rf := rows_tw rf h8 no_str kt
  replace af := addrs_tw af h8 no_str kt
  replace kk := bel_tw kk g8.out kt
  replace h9 := blk_tw kt h9 n98.out
  replace PB := blk_tw kt PB np8.out
  replace hb := blk_tw kt hb nk8.out
  replace h8 : ((((Y0.setCell ⟨e8, 0, none⟩ (.bool true)).setCell ⟨e8, 1, none⟩ (.int .i64 (m))).setCell ⟨e8, 2, none⟩ (.slice pq pn pc))).heap[e8]? = some (.cells #[.bool true, .int .i64 (m), .slice pq pn pc] 24 (0, 0)) := (heap_store (j := 2) (v := .slice pq pn pc) (heap_store (j := 1) (v := .int .i64 (m)) (heap_store (j := 0) (v := .bool true) h8)))
  clear kt
  refine hK.out _ _ (KF.out _ PB hb) (fun hH => ?_)
  clear hK K
  try simp only [Act.put, List.setIfInBounds_toArray, List.set_cons_zero, List.set_cons_succ]
  generalize (((Y0.setCell ⟨e8, 0, none⟩ (.bool true)).setCell ⟨e8, 1, none⟩ (.int .i64 (m))).setCell ⟨e8, 2, none⟩ (.slice pq pn pc)) = Y1 at h8 h9 PB hb rf af kk hH ⊢
  refine wpAnyH_ready (rs := [3]) (by kernel_rfl) (by simp) ?_
  refine AllReadyH.cons rfl (fun K hK => ?_) AllReadyH.nil
  have z0 := cell_of_block (j := 0) h9 rfl
  have fz0 := free_of_block (j := 0) h9
  have z1 := cell_of_block (j := 1) h9 rfl
  have fz1 := free_of_block (j := 1) h9
  go_simp
  clear z0 fz0 z1 fz1
  have kt : Tw Y1 ((Y1.setCell ⟨e9, 0, none⟩ (.bool false)).setCell ⟨e9, 1, none⟩ (.slice none 0 0)) e9 e9 := (tw_set Y1 e9 0 (.bool false)).trans (tw_set (Y1.setCell ⟨e9, 0, none⟩ (.bool false)) e9 1 (.slice none 0 0))
  replace rf := rows_tw rf h9 no_str2 kt
  replace af := addrs_tw af h9 no_str2 kt
  replace kk := bel_tw kk g9.out kt
  replace h8 := blk_tw kt h8 n89.out
  replace PB := blk_tw kt PB np9.out
  replace hb := blk_tw kt hb nk9.out
  replace h9 : (((Y1.setCell ⟨e9, 0, none⟩ (.bool false)).setCell ⟨e9, 1, none⟩ (.slice none 0 0))).heap[e9]? = some (.cells #[.bool false, .slice none 0 0] 47 (0, 0)) := (heap_store (j := 1) (v := .slice none 0 0) (heap_store (j := 0) (v := .bool false) h9))
  clear kt
  refine hK.out _ _ (KF.out _ PB hb) (fun hH => ?_)
  clear hK K
  try simp only [Act.put, List.setIfInBounds_toArray, List.set_cons_zero, List.set_cons_succ]
  generalize ((Y1.setCell ⟨e9, 0, none⟩ (.bool false)).setCell ⟨e9, 1, none⟩ (.slice none 0 0)) = Y2 at h8 h9 PB hb rf af kk hH ⊢
  refine wpAnyH_done (by kernel_rfl) ?_ _
  have HF := Lib.hid (HQ.out _ _ _ rf af kk)
  have y0 := cell_of_block (j := 0) h8 rfl
  have y1 := cell_of_block (j := 1) h8 rfl
  have y2 := cell_of_block (j := 2) h8 rfl
  have y3 := cell_of_block (j := 0) h9 rfl
  have y4 := cell_of_block (j := 1) h9 rfl
  have of8 := (fun j : Nat => free_of_block (j := j) h8)
  have of9 := (fun j : Nat => free_of_block (j := j) h9)
  clear hH h8 h9 PB hb rf af kk HQ KF
  go_wp2_with fail
  exact bodyPost_ret (v := .tuple #[.agg #[.bool true, .int .i64 (m), .slice pq pn pc], .agg #[.bool false, .slice none 0 0]]) (by simp [results, Try.results37, go_sem, y0, y1, y2, y3, y4]) rfl HF.out

set_option maxHeartbeats 16000000 in
set_option maxRecDepth 100000 in
theorem but17_3 (ex : Bool) (tm : Int) (q : Option Addr) (n c : Nat) (l : List Tm) (vr : Value) (r : List ByteArray) (m : Int) (w : World) (hl0 : l.length ≤ 100) (hr0 : r.length ≤ 100) (hR : RowsAt 2 cellsTm w (.slice q n c) l) (hRR : AddrsAt w vr r) :
    Calls Try.prog 37 #[.agg #[.bool ex, .int .i64 tm, .slice q n c], .int .i64 3, vr, .int .i64 m] w (CgPost (butP tm l 3 r m) w) := by
  rw [show butP tm l 3 r m = ⟨true, tm, allS (allS (keptS [] (namesR l) l) (lessF (namesB l) r) 0) r m, true, lessF (namesR l) r⟩ from by simp [butP, restP]]
  have HQ := Lib.hid (show ∀ U vs va, RowsAt 2 cellsTm U vs (⟨true, tm, allS (allS (keptS [] (namesR l) l) (lessF (namesB l) r) 0) r m, true, lessF (namesR l) r⟩ : Cg).src → AddrsAt U va (⟨true, tm, allS (allS (keptS [] (namesR l) l) (lessF (namesB l) r) 0) r m, true, lessF (namesR l) r⟩ : Cg).al → Below w.heap.size w U → CgPost ⟨true, tm, allS (allS (keptS [] (namesR l) l) (lessF (namesB l) r) 0) r m, true, lessF (namesR l) r⟩ w (.returned (.tuple #[.agg #[.bool (⟨true, tm, allS (allS (keptS [] (namesR l) l) (lessF (namesB l) r) 0) r m, true, lessF (namesR l) r⟩ : Cg).ex, .int .i64 (⟨true, tm, allS (allS (keptS [] (namesR l) l) (lessF (namesB l) r) 0) r m, true, lessF (namesR l) r⟩ : Cg).tm, vs], .agg #[.bool (⟨true, tm, allS (allS (keptS [] (namesR l) l) (lessF (namesB l) r) 0) r m, true, lessF (namesR l) r⟩ : Cg).ag, va]])) U from fun U vs va h1 h2 h3 => ⟨vs, va, rfl, h1, h2, h3⟩)
  generalize CgPost ⟨true, tm, allS (allS (keptS [] (namesR l) l) (lessF (namesB l) r) 0) r m, true, lessF (namesR l) r⟩ w = Q at HQ ⊢
  simp only at HQ
  have hl := Lib.hid hl0
  have hr := Lib.hid hr0
  have hl6 := Lib.hid (Nat.le_trans hl0 (show 100 ≤ 1000000 by decide))
  have k0 : Below w.heap.size w (((w.alloc (.cells #[.bool ex, .int .i64 tm, .slice q n c] 24)).alloc (.cells #[.bool false, .int .i64 0, .slice none 0 0] 24)).alloc (.cells #[.bool false, .slice none 0 0] 47)) := (((Below.refl _ _).alloc (Nat.le_refl _) _).alloc (by simp) _).alloc (by simp; omega) _
  have KW := Lib.hid k0
  have HB := Lib.hid (show (((w.alloc (.cells #[.bool ex, .int .i64 tm, .slice q n c] 24)).alloc (.cells #[.bool false, .int .i64 0, .slice none 0 0] 24)).alloc (.cells #[.bool false, .slice none 0 0] 47)).heap[w.heap.size]? = some (.cells #[.bool ex, .int .i64 tm, .slice q n c] 24) from heap_old (heap_old (heap_new w (.cells #[.bool ex, .int .i64 tm, .slice q n c] 24))))
  have H8 := Lib.hid (show (((w.alloc (.cells #[.bool ex, .int .i64 tm, .slice q n c] 24)).alloc (.cells #[.bool false, .int .i64 0, .slice none 0 0] 24)).alloc (.cells #[.bool false, .slice none 0 0] 47)).heap[w.heap.size + 1]? = some (.cells #[.bool false, .int .i64 0, .slice none 0 0] 24) from heap_old (by simpa using heap_new (w.alloc (.cells #[.bool ex, .int .i64 tm, .slice q n c] 24)) (.cells #[.bool false, .int .i64 0, .slice none 0 0] 24)))
  have H9 := Lib.hid (show (((w.alloc (.cells #[.bool ex, .int .i64 tm, .slice q n c] 24)).alloc (.cells #[.bool false, .int .i64 0, .slice none 0 0] 24)).alloc (.cells #[.bool false, .slice none 0 0] 47)).heap[w.heap.size + 1 + 1]? = some (.cells #[.bool false, .slice none 0 0] 47) from by simpa using heap_new ((w.alloc (.cells #[.bool ex, .int .i64 tm, .slice q n c] 24)).alloc (.cells #[.bool false, .int .i64 0, .slice none 0 0] 24)) (.cells #[.bool false, .slice none 0 0] 47))
  have HR := Lib.hid (hR.below k0)
  have HRR := Lib.hid (hRR.below k0)
  have g8 := Lib.hid (show w.heap.size ≤ w.heap.size + 1 from by omega)
  have g9 := Lib.hid (show w.heap.size ≤ w.heap.size + 1 + 1 from by omega)
  have n89 := Lib.hid (show w.heap.size + 1 ≠ w.heap.size + 1 + 1 from by omega)
  have n98 := Lib.hid (Ne.symm n89.out)
  clear k0 hR hRR hl0 hr0
  go_enter Try.func37, Try.ntmps37
  go_upto_region 1 with fail
  generalize ((w.alloc (.cells #[.bool ex, .int .i64 tm, .slice q n c] 24)).alloc (.cells #[.bool false, .int .i64 0, .slice none 0 0] 24)).alloc (.cells #[.bool false, .slice none 0 0] 47) = W at HB H8 H9 HR HRR KW ⊢
  generalize w.heap.size + 1 + 1 = e9 at H9 g9 n89 n98 ⊢
  generalize w.heap.size + 1 = e8 at H8 g8 n89 n98 ⊢
  have x0 : W.cell? ⟨w.heap.size, 0, none⟩ = some (.bool ex) := cell_of_block HB.out rfl
  have x1 : W.cell? ⟨w.heap.size, 1, none⟩ = some (.int .i64 tm) := cell_of_block HB.out rfl
  have x2 : W.cell? ⟨w.heap.size, 2, none⟩ = some (.slice q n c) := cell_of_block HB.out rfl
  have NC := Lib.hid (namesR_c ex tm _ l W hl6.out HR.out)
  go_wp2_with fail
  ((with_reducible refine NC.out.mono ?_); rintro e w1 ⟨uAX, rfl, a1, k1⟩)
  replace HB := Lib.hid (below_block k1 (lt_of_block HB.out) HB.out)
  replace H8 := Lib.hid (below_block k1 (lt_of_block H8.out) H8.out)
  replace H9 := Lib.hid (below_block k1 (lt_of_block H9.out) H9.out)
  replace HR := Lib.hid (HR.out.below k1)
  replace HRR := Lib.hid (HRR.out.below k1)
  replace KW := Lib.hid (KW.out.trans (k1.mono KW.out.size))
  have AX := Lib.hid a1
  clear NC a1 k1 x0 x1 x2
  have NAX := Lib.hid (show (namesR l).length ≤ 100 from Nat.le_trans (names_len l).1 hl.out)
  have x0 : w1.cell? ⟨w.heap.size, 0, none⟩ = some (.bool ex) := cell_of_block HB.out rfl
  have x1 : w1.cell? ⟨w.heap.size, 1, none⟩ = some (.int .i64 tm) := cell_of_block HB.out rfl
  have x2 : w1.cell? ⟨w.heap.size, 2, none⟩ = some (.slice q n c) := cell_of_block HB.out rfl
  have NC := Lib.hid (namesB_c ex tm _ l w1 hl6.out HR.out)
  go_wp2_with fail
  ((with_reducible refine NC.out.mono ?_); rintro e w2 ⟨uAY, rfl, a1, k1⟩)
  replace HB := Lib.hid (below_block k1 (lt_of_block HB.out) HB.out)
  replace H8 := Lib.hid (below_block k1 (lt_of_block H8.out) H8.out)
  replace H9 := Lib.hid (below_block k1 (lt_of_block H9.out) H9.out)
  replace HR := Lib.hid (HR.out.below k1)
  replace HRR := Lib.hid (HRR.out.below k1)
  replace AX := Lib.hid (AX.out.below k1)
  replace KW := Lib.hid (KW.out.trans (k1.mono KW.out.size))
  have AY := Lib.hid a1
  clear NC a1 k1 x0 x1 x2
  have NAY := Lib.hid (show (namesB l).length ≤ 100 from Nat.le_trans (names_len l).2 hl.out)
  have x0 : w2.cell? ⟨w.heap.size, 0, none⟩ = some (.bool ex) := cell_of_block HB.out rfl
  have x1 : w2.cell? ⟨w.heap.size, 1, none⟩ = some (.int .i64 tm) := cell_of_block HB.out rfl
  have x2 : w2.cell? ⟨w.heap.size, 2, none⟩ = some (.slice q n c) := cell_of_block HB.out rfl
  go_upto_region 4 with fail
  have kA : Below w2.heap.size w2 (w2.alloc (.cells #[.bool true, .int .i64 tm, .slice none 0 0] 24)) := (Below.refl _ _).alloc (Nat.le_refl _) _
  have gp := Lib.hid (show w.heap.size ≤ w2.heap.size from KW.out.size)
  have nbp := Lib.hid (Nat.ne_of_lt (lt_of_block HB.out))
  have n8p := Lib.hid (Nat.ne_of_lt (lt_of_block H8.out))
  have n9p := Lib.hid (Nat.ne_of_lt (lt_of_block H9.out))
  replace HB := Lib.hid (below_block kA (lt_of_block HB.out) HB.out)
  replace H8 := Lib.hid (below_block kA (lt_of_block H8.out) H8.out)
  replace H9 := Lib.hid (below_block kA (lt_of_block H9.out) H9.out)
  replace HR := Lib.hid (HR.out.below kA)
  replace HRR := Lib.hid (HRR.out.below kA)
  replace AX := Lib.hid (AX.out.below kA)
  replace AY := Lib.hid (AY.out.below kA)
  replace KW := Lib.hid (KW.out.trans (kA.mono KW.out.size))
  have HP := Lib.hid (HasS17.new w2 true (tm))
  have NP := Lib.hid (show ([] : List Tm).length ≤ 0 from Nat.le_refl _)
  clear kA x0 x1 x2
  generalize w2.alloc (.cells #[.bool true, .int .i64 tm, .slice none 0 0] 24) = w3 at HB H8 H9 HR HRR KW AX AY HP ⊢
  generalize w2.heap.size = pb at gp nbp n8p n9p HP ⊢
  go_upto_region 5 with fail
  have kA : Below w3.heap.size w3 (w3.alloc (.cells #[.bool false, .slice none 0 0] 47)) := (Below.refl _ _).alloc (Nat.le_refl _) _
  have gk := Lib.hid (show w.heap.size ≤ w3.heap.size from KW.out.size)
  have nbk := Lib.hid (Nat.ne_of_lt (lt_of_block HB.out))
  have n8k := Lib.hid (Nat.ne_of_lt (lt_of_block H8.out))
  have n9k := Lib.hid (Nat.ne_of_lt (lt_of_block H9.out))
  have npk := Lib.hid (Nat.ne_of_lt HP.out.lt)
  have nap := Lib.hid (Ne.symm npk.out)
  replace HB := Lib.hid (below_block kA (lt_of_block HB.out) HB.out)
  replace H8 := Lib.hid (below_block kA (lt_of_block H8.out) H8.out)
  replace H9 := Lib.hid (below_block kA (lt_of_block H9.out) H9.out)
  replace HR := Lib.hid (HR.out.below kA)
  replace HRR := Lib.hid (HRR.out.below kA)
  replace AX := Lib.hid (AX.out.below kA)
  replace AY := Lib.hid (AY.out.below kA)
  replace HP := Lib.hid (HP.out.below kA)
  replace KW := Lib.hid (KW.out.trans (kA.mono KW.out.size))
  have HA := Lib.hid (heap_new w3 (.cells #[.bool false, .slice none 0 0] 47))
  clear kA
  generalize w3.alloc (.cells #[.bool false, .slice none 0 0] 47) = w4 at HB H8 H9 HA HR HRR KW AX AY HP ⊢
  generalize w3.heap.size = kb at gk nbk n8k n9k npk nap HA ⊢
  have LC := Lib.hid (join17_c _ _ (namesR l) (namesB l) w4 (Nat.le_trans NAX.out (by decide)) (Nat.le_trans NAY.out (by decide)) AX.out AY.out)
  unfold MPost at LC
  go_wp2_with fail
  ((with_reducible refine LC.out.mono ?_); rintro e w5 ⟨uAJ, rfl, a1, k1⟩)
  replace HB := Lib.hid (below_block k1 (lt_of_block HB.out) HB.out)
  replace H8 := Lib.hid (below_block k1 (lt_of_block H8.out) H8.out)
  replace H9 := Lib.hid (below_block k1 (lt_of_block H9.out) H9.out)
  replace HA := Lib.hid (below_block k1 (lt_of_block HA.out) HA.out)
  replace HR := Lib.hid (HR.out.below k1)
  replace HRR := Lib.hid (HRR.out.below k1)
  replace AX := Lib.hid (AX.out.below k1)
  replace AY := Lib.hid (AY.out.below k1)
  replace HP := Lib.hid (HP.out.below k1)
  replace KW := Lib.hid (KW.out.trans (k1.mono KW.out.size))
  have AJ := Lib.hid a1.at
  clear LC a1 k1
  have NAJ := Lib.hid (show (ris (namesR l ++ namesB l)).length ≤ 200 from Nat.le_trans (ris_len _) (by rw [List.length_append]; exact Nat.add_le_add NAX.out NAY.out))
  have LC := Lib.hid (rless17_c _ _ (r) (ris (namesR l ++ namesB l)) w5 (Nat.le_trans hr.out (by decide)) (Nat.le_trans NAJ.out (by decide)) HRR.out AJ.out)
  unfold MPost at LC
  go_wp2_with fail
  ((with_reducible refine LC.out.mono ?_); rintro e w6 ⟨uAR, rfl, a1, k1⟩)
  replace HB := Lib.hid (below_block k1 (lt_of_block HB.out) HB.out)
  replace H8 := Lib.hid (below_block k1 (lt_of_block H8.out) H8.out)
  replace H9 := Lib.hid (below_block k1 (lt_of_block H9.out) H9.out)
  replace HA := Lib.hid (below_block k1 (lt_of_block HA.out) HA.out)
  replace HR := Lib.hid (HR.out.below k1)
  replace HRR := Lib.hid (HRR.out.below k1)
  replace AX := Lib.hid (AX.out.below k1)
  replace AY := Lib.hid (AY.out.below k1)
  replace AJ := Lib.hid (AJ.out.below k1)
  replace HP := Lib.hid (HP.out.below k1)
  replace KW := Lib.hid (KW.out.trans (k1.mono KW.out.size))
  have AR := Lib.hid a1.at
  clear LC a1 k1
  have NAR := Lib.hid (show (lessF (r) (ris (namesR l ++ namesB l))).length ≤ 100 from Nat.le_trans (less_len2 _ _) hr.out)
  have x0 : w6.cell? ⟨w.heap.size, 0, none⟩ = some (.bool ex) := cell_of_block HB.out rfl
  have x1 : w6.cell? ⟨w.heap.size, 1, none⟩ = some (.int .i64 tm) := cell_of_block HB.out rfl
  have x2 : w6.cell? ⟨w.heap.size, 2, none⟩ = some (.slice q n c) := cell_of_block HB.out rfl
  have PC := Lib.hid (kept17_c HP.out _ (namesR l) AX.out (Nat.le_trans (Nat.add_le_add NP.out NAX.out) (by decide)) ex tm _ l hl6.out HR.out)
  unfold PuPost at PC
  go_wp2_with fail
  ((with_reducible refine PC.out.mono ?_); rintro e w7 ⟨rfl, hs9, kt⟩)
  replace HB := Lib.hid (blk_tw kt HB.out nbp.out)
  replace H8 := Lib.hid (blk_tw kt H8.out n8p.out)
  replace H9 := Lib.hid (blk_tw kt H9.out n9p.out)
  replace HA := Lib.hid (blk_tw kt HA.out nap.out)
  replace HR := Lib.hid (HP.out.rows kt HR.out)
  replace HRR := Lib.hid (HP.out.addrs kt HRR.out)
  replace AX := Lib.hid (HP.out.addrs kt AX.out)
  replace AY := Lib.hid (HP.out.addrs kt AY.out)
  replace AJ := Lib.hid (HP.out.addrs kt AJ.out)
  replace AR := Lib.hid (HP.out.addrs kt AR.out)
  replace KW := Lib.hid (bel_tw KW.out gp.out kt)
  replace HP := Lib.hid (hs9)
  clear PC hs9 kt x0 x1 x2
  replace NP := Lib.hid (show (keptS ([]) (namesR l) l).length ≤ 100 from Nat.le_trans (keptS_len _ _ _) (Nat.add_le_add NP.out NAX.out))
  have LC := Lib.hid (rless17_c _ _ (namesB l) (r) w7 (Nat.le_trans NAY.out (by decide)) (Nat.le_trans hr.out (by decide)) AY.out HRR.out)
  unfold MPost at LC
  go_wp2_with fail
  ((with_reducible refine LC.out.mono ?_); rintro e w8 ⟨uAL, rfl, a1, k1⟩)
  replace HB := Lib.hid (below_block k1 (lt_of_block HB.out) HB.out)
  replace H8 := Lib.hid (below_block k1 (lt_of_block H8.out) H8.out)
  replace H9 := Lib.hid (below_block k1 (lt_of_block H9.out) H9.out)
  replace HA := Lib.hid (below_block k1 (lt_of_block HA.out) HA.out)
  replace HR := Lib.hid (HR.out.below k1)
  replace HRR := Lib.hid (HRR.out.below k1)
  replace AX := Lib.hid (AX.out.below k1)
  replace AY := Lib.hid (AY.out.below k1)
  replace AJ := Lib.hid (AJ.out.below k1)
  replace AR := Lib.hid (AR.out.below k1)
  replace HP := Lib.hid (HP.out.below k1)
  replace KW := Lib.hid (KW.out.trans (k1.mono KW.out.size))
  have AL := Lib.hid a1.at
  clear LC a1 k1
  have NAL := Lib.hid (show (lessF (namesB l) (r)).length ≤ 100 from Nat.le_trans (less_len2 _ _) NAY.out)
  have PC := Lib.hid (all17_c HP.out _ (lessF (namesB l) (r)) AL.out (Nat.le_trans (Nat.add_le_add NP.out NAL.out) (by decide)) 0)
  unfold PuPost at PC
  go_wp2_with fail
  ((with_reducible refine PC.out.mono ?_); rintro e w9 ⟨rfl, hs9, kt⟩)
  replace HB := Lib.hid (blk_tw kt HB.out nbp.out)
  replace H8 := Lib.hid (blk_tw kt H8.out n8p.out)
  replace H9 := Lib.hid (blk_tw kt H9.out n9p.out)
  replace HA := Lib.hid (blk_tw kt HA.out nap.out)
  replace HR := Lib.hid (HP.out.rows kt HR.out)
  replace HRR := Lib.hid (HP.out.addrs kt HRR.out)
  replace AX := Lib.hid (HP.out.addrs kt AX.out)
  replace AY := Lib.hid (HP.out.addrs kt AY.out)
  replace AJ := Lib.hid (HP.out.addrs kt AJ.out)
  replace AR := Lib.hid (HP.out.addrs kt AR.out)
  replace AL := Lib.hid (HP.out.addrs kt AL.out)
  replace KW := Lib.hid (bel_tw KW.out gp.out kt)
  replace HP := Lib.hid (hs9)
  clear PC hs9 kt
  replace NP := Lib.hid (show (allS (keptS ([]) (namesR l) l) (lessF (namesB l) (r)) (0)).length ≤ 200 from Nat.le_trans (allS_len _ _ _) (Nat.add_le_add NP.out NAL.out))
  have PC := Lib.hid (all17_c HP.out _ (r) HRR.out (Nat.le_trans (Nat.add_le_add NP.out hr.out) (by decide)) m)
  unfold PuPost at PC
  go_wp2_with fail
  ((with_reducible refine PC.out.mono ?_); rintro e w10 ⟨rfl, hs9, kt⟩)
  replace HB := Lib.hid (blk_tw kt HB.out nbp.out)
  replace H8 := Lib.hid (blk_tw kt H8.out n8p.out)
  replace H9 := Lib.hid (blk_tw kt H9.out n9p.out)
  replace HA := Lib.hid (blk_tw kt HA.out nap.out)
  replace HR := Lib.hid (HP.out.rows kt HR.out)
  replace HRR := Lib.hid (HP.out.addrs kt HRR.out)
  replace AX := Lib.hid (HP.out.addrs kt AX.out)
  replace AY := Lib.hid (HP.out.addrs kt AY.out)
  replace AJ := Lib.hid (HP.out.addrs kt AJ.out)
  replace AR := Lib.hid (HP.out.addrs kt AR.out)
  replace AL := Lib.hid (HP.out.addrs kt AL.out)
  replace KW := Lib.hid (bel_tw KW.out gp.out kt)
  replace HP := Lib.hid (hs9)
  clear PC hs9 kt
  replace NP := Lib.hid (show (allS (allS (keptS ([]) (namesR l) l) (lessF (namesB l) (r)) (0)) (r) (m)).length ≤ 300 from Nat.le_trans (allS_len _ _ _) (Nat.add_le_add NP.out hr.out))
  have LC := Lib.hid (rless17_c _ _ (namesR l) (r) w10 (Nat.le_trans NAX.out (by decide)) (Nat.le_trans hr.out (by decide)) AX.out HRR.out)
  unfold MPost at LC
  go_wp2_with fail
  ((with_reducible refine LC.out.mono ?_); rintro e w11 ⟨uAM, rfl, a1, k1⟩)
  replace HB := Lib.hid (below_block k1 (lt_of_block HB.out) HB.out)
  replace H8 := Lib.hid (below_block k1 (lt_of_block H8.out) H8.out)
  replace H9 := Lib.hid (below_block k1 (lt_of_block H9.out) H9.out)
  replace HA := Lib.hid (below_block k1 (lt_of_block HA.out) HA.out)
  replace HR := Lib.hid (HR.out.below k1)
  replace HRR := Lib.hid (HRR.out.below k1)
  replace AX := Lib.hid (AX.out.below k1)
  replace AY := Lib.hid (AY.out.below k1)
  replace AJ := Lib.hid (AJ.out.below k1)
  replace AR := Lib.hid (AR.out.below k1)
  replace AL := Lib.hid (AL.out.below k1)
  replace HP := Lib.hid (HP.out.below k1)
  replace KW := Lib.hid (KW.out.trans (k1.mono KW.out.size))
  have AM := Lib.hid a1.at
  clear LC a1 k1
  have NAM := Lib.hid (show (lessF (namesR l) (r)).length ≤ 100 from Nat.le_trans (less_len2 _ _) NAX.out)
  obtain ⟨aq, an, ac, rfl⟩ := addrs_slice3 AM.out
  have BA := HA.out
  have z1 := cell_of_block (j := 1) BA rfl
  have fz1 := free_of_block (j := 1) BA
  have z0 := cell_of_block (j := 0) BA rfl
  have fz0 := free_of_block (j := 0) BA
  go_upto_region 28 with fail
  have kt : Tw w11 ((w11.setCell ⟨kb, 1, none⟩ (.slice aq an ac)).setCell ⟨kb, 0, none⟩ (.bool true)) kb kb := (tw_set w11 kb 1 (.slice aq an ac)).trans (tw_set (w11.setCell ⟨kb, 1, none⟩ (.slice aq an ac)) kb 0 (.bool true))
  have BN : (((w11.setCell ⟨kb, 1, none⟩ (.slice aq an ac)).setCell ⟨kb, 0, none⟩ (.bool true))).heap[kb]? = some (.cells #[.bool true, .slice aq an ac] 47 (0, 0)) := (heap_store (j := 0) (v := .bool true) (heap_store (j := 1) (v := .slice aq an ac) BA))
  replace HB := Lib.hid (blk_tw kt HB.out nbk.out)
  replace H8 := Lib.hid (blk_tw kt H8.out n8k.out)
  replace H9 := Lib.hid (blk_tw kt H9.out n9k.out)
  replace HP := Lib.hid (HP.out.far HA.out no_str2 kt npk.out)
  replace AM := Lib.hid (addrs_tw AM.out HA.out no_str2 kt)
  replace KW := Lib.hid (bel_tw KW.out gk.out kt)
  replace HA := Lib.hid BN
  clear kt BN BA z1 fz1 z0 fz0
  clear HR HRR AX AY AJ AR AL
  generalize ((w11.setCell ⟨kb, 1, none⟩ (.slice aq an ac)).setCell ⟨kb, 0, none⟩ (.bool true)) = w12 at HB H8 H9 HP HA KW AM ⊢
  have AF := Lib.hid (AM.out)
  clear AM
  obtain ⟨pv, PB, PR⟩ := HP.out
  obtain ⟨pq, pn, pc, rfl⟩ := rows_slice3 PR
  have RF := Lib.hid PR
  have hb := HA.out
  have h8 := H8.out
  have h9 := H9.out
  have rf := RF.out
  have af := AF.out
  have kk := KW.out
  have KF := Lib.hid (show ∀ U : World, U.heap[pb]? = some (.cells #[.bool true, .int .i64 (tm), .slice pq pn pc] 24 (0, 0)) → U.heap[kb]? = some (.cells #[.bool true, .slice aq an ac] 47 (0, 0)) → (U.cell? ⟨pb, 0, none⟩ = some (.bool true) ∧ U.cell? ⟨pb, 1, none⟩ = some (.int .i64 (tm)) ∧ U.cell? ⟨pb, 2, none⟩ = some (.slice pq pn pc) ∧ U.cell? ⟨kb, 0, none⟩ = some (.bool true) ∧ U.cell? ⟨kb, 1, none⟩ = some (.slice aq an ac)) from fun U h1 h2 => ⟨cell_of_block h1 rfl, cell_of_block h1 rfl, cell_of_block h1 rfl, cell_of_block h2 rfl, cell_of_block h2 rfl⟩)
  clear RF AF PR HP HA HB H8 H9 KW
  refine wp_region_held_drew (S := fun U => U.cell? ⟨pb, 0, none⟩ = some (.bool true) ∧ U.cell? ⟨pb, 1, none⟩ = some (.int .i64 (tm)) ∧ U.cell? ⟨pb, 2, none⟩ = some (.slice pq pn pc) ∧ U.cell? ⟨kb, 0, none⟩ = some (.bool true) ∧ U.cell? ⟨kb, 1, none⟩ = some (.slice aq an ac)) (by kernel_rfl) (KF.out _ PB hb) (fun hH => ?_)
  replace h8 : w12.drew.heap[e8]? = _ := h8
  replace h9 : w12.drew.heap[e9]? = _ := h9
  replace PB : w12.drew.heap[pb]? = _ := PB
  replace hb : w12.drew.heap[kb]? = _ := hb
  replace rf := rf.below (show Below w12.heap.size w12 w12.drew from (Below.refl _ _).drew)
  replace af := af.below (show Below w12.heap.size w12 w12.drew from (Below.refl _ _).drew)
  replace kk := kk.drew
  generalize w12.drew = Y0 at h8 h9 PB hb rf af kk hH ⊢
  have nk8 := Lib.hid (Ne.symm n8k.out)
  have nk9 := Lib.hid (Ne.symm n9k.out)
  have np8 := Lib.hid (Ne.symm n8p.out)
  have np9 := Lib.hid (Ne.symm n9p.out)
  refine wpAnyH_take (i := 0) (oi := { dst := some 88, op := Op.load 24 (Operand.tmp 12), type := 24, pos := "ref.go:152", after := #[], guard := none }) (v := .agg #[.bool true, .int .i64 (tm), .slice pq pn pc]) rfl (by kernel_rfl) (by kernel_rfl) (by kernel_rfl) (fun _ _ _ h => h) (Or.inl ⟨by kernel_rfl, ?_⟩) hH ?_
  · intro w hSw; (try dsimp only at hSw); go_simp; (try rfl)
  try simp only [Act.put, List.setIfInBounds_toArray, List.set_cons_zero, List.set_cons_succ]
  refine wpAnyH_take (i := 1) (oi := { dst := some 89, op := Op.load 47 (Operand.tmp 13), type := 47, pos := "ref.go:152", after := #[{ on := 2, ground := Ground.gcOnly Departure.lateStores }], guard := none }) (v := .agg #[.bool true, .slice aq an ac]) rfl (by kernel_rfl) (by kernel_rfl) (by kernel_rfl) (fun _ _ _ h => h) (Or.inl ⟨by kernel_rfl, ?_⟩) hH ?_
  · intro w hSw; (try dsimp only at hSw); go_simp; (try rfl)
  try simp only [Act.put, List.setIfInBounds_toArray, List.set_cons_zero, List.set_cons_succ]
  refine wpAnyH_ready (rs := [2]) (by kernel_rfl) (by simp) ?_
  refine AllReadyH.cons rfl (fun K hK => ?_) AllReadyH.nil
  have z0 := cell_of_block (j := 0) h8 rfl
  have fz0 := free_of_block (j := 0) h8
  have z1 := cell_of_block (j := 1) h8 rfl
  have fz1 := free_of_block (j := 1) h8
  have z2 := cell_of_block (j := 2) h8 rfl
  have fz2 := free_of_block (j := 2) h8
  go_simp
  clear z0 fz0 z1 fz1 z2 fz2
  have kt : Tw Y0 (((Y0.setCell ⟨e8, 0, none⟩ (.bool true)).setCell ⟨e8, 1, none⟩ (.int .i64 (tm))).setCell ⟨e8, 2, none⟩ (.slice pq pn pc)) e8 e8 := ((tw_set Y0 e8 0 (.bool true)).trans (tw_set (Y0.setCell ⟨e8, 0, none⟩ (.bool true)) e8 1 (.int .i64 (tm)))).trans (tw_set ((Y0.setCell ⟨e8, 0, none⟩ (.bool true)).setCell ⟨e8, 1, none⟩ (.int .i64 (tm))) e8 2 (.slice pq pn pc))
  replace rf := rows_tw rf h8 no_str kt
  replace af := addrs_tw af h8 no_str kt
  replace kk := bel_tw kk g8.out kt
  replace h9 := blk_tw kt h9 n98.out
  replace PB := blk_tw kt PB np8.out
  replace hb := blk_tw kt hb nk8.out
  replace h8 : ((((Y0.setCell ⟨e8, 0, none⟩ (.bool true)).setCell ⟨e8, 1, none⟩ (.int .i64 (tm))).setCell ⟨e8, 2, none⟩ (.slice pq pn pc))).heap[e8]? = some (.cells #[.bool true, .int .i64 (tm), .slice pq pn pc] 24 (0, 0)) := (heap_store (j := 2) (v := .slice pq pn pc) (heap_store (j := 1) (v := .int .i64 (tm)) (heap_store (j := 0) (v := .bool true) h8)))
  clear kt
  refine hK.out _ _ (KF.out _ PB hb) (fun hH => ?_)
  clear hK K
  try simp only [Act.put, List.setIfInBounds_toArray, List.set_cons_zero, List.set_cons_succ]
  generalize (((Y0.setCell ⟨e8, 0, none⟩ (.bool true)).setCell ⟨e8, 1, none⟩ (.int .i64 (tm))).setCell ⟨e8, 2, none⟩ (.slice pq pn pc)) = Y1 at h8 h9 PB hb rf af kk hH ⊢
  refine wpAnyH_ready (rs := [3]) (by kernel_rfl) (by simp) ?_
  refine AllReadyH.cons rfl (fun K hK => ?_) AllReadyH.nil
  have z0 := cell_of_block (j := 0) h9 rfl
  have fz0 := free_of_block (j := 0) h9
  have z1 := cell_of_block (j := 1) h9 rfl
  have fz1 := free_of_block (j := 1) h9
  go_simp
  clear z0 fz0 z1 fz1
  have kt : Tw Y1 ((Y1.setCell ⟨e9, 0, none⟩ (.bool true)).setCell ⟨e9, 1, none⟩ (.slice aq an ac)) e9 e9 := (tw_set Y1 e9 0 (.bool true)).trans (tw_set (Y1.setCell ⟨e9, 0, none⟩ (.bool true)) e9 1 (.slice aq an ac))
  replace rf := rows_tw rf h9 no_str2 kt
  replace af := addrs_tw af h9 no_str2 kt
  replace kk := bel_tw kk g9.out kt
  replace h8 := blk_tw kt h8 n89.out
  replace PB := blk_tw kt PB np9.out
  replace hb := blk_tw kt hb nk9.out
  replace h9 : (((Y1.setCell ⟨e9, 0, none⟩ (.bool true)).setCell ⟨e9, 1, none⟩ (.slice aq an ac))).heap[e9]? = some (.cells #[.bool true, .slice aq an ac] 47 (0, 0)) := (heap_store (j := 1) (v := .slice aq an ac) (heap_store (j := 0) (v := .bool true) h9))
  clear kt
  refine hK.out _ _ (KF.out _ PB hb) (fun hH => ?_)
  clear hK K
  try simp only [Act.put, List.setIfInBounds_toArray, List.set_cons_zero, List.set_cons_succ]
  generalize ((Y1.setCell ⟨e9, 0, none⟩ (.bool true)).setCell ⟨e9, 1, none⟩ (.slice aq an ac)) = Y2 at h8 h9 PB hb rf af kk hH ⊢
  refine wpAnyH_done (by kernel_rfl) ?_ _
  have HF := Lib.hid (HQ.out _ _ _ rf af kk)
  have y0 := cell_of_block (j := 0) h8 rfl
  have y1 := cell_of_block (j := 1) h8 rfl
  have y2 := cell_of_block (j := 2) h8 rfl
  have y3 := cell_of_block (j := 0) h9 rfl
  have y4 := cell_of_block (j := 1) h9 rfl
  have of8 := (fun j : Nat => free_of_block (j := j) h8)
  have of9 := (fun j : Nat => free_of_block (j := j) h9)
  clear hH h8 h9 PB hb rf af kk HQ KF
  go_wp2_with fail
  exact bodyPost_ret (v := .tuple #[.agg #[.bool true, .int .i64 (tm), .slice pq pn pc], .agg #[.bool true, .slice aq an ac]]) (by simp [results, Try.results37, go_sem, y0, y1, y2, y3, y4]) rfl HF.out

set_option maxHeartbeats 16000000 in
set_option maxRecDepth 100000 in
theorem but17_4 (ex : Bool) (tm : Int) (q : Option Addr) (n c : Nat) (l : List Tm) (vr : Value) (r : List ByteArray) (m : Int) (w : World) (hl0 : l.length ≤ 100) (hr0 : r.length ≤ 100) (hR : RowsAt 2 cellsTm w (.slice q n c) l) (hRR : AddrsAt w vr r) :
    Calls Try.prog 37 #[.agg #[.bool ex, .int .i64 tm, .slice q n c], .int .i64 4, vr, .int .i64 m] w (CgPost (butP tm l 4 r m) w) := by
  rw [show butP tm l 4 r m = ⟨true, m, allS (allS (keptS (allS [] (bothF (namesB l) r) 0) (bothF (namesR l) r) l) (lessF r (ris (namesR l ++ namesB l))) m) (lessF r (ris (namesR l ++ namesB l))) tm, false, lessF r (namesB l)⟩ from by simp [butP, restP]]
  have HQ := Lib.hid (show ∀ U vs va, RowsAt 2 cellsTm U vs (⟨true, m, allS (allS (keptS (allS [] (bothF (namesB l) r) 0) (bothF (namesR l) r) l) (lessF r (ris (namesR l ++ namesB l))) m) (lessF r (ris (namesR l ++ namesB l))) tm, false, lessF r (namesB l)⟩ : Cg).src → AddrsAt U va (⟨true, m, allS (allS (keptS (allS [] (bothF (namesB l) r) 0) (bothF (namesR l) r) l) (lessF r (ris (namesR l ++ namesB l))) m) (lessF r (ris (namesR l ++ namesB l))) tm, false, lessF r (namesB l)⟩ : Cg).al → Below w.heap.size w U → CgPost ⟨true, m, allS (allS (keptS (allS [] (bothF (namesB l) r) 0) (bothF (namesR l) r) l) (lessF r (ris (namesR l ++ namesB l))) m) (lessF r (ris (namesR l ++ namesB l))) tm, false, lessF r (namesB l)⟩ w (.returned (.tuple #[.agg #[.bool (⟨true, m, allS (allS (keptS (allS [] (bothF (namesB l) r) 0) (bothF (namesR l) r) l) (lessF r (ris (namesR l ++ namesB l))) m) (lessF r (ris (namesR l ++ namesB l))) tm, false, lessF r (namesB l)⟩ : Cg).ex, .int .i64 (⟨true, m, allS (allS (keptS (allS [] (bothF (namesB l) r) 0) (bothF (namesR l) r) l) (lessF r (ris (namesR l ++ namesB l))) m) (lessF r (ris (namesR l ++ namesB l))) tm, false, lessF r (namesB l)⟩ : Cg).tm, vs], .agg #[.bool (⟨true, m, allS (allS (keptS (allS [] (bothF (namesB l) r) 0) (bothF (namesR l) r) l) (lessF r (ris (namesR l ++ namesB l))) m) (lessF r (ris (namesR l ++ namesB l))) tm, false, lessF r (namesB l)⟩ : Cg).ag, va]])) U from fun U vs va h1 h2 h3 => ⟨vs, va, rfl, h1, h2, h3⟩)
  generalize CgPost ⟨true, m, allS (allS (keptS (allS [] (bothF (namesB l) r) 0) (bothF (namesR l) r) l) (lessF r (ris (namesR l ++ namesB l))) m) (lessF r (ris (namesR l ++ namesB l))) tm, false, lessF r (namesB l)⟩ w = Q at HQ ⊢
  simp only at HQ
  have hl := Lib.hid hl0
  have hr := Lib.hid hr0
  have hl6 := Lib.hid (Nat.le_trans hl0 (show 100 ≤ 1000000 by decide))
  have k0 : Below w.heap.size w (((w.alloc (.cells #[.bool ex, .int .i64 tm, .slice q n c] 24)).alloc (.cells #[.bool false, .int .i64 0, .slice none 0 0] 24)).alloc (.cells #[.bool false, .slice none 0 0] 47)) := (((Below.refl _ _).alloc (Nat.le_refl _) _).alloc (by simp) _).alloc (by simp; omega) _
  have KW := Lib.hid k0
  have HB := Lib.hid (show (((w.alloc (.cells #[.bool ex, .int .i64 tm, .slice q n c] 24)).alloc (.cells #[.bool false, .int .i64 0, .slice none 0 0] 24)).alloc (.cells #[.bool false, .slice none 0 0] 47)).heap[w.heap.size]? = some (.cells #[.bool ex, .int .i64 tm, .slice q n c] 24) from heap_old (heap_old (heap_new w (.cells #[.bool ex, .int .i64 tm, .slice q n c] 24))))
  have H8 := Lib.hid (show (((w.alloc (.cells #[.bool ex, .int .i64 tm, .slice q n c] 24)).alloc (.cells #[.bool false, .int .i64 0, .slice none 0 0] 24)).alloc (.cells #[.bool false, .slice none 0 0] 47)).heap[w.heap.size + 1]? = some (.cells #[.bool false, .int .i64 0, .slice none 0 0] 24) from heap_old (by simpa using heap_new (w.alloc (.cells #[.bool ex, .int .i64 tm, .slice q n c] 24)) (.cells #[.bool false, .int .i64 0, .slice none 0 0] 24)))
  have H9 := Lib.hid (show (((w.alloc (.cells #[.bool ex, .int .i64 tm, .slice q n c] 24)).alloc (.cells #[.bool false, .int .i64 0, .slice none 0 0] 24)).alloc (.cells #[.bool false, .slice none 0 0] 47)).heap[w.heap.size + 1 + 1]? = some (.cells #[.bool false, .slice none 0 0] 47) from by simpa using heap_new ((w.alloc (.cells #[.bool ex, .int .i64 tm, .slice q n c] 24)).alloc (.cells #[.bool false, .int .i64 0, .slice none 0 0] 24)) (.cells #[.bool false, .slice none 0 0] 47))
  have HR := Lib.hid (hR.below k0)
  have HRR := Lib.hid (hRR.below k0)
  have g8 := Lib.hid (show w.heap.size ≤ w.heap.size + 1 from by omega)
  have g9 := Lib.hid (show w.heap.size ≤ w.heap.size + 1 + 1 from by omega)
  have n89 := Lib.hid (show w.heap.size + 1 ≠ w.heap.size + 1 + 1 from by omega)
  have n98 := Lib.hid (Ne.symm n89.out)
  clear k0 hR hRR hl0 hr0
  go_enter Try.func37, Try.ntmps37
  go_upto_region 1 with fail
  generalize ((w.alloc (.cells #[.bool ex, .int .i64 tm, .slice q n c] 24)).alloc (.cells #[.bool false, .int .i64 0, .slice none 0 0] 24)).alloc (.cells #[.bool false, .slice none 0 0] 47) = W at HB H8 H9 HR HRR KW ⊢
  generalize w.heap.size + 1 + 1 = e9 at H9 g9 n89 n98 ⊢
  generalize w.heap.size + 1 = e8 at H8 g8 n89 n98 ⊢
  have x0 : W.cell? ⟨w.heap.size, 0, none⟩ = some (.bool ex) := cell_of_block HB.out rfl
  have x1 : W.cell? ⟨w.heap.size, 1, none⟩ = some (.int .i64 tm) := cell_of_block HB.out rfl
  have x2 : W.cell? ⟨w.heap.size, 2, none⟩ = some (.slice q n c) := cell_of_block HB.out rfl
  have NC := Lib.hid (namesR_c ex tm _ l W hl6.out HR.out)
  go_wp2_with fail
  ((with_reducible refine NC.out.mono ?_); rintro e w1 ⟨uAX, rfl, a1, k1⟩)
  replace HB := Lib.hid (below_block k1 (lt_of_block HB.out) HB.out)
  replace H8 := Lib.hid (below_block k1 (lt_of_block H8.out) H8.out)
  replace H9 := Lib.hid (below_block k1 (lt_of_block H9.out) H9.out)
  replace HR := Lib.hid (HR.out.below k1)
  replace HRR := Lib.hid (HRR.out.below k1)
  replace KW := Lib.hid (KW.out.trans (k1.mono KW.out.size))
  have AX := Lib.hid a1
  clear NC a1 k1 x0 x1 x2
  have NAX := Lib.hid (show (namesR l).length ≤ 100 from Nat.le_trans (names_len l).1 hl.out)
  have x0 : w1.cell? ⟨w.heap.size, 0, none⟩ = some (.bool ex) := cell_of_block HB.out rfl
  have x1 : w1.cell? ⟨w.heap.size, 1, none⟩ = some (.int .i64 tm) := cell_of_block HB.out rfl
  have x2 : w1.cell? ⟨w.heap.size, 2, none⟩ = some (.slice q n c) := cell_of_block HB.out rfl
  have NC := Lib.hid (namesB_c ex tm _ l w1 hl6.out HR.out)
  go_wp2_with fail
  ((with_reducible refine NC.out.mono ?_); rintro e w2 ⟨uAY, rfl, a1, k1⟩)
  replace HB := Lib.hid (below_block k1 (lt_of_block HB.out) HB.out)
  replace H8 := Lib.hid (below_block k1 (lt_of_block H8.out) H8.out)
  replace H9 := Lib.hid (below_block k1 (lt_of_block H9.out) H9.out)
  replace HR := Lib.hid (HR.out.below k1)
  replace HRR := Lib.hid (HRR.out.below k1)
  replace AX := Lib.hid (AX.out.below k1)
  replace KW := Lib.hid (KW.out.trans (k1.mono KW.out.size))
  have AY := Lib.hid a1
  clear NC a1 k1 x0 x1 x2
  have NAY := Lib.hid (show (namesB l).length ≤ 100 from Nat.le_trans (names_len l).2 hl.out)
  have x0 : w2.cell? ⟨w.heap.size, 0, none⟩ = some (.bool ex) := cell_of_block HB.out rfl
  have x1 : w2.cell? ⟨w.heap.size, 1, none⟩ = some (.int .i64 tm) := cell_of_block HB.out rfl
  have x2 : w2.cell? ⟨w.heap.size, 2, none⟩ = some (.slice q n c) := cell_of_block HB.out rfl
  go_upto_region 4 with fail
  have kA : Below w2.heap.size w2 (w2.alloc (.cells #[.bool true, .int .i64 tm, .slice none 0 0] 24)) := (Below.refl _ _).alloc (Nat.le_refl _) _
  have gp := Lib.hid (show w.heap.size ≤ w2.heap.size from KW.out.size)
  have nbp := Lib.hid (Nat.ne_of_lt (lt_of_block HB.out))
  have n8p := Lib.hid (Nat.ne_of_lt (lt_of_block H8.out))
  have n9p := Lib.hid (Nat.ne_of_lt (lt_of_block H9.out))
  replace HB := Lib.hid (below_block kA (lt_of_block HB.out) HB.out)
  replace H8 := Lib.hid (below_block kA (lt_of_block H8.out) H8.out)
  replace H9 := Lib.hid (below_block kA (lt_of_block H9.out) H9.out)
  replace HR := Lib.hid (HR.out.below kA)
  replace HRR := Lib.hid (HRR.out.below kA)
  replace AX := Lib.hid (AX.out.below kA)
  replace AY := Lib.hid (AY.out.below kA)
  replace KW := Lib.hid (KW.out.trans (kA.mono KW.out.size))
  have HP := Lib.hid (HasS17.new w2 true (tm))
  have NP := Lib.hid (show ([] : List Tm).length ≤ 0 from Nat.le_refl _)
  clear kA x0 x1 x2
  generalize w2.alloc (.cells #[.bool true, .int .i64 tm, .slice none 0 0] 24) = w3 at HB H8 H9 HR HRR KW AX AY HP ⊢
  generalize w2.heap.size = pb at gp nbp n8p n9p HP ⊢
  go_upto_region 5 with fail
  have kA : Below w3.heap.size w3 (w3.alloc (.cells #[.bool false, .slice none 0 0] 47)) := (Below.refl _ _).alloc (Nat.le_refl _) _
  have gk := Lib.hid (show w.heap.size ≤ w3.heap.size from KW.out.size)
  have nbk := Lib.hid (Nat.ne_of_lt (lt_of_block HB.out))
  have n8k := Lib.hid (Nat.ne_of_lt (lt_of_block H8.out))
  have n9k := Lib.hid (Nat.ne_of_lt (lt_of_block H9.out))
  have npk := Lib.hid (Nat.ne_of_lt HP.out.lt)
  have nap := Lib.hid (Ne.symm npk.out)
  replace HB := Lib.hid (below_block kA (lt_of_block HB.out) HB.out)
  replace H8 := Lib.hid (below_block kA (lt_of_block H8.out) H8.out)
  replace H9 := Lib.hid (below_block kA (lt_of_block H9.out) H9.out)
  replace HR := Lib.hid (HR.out.below kA)
  replace HRR := Lib.hid (HRR.out.below kA)
  replace AX := Lib.hid (AX.out.below kA)
  replace AY := Lib.hid (AY.out.below kA)
  replace HP := Lib.hid (HP.out.below kA)
  replace KW := Lib.hid (KW.out.trans (kA.mono KW.out.size))
  have HA := Lib.hid (heap_new w3 (.cells #[.bool false, .slice none 0 0] 47))
  clear kA
  generalize w3.alloc (.cells #[.bool false, .slice none 0 0] 47) = w4 at HB H8 H9 HA HR HRR KW AX AY HP ⊢
  generalize w3.heap.size = kb at gk nbk n8k n9k npk nap HA ⊢
  have LC := Lib.hid (join17_c _ _ (namesR l) (namesB l) w4 (Nat.le_trans NAX.out (by decide)) (Nat.le_trans NAY.out (by decide)) AX.out AY.out)
  unfold MPost at LC
  go_wp2_with fail
  ((with_reducible refine LC.out.mono ?_); rintro e w5 ⟨uAJ, rfl, a1, k1⟩)
  replace HB := Lib.hid (below_block k1 (lt_of_block HB.out) HB.out)
  replace H8 := Lib.hid (below_block k1 (lt_of_block H8.out) H8.out)
  replace H9 := Lib.hid (below_block k1 (lt_of_block H9.out) H9.out)
  replace HA := Lib.hid (below_block k1 (lt_of_block HA.out) HA.out)
  replace HR := Lib.hid (HR.out.below k1)
  replace HRR := Lib.hid (HRR.out.below k1)
  replace AX := Lib.hid (AX.out.below k1)
  replace AY := Lib.hid (AY.out.below k1)
  replace HP := Lib.hid (HP.out.below k1)
  replace KW := Lib.hid (KW.out.trans (k1.mono KW.out.size))
  have AJ := Lib.hid a1.at
  clear LC a1 k1
  have NAJ := Lib.hid (show (ris (namesR l ++ namesB l)).length ≤ 200 from Nat.le_trans (ris_len _) (by rw [List.length_append]; exact Nat.add_le_add NAX.out NAY.out))
  have LC := Lib.hid (rless17_c _ _ (r) (ris (namesR l ++ namesB l)) w5 (Nat.le_trans hr.out (by decide)) (Nat.le_trans NAJ.out (by decide)) HRR.out AJ.out)
  unfold MPost at LC
  go_wp2_with fail
  ((with_reducible refine LC.out.mono ?_); rintro e w6 ⟨uAR, rfl, a1, k1⟩)
  replace HB := Lib.hid (below_block k1 (lt_of_block HB.out) HB.out)
  replace H8 := Lib.hid (below_block k1 (lt_of_block H8.out) H8.out)
  replace H9 := Lib.hid (below_block k1 (lt_of_block H9.out) H9.out)
  replace HA := Lib.hid (below_block k1 (lt_of_block HA.out) HA.out)
  replace HR := Lib.hid (HR.out.below k1)
  replace HRR := Lib.hid (HRR.out.below k1)
  replace AX := Lib.hid (AX.out.below k1)
  replace AY := Lib.hid (AY.out.below k1)
  replace AJ := Lib.hid (AJ.out.below k1)
  replace HP := Lib.hid (HP.out.below k1)
  replace KW := Lib.hid (KW.out.trans (k1.mono KW.out.size))
  have AR := Lib.hid a1.at
  clear LC a1 k1
  have NAR := Lib.hid (show (lessF (r) (ris (namesR l ++ namesB l))).length ≤ 100 from Nat.le_trans (less_len2 _ _) hr.out)
  have LC := Lib.hid (rboth_c _ _ (namesB l) (r) w6 (Nat.le_trans NAY.out (by decide)) (Nat.le_trans hr.out (by decide)) AY.out HRR.out)
  unfold MPost at LC
  go_wp2_with fail
  ((with_reducible refine LC.out.mono ?_); rintro e w7 ⟨uAB, rfl, a1, k1⟩)
  replace HB := Lib.hid (below_block k1 (lt_of_block HB.out) HB.out)
  replace H8 := Lib.hid (below_block k1 (lt_of_block H8.out) H8.out)
  replace H9 := Lib.hid (below_block k1 (lt_of_block H9.out) H9.out)
  replace HA := Lib.hid (below_block k1 (lt_of_block HA.out) HA.out)
  replace HR := Lib.hid (HR.out.below k1)
  replace HRR := Lib.hid (HRR.out.below k1)
  replace AX := Lib.hid (AX.out.below k1)
  replace AY := Lib.hid (AY.out.below k1)
  replace AJ := Lib.hid (AJ.out.below k1)
  replace AR := Lib.hid (AR.out.below k1)
  replace HP := Lib.hid (HP.out.below k1)
  replace KW := Lib.hid (KW.out.trans (k1.mono KW.out.size))
  have AB := Lib.hid a1.at
  clear LC a1 k1
  have NAB := Lib.hid (show (bothF (namesB l) (r)).length ≤ 100 from Nat.le_trans (both_len _ _) NAY.out)
  have PC := Lib.hid (all17_c HP.out _ (bothF (namesB l) (r)) AB.out (Nat.le_trans (Nat.add_le_add NP.out NAB.out) (by decide)) 0)
  unfold PuPost at PC
  go_wp2_with fail
  ((with_reducible refine PC.out.mono ?_); rintro e w8 ⟨rfl, hs9, kt⟩)
  replace HB := Lib.hid (blk_tw kt HB.out nbp.out)
  replace H8 := Lib.hid (blk_tw kt H8.out n8p.out)
  replace H9 := Lib.hid (blk_tw kt H9.out n9p.out)
  replace HA := Lib.hid (blk_tw kt HA.out nap.out)
  replace HR := Lib.hid (HP.out.rows kt HR.out)
  replace HRR := Lib.hid (HP.out.addrs kt HRR.out)
  replace AX := Lib.hid (HP.out.addrs kt AX.out)
  replace AY := Lib.hid (HP.out.addrs kt AY.out)
  replace AJ := Lib.hid (HP.out.addrs kt AJ.out)
  replace AR := Lib.hid (HP.out.addrs kt AR.out)
  replace AB := Lib.hid (HP.out.addrs kt AB.out)
  replace KW := Lib.hid (bel_tw KW.out gp.out kt)
  replace HP := Lib.hid (hs9)
  clear PC hs9 kt
  replace NP := Lib.hid (show (allS ([]) (bothF (namesB l) (r)) (0)).length ≤ 100 from Nat.le_trans (allS_len _ _ _) (Nat.add_le_add NP.out NAB.out))
  go_upto_region 8 with fail
  have KF := Lib.hid (show ∀ U : World, U.heap[w.heap.size]? = some (.cells #[.bool ex, .int .i64 tm, .slice q n c] 24 (0, 0)) → (U.cell? ⟨w.heap.size, 0, none⟩ = some (.bool ex) ∧ U.cell? ⟨w.heap.size, 1, none⟩ = some (.int .i64 tm) ∧ U.cell? ⟨w.heap.size, 2, none⟩ = some (.slice q n c)) from fun U h1 => ⟨cell_of_block h1 rfl, cell_of_block h1 rfl, cell_of_block h1 rfl⟩)
  have hB := HB.out
  refine wp_region_held_drew (S := fun U => U.cell? ⟨w.heap.size, 0, none⟩ = some (.bool ex) ∧ U.cell? ⟨w.heap.size, 1, none⟩ = some (.int .i64 tm) ∧ U.cell? ⟨w.heap.size, 2, none⟩ = some (.slice q n c)) (by kernel_rfl) (KF.out _ hB) (fun hH => ?_)
  have kd : Below w8.heap.size w8 w8.drew := (Below.refl _ _).drew
  replace HB := Lib.hid (below_block kd (lt_of_block HB.out) HB.out)
  replace H8 := Lib.hid (below_block kd (lt_of_block H8.out) H8.out)
  replace H9 := Lib.hid (below_block kd (lt_of_block H9.out) H9.out)
  replace HA := Lib.hid (below_block kd (lt_of_block HA.out) HA.out)
  replace HR := Lib.hid (HR.out.below kd)
  replace HRR := Lib.hid (HRR.out.below kd)
  replace AX := Lib.hid (AX.out.below kd)
  replace AY := Lib.hid (AY.out.below kd)
  replace AJ := Lib.hid (AJ.out.below kd)
  replace AR := Lib.hid (AR.out.below kd)
  replace AB := Lib.hid (AB.out.below kd)
  replace HP := Lib.hid (HP.out.below kd)
  replace KW := Lib.hid (KW.out.trans (kd.mono KW.out.size))
  clear kd hB
  generalize w8.drew = Y0 at hH HB H8 H9 HA HR HRR KW AX AY AJ AR AB HP ⊢
  have hB := HB.out
  refine wpAnyH_take (i := 0) (oi := { dst := some 32, op := Op.move (Operand.tmp 10), type := 35, pos := "ref.go:144", after := #[], guard := none }) (v := uAX) rfl (by kernel_rfl) (by kernel_rfl) (by kernel_rfl) (fun _ _ _ h => h) (Or.inl ⟨by kernel_rfl, ?_⟩) hH ?_
  · intro w hSw; (try dsimp only at hSw); go_simp; (try rfl)
  try simp only [Act.put, List.setIfInBounds_toArray, List.set_cons_zero, List.set_cons_succ]
  refine wpAnyH_take (i := 1) (oi := { dst := some 33, op := Op.move (Operand.tmp 2), type := 35, pos := "ref.go:144", after := #[], guard := none }) (v := vr) rfl (by kernel_rfl) (by kernel_rfl) (by kernel_rfl) (fun _ _ _ h => h) (Or.inl ⟨by kernel_rfl, ?_⟩) hH ?_
  · intro w hSw; (try dsimp only at hSw); go_simp; (try rfl)
  try simp only [Act.put, List.setIfInBounds_toArray, List.set_cons_zero, List.set_cons_succ]
  refine wpAnyH_take (i := 3) (oi := { dst := some 35, op := Op.load 24 (Operand.tmp 4), type := 24, pos := "ref.go:144", after := #[], guard := none }) (v := .agg #[.bool ex, .int .i64 tm, .slice q n c]) rfl (by kernel_rfl) (by kernel_rfl) (by kernel_rfl) (fun _ _ _ h => h) (Or.inl ⟨by kernel_rfl, ?_⟩) hH ?_
  · intro w hSw; (try dsimp only at hSw); go_simp; (try rfl)
  try simp only [Act.put, List.setIfInBounds_toArray, List.set_cons_zero, List.set_cons_succ]
  refine wpAnyH_ready (rs := [2]) (by kernel_rfl) (by simp) ?_
  refine AllReadyH.cons rfl (fun K hK => ?_) AllReadyH.nil
  go_simp
  have LC := rboth_c _ _ (namesR l) (r) Y0 (Nat.le_trans NAX.out (by decide)) (Nat.le_trans hr.out (by decide)) AX.out HRR.out
  unfold MPost at LC
  with_reducible refine LC.mono ?_
  rintro e Y1 ⟨uAD, rfl, a1, k1⟩
  (try go_wp2_with fail)
  replace HB := Lib.hid (below_block k1 (lt_of_block HB.out) HB.out)
  replace H8 := Lib.hid (below_block k1 (lt_of_block H8.out) H8.out)
  replace H9 := Lib.hid (below_block k1 (lt_of_block H9.out) H9.out)
  replace HA := Lib.hid (below_block k1 (lt_of_block HA.out) HA.out)
  replace HR := Lib.hid (HR.out.below k1)
  replace HRR := Lib.hid (HRR.out.below k1)
  replace AX := Lib.hid (AX.out.below k1)
  replace AY := Lib.hid (AY.out.below k1)
  replace AJ := Lib.hid (AJ.out.below k1)
  replace AR := Lib.hid (AR.out.below k1)
  replace AB := Lib.hid (AB.out.below k1)
  replace HP := Lib.hid (HP.out.below k1)
  replace KW := Lib.hid (KW.out.trans (k1.mono KW.out.size))
  have AD_ := Lib.hid a1.at
  clear LC a1 k1 hB
  have hB := HB.out
  refine hK.out _ _ (KF.out _ hB) (fun hH => ?_)
  clear hK K
  try simp only [Act.put, List.setIfInBounds_toArray, List.set_cons_zero, List.set_cons_succ]
  refine wpAnyH_ready (rs := [4]) (by kernel_rfl) (by simp) ?_
  refine AllReadyH.cons rfl (fun K hK => ?_) AllReadyH.nil
  go_simp
  have PC := kept17_c HP.out _ (bothF (namesR l) (r)) AD_.out (Nat.le_trans (Nat.add_le_add NP.out (Nat.le_trans (both_len _ _) NAX.out)) (by decide)) ex tm _ l hl6.out HR.out
  unfold PuPost at PC
  with_reducible refine PC.mono ?_
  rintro e Y2 ⟨rfl, hs9, kt⟩
  (try go_wp2_with fail)
  replace HB := Lib.hid (blk_tw kt HB.out nbp.out)
  replace H8 := Lib.hid (blk_tw kt H8.out n8p.out)
  replace H9 := Lib.hid (blk_tw kt H9.out n9p.out)
  replace HA := Lib.hid (blk_tw kt HA.out nap.out)
  replace HR := Lib.hid (HP.out.rows kt HR.out)
  replace HRR := Lib.hid (HP.out.addrs kt HRR.out)
  replace AX := Lib.hid (HP.out.addrs kt AX.out)
  replace AY := Lib.hid (HP.out.addrs kt AY.out)
  replace AJ := Lib.hid (HP.out.addrs kt AJ.out)
  replace AR := Lib.hid (HP.out.addrs kt AR.out)
  replace AB := Lib.hid (HP.out.addrs kt AB.out)
  replace AD_ := Lib.hid (HP.out.addrs kt AD_.out)
  replace KW := Lib.hid (bel_tw KW.out gp.out kt)
  replace HP := Lib.hid (hs9)
  clear PC hs9 kt hB
  have hB := HB.out
  refine hK.out _ _ (KF.out _ hB) (fun hH => ?_)
  clear hK K
  try simp only [Act.put, List.setIfInBounds_toArray, List.set_cons_zero, List.set_cons_succ]
  refine wpAnyH_done (by kernel_rfl) ?_ _
  clear hH hB KF
  have NAD_ := Lib.hid (show (bothF (namesR l) (r)).length ≤ 100 from Nat.le_trans (both_len _ _) NAX.out)
  replace NP := Lib.hid (show (keptS (allS ([]) (bothF (namesB l) (r)) (0)) (bothF (namesR l) r) l).length ≤ 200 from Nat.le_trans (keptS_len _ _ _) (Nat.add_le_add NP.out NAD_.out))
  obtain ⟨pv, PB, PR⟩ := HP.out
  have z1 := cell_of_block (j := 1) PB rfl
  have fz1 := free_of_block (j := 1) PB
  clear PB PR
  go_upto_region 10 with fail
  have kt : Tw Y2 (Y2.setCell ⟨pb, 1, none⟩ (.int .i64 m)) pb pb := tw_set Y2 pb 1 (.int .i64 m)
  have hs9 : HasS17 (Y2.setCell ⟨pb, 1, none⟩ (.int .i64 m)) pb true (m) (keptS (allS ([]) (bothF (namesB l) (r)) (0)) (bothF (namesR l) r) l) := HP.out.set1
  replace HB := Lib.hid (blk_tw kt HB.out nbp.out)
  replace H8 := Lib.hid (blk_tw kt H8.out n8p.out)
  replace H9 := Lib.hid (blk_tw kt H9.out n9p.out)
  replace HA := Lib.hid (blk_tw kt HA.out nap.out)
  replace HR := Lib.hid (HP.out.rows kt HR.out)
  replace HRR := Lib.hid (HP.out.addrs kt HRR.out)
  replace AX := Lib.hid (HP.out.addrs kt AX.out)
  replace AY := Lib.hid (HP.out.addrs kt AY.out)
  replace AJ := Lib.hid (HP.out.addrs kt AJ.out)
  replace AR := Lib.hid (HP.out.addrs kt AR.out)
  replace AB := Lib.hid (HP.out.addrs kt AB.out)
  replace AD_ := Lib.hid (HP.out.addrs kt AD_.out)
  replace KW := Lib.hid (bel_tw KW.out gp.out kt)
  replace HP := Lib.hid (hs9)
  clear kt hs9 z1 fz1
  generalize (Y2.setCell ⟨pb, 1, none⟩ (.int .i64 m)) = w10 at HB H8 H9 HA HR HRR KW AX AY AJ AR AB AD_ HP ⊢
  have PC := Lib.hid (all17_c HP.out _ (lessF (r) (ris (namesR l ++ namesB l))) AR.out (Nat.le_trans (Nat.add_le_add NP.out NAR.out) (by decide)) m)
  unfold PuPost at PC
  go_wp2_with fail
  ((with_reducible refine PC.out.mono ?_); rintro e w11 ⟨rfl, hs9, kt⟩)
  replace HB := Lib.hid (blk_tw kt HB.out nbp.out)
  replace H8 := Lib.hid (blk_tw kt H8.out n8p.out)
  replace H9 := Lib.hid (blk_tw kt H9.out n9p.out)
  replace HA := Lib.hid (blk_tw kt HA.out nap.out)
  replace HR := Lib.hid (HP.out.rows kt HR.out)
  replace HRR := Lib.hid (HP.out.addrs kt HRR.out)
  replace AX := Lib.hid (HP.out.addrs kt AX.out)
  replace AY := Lib.hid (HP.out.addrs kt AY.out)
  replace AJ := Lib.hid (HP.out.addrs kt AJ.out)
  replace AR := Lib.hid (HP.out.addrs kt AR.out)
  replace AB := Lib.hid (HP.out.addrs kt AB.out)
  replace AD_ := Lib.hid (HP.out.addrs kt AD_.out)
  replace KW := Lib.hid (bel_tw KW.out gp.out kt)
  replace HP := Lib.hid (hs9)
  clear PC hs9 kt
  replace NP := Lib.hid (show (allS (keptS (allS ([]) (bothF (namesB l) (r)) (0)) (bothF (namesR l) r) l) (lessF (r) (ris (namesR l ++ namesB l))) (m)).length ≤ 300 from Nat.le_trans (allS_len _ _ _) (Nat.add_le_add NP.out NAR.out))
  have x0 : w11.cell? ⟨w.heap.size, 0, none⟩ = some (.bool ex) := cell_of_block HB.out rfl
  have x1 : w11.cell? ⟨w.heap.size, 1, none⟩ = some (.int .i64 tm) := cell_of_block HB.out rfl
  have x2 : w11.cell? ⟨w.heap.size, 2, none⟩ = some (.slice q n c) := cell_of_block HB.out rfl
  have PC := Lib.hid (all17_c HP.out _ (lessF (r) (ris (namesR l ++ namesB l))) AR.out (Nat.le_trans (Nat.add_le_add NP.out NAR.out) (by decide)) tm)
  unfold PuPost at PC
  go_wp2_with fail
  ((with_reducible refine PC.out.mono ?_); rintro e w12 ⟨rfl, hs9, kt⟩)
  replace HB := Lib.hid (blk_tw kt HB.out nbp.out)
  replace H8 := Lib.hid (blk_tw kt H8.out n8p.out)
  replace H9 := Lib.hid (blk_tw kt H9.out n9p.out)
  replace HA := Lib.hid (blk_tw kt HA.out nap.out)
  replace HR := Lib.hid (HP.out.rows kt HR.out)
  replace HRR := Lib.hid (HP.out.addrs kt HRR.out)
  replace AX := Lib.hid (HP.out.addrs kt AX.out)
  replace AY := Lib.hid (HP.out.addrs kt AY.out)
  replace AJ := Lib.hid (HP.out.addrs kt AJ.out)
  replace AR := Lib.hid (HP.out.addrs kt AR.out)
  replace AB := Lib.hid (HP.out.addrs kt AB.out)
  replace AD_ := Lib.hid (HP.out.addrs kt AD_.out)
  replace KW := Lib.hid (bel_tw KW.out gp.out kt)
  replace HP := Lib.hid (hs9)
  clear PC hs9 kt x0 x1 x2
  replace NP := Lib.hid (show (allS (allS (keptS (allS ([]) (bothF (namesB l) (r)) (0)) (bothF (namesR l) r) l) (lessF (r) (ris (namesR l ++ namesB l))) (m)) (lessF (r) (ris (namesR l ++ namesB l))) (tm)).length ≤ 400 from Nat.le_trans (allS_len _ _ _) (Nat.add_le_add NP.out NAR.out))
  have LC := Lib.hid (rless17_c _ _ (r) (namesB l) w12 (Nat.le_trans hr.out (by decide)) (Nat.le_trans NAY.out (by decide)) HRR.out AY.out)
  unfold MPost at LC
  go_wp2_with fail
  ((with_reducible refine LC.out.mono ?_); rintro e w13 ⟨uAM, rfl, a1, k1⟩)
  replace HB := Lib.hid (below_block k1 (lt_of_block HB.out) HB.out)
  replace H8 := Lib.hid (below_block k1 (lt_of_block H8.out) H8.out)
  replace H9 := Lib.hid (below_block k1 (lt_of_block H9.out) H9.out)
  replace HA := Lib.hid (below_block k1 (lt_of_block HA.out) HA.out)
  replace HR := Lib.hid (HR.out.below k1)
  replace HRR := Lib.hid (HRR.out.below k1)
  replace AX := Lib.hid (AX.out.below k1)
  replace AY := Lib.hid (AY.out.below k1)
  replace AJ := Lib.hid (AJ.out.below k1)
  replace AR := Lib.hid (AR.out.below k1)
  replace AB := Lib.hid (AB.out.below k1)
  replace AD_ := Lib.hid (AD_.out.below k1)
  replace HP := Lib.hid (HP.out.below k1)
  replace KW := Lib.hid (KW.out.trans (k1.mono KW.out.size))
  have AM := Lib.hid a1.at
  clear LC a1 k1
  have NAM := Lib.hid (show (lessF (r) (namesB l)).length ≤ 100 from Nat.le_trans (less_len2 _ _) hr.out)
  obtain ⟨aq, an, ac, rfl⟩ := addrs_slice3 AM.out
  have BA := HA.out
  have z1 := cell_of_block (j := 1) BA rfl
  have fz1 := free_of_block (j := 1) BA
  go_upto_region 28 with fail
  have kt : Tw w13 (w13.setCell ⟨kb, 1, none⟩ (.slice aq an ac)) kb kb := tw_set w13 kb 1 (.slice aq an ac)
  have BN : ((w13.setCell ⟨kb, 1, none⟩ (.slice aq an ac))).heap[kb]? = some (.cells #[.bool false, .slice aq an ac] 47 (0, 0)) := (heap_store (j := 1) (v := .slice aq an ac) BA)
  replace HB := Lib.hid (blk_tw kt HB.out nbk.out)
  replace H8 := Lib.hid (blk_tw kt H8.out n8k.out)
  replace H9 := Lib.hid (blk_tw kt H9.out n9k.out)
  replace HP := Lib.hid (HP.out.far HA.out no_str2 kt npk.out)
  replace AM := Lib.hid (addrs_tw AM.out HA.out no_str2 kt)
  replace KW := Lib.hid (bel_tw KW.out gk.out kt)
  replace HA := Lib.hid BN
  clear kt BN BA z1 fz1
  clear HR HRR AX AY AJ AR AB AD_
  generalize (w13.setCell ⟨kb, 1, none⟩ (.slice aq an ac)) = w14 at HB H8 H9 HP HA KW AM ⊢
  have AF := Lib.hid (AM.out)
  clear AM
  obtain ⟨pv, PB, PR⟩ := HP.out
  obtain ⟨pq, pn, pc, rfl⟩ := rows_slice3 PR
  have RF := Lib.hid PR
  have hb := HA.out
  have h8 := H8.out
  have h9 := H9.out
  have rf := RF.out
  have af := AF.out
  have kk := KW.out
  have KF := Lib.hid (show ∀ U : World, U.heap[pb]? = some (.cells #[.bool true, .int .i64 (m), .slice pq pn pc] 24 (0, 0)) → U.heap[kb]? = some (.cells #[.bool false, .slice aq an ac] 47 (0, 0)) → (U.cell? ⟨pb, 0, none⟩ = some (.bool true) ∧ U.cell? ⟨pb, 1, none⟩ = some (.int .i64 (m)) ∧ U.cell? ⟨pb, 2, none⟩ = some (.slice pq pn pc) ∧ U.cell? ⟨kb, 0, none⟩ = some (.bool false) ∧ U.cell? ⟨kb, 1, none⟩ = some (.slice aq an ac)) from fun U h1 h2 => ⟨cell_of_block h1 rfl, cell_of_block h1 rfl, cell_of_block h1 rfl, cell_of_block h2 rfl, cell_of_block h2 rfl⟩)
  clear RF AF PR HP HA HB H8 H9 KW
  refine wp_region_held_drew (S := fun U => U.cell? ⟨pb, 0, none⟩ = some (.bool true) ∧ U.cell? ⟨pb, 1, none⟩ = some (.int .i64 (m)) ∧ U.cell? ⟨pb, 2, none⟩ = some (.slice pq pn pc) ∧ U.cell? ⟨kb, 0, none⟩ = some (.bool false) ∧ U.cell? ⟨kb, 1, none⟩ = some (.slice aq an ac)) (by kernel_rfl) (KF.out _ PB hb) (fun hH => ?_)
  replace h8 : w14.drew.heap[e8]? = _ := h8
  replace h9 : w14.drew.heap[e9]? = _ := h9
  replace PB : w14.drew.heap[pb]? = _ := PB
  replace hb : w14.drew.heap[kb]? = _ := hb
  replace rf := rf.below (show Below w14.heap.size w14 w14.drew from (Below.refl _ _).drew)
  replace af := af.below (show Below w14.heap.size w14 w14.drew from (Below.refl _ _).drew)
  replace kk := kk.drew
  generalize w14.drew = Y0 at h8 h9 PB hb rf af kk hH ⊢
  have nk8 := Lib.hid (Ne.symm n8k.out)
  have nk9 := Lib.hid (Ne.symm n9k.out)
  have np8 := Lib.hid (Ne.symm n8p.out)
  have np9 := Lib.hid (Ne.symm n9p.out)
  refine wpAnyH_take (i := 0) (oi := { dst := some 88, op := Op.load 24 (Operand.tmp 12), type := 24, pos := "ref.go:152", after := #[], guard := none }) (v := .agg #[.bool true, .int .i64 (m), .slice pq pn pc]) rfl (by kernel_rfl) (by kernel_rfl) (by kernel_rfl) (fun _ _ _ h => h) (Or.inl ⟨by kernel_rfl, ?_⟩) hH ?_
  · intro w hSw; (try dsimp only at hSw); go_simp; (try rfl)
  try simp only [Act.put, List.setIfInBounds_toArray, List.set_cons_zero, List.set_cons_succ]
  refine wpAnyH_take (i := 1) (oi := { dst := some 89, op := Op.load 47 (Operand.tmp 13), type := 47, pos := "ref.go:152", after := #[{ on := 2, ground := Ground.gcOnly Departure.lateStores }], guard := none }) (v := .agg #[.bool false, .slice aq an ac]) rfl (by kernel_rfl) (by kernel_rfl) (by kernel_rfl) (fun _ _ _ h => h) (Or.inl ⟨by kernel_rfl, ?_⟩) hH ?_
  · intro w hSw; (try dsimp only at hSw); go_simp; (try rfl)
  try simp only [Act.put, List.setIfInBounds_toArray, List.set_cons_zero, List.set_cons_succ]
  refine wpAnyH_ready (rs := [2]) (by kernel_rfl) (by simp) ?_
  refine AllReadyH.cons rfl (fun K hK => ?_) AllReadyH.nil
  have z0 := cell_of_block (j := 0) h8 rfl
  have fz0 := free_of_block (j := 0) h8
  have z1 := cell_of_block (j := 1) h8 rfl
  have fz1 := free_of_block (j := 1) h8
  have z2 := cell_of_block (j := 2) h8 rfl
  have fz2 := free_of_block (j := 2) h8
  go_simp
  clear z0 fz0 z1 fz1 z2 fz2
  have kt : Tw Y0 (((Y0.setCell ⟨e8, 0, none⟩ (.bool true)).setCell ⟨e8, 1, none⟩ (.int .i64 (m))).setCell ⟨e8, 2, none⟩ (.slice pq pn pc)) e8 e8 := ((tw_set Y0 e8 0 (.bool true)).trans (tw_set (Y0.setCell ⟨e8, 0, none⟩ (.bool true)) e8 1 (.int .i64 (m)))).trans (tw_set ((Y0.setCell ⟨e8, 0, none⟩ (.bool true)).setCell ⟨e8, 1, none⟩ (.int .i64 (m))) e8 2 (.slice pq pn pc))
  replace rf := rows_tw rf h8 no_str kt
  replace af := addrs_tw af h8 no_str kt
  replace kk := bel_tw kk g8.out kt
  replace h9 := blk_tw kt h9 n98.out
  replace PB := blk_tw kt PB np8.out
  replace hb := blk_tw kt hb nk8.out
  replace h8 : ((((Y0.setCell ⟨e8, 0, none⟩ (.bool true)).setCell ⟨e8, 1, none⟩ (.int .i64 (m))).setCell ⟨e8, 2, none⟩ (.slice pq pn pc))).heap[e8]? = some (.cells #[.bool true, .int .i64 (m), .slice pq pn pc] 24 (0, 0)) := (heap_store (j := 2) (v := .slice pq pn pc) (heap_store (j := 1) (v := .int .i64 (m)) (heap_store (j := 0) (v := .bool true) h8)))
  clear kt
  refine hK.out _ _ (KF.out _ PB hb) (fun hH => ?_)
  clear hK K
  try simp only [Act.put, List.setIfInBounds_toArray, List.set_cons_zero, List.set_cons_succ]
  generalize (((Y0.setCell ⟨e8, 0, none⟩ (.bool true)).setCell ⟨e8, 1, none⟩ (.int .i64 (m))).setCell ⟨e8, 2, none⟩ (.slice pq pn pc)) = Y1 at h8 h9 PB hb rf af kk hH ⊢
  refine wpAnyH_ready (rs := [3]) (by kernel_rfl) (by simp) ?_
  refine AllReadyH.cons rfl (fun K hK => ?_) AllReadyH.nil
  have z0 := cell_of_block (j := 0) h9 rfl
  have fz0 := free_of_block (j := 0) h9
  have z1 := cell_of_block (j := 1) h9 rfl
  have fz1 := free_of_block (j := 1) h9
  go_simp
  clear z0 fz0 z1 fz1
  have kt : Tw Y1 ((Y1.setCell ⟨e9, 0, none⟩ (.bool false)).setCell ⟨e9, 1, none⟩ (.slice aq an ac)) e9 e9 := (tw_set Y1 e9 0 (.bool false)).trans (tw_set (Y1.setCell ⟨e9, 0, none⟩ (.bool false)) e9 1 (.slice aq an ac))
  replace rf := rows_tw rf h9 no_str2 kt
  replace af := addrs_tw af h9 no_str2 kt
  replace kk := bel_tw kk g9.out kt
  replace h8 := blk_tw kt h8 n89.out
  replace PB := blk_tw kt PB np9.out
  replace hb := blk_tw kt hb nk9.out
  replace h9 : (((Y1.setCell ⟨e9, 0, none⟩ (.bool false)).setCell ⟨e9, 1, none⟩ (.slice aq an ac))).heap[e9]? = some (.cells #[.bool false, .slice aq an ac] 47 (0, 0)) := (heap_store (j := 1) (v := .slice aq an ac) (heap_store (j := 0) (v := .bool false) h9))
  clear kt
  refine hK.out _ _ (KF.out _ PB hb) (fun hH => ?_)
  clear hK K
  try simp only [Act.put, List.setIfInBounds_toArray, List.set_cons_zero, List.set_cons_succ]
  generalize ((Y1.setCell ⟨e9, 0, none⟩ (.bool false)).setCell ⟨e9, 1, none⟩ (.slice aq an ac)) = Y2 at h8 h9 PB hb rf af kk hH ⊢
  refine wpAnyH_done (by kernel_rfl) ?_ _
  have HF := Lib.hid (HQ.out _ _ _ rf af kk)
  have y0 := cell_of_block (j := 0) h8 rfl
  have y1 := cell_of_block (j := 1) h8 rfl
  have y2 := cell_of_block (j := 2) h8 rfl
  have y3 := cell_of_block (j := 0) h9 rfl
  have y4 := cell_of_block (j := 1) h9 rfl
  have of8 := (fun j : Nat => free_of_block (j := j) h8)
  have of9 := (fun j : Nat => free_of_block (j := j) h9)
  clear hH h8 h9 PB hb rf af kk HQ KF
  go_wp2_with fail
  exact bodyPost_ret (v := .tuple #[.agg #[.bool true, .int .i64 (m), .slice pq pn pc], .agg #[.bool false, .slice aq an ac]]) (by simp [results, Try.results37, go_sem, y0, y1, y2, y3, y4]) rfl HF.out

set_option maxHeartbeats 16000000 in
set_option maxRecDepth 100000 in
theorem but17_5 (ex : Bool) (tm : Int) (q : Option Addr) (n c : Nat) (l : List Tm) (vr : Value) (r : List ByteArray) (m : Int) (w : World) (hl0 : l.length ≤ 100) (hr0 : r.length ≤ 100) (hR : RowsAt 2 cellsTm w (.slice q n c) l) (hRR : AddrsAt w vr r) :
    Calls Try.prog 37 #[.agg #[.bool ex, .int .i64 tm, .slice q n c], .int .i64 5, vr, .int .i64 m] w (CgPost (butP tm l 5 r m) w) := by
  rw [show butP tm l 5 r m = ⟨true, tm, allS (allS (keptS [] (namesR l) l) (lessF (namesB l) r) 0) r m, false, []⟩ from by simp [butP, restP]]
  have HQ := Lib.hid (show ∀ U vs va, RowsAt 2 cellsTm U vs (⟨true, tm, allS (allS (keptS [] (namesR l) l) (lessF (namesB l) r) 0) r m, false, []⟩ : Cg).src → AddrsAt U va (⟨true, tm, allS (allS (keptS [] (namesR l) l) (lessF (namesB l) r) 0) r m, false, []⟩ : Cg).al → Below w.heap.size w U → CgPost ⟨true, tm, allS (allS (keptS [] (namesR l) l) (lessF (namesB l) r) 0) r m, false, []⟩ w (.returned (.tuple #[.agg #[.bool (⟨true, tm, allS (allS (keptS [] (namesR l) l) (lessF (namesB l) r) 0) r m, false, []⟩ : Cg).ex, .int .i64 (⟨true, tm, allS (allS (keptS [] (namesR l) l) (lessF (namesB l) r) 0) r m, false, []⟩ : Cg).tm, vs], .agg #[.bool (⟨true, tm, allS (allS (keptS [] (namesR l) l) (lessF (namesB l) r) 0) r m, false, []⟩ : Cg).ag, va]])) U from fun U vs va h1 h2 h3 => ⟨vs, va, rfl, h1, h2, h3⟩)
  generalize CgPost ⟨true, tm, allS (allS (keptS [] (namesR l) l) (lessF (namesB l) r) 0) r m, false, []⟩ w = Q at HQ ⊢
  simp only at HQ
  have hl := Lib.hid hl0
  have hr := Lib.hid hr0
  have hl6 := Lib.hid (Nat.le_trans hl0 (show 100 ≤ 1000000 by decide))
  have k0 : Below w.heap.size w (((w.alloc (.cells #[.bool ex, .int .i64 tm, .slice q n c] 24)).alloc (.cells #[.bool false, .int .i64 0, .slice none 0 0] 24)).alloc (.cells #[.bool false, .slice none 0 0] 47)) := (((Below.refl _ _).alloc (Nat.le_refl _) _).alloc (by simp) _).alloc (by simp; omega) _
  have KW := Lib.hid k0
  have HB := Lib.hid (show (((w.alloc (.cells #[.bool ex, .int .i64 tm, .slice q n c] 24)).alloc (.cells #[.bool false, .int .i64 0, .slice none 0 0] 24)).alloc (.cells #[.bool false, .slice none 0 0] 47)).heap[w.heap.size]? = some (.cells #[.bool ex, .int .i64 tm, .slice q n c] 24) from heap_old (heap_old (heap_new w (.cells #[.bool ex, .int .i64 tm, .slice q n c] 24))))
  have H8 := Lib.hid (show (((w.alloc (.cells #[.bool ex, .int .i64 tm, .slice q n c] 24)).alloc (.cells #[.bool false, .int .i64 0, .slice none 0 0] 24)).alloc (.cells #[.bool false, .slice none 0 0] 47)).heap[w.heap.size + 1]? = some (.cells #[.bool false, .int .i64 0, .slice none 0 0] 24) from heap_old (by simpa using heap_new (w.alloc (.cells #[.bool ex, .int .i64 tm, .slice q n c] 24)) (.cells #[.bool false, .int .i64 0, .slice none 0 0] 24)))
  have H9 := Lib.hid (show (((w.alloc (.cells #[.bool ex, .int .i64 tm, .slice q n c] 24)).alloc (.cells #[.bool false, .int .i64 0, .slice none 0 0] 24)).alloc (.cells #[.bool false, .slice none 0 0] 47)).heap[w.heap.size + 1 + 1]? = some (.cells #[.bool false, .slice none 0 0] 47) from by simpa using heap_new ((w.alloc (.cells #[.bool ex, .int .i64 tm, .slice q n c] 24)).alloc (.cells #[.bool false, .int .i64 0, .slice none 0 0] 24)) (.cells #[.bool false, .slice none 0 0] 47))
  have HR := Lib.hid (hR.below k0)
  have HRR := Lib.hid (hRR.below k0)
  have g8 := Lib.hid (show w.heap.size ≤ w.heap.size + 1 from by omega)
  have g9 := Lib.hid (show w.heap.size ≤ w.heap.size + 1 + 1 from by omega)
  have n89 := Lib.hid (show w.heap.size + 1 ≠ w.heap.size + 1 + 1 from by omega)
  have n98 := Lib.hid (Ne.symm n89.out)
  clear k0 hR hRR hl0 hr0
  go_enter Try.func37, Try.ntmps37
  go_upto_region 1 with fail
  generalize ((w.alloc (.cells #[.bool ex, .int .i64 tm, .slice q n c] 24)).alloc (.cells #[.bool false, .int .i64 0, .slice none 0 0] 24)).alloc (.cells #[.bool false, .slice none 0 0] 47) = W at HB H8 H9 HR HRR KW ⊢
  generalize w.heap.size + 1 + 1 = e9 at H9 g9 n89 n98 ⊢
  generalize w.heap.size + 1 = e8 at H8 g8 n89 n98 ⊢
  have x0 : W.cell? ⟨w.heap.size, 0, none⟩ = some (.bool ex) := cell_of_block HB.out rfl
  have x1 : W.cell? ⟨w.heap.size, 1, none⟩ = some (.int .i64 tm) := cell_of_block HB.out rfl
  have x2 : W.cell? ⟨w.heap.size, 2, none⟩ = some (.slice q n c) := cell_of_block HB.out rfl
  have NC := Lib.hid (namesR_c ex tm _ l W hl6.out HR.out)
  go_wp2_with fail
  ((with_reducible refine NC.out.mono ?_); rintro e w1 ⟨uAX, rfl, a1, k1⟩)
  replace HB := Lib.hid (below_block k1 (lt_of_block HB.out) HB.out)
  replace H8 := Lib.hid (below_block k1 (lt_of_block H8.out) H8.out)
  replace H9 := Lib.hid (below_block k1 (lt_of_block H9.out) H9.out)
  replace HR := Lib.hid (HR.out.below k1)
  replace HRR := Lib.hid (HRR.out.below k1)
  replace KW := Lib.hid (KW.out.trans (k1.mono KW.out.size))
  have AX := Lib.hid a1
  clear NC a1 k1 x0 x1 x2
  have NAX := Lib.hid (show (namesR l).length ≤ 100 from Nat.le_trans (names_len l).1 hl.out)
  have x0 : w1.cell? ⟨w.heap.size, 0, none⟩ = some (.bool ex) := cell_of_block HB.out rfl
  have x1 : w1.cell? ⟨w.heap.size, 1, none⟩ = some (.int .i64 tm) := cell_of_block HB.out rfl
  have x2 : w1.cell? ⟨w.heap.size, 2, none⟩ = some (.slice q n c) := cell_of_block HB.out rfl
  have NC := Lib.hid (namesB_c ex tm _ l w1 hl6.out HR.out)
  go_wp2_with fail
  ((with_reducible refine NC.out.mono ?_); rintro e w2 ⟨uAY, rfl, a1, k1⟩)
  replace HB := Lib.hid (below_block k1 (lt_of_block HB.out) HB.out)
  replace H8 := Lib.hid (below_block k1 (lt_of_block H8.out) H8.out)
  replace H9 := Lib.hid (below_block k1 (lt_of_block H9.out) H9.out)
  replace HR := Lib.hid (HR.out.below k1)
  replace HRR := Lib.hid (HRR.out.below k1)
  replace AX := Lib.hid (AX.out.below k1)
  replace KW := Lib.hid (KW.out.trans (k1.mono KW.out.size))
  have AY := Lib.hid a1
  clear NC a1 k1 x0 x1 x2
  have NAY := Lib.hid (show (namesB l).length ≤ 100 from Nat.le_trans (names_len l).2 hl.out)
  have x0 : w2.cell? ⟨w.heap.size, 0, none⟩ = some (.bool ex) := cell_of_block HB.out rfl
  have x1 : w2.cell? ⟨w.heap.size, 1, none⟩ = some (.int .i64 tm) := cell_of_block HB.out rfl
  have x2 : w2.cell? ⟨w.heap.size, 2, none⟩ = some (.slice q n c) := cell_of_block HB.out rfl
  go_upto_region 4 with fail
  have kA : Below w2.heap.size w2 (w2.alloc (.cells #[.bool true, .int .i64 tm, .slice none 0 0] 24)) := (Below.refl _ _).alloc (Nat.le_refl _) _
  have gp := Lib.hid (show w.heap.size ≤ w2.heap.size from KW.out.size)
  have nbp := Lib.hid (Nat.ne_of_lt (lt_of_block HB.out))
  have n8p := Lib.hid (Nat.ne_of_lt (lt_of_block H8.out))
  have n9p := Lib.hid (Nat.ne_of_lt (lt_of_block H9.out))
  replace HB := Lib.hid (below_block kA (lt_of_block HB.out) HB.out)
  replace H8 := Lib.hid (below_block kA (lt_of_block H8.out) H8.out)
  replace H9 := Lib.hid (below_block kA (lt_of_block H9.out) H9.out)
  replace HR := Lib.hid (HR.out.below kA)
  replace HRR := Lib.hid (HRR.out.below kA)
  replace AX := Lib.hid (AX.out.below kA)
  replace AY := Lib.hid (AY.out.below kA)
  replace KW := Lib.hid (KW.out.trans (kA.mono KW.out.size))
  have HP := Lib.hid (HasS17.new w2 true (tm))
  have NP := Lib.hid (show ([] : List Tm).length ≤ 0 from Nat.le_refl _)
  clear kA x0 x1 x2
  generalize w2.alloc (.cells #[.bool true, .int .i64 tm, .slice none 0 0] 24) = w3 at HB H8 H9 HR HRR KW AX AY HP ⊢
  generalize w2.heap.size = pb at gp nbp n8p n9p HP ⊢
  go_upto_region 5 with fail
  have kA : Below w3.heap.size w3 (w3.alloc (.cells #[.bool false, .slice none 0 0] 47)) := (Below.refl _ _).alloc (Nat.le_refl _) _
  have gk := Lib.hid (show w.heap.size ≤ w3.heap.size from KW.out.size)
  have nbk := Lib.hid (Nat.ne_of_lt (lt_of_block HB.out))
  have n8k := Lib.hid (Nat.ne_of_lt (lt_of_block H8.out))
  have n9k := Lib.hid (Nat.ne_of_lt (lt_of_block H9.out))
  have npk := Lib.hid (Nat.ne_of_lt HP.out.lt)
  have nap := Lib.hid (Ne.symm npk.out)
  replace HB := Lib.hid (below_block kA (lt_of_block HB.out) HB.out)
  replace H8 := Lib.hid (below_block kA (lt_of_block H8.out) H8.out)
  replace H9 := Lib.hid (below_block kA (lt_of_block H9.out) H9.out)
  replace HR := Lib.hid (HR.out.below kA)
  replace HRR := Lib.hid (HRR.out.below kA)
  replace AX := Lib.hid (AX.out.below kA)
  replace AY := Lib.hid (AY.out.below kA)
  replace HP := Lib.hid (HP.out.below kA)
  replace KW := Lib.hid (KW.out.trans (kA.mono KW.out.size))
  have HA := Lib.hid (heap_new w3 (.cells #[.bool false, .slice none 0 0] 47))
  clear kA
  generalize w3.alloc (.cells #[.bool false, .slice none 0 0] 47) = w4 at HB H8 H9 HA HR HRR KW AX AY HP ⊢
  generalize w3.heap.size = kb at gk nbk n8k n9k npk nap HA ⊢
  have LC := Lib.hid (join17_c _ _ (namesR l) (namesB l) w4 (Nat.le_trans NAX.out (by decide)) (Nat.le_trans NAY.out (by decide)) AX.out AY.out)
  unfold MPost at LC
  go_wp2_with fail
  ((with_reducible refine LC.out.mono ?_); rintro e w5 ⟨uAJ, rfl, a1, k1⟩)
  replace HB := Lib.hid (below_block k1 (lt_of_block HB.out) HB.out)
  replace H8 := Lib.hid (below_block k1 (lt_of_block H8.out) H8.out)
  replace H9 := Lib.hid (below_block k1 (lt_of_block H9.out) H9.out)
  replace HA := Lib.hid (below_block k1 (lt_of_block HA.out) HA.out)
  replace HR := Lib.hid (HR.out.below k1)
  replace HRR := Lib.hid (HRR.out.below k1)
  replace AX := Lib.hid (AX.out.below k1)
  replace AY := Lib.hid (AY.out.below k1)
  replace HP := Lib.hid (HP.out.below k1)
  replace KW := Lib.hid (KW.out.trans (k1.mono KW.out.size))
  have AJ := Lib.hid a1.at
  clear LC a1 k1
  have NAJ := Lib.hid (show (ris (namesR l ++ namesB l)).length ≤ 200 from Nat.le_trans (ris_len _) (by rw [List.length_append]; exact Nat.add_le_add NAX.out NAY.out))
  have LC := Lib.hid (rless17_c _ _ (r) (ris (namesR l ++ namesB l)) w5 (Nat.le_trans hr.out (by decide)) (Nat.le_trans NAJ.out (by decide)) HRR.out AJ.out)
  unfold MPost at LC
  go_wp2_with fail
  ((with_reducible refine LC.out.mono ?_); rintro e w6 ⟨uAR, rfl, a1, k1⟩)
  replace HB := Lib.hid (below_block k1 (lt_of_block HB.out) HB.out)
  replace H8 := Lib.hid (below_block k1 (lt_of_block H8.out) H8.out)
  replace H9 := Lib.hid (below_block k1 (lt_of_block H9.out) H9.out)
  replace HA := Lib.hid (below_block k1 (lt_of_block HA.out) HA.out)
  replace HR := Lib.hid (HR.out.below k1)
  replace HRR := Lib.hid (HRR.out.below k1)
  replace AX := Lib.hid (AX.out.below k1)
  replace AY := Lib.hid (AY.out.below k1)
  replace AJ := Lib.hid (AJ.out.below k1)
  replace HP := Lib.hid (HP.out.below k1)
  replace KW := Lib.hid (KW.out.trans (k1.mono KW.out.size))
  have AR := Lib.hid a1.at
  clear LC a1 k1
  have NAR := Lib.hid (show (lessF (r) (ris (namesR l ++ namesB l))).length ≤ 100 from Nat.le_trans (less_len2 _ _) hr.out)
  have x0 : w6.cell? ⟨w.heap.size, 0, none⟩ = some (.bool ex) := cell_of_block HB.out rfl
  have x1 : w6.cell? ⟨w.heap.size, 1, none⟩ = some (.int .i64 tm) := cell_of_block HB.out rfl
  have x2 : w6.cell? ⟨w.heap.size, 2, none⟩ = some (.slice q n c) := cell_of_block HB.out rfl
  have PC := Lib.hid (kept17_c HP.out _ (namesR l) AX.out (Nat.le_trans (Nat.add_le_add NP.out NAX.out) (by decide)) ex tm _ l hl6.out HR.out)
  unfold PuPost at PC
  go_wp2_with fail
  ((with_reducible refine PC.out.mono ?_); rintro e w7 ⟨rfl, hs9, kt⟩)
  replace HB := Lib.hid (blk_tw kt HB.out nbp.out)
  replace H8 := Lib.hid (blk_tw kt H8.out n8p.out)
  replace H9 := Lib.hid (blk_tw kt H9.out n9p.out)
  replace HA := Lib.hid (blk_tw kt HA.out nap.out)
  replace HR := Lib.hid (HP.out.rows kt HR.out)
  replace HRR := Lib.hid (HP.out.addrs kt HRR.out)
  replace AX := Lib.hid (HP.out.addrs kt AX.out)
  replace AY := Lib.hid (HP.out.addrs kt AY.out)
  replace AJ := Lib.hid (HP.out.addrs kt AJ.out)
  replace AR := Lib.hid (HP.out.addrs kt AR.out)
  replace KW := Lib.hid (bel_tw KW.out gp.out kt)
  replace HP := Lib.hid (hs9)
  clear PC hs9 kt x0 x1 x2
  replace NP := Lib.hid (show (keptS ([]) (namesR l) l).length ≤ 100 from Nat.le_trans (keptS_len _ _ _) (Nat.add_le_add NP.out NAX.out))
  have LC := Lib.hid (rless17_c _ _ (namesB l) (r) w7 (Nat.le_trans NAY.out (by decide)) (Nat.le_trans hr.out (by decide)) AY.out HRR.out)
  unfold MPost at LC
  go_wp2_with fail
  ((with_reducible refine LC.out.mono ?_); rintro e w8 ⟨uAL, rfl, a1, k1⟩)
  replace HB := Lib.hid (below_block k1 (lt_of_block HB.out) HB.out)
  replace H8 := Lib.hid (below_block k1 (lt_of_block H8.out) H8.out)
  replace H9 := Lib.hid (below_block k1 (lt_of_block H9.out) H9.out)
  replace HA := Lib.hid (below_block k1 (lt_of_block HA.out) HA.out)
  replace HR := Lib.hid (HR.out.below k1)
  replace HRR := Lib.hid (HRR.out.below k1)
  replace AX := Lib.hid (AX.out.below k1)
  replace AY := Lib.hid (AY.out.below k1)
  replace AJ := Lib.hid (AJ.out.below k1)
  replace AR := Lib.hid (AR.out.below k1)
  replace HP := Lib.hid (HP.out.below k1)
  replace KW := Lib.hid (KW.out.trans (k1.mono KW.out.size))
  have AL := Lib.hid a1.at
  clear LC a1 k1
  have NAL := Lib.hid (show (lessF (namesB l) (r)).length ≤ 100 from Nat.le_trans (less_len2 _ _) NAY.out)
  have PC := Lib.hid (all17_c HP.out _ (lessF (namesB l) (r)) AL.out (Nat.le_trans (Nat.add_le_add NP.out NAL.out) (by decide)) 0)
  unfold PuPost at PC
  go_wp2_with fail
  ((with_reducible refine PC.out.mono ?_); rintro e w9 ⟨rfl, hs9, kt⟩)
  replace HB := Lib.hid (blk_tw kt HB.out nbp.out)
  replace H8 := Lib.hid (blk_tw kt H8.out n8p.out)
  replace H9 := Lib.hid (blk_tw kt H9.out n9p.out)
  replace HA := Lib.hid (blk_tw kt HA.out nap.out)
  replace HR := Lib.hid (HP.out.rows kt HR.out)
  replace HRR := Lib.hid (HP.out.addrs kt HRR.out)
  replace AX := Lib.hid (HP.out.addrs kt AX.out)
  replace AY := Lib.hid (HP.out.addrs kt AY.out)
  replace AJ := Lib.hid (HP.out.addrs kt AJ.out)
  replace AR := Lib.hid (HP.out.addrs kt AR.out)
  replace AL := Lib.hid (HP.out.addrs kt AL.out)
  replace KW := Lib.hid (bel_tw KW.out gp.out kt)
  replace HP := Lib.hid (hs9)
  clear PC hs9 kt
  replace NP := Lib.hid (show (allS (keptS ([]) (namesR l) l) (lessF (namesB l) (r)) (0)).length ≤ 200 from Nat.le_trans (allS_len _ _ _) (Nat.add_le_add NP.out NAL.out))
  have PC := Lib.hid (all17_c HP.out _ (r) HRR.out (Nat.le_trans (Nat.add_le_add NP.out hr.out) (by decide)) m)
  unfold PuPost at PC
  go_wp2_with fail
  ((with_reducible refine PC.out.mono ?_); rintro e w10 ⟨rfl, hs9, kt⟩)
  replace HB := Lib.hid (blk_tw kt HB.out nbp.out)
  replace H8 := Lib.hid (blk_tw kt H8.out n8p.out)
  replace H9 := Lib.hid (blk_tw kt H9.out n9p.out)
  replace HA := Lib.hid (blk_tw kt HA.out nap.out)
  replace HR := Lib.hid (HP.out.rows kt HR.out)
  replace HRR := Lib.hid (HP.out.addrs kt HRR.out)
  replace AX := Lib.hid (HP.out.addrs kt AX.out)
  replace AY := Lib.hid (HP.out.addrs kt AY.out)
  replace AJ := Lib.hid (HP.out.addrs kt AJ.out)
  replace AR := Lib.hid (HP.out.addrs kt AR.out)
  replace AL := Lib.hid (HP.out.addrs kt AL.out)
  replace KW := Lib.hid (bel_tw KW.out gp.out kt)
  replace HP := Lib.hid (hs9)
  clear PC hs9 kt
  replace NP := Lib.hid (show (allS (allS (keptS ([]) (namesR l) l) (lessF (namesB l) (r)) (0)) (r) (m)).length ≤ 300 from Nat.le_trans (allS_len _ _ _) (Nat.add_le_add NP.out hr.out))
  go_upto_region 28 with fail
  clear HR HRR AX AY AJ AR AL
  have AF := Lib.hid (show AddrsAt w10 (.slice none 0 0) [] from AddrsG.nil _ _ _)
  obtain ⟨pv, PB, PR⟩ := HP.out
  obtain ⟨pq, pn, pc, rfl⟩ := rows_slice3 PR
  have RF := Lib.hid PR
  have hb := HA.out
  have h8 := H8.out
  have h9 := H9.out
  have rf := RF.out
  have af := AF.out
  have kk := KW.out
  have KF := Lib.hid (show ∀ U : World, U.heap[pb]? = some (.cells #[.bool true, .int .i64 (tm), .slice pq pn pc] 24 (0, 0)) → U.heap[kb]? = some (.cells #[.bool false, .slice none 0 0] 47 (0, 0)) → (U.cell? ⟨pb, 0, none⟩ = some (.bool true) ∧ U.cell? ⟨pb, 1, none⟩ = some (.int .i64 (tm)) ∧ U.cell? ⟨pb, 2, none⟩ = some (.slice pq pn pc) ∧ U.cell? ⟨kb, 0, none⟩ = some (.bool false) ∧ U.cell? ⟨kb, 1, none⟩ = some (.slice none 0 0)) from fun U h1 h2 => ⟨cell_of_block h1 rfl, cell_of_block h1 rfl, cell_of_block h1 rfl, cell_of_block h2 rfl, cell_of_block h2 rfl⟩)
  clear RF AF PR HP HA HB H8 H9 KW
  refine wp_region_held_drew (S := fun U => U.cell? ⟨pb, 0, none⟩ = some (.bool true) ∧ U.cell? ⟨pb, 1, none⟩ = some (.int .i64 (tm)) ∧ U.cell? ⟨pb, 2, none⟩ = some (.slice pq pn pc) ∧ U.cell? ⟨kb, 0, none⟩ = some (.bool false) ∧ U.cell? ⟨kb, 1, none⟩ = some (.slice none 0 0)) (by kernel_rfl) (KF.out _ PB hb) (fun hH => ?_)
  replace h8 : w10.drew.heap[e8]? = _ := h8
  replace h9 : w10.drew.heap[e9]? = _ := h9
  replace PB : w10.drew.heap[pb]? = _ := PB
  replace hb : w10.drew.heap[kb]? = _ := hb
  replace rf := rf.below (show Below w10.heap.size w10 w10.drew from (Below.refl _ _).drew)
  replace af := af.below (show Below w10.heap.size w10 w10.drew from (Below.refl _ _).drew)
  replace kk := kk.drew
  generalize w10.drew = Y0 at h8 h9 PB hb rf af kk hH ⊢
  have nk8 := Lib.hid (Ne.symm n8k.out)
  have nk9 := Lib.hid (Ne.symm n9k.out)
  have np8 := Lib.hid (Ne.symm n8p.out)
  have np9 := Lib.hid (Ne.symm n9p.out)
  refine wpAnyH_take (i := 0) (oi := { dst := some 88, op := Op.load 24 (Operand.tmp 12), type := 24, pos := "ref.go:152", after := #[], guard := none }) (v := .agg #[.bool true, .int .i64 (tm), .slice pq pn pc]) rfl (by kernel_rfl) (by kernel_rfl) (by kernel_rfl) (fun _ _ _ h => h) (Or.inl ⟨by kernel_rfl, ?_⟩) hH ?_
  · intro w hSw; (try dsimp only at hSw); go_simp; (try rfl)
  try simp only [Act.put, List.setIfInBounds_toArray, List.set_cons_zero, List.set_cons_succ]
  refine wpAnyH_take (i := 1) (oi := { dst := some 89, op := Op.load 47 (Operand.tmp 13), type := 47, pos := "ref.go:152", after := #[{ on := 2, ground := Ground.gcOnly Departure.lateStores }], guard := none }) (v := .agg #[.bool false, .slice none 0 0]) rfl (by kernel_rfl) (by kernel_rfl) (by kernel_rfl) (fun _ _ _ h => h) (Or.inl ⟨by kernel_rfl, ?_⟩) hH ?_
  · intro w hSw; (try dsimp only at hSw); go_simp; (try rfl)
  try simp only [Act.put, List.setIfInBounds_toArray, List.set_cons_zero, List.set_cons_succ]
  refine wpAnyH_ready (rs := [2]) (by kernel_rfl) (by simp) ?_
  refine AllReadyH.cons rfl (fun K hK => ?_) AllReadyH.nil
  have z0 := cell_of_block (j := 0) h8 rfl
  have fz0 := free_of_block (j := 0) h8
  have z1 := cell_of_block (j := 1) h8 rfl
  have fz1 := free_of_block (j := 1) h8
  have z2 := cell_of_block (j := 2) h8 rfl
  have fz2 := free_of_block (j := 2) h8
  go_simp
  clear z0 fz0 z1 fz1 z2 fz2
  have kt : Tw Y0 (((Y0.setCell ⟨e8, 0, none⟩ (.bool true)).setCell ⟨e8, 1, none⟩ (.int .i64 (tm))).setCell ⟨e8, 2, none⟩ (.slice pq pn pc)) e8 e8 := ((tw_set Y0 e8 0 (.bool true)).trans (tw_set (Y0.setCell ⟨e8, 0, none⟩ (.bool true)) e8 1 (.int .i64 (tm)))).trans (tw_set ((Y0.setCell ⟨e8, 0, none⟩ (.bool true)).setCell ⟨e8, 1, none⟩ (.int .i64 (tm))) e8 2 (.slice pq pn pc))
  replace rf := rows_tw rf h8 no_str kt
  replace af := addrs_tw af h8 no_str kt
  replace kk := bel_tw kk g8.out kt
  replace h9 := blk_tw kt h9 n98.out
  replace PB := blk_tw kt PB np8.out
  replace hb := blk_tw kt hb nk8.out
  replace h8 : ((((Y0.setCell ⟨e8, 0, none⟩ (.bool true)).setCell ⟨e8, 1, none⟩ (.int .i64 (tm))).setCell ⟨e8, 2, none⟩ (.slice pq pn pc))).heap[e8]? = some (.cells #[.bool true, .int .i64 (tm), .slice pq pn pc] 24 (0, 0)) := (heap_store (j := 2) (v := .slice pq pn pc) (heap_store (j := 1) (v := .int .i64 (tm)) (heap_store (j := 0) (v := .bool true) h8)))
  clear kt
  refine hK.out _ _ (KF.out _ PB hb) (fun hH => ?_)
  clear hK K
  try simp only [Act.put, List.setIfInBounds_toArray, List.set_cons_zero, List.set_cons_succ]
  generalize (((Y0.setCell ⟨e8, 0, none⟩ (.bool true)).setCell ⟨e8, 1, none⟩ (.int .i64 (tm))).setCell ⟨e8, 2, none⟩ (.slice pq pn pc)) = Y1 at h8 h9 PB hb rf af kk hH ⊢
  refine wpAnyH_ready (rs := [3]) (by kernel_rfl) (by simp) ?_
  refine AllReadyH.cons rfl (fun K hK => ?_) AllReadyH.nil
  have z0 := cell_of_block (j := 0) h9 rfl
  have fz0 := free_of_block (j := 0) h9
  have z1 := cell_of_block (j := 1) h9 rfl
  have fz1 := free_of_block (j := 1) h9
  go_simp
  clear z0 fz0 z1 fz1
  have kt : Tw Y1 ((Y1.setCell ⟨e9, 0, none⟩ (.bool false)).setCell ⟨e9, 1, none⟩ (.slice none 0 0)) e9 e9 := (tw_set Y1 e9 0 (.bool false)).trans (tw_set (Y1.setCell ⟨e9, 0, none⟩ (.bool false)) e9 1 (.slice none 0 0))
  replace rf := rows_tw rf h9 no_str2 kt
  replace af := addrs_tw af h9 no_str2 kt
  replace kk := bel_tw kk g9.out kt
  replace h8 := blk_tw kt h8 n89.out
  replace PB := blk_tw kt PB np9.out
  replace hb := blk_tw kt hb nk9.out
  replace h9 : (((Y1.setCell ⟨e9, 0, none⟩ (.bool false)).setCell ⟨e9, 1, none⟩ (.slice none 0 0))).heap[e9]? = some (.cells #[.bool false, .slice none 0 0] 47 (0, 0)) := (heap_store (j := 1) (v := .slice none 0 0) (heap_store (j := 0) (v := .bool false) h9))
  clear kt
  refine hK.out _ _ (KF.out _ PB hb) (fun hH => ?_)
  clear hK K
  try simp only [Act.put, List.setIfInBounds_toArray, List.set_cons_zero, List.set_cons_succ]
  generalize ((Y1.setCell ⟨e9, 0, none⟩ (.bool false)).setCell ⟨e9, 1, none⟩ (.slice none 0 0)) = Y2 at h8 h9 PB hb rf af kk hH ⊢
  refine wpAnyH_done (by kernel_rfl) ?_ _
  have HF := Lib.hid (HQ.out _ _ _ rf af kk)
  have y0 := cell_of_block (j := 0) h8 rfl
  have y1 := cell_of_block (j := 1) h8 rfl
  have y2 := cell_of_block (j := 2) h8 rfl
  have y3 := cell_of_block (j := 0) h9 rfl
  have y4 := cell_of_block (j := 1) h9 rfl
  have of8 := (fun j : Nat => free_of_block (j := j) h8)
  have of9 := (fun j : Nat => free_of_block (j := j) h9)
  clear hH h8 h9 PB hb rf af kk HQ KF
  go_wp2_with fail
  exact bodyPost_ret (v := .tuple #[.agg #[.bool true, .int .i64 (tm), .slice pq pn pc], .agg #[.bool false, .slice none 0 0]]) (by simp [results, Try.results37, go_sem, y0, y1, y2, y3, y4]) rfl HF.out

set_option maxHeartbeats 16000000 in
set_option maxRecDepth 100000 in
theorem but17_6 (ex : Bool) (tm : Int) (q : Option Addr) (n c : Nat) (l : List Tm) (vr : Value) (r : List ByteArray) (m : Int) (w : World) (hl0 : l.length ≤ 100) (hr0 : r.length ≤ 100) (hR : RowsAt 2 cellsTm w (.slice q n c) l) (hRR : AddrsAt w vr r) :
    Calls Try.prog 37 #[.agg #[.bool ex, .int .i64 tm, .slice q n c], .int .i64 6, vr, .int .i64 m] w (CgPost (butP tm l 6 r m) w) := by
  rw [show butP tm l 6 r m = ⟨true, tm, allS (keptS (allS [] (namesB l) 0) (namesR l) l) (lessF r (ris (namesR l ++ namesB l))) tm, false, lessF r (namesB l)⟩ from by simp [butP, restP]]
  have HQ := Lib.hid (show ∀ U vs va, RowsAt 2 cellsTm U vs (⟨true, tm, allS (keptS (allS [] (namesB l) 0) (namesR l) l) (lessF r (ris (namesR l ++ namesB l))) tm, false, lessF r (namesB l)⟩ : Cg).src → AddrsAt U va (⟨true, tm, allS (keptS (allS [] (namesB l) 0) (namesR l) l) (lessF r (ris (namesR l ++ namesB l))) tm, false, lessF r (namesB l)⟩ : Cg).al → Below w.heap.size w U → CgPost ⟨true, tm, allS (keptS (allS [] (namesB l) 0) (namesR l) l) (lessF r (ris (namesR l ++ namesB l))) tm, false, lessF r (namesB l)⟩ w (.returned (.tuple #[.agg #[.bool (⟨true, tm, allS (keptS (allS [] (namesB l) 0) (namesR l) l) (lessF r (ris (namesR l ++ namesB l))) tm, false, lessF r (namesB l)⟩ : Cg).ex, .int .i64 (⟨true, tm, allS (keptS (allS [] (namesB l) 0) (namesR l) l) (lessF r (ris (namesR l ++ namesB l))) tm, false, lessF r (namesB l)⟩ : Cg).tm, vs], .agg #[.bool (⟨true, tm, allS (keptS (allS [] (namesB l) 0) (namesR l) l) (lessF r (ris (namesR l ++ namesB l))) tm, false, lessF r (namesB l)⟩ : Cg).ag, va]])) U from fun U vs va h1 h2 h3 => ⟨vs, va, rfl, h1, h2, h3⟩)
  generalize CgPost ⟨true, tm, allS (keptS (allS [] (namesB l) 0) (namesR l) l) (lessF r (ris (namesR l ++ namesB l))) tm, false, lessF r (namesB l)⟩ w = Q at HQ ⊢
  simp only at HQ
  have hl := Lib.hid hl0
  have hr := Lib.hid hr0
  have hl6 := Lib.hid (Nat.le_trans hl0 (show 100 ≤ 1000000 by decide))
  have k0 : Below w.heap.size w (((w.alloc (.cells #[.bool ex, .int .i64 tm, .slice q n c] 24)).alloc (.cells #[.bool false, .int .i64 0, .slice none 0 0] 24)).alloc (.cells #[.bool false, .slice none 0 0] 47)) := (((Below.refl _ _).alloc (Nat.le_refl _) _).alloc (by simp) _).alloc (by simp; omega) _
  have KW := Lib.hid k0
  have HB := Lib.hid (show (((w.alloc (.cells #[.bool ex, .int .i64 tm, .slice q n c] 24)).alloc (.cells #[.bool false, .int .i64 0, .slice none 0 0] 24)).alloc (.cells #[.bool false, .slice none 0 0] 47)).heap[w.heap.size]? = some (.cells #[.bool ex, .int .i64 tm, .slice q n c] 24) from heap_old (heap_old (heap_new w (.cells #[.bool ex, .int .i64 tm, .slice q n c] 24))))
  have H8 := Lib.hid (show (((w.alloc (.cells #[.bool ex, .int .i64 tm, .slice q n c] 24)).alloc (.cells #[.bool false, .int .i64 0, .slice none 0 0] 24)).alloc (.cells #[.bool false, .slice none 0 0] 47)).heap[w.heap.size + 1]? = some (.cells #[.bool false, .int .i64 0, .slice none 0 0] 24) from heap_old (by simpa using heap_new (w.alloc (.cells #[.bool ex, .int .i64 tm, .slice q n c] 24)) (.cells #[.bool false, .int .i64 0, .slice none 0 0] 24)))
  have H9 := Lib.hid (show (((w.alloc (.cells #[.bool ex, .int .i64 tm, .slice q n c] 24)).alloc (.cells #[.bool false, .int .i64 0, .slice none 0 0] 24)).alloc (.cells #[.bool false, .slice none 0 0] 47)).heap[w.heap.size + 1 + 1]? = some (.cells #[.bool false, .slice none 0 0] 47) from by simpa using heap_new ((w.alloc (.cells #[.bool ex, .int .i64 tm, .slice q n c] 24)).alloc (.cells #[.bool false, .int .i64 0, .slice none 0 0] 24)) (.cells #[.bool false, .slice none 0 0] 47))
  have HR := Lib.hid (hR.below k0)
  have HRR := Lib.hid (hRR.below k0)
  have g8 := Lib.hid (show w.heap.size ≤ w.heap.size + 1 from by omega)
  have g9 := Lib.hid (show w.heap.size ≤ w.heap.size + 1 + 1 from by omega)
  have n89 := Lib.hid (show w.heap.size + 1 ≠ w.heap.size + 1 + 1 from by omega)
  have n98 := Lib.hid (Ne.symm n89.out)
  clear k0 hR hRR hl0 hr0
  go_enter Try.func37, Try.ntmps37
  go_upto_region 1 with fail
  generalize ((w.alloc (.cells #[.bool ex, .int .i64 tm, .slice q n c] 24)).alloc (.cells #[.bool false, .int .i64 0, .slice none 0 0] 24)).alloc (.cells #[.bool false, .slice none 0 0] 47) = W at HB H8 H9 HR HRR KW ⊢
  generalize w.heap.size + 1 + 1 = e9 at H9 g9 n89 n98 ⊢
  generalize w.heap.size + 1 = e8 at H8 g8 n89 n98 ⊢
  have x0 : W.cell? ⟨w.heap.size, 0, none⟩ = some (.bool ex) := cell_of_block HB.out rfl
  have x1 : W.cell? ⟨w.heap.size, 1, none⟩ = some (.int .i64 tm) := cell_of_block HB.out rfl
  have x2 : W.cell? ⟨w.heap.size, 2, none⟩ = some (.slice q n c) := cell_of_block HB.out rfl
  have NC := Lib.hid (namesR_c ex tm _ l W hl6.out HR.out)
  go_wp2_with fail
  ((with_reducible refine NC.out.mono ?_); rintro e w1 ⟨uAX, rfl, a1, k1⟩)
  replace HB := Lib.hid (below_block k1 (lt_of_block HB.out) HB.out)
  replace H8 := Lib.hid (below_block k1 (lt_of_block H8.out) H8.out)
  replace H9 := Lib.hid (below_block k1 (lt_of_block H9.out) H9.out)
  replace HR := Lib.hid (HR.out.below k1)
  replace HRR := Lib.hid (HRR.out.below k1)
  replace KW := Lib.hid (KW.out.trans (k1.mono KW.out.size))
  have AX := Lib.hid a1
  clear NC a1 k1 x0 x1 x2
  have NAX := Lib.hid (show (namesR l).length ≤ 100 from Nat.le_trans (names_len l).1 hl.out)
  have x0 : w1.cell? ⟨w.heap.size, 0, none⟩ = some (.bool ex) := cell_of_block HB.out rfl
  have x1 : w1.cell? ⟨w.heap.size, 1, none⟩ = some (.int .i64 tm) := cell_of_block HB.out rfl
  have x2 : w1.cell? ⟨w.heap.size, 2, none⟩ = some (.slice q n c) := cell_of_block HB.out rfl
  have NC := Lib.hid (namesB_c ex tm _ l w1 hl6.out HR.out)
  go_wp2_with fail
  ((with_reducible refine NC.out.mono ?_); rintro e w2 ⟨uAY, rfl, a1, k1⟩)
  replace HB := Lib.hid (below_block k1 (lt_of_block HB.out) HB.out)
  replace H8 := Lib.hid (below_block k1 (lt_of_block H8.out) H8.out)
  replace H9 := Lib.hid (below_block k1 (lt_of_block H9.out) H9.out)
  replace HR := Lib.hid (HR.out.below k1)
  replace HRR := Lib.hid (HRR.out.below k1)
  replace AX := Lib.hid (AX.out.below k1)
  replace KW := Lib.hid (KW.out.trans (k1.mono KW.out.size))
  have AY := Lib.hid a1
  clear NC a1 k1 x0 x1 x2
  have NAY := Lib.hid (show (namesB l).length ≤ 100 from Nat.le_trans (names_len l).2 hl.out)
  have x0 : w2.cell? ⟨w.heap.size, 0, none⟩ = some (.bool ex) := cell_of_block HB.out rfl
  have x1 : w2.cell? ⟨w.heap.size, 1, none⟩ = some (.int .i64 tm) := cell_of_block HB.out rfl
  have x2 : w2.cell? ⟨w.heap.size, 2, none⟩ = some (.slice q n c) := cell_of_block HB.out rfl
  go_upto_region 4 with fail
  have kA : Below w2.heap.size w2 (w2.alloc (.cells #[.bool true, .int .i64 tm, .slice none 0 0] 24)) := (Below.refl _ _).alloc (Nat.le_refl _) _
  have gp := Lib.hid (show w.heap.size ≤ w2.heap.size from KW.out.size)
  have nbp := Lib.hid (Nat.ne_of_lt (lt_of_block HB.out))
  have n8p := Lib.hid (Nat.ne_of_lt (lt_of_block H8.out))
  have n9p := Lib.hid (Nat.ne_of_lt (lt_of_block H9.out))
  replace HB := Lib.hid (below_block kA (lt_of_block HB.out) HB.out)
  replace H8 := Lib.hid (below_block kA (lt_of_block H8.out) H8.out)
  replace H9 := Lib.hid (below_block kA (lt_of_block H9.out) H9.out)
  replace HR := Lib.hid (HR.out.below kA)
  replace HRR := Lib.hid (HRR.out.below kA)
  replace AX := Lib.hid (AX.out.below kA)
  replace AY := Lib.hid (AY.out.below kA)
  replace KW := Lib.hid (KW.out.trans (kA.mono KW.out.size))
  have HP := Lib.hid (HasS17.new w2 true (tm))
  have NP := Lib.hid (show ([] : List Tm).length ≤ 0 from Nat.le_refl _)
  clear kA x0 x1 x2
  generalize w2.alloc (.cells #[.bool true, .int .i64 tm, .slice none 0 0] 24) = w3 at HB H8 H9 HR HRR KW AX AY HP ⊢
  generalize w2.heap.size = pb at gp nbp n8p n9p HP ⊢
  go_upto_region 5 with fail
  have kA : Below w3.heap.size w3 (w3.alloc (.cells #[.bool false, .slice none 0 0] 47)) := (Below.refl _ _).alloc (Nat.le_refl _) _
  have gk := Lib.hid (show w.heap.size ≤ w3.heap.size from KW.out.size)
  have nbk := Lib.hid (Nat.ne_of_lt (lt_of_block HB.out))
  have n8k := Lib.hid (Nat.ne_of_lt (lt_of_block H8.out))
  have n9k := Lib.hid (Nat.ne_of_lt (lt_of_block H9.out))
  have npk := Lib.hid (Nat.ne_of_lt HP.out.lt)
  have nap := Lib.hid (Ne.symm npk.out)
  replace HB := Lib.hid (below_block kA (lt_of_block HB.out) HB.out)
  replace H8 := Lib.hid (below_block kA (lt_of_block H8.out) H8.out)
  replace H9 := Lib.hid (below_block kA (lt_of_block H9.out) H9.out)
  replace HR := Lib.hid (HR.out.below kA)
  replace HRR := Lib.hid (HRR.out.below kA)
  replace AX := Lib.hid (AX.out.below kA)
  replace AY := Lib.hid (AY.out.below kA)
  replace HP := Lib.hid (HP.out.below kA)
  replace KW := Lib.hid (KW.out.trans (kA.mono KW.out.size))
  have HA := Lib.hid (heap_new w3 (.cells #[.bool false, .slice none 0 0] 47))
  clear kA
  generalize w3.alloc (.cells #[.bool false, .slice none 0 0] 47) = w4 at HB H8 H9 HA HR HRR KW AX AY HP ⊢
  generalize w3.heap.size = kb at gk nbk n8k n9k npk nap HA ⊢
  have LC := Lib.hid (join17_c _ _ (namesR l) (namesB l) w4 (Nat.le_trans NAX.out (by decide)) (Nat.le_trans NAY.out (by decide)) AX.out AY.out)
  unfold MPost at LC
  go_wp2_with fail
  ((with_reducible refine LC.out.mono ?_); rintro e w5 ⟨uAJ, rfl, a1, k1⟩)
  replace HB := Lib.hid (below_block k1 (lt_of_block HB.out) HB.out)
  replace H8 := Lib.hid (below_block k1 (lt_of_block H8.out) H8.out)
  replace H9 := Lib.hid (below_block k1 (lt_of_block H9.out) H9.out)
  replace HA := Lib.hid (below_block k1 (lt_of_block HA.out) HA.out)
  replace HR := Lib.hid (HR.out.below k1)
  replace HRR := Lib.hid (HRR.out.below k1)
  replace AX := Lib.hid (AX.out.below k1)
  replace AY := Lib.hid (AY.out.below k1)
  replace HP := Lib.hid (HP.out.below k1)
  replace KW := Lib.hid (KW.out.trans (k1.mono KW.out.size))
  have AJ := Lib.hid a1.at
  clear LC a1 k1
  have NAJ := Lib.hid (show (ris (namesR l ++ namesB l)).length ≤ 200 from Nat.le_trans (ris_len _) (by rw [List.length_append]; exact Nat.add_le_add NAX.out NAY.out))
  have LC := Lib.hid (rless17_c _ _ (r) (ris (namesR l ++ namesB l)) w5 (Nat.le_trans hr.out (by decide)) (Nat.le_trans NAJ.out (by decide)) HRR.out AJ.out)
  unfold MPost at LC
  go_wp2_with fail
  ((with_reducible refine LC.out.mono ?_); rintro e w6 ⟨uAR, rfl, a1, k1⟩)
  replace HB := Lib.hid (below_block k1 (lt_of_block HB.out) HB.out)
  replace H8 := Lib.hid (below_block k1 (lt_of_block H8.out) H8.out)
  replace H9 := Lib.hid (below_block k1 (lt_of_block H9.out) H9.out)
  replace HA := Lib.hid (below_block k1 (lt_of_block HA.out) HA.out)
  replace HR := Lib.hid (HR.out.below k1)
  replace HRR := Lib.hid (HRR.out.below k1)
  replace AX := Lib.hid (AX.out.below k1)
  replace AY := Lib.hid (AY.out.below k1)
  replace AJ := Lib.hid (AJ.out.below k1)
  replace HP := Lib.hid (HP.out.below k1)
  replace KW := Lib.hid (KW.out.trans (k1.mono KW.out.size))
  have AR := Lib.hid a1.at
  clear LC a1 k1
  have NAR := Lib.hid (show (lessF (r) (ris (namesR l ++ namesB l))).length ≤ 100 from Nat.le_trans (less_len2 _ _) hr.out)
  have PC := Lib.hid (all17_c HP.out _ (namesB l) AY.out (Nat.le_trans (Nat.add_le_add NP.out NAY.out) (by decide)) 0)
  unfold PuPost at PC
  go_wp2_with fail
  ((with_reducible refine PC.out.mono ?_); rintro e w7 ⟨rfl, hs9, kt⟩)
  replace HB := Lib.hid (blk_tw kt HB.out nbp.out)
  replace H8 := Lib.hid (blk_tw kt H8.out n8p.out)
  replace H9 := Lib.hid (blk_tw kt H9.out n9p.out)
  replace HA := Lib.hid (blk_tw kt HA.out nap.out)
  replace HR := Lib.hid (HP.out.rows kt HR.out)
  replace HRR := Lib.hid (HP.out.addrs kt HRR.out)
  replace AX := Lib.hid (HP.out.addrs kt AX.out)
  replace AY := Lib.hid (HP.out.addrs kt AY.out)
  replace AJ := Lib.hid (HP.out.addrs kt AJ.out)
  replace AR := Lib.hid (HP.out.addrs kt AR.out)
  replace KW := Lib.hid (bel_tw KW.out gp.out kt)
  replace HP := Lib.hid (hs9)
  clear PC hs9 kt
  replace NP := Lib.hid (show (allS ([]) (namesB l) (0)).length ≤ 100 from Nat.le_trans (allS_len _ _ _) (Nat.add_le_add NP.out NAY.out))
  have x0 : w7.cell? ⟨w.heap.size, 0, none⟩ = some (.bool ex) := cell_of_block HB.out rfl
  have x1 : w7.cell? ⟨w.heap.size, 1, none⟩ = some (.int .i64 tm) := cell_of_block HB.out rfl
  have x2 : w7.cell? ⟨w.heap.size, 2, none⟩ = some (.slice q n c) := cell_of_block HB.out rfl
  have PC := Lib.hid (kept17_c HP.out _ (namesR l) AX.out (Nat.le_trans (Nat.add_le_add NP.out NAX.out) (by decide)) ex tm _ l hl6.out HR.out)
  unfold PuPost at PC
  go_wp2_with fail
  ((with_reducible refine PC.out.mono ?_); rintro e w8 ⟨rfl, hs9, kt⟩)
  replace HB := Lib.hid (blk_tw kt HB.out nbp.out)
  replace H8 := Lib.hid (blk_tw kt H8.out n8p.out)
  replace H9 := Lib.hid (blk_tw kt H9.out n9p.out)
  replace HA := Lib.hid (blk_tw kt HA.out nap.out)
  replace HR := Lib.hid (HP.out.rows kt HR.out)
  replace HRR := Lib.hid (HP.out.addrs kt HRR.out)
  replace AX := Lib.hid (HP.out.addrs kt AX.out)
  replace AY := Lib.hid (HP.out.addrs kt AY.out)
  replace AJ := Lib.hid (HP.out.addrs kt AJ.out)
  replace AR := Lib.hid (HP.out.addrs kt AR.out)
  replace KW := Lib.hid (bel_tw KW.out gp.out kt)
  replace HP := Lib.hid (hs9)
  clear PC hs9 kt x0 x1 x2
  replace NP := Lib.hid (show (keptS (allS ([]) (namesB l) (0)) (namesR l) l).length ≤ 200 from Nat.le_trans (keptS_len _ _ _) (Nat.add_le_add NP.out NAX.out))
  have x0 : w8.cell? ⟨w.heap.size, 0, none⟩ = some (.bool ex) := cell_of_block HB.out rfl
  have x1 : w8.cell? ⟨w.heap.size, 1, none⟩ = some (.int .i64 tm) := cell_of_block HB.out rfl
  have x2 : w8.cell? ⟨w.heap.size, 2, none⟩ = some (.slice q n c) := cell_of_block HB.out rfl
  have PC := Lib.hid (all17_c HP.out _ (lessF (r) (ris (namesR l ++ namesB l))) AR.out (Nat.le_trans (Nat.add_le_add NP.out NAR.out) (by decide)) tm)
  unfold PuPost at PC
  go_wp2_with fail
  ((with_reducible refine PC.out.mono ?_); rintro e w9 ⟨rfl, hs9, kt⟩)
  replace HB := Lib.hid (blk_tw kt HB.out nbp.out)
  replace H8 := Lib.hid (blk_tw kt H8.out n8p.out)
  replace H9 := Lib.hid (blk_tw kt H9.out n9p.out)
  replace HA := Lib.hid (blk_tw kt HA.out nap.out)
  replace HR := Lib.hid (HP.out.rows kt HR.out)
  replace HRR := Lib.hid (HP.out.addrs kt HRR.out)
  replace AX := Lib.hid (HP.out.addrs kt AX.out)
  replace AY := Lib.hid (HP.out.addrs kt AY.out)
  replace AJ := Lib.hid (HP.out.addrs kt AJ.out)
  replace AR := Lib.hid (HP.out.addrs kt AR.out)
  replace KW := Lib.hid (bel_tw KW.out gp.out kt)
  replace HP := Lib.hid (hs9)
  clear PC hs9 kt x0 x1 x2
  replace NP := Lib.hid (show (allS (keptS (allS ([]) (namesB l) (0)) (namesR l) l) (lessF (r) (ris (namesR l ++ namesB l))) (tm)).length ≤ 300 from Nat.le_trans (allS_len _ _ _) (Nat.add_le_add NP.out NAR.out))
  have LC := Lib.hid (rless17_c _ _ (r) (namesB l) w9 (Nat.le_trans hr.out (by decide)) (Nat.le_trans NAY.out (by decide)) HRR.out AY.out)
  unfold MPost at LC
  go_wp2_with fail
  ((with_reducible refine LC.out.mono ?_); rintro e w10 ⟨uAM, rfl, a1, k1⟩)
  replace HB := Lib.hid (below_block k1 (lt_of_block HB.out) HB.out)
  replace H8 := Lib.hid (below_block k1 (lt_of_block H8.out) H8.out)
  replace H9 := Lib.hid (below_block k1 (lt_of_block H9.out) H9.out)
  replace HA := Lib.hid (below_block k1 (lt_of_block HA.out) HA.out)
  replace HR := Lib.hid (HR.out.below k1)
  replace HRR := Lib.hid (HRR.out.below k1)
  replace AX := Lib.hid (AX.out.below k1)
  replace AY := Lib.hid (AY.out.below k1)
  replace AJ := Lib.hid (AJ.out.below k1)
  replace AR := Lib.hid (AR.out.below k1)
  replace HP := Lib.hid (HP.out.below k1)
  replace KW := Lib.hid (KW.out.trans (k1.mono KW.out.size))
  have AM := Lib.hid a1.at
  clear LC a1 k1
  have NAM := Lib.hid (show (lessF (r) (namesB l)).length ≤ 100 from Nat.le_trans (less_len2 _ _) hr.out)
  obtain ⟨aq, an, ac, rfl⟩ := addrs_slice3 AM.out
  have BA := HA.out
  have z1 := cell_of_block (j := 1) BA rfl
  have fz1 := free_of_block (j := 1) BA
  go_upto_region 28 with fail
  have kt : Tw w10 (w10.setCell ⟨kb, 1, none⟩ (.slice aq an ac)) kb kb := tw_set w10 kb 1 (.slice aq an ac)
  have BN : ((w10.setCell ⟨kb, 1, none⟩ (.slice aq an ac))).heap[kb]? = some (.cells #[.bool false, .slice aq an ac] 47 (0, 0)) := (heap_store (j := 1) (v := .slice aq an ac) BA)
  replace HB := Lib.hid (blk_tw kt HB.out nbk.out)
  replace H8 := Lib.hid (blk_tw kt H8.out n8k.out)
  replace H9 := Lib.hid (blk_tw kt H9.out n9k.out)
  replace HP := Lib.hid (HP.out.far HA.out no_str2 kt npk.out)
  replace AM := Lib.hid (addrs_tw AM.out HA.out no_str2 kt)
  replace KW := Lib.hid (bel_tw KW.out gk.out kt)
  replace HA := Lib.hid BN
  clear kt BN BA z1 fz1
  clear HR HRR AX AY AJ AR
  generalize (w10.setCell ⟨kb, 1, none⟩ (.slice aq an ac)) = w11 at HB H8 H9 HP HA KW AM ⊢
  have AF := Lib.hid (AM.out)
  clear AM
  obtain ⟨pv, PB, PR⟩ := HP.out
  obtain ⟨pq, pn, pc, rfl⟩ := rows_slice3 PR
  have RF := Lib.hid PR
  have hb := HA.out
  have h8 := H8.out
  have h9 := H9.out
  have rf := RF.out
  have af := AF.out
  have kk := KW.out
  have KF := Lib.hid (show ∀ U : World, U.heap[pb]? = some (.cells #[.bool true, .int .i64 (tm), .slice pq pn pc] 24 (0, 0)) → U.heap[kb]? = some (.cells #[.bool false, .slice aq an ac] 47 (0, 0)) → (U.cell? ⟨pb, 0, none⟩ = some (.bool true) ∧ U.cell? ⟨pb, 1, none⟩ = some (.int .i64 (tm)) ∧ U.cell? ⟨pb, 2, none⟩ = some (.slice pq pn pc) ∧ U.cell? ⟨kb, 0, none⟩ = some (.bool false) ∧ U.cell? ⟨kb, 1, none⟩ = some (.slice aq an ac)) from fun U h1 h2 => ⟨cell_of_block h1 rfl, cell_of_block h1 rfl, cell_of_block h1 rfl, cell_of_block h2 rfl, cell_of_block h2 rfl⟩)
  clear RF AF PR HP HA HB H8 H9 KW
  refine wp_region_held_drew (S := fun U => U.cell? ⟨pb, 0, none⟩ = some (.bool true) ∧ U.cell? ⟨pb, 1, none⟩ = some (.int .i64 (tm)) ∧ U.cell? ⟨pb, 2, none⟩ = some (.slice pq pn pc) ∧ U.cell? ⟨kb, 0, none⟩ = some (.bool false) ∧ U.cell? ⟨kb, 1, none⟩ = some (.slice aq an ac)) (by kernel_rfl) (KF.out _ PB hb) (fun hH => ?_)
  replace h8 : w11.drew.heap[e8]? = _ := h8
  replace h9 : w11.drew.heap[e9]? = _ := h9
  replace PB : w11.drew.heap[pb]? = _ := PB
  replace hb : w11.drew.heap[kb]? = _ := hb
  replace rf := rf.below (show Below w11.heap.size w11 w11.drew from (Below.refl _ _).drew)
  replace af := af.below (show Below w11.heap.size w11 w11.drew from (Below.refl _ _).drew)
  replace kk := kk.drew
  generalize w11.drew = Y0 at h8 h9 PB hb rf af kk hH ⊢
  have nk8 := Lib.hid (Ne.symm n8k.out)
  have nk9 := Lib.hid (Ne.symm n9k.out)
  have np8 := Lib.hid (Ne.symm n8p.out)
  have np9 := Lib.hid (Ne.symm n9p.out)
  refine wpAnyH_take (i := 0) (oi := { dst := some 88, op := Op.load 24 (Operand.tmp 12), type := 24, pos := "ref.go:152", after := #[], guard := none }) (v := .agg #[.bool true, .int .i64 (tm), .slice pq pn pc]) rfl (by kernel_rfl) (by kernel_rfl) (by kernel_rfl) (fun _ _ _ h => h) (Or.inl ⟨by kernel_rfl, ?_⟩) hH ?_
  · intro w hSw; (try dsimp only at hSw); go_simp; (try rfl)
  try simp only [Act.put, List.setIfInBounds_toArray, List.set_cons_zero, List.set_cons_succ]
  refine wpAnyH_take (i := 1) (oi := { dst := some 89, op := Op.load 47 (Operand.tmp 13), type := 47, pos := "ref.go:152", after := #[{ on := 2, ground := Ground.gcOnly Departure.lateStores }], guard := none }) (v := .agg #[.bool false, .slice aq an ac]) rfl (by kernel_rfl) (by kernel_rfl) (by kernel_rfl) (fun _ _ _ h => h) (Or.inl ⟨by kernel_rfl, ?_⟩) hH ?_
  · intro w hSw; (try dsimp only at hSw); go_simp; (try rfl)
  try simp only [Act.put, List.setIfInBounds_toArray, List.set_cons_zero, List.set_cons_succ]
  refine wpAnyH_ready (rs := [2]) (by kernel_rfl) (by simp) ?_
  refine AllReadyH.cons rfl (fun K hK => ?_) AllReadyH.nil
  have z0 := cell_of_block (j := 0) h8 rfl
  have fz0 := free_of_block (j := 0) h8
  have z1 := cell_of_block (j := 1) h8 rfl
  have fz1 := free_of_block (j := 1) h8
  have z2 := cell_of_block (j := 2) h8 rfl
  have fz2 := free_of_block (j := 2) h8
  go_simp
  clear z0 fz0 z1 fz1 z2 fz2
  have kt : Tw Y0 (((Y0.setCell ⟨e8, 0, none⟩ (.bool true)).setCell ⟨e8, 1, none⟩ (.int .i64 (tm))).setCell ⟨e8, 2, none⟩ (.slice pq pn pc)) e8 e8 := ((tw_set Y0 e8 0 (.bool true)).trans (tw_set (Y0.setCell ⟨e8, 0, none⟩ (.bool true)) e8 1 (.int .i64 (tm)))).trans (tw_set ((Y0.setCell ⟨e8, 0, none⟩ (.bool true)).setCell ⟨e8, 1, none⟩ (.int .i64 (tm))) e8 2 (.slice pq pn pc))
  replace rf := rows_tw rf h8 no_str kt
  replace af := addrs_tw af h8 no_str kt
  replace kk := bel_tw kk g8.out kt
  replace h9 := blk_tw kt h9 n98.out
  replace PB := blk_tw kt PB np8.out
  replace hb := blk_tw kt hb nk8.out
  replace h8 : ((((Y0.setCell ⟨e8, 0, none⟩ (.bool true)).setCell ⟨e8, 1, none⟩ (.int .i64 (tm))).setCell ⟨e8, 2, none⟩ (.slice pq pn pc))).heap[e8]? = some (.cells #[.bool true, .int .i64 (tm), .slice pq pn pc] 24 (0, 0)) := (heap_store (j := 2) (v := .slice pq pn pc) (heap_store (j := 1) (v := .int .i64 (tm)) (heap_store (j := 0) (v := .bool true) h8)))
  clear kt
  refine hK.out _ _ (KF.out _ PB hb) (fun hH => ?_)
  clear hK K
  try simp only [Act.put, List.setIfInBounds_toArray, List.set_cons_zero, List.set_cons_succ]
  generalize (((Y0.setCell ⟨e8, 0, none⟩ (.bool true)).setCell ⟨e8, 1, none⟩ (.int .i64 (tm))).setCell ⟨e8, 2, none⟩ (.slice pq pn pc)) = Y1 at h8 h9 PB hb rf af kk hH ⊢
  refine wpAnyH_ready (rs := [3]) (by kernel_rfl) (by simp) ?_
  refine AllReadyH.cons rfl (fun K hK => ?_) AllReadyH.nil
  have z0 := cell_of_block (j := 0) h9 rfl
  have fz0 := free_of_block (j := 0) h9
  have z1 := cell_of_block (j := 1) h9 rfl
  have fz1 := free_of_block (j := 1) h9
  go_simp
  clear z0 fz0 z1 fz1
  have kt : Tw Y1 ((Y1.setCell ⟨e9, 0, none⟩ (.bool false)).setCell ⟨e9, 1, none⟩ (.slice aq an ac)) e9 e9 := (tw_set Y1 e9 0 (.bool false)).trans (tw_set (Y1.setCell ⟨e9, 0, none⟩ (.bool false)) e9 1 (.slice aq an ac))
  replace rf := rows_tw rf h9 no_str2 kt
  replace af := addrs_tw af h9 no_str2 kt
  replace kk := bel_tw kk g9.out kt
  replace h8 := blk_tw kt h8 n89.out
  replace PB := blk_tw kt PB np9.out
  replace hb := blk_tw kt hb nk9.out
  replace h9 : (((Y1.setCell ⟨e9, 0, none⟩ (.bool false)).setCell ⟨e9, 1, none⟩ (.slice aq an ac))).heap[e9]? = some (.cells #[.bool false, .slice aq an ac] 47 (0, 0)) := (heap_store (j := 1) (v := .slice aq an ac) (heap_store (j := 0) (v := .bool false) h9))
  clear kt
  refine hK.out _ _ (KF.out _ PB hb) (fun hH => ?_)
  clear hK K
  try simp only [Act.put, List.setIfInBounds_toArray, List.set_cons_zero, List.set_cons_succ]
  generalize ((Y1.setCell ⟨e9, 0, none⟩ (.bool false)).setCell ⟨e9, 1, none⟩ (.slice aq an ac)) = Y2 at h8 h9 PB hb rf af kk hH ⊢
  refine wpAnyH_done (by kernel_rfl) ?_ _
  have HF := Lib.hid (HQ.out _ _ _ rf af kk)
  have y0 := cell_of_block (j := 0) h8 rfl
  have y1 := cell_of_block (j := 1) h8 rfl
  have y2 := cell_of_block (j := 2) h8 rfl
  have y3 := cell_of_block (j := 0) h9 rfl
  have y4 := cell_of_block (j := 1) h9 rfl
  have of8 := (fun j : Nat => free_of_block (j := j) h8)
  have of9 := (fun j : Nat => free_of_block (j := j) h9)
  clear hH h8 h9 PB hb rf af kk HQ KF
  go_wp2_with fail
  exact bodyPost_ret (v := .tuple #[.agg #[.bool true, .int .i64 (tm), .slice pq pn pc], .agg #[.bool false, .slice aq an ac]]) (by simp [results, Try.results37, go_sem, y0, y1, y2, y3, y4]) rfl HF.out

end Go.Proofs.Ytceilgeefegbmaa
