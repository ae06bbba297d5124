/-
  The document's Apply: what is told. Contract over the translated program.
-/
import Derived.Test.YtceilgeefegbmaaGpH
import Derived.Deep.RegionHeld3
namespace Go.Proofs.Ytceilgeefegbmaa
open Go Go.Maps Go.WideMaps
open Go.RowKit
set_option linter.unusedVariables false
set_option linter.unusedSimpArgs false

set_option maxHeartbeats 16000000 in
set_option maxRecDepth 100000 in
theorem ap17_tn_long (tm : Int) (q : Option Addr) (n c : Nat) (sl : List Tm) (kd : Int) (gp : ByteArray) (rp : Option Addr) (rn rc : Nat) (rs : List ByteArray) (now m l : Int) (w : World) (hl0 : sl.length ≤ 100) (hr0 : rs.length ≤ 100) (hrn0 : rn = rs.length) (hR : RowsAt 2 cellsTm w (.slice q n c) sl) (hRR : AddrsAt w (.slice rp rn rc) rs) (hok : okS ⟨false, tm, sl⟩ = true) (hm0 : mayT m l now = true) (hr1 : recT kd rs = true) (cx : Bool) (ct : Int) (cs : List Tm) (cg : Bool) (ca : List ByteArray) (hC : somP sl kd (ris rs) (now + m) = ⟨cx, ct, cs, cg, ca⟩) (hb : 60 < cs.length) (T : Int) (hT0 : T = if cg then min ct (now + l) else ct) (S : List Tm) (hS0 : S = askS cs ca (now + l)) :
    Calls Try.prog 21 #[.agg #[.bool false, .int .i64 tm, .slice q n c], .bool true, .agg #[.int .i64 kd, .string gp, .slice rp rn rc], .int .i64 now, .int .i64 m, .int .i64 l] w (ApPost (noA 1) w) := by
  have k0 : Below w.heap.size w ((((w.alloc (.cells #[.bool false, .int .i64 tm, .slice q n c] 24)).alloc (.cells #[.int .i64 kd, .string gp, .slice rp rn rc] 37)).alloc (.cells #[.bool false, .int .i64 0, .slice none 0 0] 24)).alloc (.cells #[.bool false, .slice none 0 0] 47)) := ((((Below.refl _ _).alloc (Nat.le_refl _) _).alloc (by simp) _).alloc (by simp; omega) _).alloc (by simp; omega) _
  have KW := Lib.hid k0
  have B_s := Lib.hid (show ((((w.alloc (.cells #[.bool false, .int .i64 tm, .slice q n c] 24)).alloc (.cells #[.int .i64 kd, .string gp, .slice rp rn rc] 37)).alloc (.cells #[.bool false, .int .i64 0, .slice none 0 0] 24)).alloc (.cells #[.bool false, .slice none 0 0] 47)).heap[w.heap.size]? = some (.cells #[.bool false, .int .i64 tm, .slice q n c] 24) from heap_old (heap_old (heap_old (heap_new w (.cells #[.bool false, .int .i64 tm, .slice q n c] 24)))))
  have B_r := Lib.hid (show ((((w.alloc (.cells #[.bool false, .int .i64 tm, .slice q n c] 24)).alloc (.cells #[.int .i64 kd, .string gp, .slice rp rn rc] 37)).alloc (.cells #[.bool false, .int .i64 0, .slice none 0 0] 24)).alloc (.cells #[.bool false, .slice none 0 0] 47)).heap[w.heap.size + 1]? = some (.cells #[.int .i64 kd, .string gp, .slice rp rn rc] 37) from heap_old (heap_old (by simpa using heap_new (w.alloc (.cells #[.bool false, .int .i64 tm, .slice q n c] 24)) (.cells #[.int .i64 kd, .string gp, .slice rp rn rc] 37))))
  have B_o := Lib.hid (show ((((w.alloc (.cells #[.bool false, .int .i64 tm, .slice q n c] 24)).alloc (.cells #[.int .i64 kd, .string gp, .slice rp rn rc] 37)).alloc (.cells #[.bool false, .int .i64 0, .slice none 0 0] 24)).alloc (.cells #[.bool false, .slice none 0 0] 47)).heap[w.heap.size + 1 + 1]? = some (.cells #[.bool false, .int .i64 0, .slice none 0 0] 24) from heap_old (by simpa using heap_new ((w.alloc (.cells #[.bool false, .int .i64 tm, .slice q n c] 24)).alloc (.cells #[.int .i64 kd, .string gp, .slice rp rn rc] 37)) (.cells #[.bool false, .int .i64 0, .slice none 0 0] 24)))
  have B_a := Lib.hid (show ((((w.alloc (.cells #[.bool false, .int .i64 tm, .slice q n c] 24)).alloc (.cells #[.int .i64 kd, .string gp, .slice rp rn rc] 37)).alloc (.cells #[.bool false, .int .i64 0, .slice none 0 0] 24)).alloc (.cells #[.bool false, .slice none 0 0] 47)).heap[w.heap.size + 1 + 1 + 1]? = some (.cells #[.bool false, .slice none 0 0] 47) from by simpa using heap_new (((w.alloc (.cells #[.bool false, .int .i64 tm, .slice q n c] 24)).alloc (.cells #[.int .i64 kd, .string gp, .slice rp rn rc] 37)).alloc (.cells #[.bool false, .int .i64 0, .slice none 0 0] 24)) (.cells #[.bool false, .slice none 0 0] 47))
  have HR := Lib.hid (hR.below k0)
  have HRR := Lib.hid (hRR.below k0)
  have ge_s := Lib.hid (Nat.le_refl w.heap.size)
  have ge_r := Lib.hid (show w.heap.size ≤ w.heap.size + 1 from by omega)
  have ge_o := Lib.hid (show w.heap.size ≤ w.heap.size + 1 + 1 from by omega)
  have ge_a := Lib.hid (show w.heap.size ≤ w.heap.size + 1 + 1 + 1 from by omega)
  have ne_s_r := Lib.hid (show w.heap.size ≠ w.heap.size + 1 from by omega)
  have ne_s_o := Lib.hid (show w.heap.size ≠ w.heap.size + 1 + 1 from by omega)
  have ne_s_a := Lib.hid (show w.heap.size ≠ w.heap.size + 1 + 1 + 1 from by omega)
  have ne_r_o := Lib.hid (show w.heap.size + 1 ≠ w.heap.size + 1 + 1 from by omega)
  have ne_r_a := Lib.hid (show w.heap.size + 1 ≠ w.heap.size + 1 + 1 + 1 from by omega)
  have ne_o_a := Lib.hid (show w.heap.size + 1 + 1 ≠ w.heap.size + 1 + 1 + 1 from by omega)
  have HQ := Lib.hid (show ∀ U, Below w.heap.size w U → ApPost (noA 1) w (.returned (.tuple #[.agg #[.bool false, .int .i64 0, .slice none 0 0], .bool false, .agg #[.bool false, .slice none 0 0], .int .i64 1])) U from fun U k => ⟨_, _, rfl, RowsAt.nil _, AddrsG.nil _ _ _, k⟩)
  generalize ApPost (noA 1) w = Q at HQ ⊢
  have hl6 := Lib.hid (Nat.le_trans hl0 (show 100 ≤ 1000000 by decide))
  have hr6 := Lib.hid (Nat.le_trans hr0 (show 100 ≤ 1000000 by decide))
  have hchk := Lib.hid (show chkS ⟨false, tm, sl⟩ = 0 from by unfold chkS; rw [hok]; rfl)
  clear hok
  have hm := Lib.hid hm0
  have HCa := Lib.hid hC
  have hT := Lib.hid hT0
  have hS := Lib.hid hS0
  have hmay : 1 ≤ m ∧ m ≤ 1000000 ∧ 1 ≤ l ∧ l ≤ 1000000 ∧ 1 ≤ now ∧ now ≤ 1099511627776 := by
    have := hm0
    unfold mayT at this
    simp only [Bool.and_eq_true, decide_eq_true_iff] at this
    omega
  have hrec : 1 ≤ kd ∧ kd ≤ 6 ∧ rn ≤ 60 := by
    have := hr1
    unfold recT at this
    simp only [Bool.and_eq_true, decide_eq_true_iff] at this
    omega
  obtain ⟨q1, q2, q3⟩ := hrec
  obtain ⟨m1, m2, l1, l2, o1, o2⟩ := hmay
  have hrl := Lib.hid (show (ris rs).length ≤ 100 from Nat.le_trans (ris_len rs) hr0)
  have hll := Lib.hid hl0
  have hq1 := Lib.hid q1
  have hq2 := Lib.hid q2
  have hal := Lib.hid (show ca.length ≤ 100 from by have h := som_al (l := sl) hl0 (Nat.le_trans (ris_len rs) hr0) kd (now + m); rw [hC] at h; exact h)
  have d1 : decide (kd < 1) = false := decide_eq_false (by omega)
  have d2 : decide (6 < kd) = false := decide_eq_false (by omega)
  have d3 : decide (60 < (rn : Int)) = false := decide_eq_false (by omega)
  have d4 : decide (60 < rn) = false := decide_eq_false (by omega)
  have aw1 : wrap64 (now + m) = now + m := by unfold wrap64; omega
  have aw2 : wrap64 (now + l) = now + l := by unfold wrap64; omega
  obtain ⟨cn, hcn⟩ : ∃ cn, cn = cs.length := ⟨_, rfl⟩
  have HCN := Lib.hid hcn
  obtain ⟨sn, hsn⟩ : ∃ sn, sn = S.length := ⟨_, rfl⟩
  have HSN := Lib.hid hsn
  have f1 : decide (60 < cn) = true := decide_eq_true (by rw [hcn]; exact hb)
  have f2 : decide (60 < (cn : Int)) = true := decide_eq_true (by rw [hcn]; omega)
  clear hm0 hC hT0 hS0 hr1 hcn hsn hb q1 q2 q3 m1 m2 l1 l2 o1 o2 hl0 hr0 hrn0
  clear k0 hR hRR
  go_enter Try.func21, Try.ntmps21
  go_upto_region 1 with fail
  generalize ((((w.alloc (.cells #[.bool false, .int .i64 tm, .slice q n c] 24)).alloc (.cells #[.int .i64 kd, .string gp, .slice rp rn rc] 37)).alloc (.cells #[.bool false, .int .i64 0, .slice none 0 0] 24)).alloc (.cells #[.bool false, .slice none 0 0] 47)) = W at B_s B_r B_o B_a HR HRR KW ⊢
  generalize w.heap.size + 1 + 1 + 1 = e14 at B_a ge_a ne_s_a ne_r_a ne_o_a ⊢
  generalize w.heap.size + 1 + 1 = e12 at B_o ge_o ne_s_o ne_r_o ne_o_a ⊢
  generalize w.heap.size + 1 = rb at B_r ge_r ne_s_r ne_r_o ne_r_a ⊢
  have c_s0 : W.cell? ⟨w.heap.size, 0, none⟩ = some (.bool false) := cell_of_block B_s.out rfl
  have c_s1 : W.cell? ⟨w.heap.size, 1, none⟩ = some (.int .i64 tm) := cell_of_block B_s.out rfl
  have c_s2 : W.cell? ⟨w.heap.size, 2, none⟩ = some (.slice q n c) := cell_of_block B_s.out rfl
  have CN := Lib.hid (by have h := rchk17_c false tm (.slice q n c) sl W hl6.out HR.out; rw [hchk.out] at h; exact h)
  go_wp2_with fail
  ((with_reducible refine CN.out.mono ?_); rintro e v1 ⟨rfl, kb9⟩)
  clear c_s0 c_s1 c_s2
  replace B_s := Lib.hid (below_block kb9 (lt_of_block B_s.out) B_s.out)
  replace B_r := Lib.hid (below_block kb9 (lt_of_block B_r.out) B_r.out)
  replace B_o := Lib.hid (below_block kb9 (lt_of_block B_o.out) B_o.out)
  replace B_a := Lib.hid (below_block kb9 (lt_of_block B_a.out) B_a.out)
  replace HR := Lib.hid (HR.out.below kb9)
  replace HRR := Lib.hid (HRR.out.below kb9)
  replace KW := Lib.hid (KW.out.trans (kb9.mono KW.out.size))
  clear CN kb9
  have CN := Lib.hid (by have h := may17_c now m l v1; rw [hm.out] at h; exact h)
  go_wp2_with fail
  ((with_reducible refine CN.out.mono ?_); rintro e v2 ⟨rfl, kb9⟩)
  replace B_s := Lib.hid (below_block kb9 (lt_of_block B_s.out) B_s.out)
  replace B_r := Lib.hid (below_block kb9 (lt_of_block B_r.out) B_r.out)
  replace B_o := Lib.hid (below_block kb9 (lt_of_block B_o.out) B_o.out)
  replace B_a := Lib.hid (below_block kb9 (lt_of_block B_a.out) B_a.out)
  replace HR := Lib.hid (HR.out.below kb9)
  replace HRR := Lib.hid (HRR.out.below kb9)
  replace KW := Lib.hid (KW.out.trans (kb9.mono KW.out.size))
  clear CN kb9
  have c_r0 : v2.cell? ⟨rb, 0, none⟩ = some (.int .i64 kd) := cell_of_block B_r.out rfl
  have c_r1 : v2.cell? ⟨rb, 1, none⟩ = some (.string gp) := cell_of_block B_r.out rfl
  have c_r2 : v2.cell? ⟨rb, 2, none⟩ = some (.slice rp rn rc) := cell_of_block B_r.out rfl
  have CN := Lib.hid (rris_c (.slice rp rn rc) rs v2 hr6.out HRR.out)
  unfold MPost at CN
  go_wp2_with fail
  ((with_reducible refine CN.out.mono ?_); rintro e v3 ⟨ul, rfl, a9, kb9⟩)
  clear c_r0 c_r1 c_r2
  replace B_s := Lib.hid (below_block kb9 (lt_of_block B_s.out) B_s.out)
  replace B_r := Lib.hid (below_block kb9 (lt_of_block B_r.out) B_r.out)
  replace B_o := Lib.hid (below_block kb9 (lt_of_block B_o.out) B_o.out)
  replace B_a := Lib.hid (below_block kb9 (lt_of_block B_a.out) B_a.out)
  replace HR := Lib.hid (HR.out.below kb9)
  replace HRR := Lib.hid (HRR.out.below kb9)
  replace KW := Lib.hid (KW.out.trans (kb9.mono KW.out.size))
  have HL := Lib.hid a9.at
  clear CN kb9 a9
  have c_s0 : v3.cell? ⟨w.heap.size, 0, none⟩ = some (.bool false) := cell_of_block B_s.out rfl
  have c_s1 : v3.cell? ⟨w.heap.size, 1, none⟩ = some (.int .i64 tm) := cell_of_block B_s.out rfl
  have c_s2 : v3.cell? ⟨w.heap.size, 2, none⟩ = some (.slice q n c) := cell_of_block B_s.out rfl
  have c_r0 : v3.cell? ⟨rb, 0, none⟩ = some (.int .i64 kd) := cell_of_block B_r.out rfl
  have c_r1 : v3.cell? ⟨rb, 1, none⟩ = some (.string gp) := cell_of_block B_r.out rfl
  have c_r2 : v3.cell? ⟨rb, 2, none⟩ = some (.slice rp rn rc) := cell_of_block B_r.out rfl
  have CN := Lib.hid (some17_c false tm q n c sl kd ul (ris rs) (now + m) v3 hq1.out hq2.out hll.out hrl.out HR.out HL.out)
  rw [HCa.out] at CN
  unfold CgPost at CN
  go_wp2_with fail
  ((with_reducible refine CN.out.mono ?_); rintro e v4 ⟨vs0, va0, rfl, r9, a9, kb9⟩)
  clear c_s0 c_s1 c_s2 c_r0 c_r1 c_r2
  replace B_s := Lib.hid (below_block kb9 (lt_of_block B_s.out) B_s.out)
  replace B_r := Lib.hid (below_block kb9 (lt_of_block B_r.out) B_r.out)
  replace B_o := Lib.hid (below_block kb9 (lt_of_block B_o.out) B_o.out)
  replace B_a := Lib.hid (below_block kb9 (lt_of_block B_a.out) B_a.out)
  replace HR := Lib.hid (HR.out.below kb9)
  replace HRR := Lib.hid (HRR.out.below kb9)
  replace HL := Lib.hid (HL.out.below kb9)
  replace KW := Lib.hid (KW.out.trans (kb9.mono KW.out.size))
  simp only at r9 a9 ⊢
  obtain ⟨oq, oc, hov⟩ := r9.slice
  rw [← HCN.out] at hov
  subst hov
  obtain ⟨aq, an, ac, rfl⟩ := addrs_slice3 a9
  have RO := Lib.hid r9
  have AO := Lib.hid a9
  clear CN kb9 r9 a9
  go_upto_region 9 with fail
  have kA : Below v4.heap.size v4 ((v4.alloc (.cells #[.bool cx, .int .i64 ct, .slice oq cn oc] 24)).alloc (.cells #[.bool cg, .slice aq an ac] 47)) := ((Below.refl _ _).alloc (Nat.le_refl _) _).alloc (by simp) _
  have ge_p := Lib.hid (show w.heap.size ≤ v4.heap.size from KW.out.size)
  have ge_k := Lib.hid (show w.heap.size ≤ v4.heap.size + 1 from Nat.le_succ_of_le KW.out.size)
  have ne_p_k := Lib.hid (show v4.heap.size ≠ v4.heap.size + 1 from by omega)
  have ne_s_p := Lib.hid (Nat.ne_of_lt (lt_of_block B_s.out))
  have ne_s_k := Lib.hid (show w.heap.size ≠ v4.heap.size + 1 from Nat.ne_of_lt (Nat.lt_succ_of_lt (lt_of_block B_s.out)))
  have ne_r_p := Lib.hid (Nat.ne_of_lt (lt_of_block B_r.out))
  have ne_r_k := Lib.hid (show rb ≠ v4.heap.size + 1 from Nat.ne_of_lt (Nat.lt_succ_of_lt (lt_of_block B_r.out)))
  have ne_o_p := Lib.hid (Nat.ne_of_lt (lt_of_block B_o.out))
  have ne_o_k := Lib.hid (show e12 ≠ v4.heap.size + 1 from Nat.ne_of_lt (Nat.lt_succ_of_lt (lt_of_block B_o.out)))
  have ne_a_p := Lib.hid (Nat.ne_of_lt (lt_of_block B_a.out))
  have ne_a_k := Lib.hid (show e14 ≠ v4.heap.size + 1 from Nat.ne_of_lt (Nat.lt_succ_of_lt (lt_of_block B_a.out)))
  replace B_s := Lib.hid (below_block kA (lt_of_block B_s.out) B_s.out)
  replace B_r := Lib.hid (below_block kA (lt_of_block B_r.out) B_r.out)
  replace B_o := Lib.hid (below_block kA (lt_of_block B_o.out) B_o.out)
  replace B_a := Lib.hid (below_block kA (lt_of_block B_a.out) B_a.out)
  replace HR := Lib.hid (HR.out.below kA)
  replace HRR := Lib.hid (HRR.out.below kA)
  replace HL := Lib.hid (HL.out.below kA)
  replace RO := Lib.hid (RO.out.below kA)
  replace AO := Lib.hid (AO.out.below kA)
  replace KW := Lib.hid (KW.out.trans (kA.mono KW.out.size))
  have B_p := Lib.hid (show ((v4.alloc (.cells #[.bool cx, .int .i64 ct, .slice oq cn oc] 24)).alloc (.cells #[.bool cg, .slice aq an ac] 47)).heap[v4.heap.size]? = some (.cells #[.bool cx, .int .i64 ct, .slice oq cn oc] 24) from heap_old (heap_new v4 (.cells #[.bool cx, .int .i64 ct, .slice oq cn oc] 24)))
  have B_k := Lib.hid (show ((v4.alloc (.cells #[.bool cx, .int .i64 ct, .slice oq cn oc] 24)).alloc (.cells #[.bool cg, .slice aq an ac] 47)).heap[v4.heap.size + 1]? = some (.cells #[.bool cg, .slice aq an ac] 47) from by simpa using heap_new (v4.alloc (.cells #[.bool cx, .int .i64 ct, .slice oq cn oc] 24)) (.cells #[.bool cg, .slice aq an ac] 47))
  clear kA
  generalize (v4.alloc (.cells #[.bool cx, .int .i64 ct, .slice oq cn oc] 24)).alloc (.cells #[.bool cg, .slice aq an ac] 47) = v5 at B_s B_r B_o B_a B_p B_k HR HRR HL RO AO KW ⊢
  generalize v4.heap.size + 1 = kb at B_k ge_k ne_p_k ne_s_k ne_r_k ne_o_k ne_a_k ⊢
  generalize v4.heap.size = pb at B_p ge_p ne_p_k ne_s_p ne_r_p ne_o_p ne_a_p ⊢
  have c_s0 : v5.cell? ⟨w.heap.size, 0, none⟩ = some (.bool false) := cell_of_block B_s.out rfl
  have c_s1 : v5.cell? ⟨w.heap.size, 1, none⟩ = some (.int .i64 tm) := cell_of_block B_s.out rfl
  have c_s2 : v5.cell? ⟨w.heap.size, 2, none⟩ = some (.slice q n c) := cell_of_block B_s.out rfl
  have c_p0 : v5.cell? ⟨pb, 0, none⟩ = some (.bool cx) := cell_of_block B_p.out rfl
  have c_p1 : v5.cell? ⟨pb, 1, none⟩ = some (.int .i64 ct) := cell_of_block B_p.out rfl
  have c_p2 : v5.cell? ⟨pb, 2, none⟩ = some (.slice oq cn oc) := cell_of_block B_p.out rfl
  clear HR HRR HL RO AO
  have c_o0 : v5.cell? ⟨e12, 0, none⟩ = some (.bool false) := cell_of_block B_o.out rfl
  have c_o1 : v5.cell? ⟨e12, 1, none⟩ = some (.int .i64 0) := cell_of_block B_o.out rfl
  have c_o2 : v5.cell? ⟨e12, 2, none⟩ = some (.slice none 0 0) := cell_of_block B_o.out rfl
  have c_a0 : v5.cell? ⟨e14, 0, none⟩ = some (.bool false) := cell_of_block B_a.out rfl
  have c_a1 : v5.cell? ⟨e14, 1, none⟩ = some (.slice none 0 0) := cell_of_block B_a.out rfl
  have z_o := (fun j : Nat => free_of_block (j := j) B_o.out)
  have z_a := (fun j : Nat => free_of_block (j := j) B_a.out)
  have kt : Tw v5 (((v5.setCell ⟨e12, 0, none⟩ (.bool false)).setCell ⟨e12, 1, none⟩ (.int .i64 0)).setCell ⟨e12, 2, none⟩ (.slice none 0 0)) e12 e12 := ((tw_set v5 e12 0 (.bool false)).trans (tw_set (v5.setCell ⟨e12, 0, none⟩ (.bool false)) e12 1 (.int .i64 0))).trans (tw_set ((v5.setCell ⟨e12, 0, none⟩ (.bool false)).setCell ⟨e12, 1, none⟩ (.int .i64 0)) e12 2 (.slice none 0 0))
  replace B_s := Lib.hid (blk_tw kt B_s.out ne_s_o.out)
  replace B_r := Lib.hid (blk_tw kt B_r.out ne_r_o.out)
  replace B_a := Lib.hid (blk_tw kt B_a.out (Ne.symm ne_o_a.out))
  replace B_p := Lib.hid (blk_tw kt B_p.out (Ne.symm ne_o_p.out))
  replace B_k := Lib.hid (blk_tw kt B_k.out (Ne.symm ne_o_k.out))
  replace B_o := Lib.hid (show ((((v5.setCell ⟨e12, 0, none⟩ (.bool false)).setCell ⟨e12, 1, none⟩ (.int .i64 0)).setCell ⟨e12, 2, none⟩ (.slice none 0 0))).heap[e12]? = some (.cells #[.bool false, .int .i64 0, .slice none 0 0] 24 (0, 0)) from (heap_store (j := 2) (v := .slice none 0 0) (heap_store (j := 1) (v := .int .i64 0) (heap_store (j := 0) (v := .bool false) B_o.out))))
  replace KW := Lib.hid (bel_tw KW.out ge_o.out kt)
  clear kt
  have kt : Tw (((v5.setCell ⟨e12, 0, none⟩ (.bool false)).setCell ⟨e12, 1, none⟩ (.int .i64 0)).setCell ⟨e12, 2, none⟩ (.slice none 0 0)) (((((v5.setCell ⟨e12, 0, none⟩ (.bool false)).setCell ⟨e12, 1, none⟩ (.int .i64 0)).setCell ⟨e12, 2, none⟩ (.slice none 0 0)).setCell ⟨e14, 0, none⟩ (.bool false)).setCell ⟨e14, 1, none⟩ (.slice none 0 0)) e14 e14 := (tw_set (((v5.setCell ⟨e12, 0, none⟩ (.bool false)).setCell ⟨e12, 1, none⟩ (.int .i64 0)).setCell ⟨e12, 2, none⟩ (.slice none 0 0)) e14 0 (.bool false)).trans (tw_set ((((v5.setCell ⟨e12, 0, none⟩ (.bool false)).setCell ⟨e12, 1, none⟩ (.int .i64 0)).setCell ⟨e12, 2, none⟩ (.slice none 0 0)).setCell ⟨e14, 0, none⟩ (.bool false)) e14 1 (.slice none 0 0))
  replace B_s := Lib.hid (blk_tw kt B_s.out ne_s_a.out)
  replace B_r := Lib.hid (blk_tw kt B_r.out ne_r_a.out)
  replace B_o := Lib.hid (blk_tw kt B_o.out ne_o_a.out)
  replace B_p := Lib.hid (blk_tw kt B_p.out (Ne.symm ne_a_p.out))
  replace B_k := Lib.hid (blk_tw kt B_k.out (Ne.symm ne_a_k.out))
  replace B_a := Lib.hid (show ((((((v5.setCell ⟨e12, 0, none⟩ (.bool false)).setCell ⟨e12, 1, none⟩ (.int .i64 0)).setCell ⟨e12, 2, none⟩ (.slice none 0 0)).setCell ⟨e14, 0, none⟩ (.bool false)).setCell ⟨e14, 1, none⟩ (.slice none 0 0))).heap[e14]? = some (.cells #[.bool false, .slice none 0 0] 47 (0, 0)) from (heap_store (j := 1) (v := .slice none 0 0) (heap_store (j := 0) (v := .bool false) B_a.out)))
  replace KW := Lib.hid (bel_tw KW.out ge_a.out kt)
  clear kt
  have HF := Lib.hid (HQ.out _ KW.out)
  have nn1 := ne_o_a.out
  have nn2 := Ne.symm ne_o_a.out
  go_wp2_with fail
  have y0 := cell_of_block (j := 0) B_o.out rfl
  have y1 := cell_of_block (j := 1) B_o.out rfl
  have y2 := cell_of_block (j := 2) B_o.out rfl
  have y3 := cell_of_block (j := 0) B_a.out rfl
  have y4 := cell_of_block (j := 1) B_a.out rfl
  exact bodyPost_ret (v := .tuple #[.agg #[.bool false, .int .i64 0, .slice none 0 0], .bool false, .agg #[.bool false, .slice none 0 0], .int .i64 1]) (by simp [results, Try.results21, go_sem, y0, y1, y2, y3, y4]) rfl HF.out

set_option maxHeartbeats 16000000 in
set_option maxRecDepth 100000 in
theorem ap17_tn_none (tm : Int) (q : Option Addr) (n c : Nat) (sl : List Tm) (kd : Int) (gp : ByteArray) (rp : Option Addr) (rn rc : Nat) (rs : List ByteArray) (now m l : Int) (w : World) (hl0 : sl.length ≤ 100) (hr0 : rs.length ≤ 100) (hrn0 : rn = rs.length) (hR : RowsAt 2 cellsTm w (.slice q n c) sl) (hRR : AddrsAt w (.slice rp rn rc) rs) (hok : okS ⟨false, tm, sl⟩ = true) (hm0 : mayT m l now = true) (hr1 : recT kd rs = true) (ct : Int) (cs : List Tm) (cg : Bool) (ca : List ByteArray) (hC : somP sl kd (ris rs) (now + m) = ⟨false, ct, cs, cg, ca⟩) (hb : ¬ 60 < cs.length) (hz : (askS cs ca (now + l)).length = 0) (T : Int) (hT0 : T = if cg then min ct (now + l) else ct) (S : List Tm) (hS0 : S = askS cs ca (now + l)) :
    Calls Try.prog 21 #[.agg #[.bool false, .int .i64 tm, .slice q n c], .bool true, .agg #[.int .i64 kd, .string gp, .slice rp rn rc], .int .i64 now, .int .i64 m, .int .i64 l] w (ApPost (noA 0) w) := by
  have k0 : Below w.heap.size w ((((w.alloc (.cells #[.bool false, .int .i64 tm, .slice q n c] 24)).alloc (.cells #[.int .i64 kd, .string gp, .slice rp rn rc] 37)).alloc (.cells #[.bool false, .int .i64 0, .slice none 0 0] 24)).alloc (.cells #[.bool false, .slice none 0 0] 47)) := ((((Below.refl _ _).alloc (Nat.le_refl _) _).alloc (by simp) _).alloc (by simp; omega) _).alloc (by simp; omega) _
  have KW := Lib.hid k0
  have B_s := Lib.hid (show ((((w.alloc (.cells #[.bool false, .int .i64 tm, .slice q n c] 24)).alloc (.cells #[.int .i64 kd, .string gp, .slice rp rn rc] 37)).alloc (.cells #[.bool false, .int .i64 0, .slice none 0 0] 24)).alloc (.cells #[.bool false, .slice none 0 0] 47)).heap[w.heap.size]? = some (.cells #[.bool false, .int .i64 tm, .slice q n c] 24) from heap_old (heap_old (heap_old (heap_new w (.cells #[.bool false, .int .i64 tm, .slice q n c] 24)))))
  have B_r := Lib.hid (show ((((w.alloc (.cells #[.bool false, .int .i64 tm, .slice q n c] 24)).alloc (.cells #[.int .i64 kd, .string gp, .slice rp rn rc] 37)).alloc (.cells #[.bool false, .int .i64 0, .slice none 0 0] 24)).alloc (.cells #[.bool false, .slice none 0 0] 47)).heap[w.heap.size + 1]? = some (.cells #[.int .i64 kd, .string gp, .slice rp rn rc] 37) from heap_old (heap_old (by simpa using heap_new (w.alloc (.cells #[.bool false, .int .i64 tm, .slice q n c] 24)) (.cells #[.int .i64 kd, .string gp, .slice rp rn rc] 37))))
  have B_o := Lib.hid (show ((((w.alloc (.cells #[.bool false, .int .i64 tm, .slice q n c] 24)).alloc (.cells #[.int .i64 kd, .string gp, .slice rp rn rc] 37)).alloc (.cells #[.bool false, .int .i64 0, .slice none 0 0] 24)).alloc (.cells #[.bool false, .slice none 0 0] 47)).heap[w.heap.size + 1 + 1]? = some (.cells #[.bool false, .int .i64 0, .slice none 0 0] 24) from heap_old (by simpa using heap_new ((w.alloc (.cells #[.bool false, .int .i64 tm, .slice q n c] 24)).alloc (.cells #[.int .i64 kd, .string gp, .slice rp rn rc] 37)) (.cells #[.bool false, .int .i64 0, .slice none 0 0] 24)))
  have B_a := Lib.hid (show ((((w.alloc (.cells #[.bool false, .int .i64 tm, .slice q n c] 24)).alloc (.cells #[.int .i64 kd, .string gp, .slice rp rn rc] 37)).alloc (.cells #[.bool false, .int .i64 0, .slice none 0 0] 24)).alloc (.cells #[.bool false, .slice none 0 0] 47)).heap[w.heap.size + 1 + 1 + 1]? = some (.cells #[.bool false, .slice none 0 0] 47) from by simpa using heap_new (((w.alloc (.cells #[.bool false, .int .i64 tm, .slice q n c] 24)).alloc (.cells #[.int .i64 kd, .string gp, .slice rp rn rc] 37)).alloc (.cells #[.bool false, .int .i64 0, .slice none 0 0] 24)) (.cells #[.bool false, .slice none 0 0] 47))
  have HR := Lib.hid (hR.below k0)
  have HRR := Lib.hid (hRR.below k0)
  have ge_s := Lib.hid (Nat.le_refl w.heap.size)
  have ge_r := Lib.hid (show w.heap.size ≤ w.heap.size + 1 from by omega)
  have ge_o := Lib.hid (show w.heap.size ≤ w.heap.size + 1 + 1 from by omega)
  have ge_a := Lib.hid (show w.heap.size ≤ w.heap.size + 1 + 1 + 1 from by omega)
  have ne_s_r := Lib.hid (show w.heap.size ≠ w.heap.size + 1 from by omega)
  have ne_s_o := Lib.hid (show w.heap.size ≠ w.heap.size + 1 + 1 from by omega)
  have ne_s_a := Lib.hid (show w.heap.size ≠ w.heap.size + 1 + 1 + 1 from by omega)
  have ne_r_o := Lib.hid (show w.heap.size + 1 ≠ w.heap.size + 1 + 1 from by omega)
  have ne_r_a := Lib.hid (show w.heap.size + 1 ≠ w.heap.size + 1 + 1 + 1 from by omega)
  have ne_o_a := Lib.hid (show w.heap.size + 1 + 1 ≠ w.heap.size + 1 + 1 + 1 from by omega)
  have HQ := Lib.hid (show ∀ U, Below w.heap.size w U → ApPost (noA 0) w (.returned (.tuple #[.agg #[.bool false, .int .i64 0, .slice none 0 0], .bool false, .agg #[.bool false, .slice none 0 0], .int .i64 0])) U from fun U k => ⟨_, _, rfl, RowsAt.nil _, AddrsG.nil _ _ _, k⟩)
  generalize ApPost (noA 0) w = Q at HQ ⊢
  have hl6 := Lib.hid (Nat.le_trans hl0 (show 100 ≤ 1000000 by decide))
  have hr6 := Lib.hid (Nat.le_trans hr0 (show 100 ≤ 1000000 by decide))
  have hchk := Lib.hid (show chkS ⟨false, tm, sl⟩ = 0 from by unfold chkS; rw [hok]; rfl)
  clear hok
  have hm := Lib.hid hm0
  have HCa := Lib.hid hC
  have hT := Lib.hid hT0
  have hS := Lib.hid hS0
  have hmay : 1 ≤ m ∧ m ≤ 1000000 ∧ 1 ≤ l ∧ l ≤ 1000000 ∧ 1 ≤ now ∧ now ≤ 1099511627776 := by
    have := hm0
    unfold mayT at this
    simp only [Bool.and_eq_true, decide_eq_true_iff] at this
    omega
  have hrec : 1 ≤ kd ∧ kd ≤ 6 ∧ rn ≤ 60 := by
    have := hr1
    unfold recT at this
    simp only [Bool.and_eq_true, decide_eq_true_iff] at this
    omega
  obtain ⟨q1, q2, q3⟩ := hrec
  obtain ⟨m1, m2, l1, l2, o1, o2⟩ := hmay
  have hrl := Lib.hid (show (ris rs).length ≤ 100 from Nat.le_trans (ris_len rs) hr0)
  have hll := Lib.hid hl0
  have hq1 := Lib.hid q1
  have hq2 := Lib.hid q2
  have hal := Lib.hid (show ca.length ≤ 100 from by have h := som_al (l := sl) hl0 (Nat.le_trans (ris_len rs) hr0) kd (now + m); rw [hC] at h; exact h)
  have d1 : decide (kd < 1) = false := decide_eq_false (by omega)
  have d2 : decide (6 < kd) = false := decide_eq_false (by omega)
  have d3 : decide (60 < (rn : Int)) = false := decide_eq_false (by omega)
  have d4 : decide (60 < rn) = false := decide_eq_false (by omega)
  have aw1 : wrap64 (now + m) = now + m := by unfold wrap64; omega
  have aw2 : wrap64 (now + l) = now + l := by unfold wrap64; omega
  obtain ⟨cn, hcn⟩ : ∃ cn, cn = cs.length := ⟨_, rfl⟩
  have HCN := Lib.hid hcn
  have HSN := Lib.hid (show 0 = S.length from by rw [hS0]; exact hz.symm)
  have hsn := HSN
  have f1 : decide (60 < cn) = false := decide_eq_false (by rw [hcn]; exact hb)
  have f2 : decide (60 < (cn : Int)) = false := decide_eq_false (by rw [hcn]; omega)
  have hcl := Lib.hid (show cs.length ≤ 100 from by omega)
  clear hz
  clear hm0 hC hT0 hS0 hr1 hcn hsn hb q1 q2 q3 m1 m2 l1 l2 o1 o2 hl0 hr0 hrn0
  clear k0 hR hRR
  go_enter Try.func21, Try.ntmps21
  go_upto_region 1 with fail
  generalize ((((w.alloc (.cells #[.bool false, .int .i64 tm, .slice q n c] 24)).alloc (.cells #[.int .i64 kd, .string gp, .slice rp rn rc] 37)).alloc (.cells #[.bool false, .int .i64 0, .slice none 0 0] 24)).alloc (.cells #[.bool false, .slice none 0 0] 47)) = W at B_s B_r B_o B_a HR HRR KW ⊢
  generalize w.heap.size + 1 + 1 + 1 = e14 at B_a ge_a ne_s_a ne_r_a ne_o_a ⊢
  generalize w.heap.size + 1 + 1 = e12 at B_o ge_o ne_s_o ne_r_o ne_o_a ⊢
  generalize w.heap.size + 1 = rb at B_r ge_r ne_s_r ne_r_o ne_r_a ⊢
  have c_s0 : W.cell? ⟨w.heap.size, 0, none⟩ = some (.bool false) := cell_of_block B_s.out rfl
  have c_s1 : W.cell? ⟨w.heap.size, 1, none⟩ = some (.int .i64 tm) := cell_of_block B_s.out rfl
  have c_s2 : W.cell? ⟨w.heap.size, 2, none⟩ = some (.slice q n c) := cell_of_block B_s.out rfl
  have CN := Lib.hid (by have h := rchk17_c false tm (.slice q n c) sl W hl6.out HR.out; rw [hchk.out] at h; exact h)
  go_wp2_with fail
  ((with_reducible refine CN.out.mono ?_); rintro e v1 ⟨rfl, kb9⟩)
  clear c_s0 c_s1 c_s2
  replace B_s := Lib.hid (below_block kb9 (lt_of_block B_s.out) B_s.out)
  replace B_r := Lib.hid (below_block kb9 (lt_of_block B_r.out) B_r.out)
  replace B_o := Lib.hid (below_block kb9 (lt_of_block B_o.out) B_o.out)
  replace B_a := Lib.hid (below_block kb9 (lt_of_block B_a.out) B_a.out)
  replace HR := Lib.hid (HR.out.below kb9)
  replace HRR := Lib.hid (HRR.out.below kb9)
  replace KW := Lib.hid (KW.out.trans (kb9.mono KW.out.size))
  clear CN kb9
  have CN := Lib.hid (by have h := may17_c now m l v1; rw [hm.out] at h; exact h)
  go_wp2_with fail
  ((with_reducible refine CN.out.mono ?_); rintro e v2 ⟨rfl, kb9⟩)
  replace B_s := Lib.hid (below_block kb9 (lt_of_block B_s.out) B_s.out)
  replace B_r := Lib.hid (below_block kb9 (lt_of_block B_r.out) B_r.out)
  replace B_o := Lib.hid (below_block kb9 (lt_of_block B_o.out) B_o.out)
  replace B_a := Lib.hid (below_block kb9 (lt_of_block B_a.out) B_a.out)
  replace HR := Lib.hid (HR.out.below kb9)
  replace HRR := Lib.hid (HRR.out.below kb9)
  replace KW := Lib.hid (KW.out.trans (kb9.mono KW.out.size))
  clear CN kb9
  have c_r0 : v2.cell? ⟨rb, 0, none⟩ = some (.int .i64 kd) := cell_of_block B_r.out rfl
  have c_r1 : v2.cell? ⟨rb, 1, none⟩ = some (.string gp) := cell_of_block B_r.out rfl
  have c_r2 : v2.cell? ⟨rb, 2, none⟩ = some (.slice rp rn rc) := cell_of_block B_r.out rfl
  have CN := Lib.hid (rris_c (.slice rp rn rc) rs v2 hr6.out HRR.out)
  unfold MPost at CN
  go_wp2_with fail
  ((with_reducible refine CN.out.mono ?_); rintro e v3 ⟨ul, rfl, a9, kb9⟩)
  clear c_r0 c_r1 c_r2
  replace B_s := Lib.hid (below_block kb9 (lt_of_block B_s.out) B_s.out)
  replace B_r := Lib.hid (below_block kb9 (lt_of_block B_r.out) B_r.out)
  replace B_o := Lib.hid (below_block kb9 (lt_of_block B_o.out) B_o.out)
  replace B_a := Lib.hid (below_block kb9 (lt_of_block B_a.out) B_a.out)
  replace HR := Lib.hid (HR.out.below kb9)
  replace HRR := Lib.hid (HRR.out.below kb9)
  replace KW := Lib.hid (KW.out.trans (kb9.mono KW.out.size))
  have HL := Lib.hid a9.at
  clear CN kb9 a9
  have c_s0 : v3.cell? ⟨w.heap.size, 0, none⟩ = some (.bool false) := cell_of_block B_s.out rfl
  have c_s1 : v3.cell? ⟨w.heap.size, 1, none⟩ = some (.int .i64 tm) := cell_of_block B_s.out rfl
  have c_s2 : v3.cell? ⟨w.heap.size, 2, none⟩ = some (.slice q n c) := cell_of_block B_s.out rfl
  have c_r0 : v3.cell? ⟨rb, 0, none⟩ = some (.int .i64 kd) := cell_of_block B_r.out rfl
  have c_r1 : v3.cell? ⟨rb, 1, none⟩ = some (.string gp) := cell_of_block B_r.out rfl
  have c_r2 : v3.cell? ⟨rb, 2, none⟩ = some (.slice rp rn rc) := cell_of_block B_r.out rfl
  have CN := Lib.hid (some17_c false tm q n c sl kd ul (ris rs) (now + m) v3 hq1.out hq2.out hll.out hrl.out HR.out HL.out)
  rw [HCa.out] at CN
  unfold CgPost at CN
  go_wp2_with fail
  ((with_reducible refine CN.out.mono ?_); rintro e v4 ⟨vs0, va0, rfl, r9, a9, kb9⟩)
  clear c_s0 c_s1 c_s2 c_r0 c_r1 c_r2
  replace B_s := Lib.hid (below_block kb9 (lt_of_block B_s.out) B_s.out)
  replace B_r := Lib.hid (below_block kb9 (lt_of_block B_r.out) B_r.out)
  replace B_o := Lib.hid (below_block kb9 (lt_of_block B_o.out) B_o.out)
  replace B_a := Lib.hid (below_block kb9 (lt_of_block B_a.out) B_a.out)
  replace HR := Lib.hid (HR.out.below kb9)
  replace HRR := Lib.hid (HRR.out.below kb9)
  replace HL := Lib.hid (HL.out.below kb9)
  replace KW := Lib.hid (KW.out.trans (kb9.mono KW.out.size))
  simp only at r9 a9 ⊢
  obtain ⟨oq, oc, hov⟩ := r9.slice
  rw [← HCN.out] at hov
  subst hov
  obtain ⟨aq, an, ac, rfl⟩ := addrs_slice3 a9
  have RO := Lib.hid r9
  have AO := Lib.hid a9
  clear CN kb9 r9 a9
  go_upto_region 9 with fail
  have kA : Below v4.heap.size v4 ((v4.alloc (.cells #[.bool false, .int .i64 ct, .slice oq cn oc] 24)).alloc (.cells #[.bool cg, .slice aq an ac] 47)) := ((Below.refl _ _).alloc (Nat.le_refl _) _).alloc (by simp) _
  have ge_p := Lib.hid (show w.heap.size ≤ v4.heap.size from KW.out.size)
  have ge_k := Lib.hid (show w.heap.size ≤ v4.heap.size + 1 from Nat.le_succ_of_le KW.out.size)
  have ne_p_k := Lib.hid (show v4.heap.size ≠ v4.heap.size + 1 from by omega)
  have ne_s_p := Lib.hid (Nat.ne_of_lt (lt_of_block B_s.out))
  have ne_s_k := Lib.hid (show w.heap.size ≠ v4.heap.size + 1 from Nat.ne_of_lt (Nat.lt_succ_of_lt (lt_of_block B_s.out)))
  have ne_r_p := Lib.hid (Nat.ne_of_lt (lt_of_block B_r.out))
  have ne_r_k := Lib.hid (show rb ≠ v4.heap.size + 1 from Nat.ne_of_lt (Nat.lt_succ_of_lt (lt_of_block B_r.out)))
  have ne_o_p := Lib.hid (Nat.ne_of_lt (lt_of_block B_o.out))
  have ne_o_k := Lib.hid (show e12 ≠ v4.heap.size + 1 from Nat.ne_of_lt (Nat.lt_succ_of_lt (lt_of_block B_o.out)))
  have ne_a_p := Lib.hid (Nat.ne_of_lt (lt_of_block B_a.out))
  have ne_a_k := Lib.hid (show e14 ≠ v4.heap.size + 1 from Nat.ne_of_lt (Nat.lt_succ_of_lt (lt_of_block B_a.out)))
  replace B_s := Lib.hid (below_block kA (lt_of_block B_s.out) B_s.out)
  replace B_r := Lib.hid (below_block kA (lt_of_block B_r.out) B_r.out)
  replace B_o := Lib.hid (below_block kA (lt_of_block B_o.out) B_o.out)
  replace B_a := Lib.hid (below_block kA (lt_of_block B_a.out) B_a.out)
  replace HR := Lib.hid (HR.out.below kA)
  replace HRR := Lib.hid (HRR.out.below kA)
  replace HL := Lib.hid (HL.out.below kA)
  replace RO := Lib.hid (RO.out.below kA)
  replace AO := Lib.hid (AO.out.below kA)
  replace KW := Lib.hid (KW.out.trans (kA.mono KW.out.size))
  have B_p := Lib.hid (show ((v4.alloc (.cells #[.bool false, .int .i64 ct, .slice oq cn oc] 24)).alloc (.cells #[.bool cg, .slice aq an ac] 47)).heap[v4.heap.size]? = some (.cells #[.bool false, .int .i64 ct, .slice oq cn oc] 24) from heap_old (heap_new v4 (.cells #[.bool false, .int .i64 ct, .slice oq cn oc] 24)))
  have B_k := Lib.hid (show ((v4.alloc (.cells #[.bool false, .int .i64 ct, .slice oq cn oc] 24)).alloc (.cells #[.bool cg, .slice aq an ac] 47)).heap[v4.heap.size + 1]? = some (.cells #[.bool cg, .slice aq an ac] 47) from by simpa using heap_new (v4.alloc (.cells #[.bool false, .int .i64 ct, .slice oq cn oc] 24)) (.cells #[.bool cg, .slice aq an ac] 47))
  clear kA
  generalize (v4.alloc (.cells #[.bool false, .int .i64 ct, .slice oq cn oc] 24)).alloc (.cells #[.bool cg, .slice aq an ac] 47) = v5 at B_s B_r B_o B_a B_p B_k HR HRR HL RO AO KW ⊢
  generalize v4.heap.size + 1 = kb at B_k ge_k ne_p_k ne_s_k ne_r_k ne_o_k ne_a_k ⊢
  generalize v4.heap.size = pb at B_p ge_p ne_p_k ne_s_p ne_r_p ne_o_p ne_a_p ⊢
  have c_s0 : v5.cell? ⟨w.heap.size, 0, none⟩ = some (.bool false) := cell_of_block B_s.out rfl
  have c_s1 : v5.cell? ⟨w.heap.size, 1, none⟩ = some (.int .i64 tm) := cell_of_block B_s.out rfl
  have c_s2 : v5.cell? ⟨w.heap.size, 2, none⟩ = some (.slice q n c) := cell_of_block B_s.out rfl
  have c_p0 : v5.cell? ⟨pb, 0, none⟩ = some (.bool false) := cell_of_block B_p.out rfl
  have c_p1 : v5.cell? ⟨pb, 1, none⟩ = some (.int .i64 ct) := cell_of_block B_p.out rfl
  have c_p2 : v5.cell? ⟨pb, 2, none⟩ = some (.slice oq cn oc) := cell_of_block B_p.out rfl
  have c_k0 : v5.cell? ⟨kb, 0, none⟩ = some (.bool cg) := cell_of_block B_k.out rfl
  have c_k1 : v5.cell? ⟨kb, 1, none⟩ = some (.slice aq an ac) := cell_of_block B_k.out rfl
  have CN := Lib.hid (by have h := asked17_c false ct (.slice oq cn oc) cs cg (.slice aq an ac) ca (now + l) v5 hcl.out hal.out RO.out AO.out; rw [← hT.out, ← hS.out] at h; unfold AkPost at h; exact h)
  go_wp2_with fail
  ((with_reducible refine CN.out.mono ?_); rintro e v6 ⟨vs1, rfl, r9, kb9⟩)
  clear c_p0 c_p1 c_p2 c_k0 c_k1
  clear c_s0 c_s1 c_s2
  replace B_s := Lib.hid (below_block kb9 (lt_of_block B_s.out) B_s.out)
  replace B_r := Lib.hid (below_block kb9 (lt_of_block B_r.out) B_r.out)
  replace B_o := Lib.hid (below_block kb9 (lt_of_block B_o.out) B_o.out)
  replace B_a := Lib.hid (below_block kb9 (lt_of_block B_a.out) B_a.out)
  replace B_p := Lib.hid (below_block kb9 (lt_of_block B_p.out) B_p.out)
  replace B_k := Lib.hid (below_block kb9 (lt_of_block B_k.out) B_k.out)
  replace HR := Lib.hid (HR.out.below kb9)
  replace HRR := Lib.hid (HRR.out.below kb9)
  replace HL := Lib.hid (HL.out.below kb9)
  replace RO := Lib.hid (RO.out.below kb9)
  replace AO := Lib.hid (AO.out.below kb9)
  replace KW := Lib.hid (KW.out.trans (kb9.mono KW.out.size))
  clear RO
  obtain ⟨sq, sc, hov⟩ := r9.slice
  rw [← HSN.out] at hov
  subst hov
  have RO := Lib.hid r9
  clear CN kb9 r9
  have c_p0 : v6.cell? ⟨pb, 0, none⟩ = some (.bool false) := cell_of_block B_p.out rfl
  have c_p1 : v6.cell? ⟨pb, 1, none⟩ = some (.int .i64 ct) := cell_of_block B_p.out rfl
  have c_p2 : v6.cell? ⟨pb, 2, none⟩ = some (.slice oq cn oc) := cell_of_block B_p.out rfl
  have z_p := (fun j : Nat => free_of_block (j := j) B_p.out)
  go_upto_region 14 with fail
  clear c_p0 c_p1 c_p2
  clear z_p
  have kt : Tw v6 (((v6.setCell ⟨pb, 0, none⟩ (.bool false)).setCell ⟨pb, 1, none⟩ (.int .i64 T)).setCell ⟨pb, 2, none⟩ (.slice sq 0 sc)) pb pb := ((tw_set v6 pb 0 (.bool false)).trans (tw_set (v6.setCell ⟨pb, 0, none⟩ (.bool false)) pb 1 (.int .i64 T))).trans (tw_set ((v6.setCell ⟨pb, 0, none⟩ (.bool false)).setCell ⟨pb, 1, none⟩ (.int .i64 T)) pb 2 (.slice sq 0 sc))
  replace HR := Lib.hid (rows_tw HR.out B_p.out no_str kt)
  replace HRR := Lib.hid (addrs_tw HRR.out B_p.out no_str kt)
  replace HL := Lib.hid (addrs_tw HL.out B_p.out no_str kt)
  replace AO := Lib.hid (addrs_tw AO.out B_p.out no_str kt)
  replace RO := Lib.hid (rows_tw RO.out B_p.out no_str kt)
  replace B_s := Lib.hid (blk_tw kt B_s.out ne_s_p.out)
  replace B_r := Lib.hid (blk_tw kt B_r.out ne_r_p.out)
  replace B_o := Lib.hid (blk_tw kt B_o.out ne_o_p.out)
  replace B_a := Lib.hid (blk_tw kt B_a.out ne_a_p.out)
  replace B_k := Lib.hid (blk_tw kt B_k.out (Ne.symm ne_p_k.out))
  replace B_p := Lib.hid (show ((((v6.setCell ⟨pb, 0, none⟩ (.bool false)).setCell ⟨pb, 1, none⟩ (.int .i64 T)).setCell ⟨pb, 2, none⟩ (.slice sq 0 sc))).heap[pb]? = some (.cells #[.bool false, .int .i64 T, .slice sq 0 sc] 24 (0, 0)) from (heap_store (j := 2) (v := .slice sq 0 sc) (heap_store (j := 1) (v := .int .i64 T) (heap_store (j := 0) (v := .bool false) B_p.out))))
  replace KW := Lib.hid (bel_tw KW.out ge_p.out kt)
  clear kt
  generalize (((v6.setCell ⟨pb, 0, none⟩ (.bool false)).setCell ⟨pb, 1, none⟩ (.int .i64 T)).setCell ⟨pb, 2, none⟩ (.slice sq 0 sc)) = v7 at B_s B_r B_o B_a B_p B_k HR HRR HL AO RO KW ⊢
  have c_p0 : v7.cell? ⟨pb, 0, none⟩ = some (.bool false) := cell_of_block B_p.out rfl
  have c_p1 : v7.cell? ⟨pb, 1, none⟩ = some (.int .i64 T) := cell_of_block B_p.out rfl
  have c_p2 : v7.cell? ⟨pb, 2, none⟩ = some (.slice sq 0 sc) := cell_of_block B_p.out rfl
  clear HR HRR HL RO AO
  have c_o0 : v7.cell? ⟨e12, 0, none⟩ = some (.bool false) := cell_of_block B_o.out rfl
  have c_o1 : v7.cell? ⟨e12, 1, none⟩ = some (.int .i64 0) := cell_of_block B_o.out rfl
  have c_o2 : v7.cell? ⟨e12, 2, none⟩ = some (.slice none 0 0) := cell_of_block B_o.out rfl
  have c_a0 : v7.cell? ⟨e14, 0, none⟩ = some (.bool false) := cell_of_block B_a.out rfl
  have c_a1 : v7.cell? ⟨e14, 1, none⟩ = some (.slice none 0 0) := cell_of_block B_a.out rfl
  have z_o := (fun j : Nat => free_of_block (j := j) B_o.out)
  have z_a := (fun j : Nat => free_of_block (j := j) B_a.out)
  have kt : Tw v7 (((v7.setCell ⟨e12, 0, none⟩ (.bool false)).setCell ⟨e12, 1, none⟩ (.int .i64 0)).setCell ⟨e12, 2, none⟩ (.slice none 0 0)) e12 e12 := ((tw_set v7 e12 0 (.bool false)).trans (tw_set (v7.setCell ⟨e12, 0, none⟩ (.bool false)) e12 1 (.int .i64 0))).trans (tw_set ((v7.setCell ⟨e12, 0, none⟩ (.bool false)).setCell ⟨e12, 1, none⟩ (.int .i64 0)) e12 2 (.slice none 0 0))
  replace B_s := Lib.hid (blk_tw kt B_s.out ne_s_o.out)
  replace B_r := Lib.hid (blk_tw kt B_r.out ne_r_o.out)
  replace B_a := Lib.hid (blk_tw kt B_a.out (Ne.symm ne_o_a.out))
  replace B_p := Lib.hid (blk_tw kt B_p.out (Ne.symm ne_o_p.out))
  replace B_k := Lib.hid (blk_tw kt B_k.out (Ne.symm ne_o_k.out))
  replace B_o := Lib.hid (show ((((v7.setCell ⟨e12, 0, none⟩ (.bool false)).setCell ⟨e12, 1, none⟩ (.int .i64 0)).setCell ⟨e12, 2, none⟩ (.slice none 0 0))).heap[e12]? = some (.cells #[.bool false, .int .i64 0, .slice none 0 0] 24 (0, 0)) from (heap_store (j := 2) (v := .slice none 0 0) (heap_store (j := 1) (v := .int .i64 0) (heap_store (j := 0) (v := .bool false) B_o.out))))
  replace KW := Lib.hid (bel_tw KW.out ge_o.out kt)
  clear kt
  have kt : Tw (((v7.setCell ⟨e12, 0, none⟩ (.bool false)).setCell ⟨e12, 1, none⟩ (.int .i64 0)).setCell ⟨e12, 2, none⟩ (.slice none 0 0)) (((((v7.setCell ⟨e12, 0, none⟩ (.bool false)).setCell ⟨e12, 1, none⟩ (.int .i64 0)).setCell ⟨e12, 2, none⟩ (.slice none 0 0)).setCell ⟨e14, 0, none⟩ (.bool false)).setCell ⟨e14, 1, none⟩ (.slice none 0 0)) e14 e14 := (tw_set (((v7.setCell ⟨e12, 0, none⟩ (.bool false)).setCell ⟨e12, 1, none⟩ (.int .i64 0)).setCell ⟨e12, 2, none⟩ (.slice none 0 0)) e14 0 (.bool false)).trans (tw_set ((((v7.setCell ⟨e12, 0, none⟩ (.bool false)).setCell ⟨e12, 1, none⟩ (.int .i64 0)).setCell ⟨e12, 2, none⟩ (.slice none 0 0)).setCell ⟨e14, 0, none⟩ (.bool false)) e14 1 (.slice none 0 0))
  replace B_s := Lib.hid (blk_tw kt B_s.out ne_s_a.out)
  replace B_r := Lib.hid (blk_tw kt B_r.out ne_r_a.out)
  replace B_o := Lib.hid (blk_tw kt B_o.out ne_o_a.out)
  replace B_p := Lib.hid (blk_tw kt B_p.out (Ne.symm ne_a_p.out))
  replace B_k := Lib.hid (blk_tw kt B_k.out (Ne.symm ne_a_k.out))
  replace B_a := Lib.hid (show ((((((v7.setCell ⟨e12, 0, none⟩ (.bool false)).setCell ⟨e12, 1, none⟩ (.int .i64 0)).setCell ⟨e12, 2, none⟩ (.slice none 0 0)).setCell ⟨e14, 0, none⟩ (.bool false)).setCell ⟨e14, 1, none⟩ (.slice none 0 0))).heap[e14]? = some (.cells #[.bool false, .slice none 0 0] 47 (0, 0)) from (heap_store (j := 1) (v := .slice none 0 0) (heap_store (j := 0) (v := .bool false) B_a.out)))
  replace KW := Lib.hid (bel_tw KW.out ge_a.out kt)
  clear kt
  have HF := Lib.hid (HQ.out _ KW.out)
  have nn1 := ne_o_a.out
  have nn2 := Ne.symm ne_o_a.out
  go_wp2_with fail
  have y0 := cell_of_block (j := 0) B_o.out rfl
  have y1 := cell_of_block (j := 1) B_o.out rfl
  have y2 := cell_of_block (j := 2) B_o.out rfl
  have y3 := cell_of_block (j := 0) B_a.out rfl
  have y4 := cell_of_block (j := 1) B_a.out rfl
  exact bodyPost_ret (v := .tuple #[.agg #[.bool false, .int .i64 0, .slice none 0 0], .bool false, .agg #[.bool false, .slice none 0 0], .int .i64 0]) (by simp [results, Try.results21, go_sem, y0, y1, y2, y3, y4]) rfl HF.out

set_option maxHeartbeats 16000000 in
set_option maxRecDepth 100000 in
theorem ap17_tn_okx (tm : Int) (q : Option Addr) (n c : Nat) (sl : List Tm) (kd : Int) (gp : ByteArray) (rp : Option Addr) (rn rc : Nat) (rs : List ByteArray) (now m l : Int) (w : World) (hl0 : sl.length ≤ 100) (hr0 : rs.length ≤ 100) (hrn0 : rn = rs.length) (hR : RowsAt 2 cellsTm w (.slice q n c) sl) (hRR : AddrsAt w (.slice rp rn rc) rs) (hok : okS ⟨false, tm, sl⟩ = true) (hm0 : mayT m l now = true) (hr1 : recT kd rs = true) (ct : Int) (cs : List Tm) (cg : Bool) (ca : List ByteArray) (hC : somP sl kd (ris rs) (now + m) = ⟨true, ct, cs, cg, ca⟩) (hb : ¬ 60 < cs.length) (T : Int) (hT0 : T = if cg then min ct (now + l) else ct) (S : List Tm) (hS0 : S = askS cs ca (now + l)) :
    Calls Try.prog 21 #[.agg #[.bool false, .int .i64 tm, .slice q n c], .bool true, .agg #[.int .i64 kd, .string gp, .slice rp rn rc], .int .i64 now, .int .i64 m, .int .i64 l] w (ApPost ⟨⟨true, T, S⟩, true, cg, ca, 0⟩ w) := by
  have k0 : Below w.heap.size w ((((w.alloc (.cells #[.bool false, .int .i64 tm, .slice q n c] 24)).alloc (.cells #[.int .i64 kd, .string gp, .slice rp rn rc] 37)).alloc (.cells #[.bool false, .int .i64 0, .slice none 0 0] 24)).alloc (.cells #[.bool false, .slice none 0 0] 47)) := ((((Below.refl _ _).alloc (Nat.le_refl _) _).alloc (by simp) _).alloc (by simp; omega) _).alloc (by simp; omega) _
  have KW := Lib.hid k0
  have B_s := Lib.hid (show ((((w.alloc (.cells #[.bool false, .int .i64 tm, .slice q n c] 24)).alloc (.cells #[.int .i64 kd, .string gp, .slice rp rn rc] 37)).alloc (.cells #[.bool false, .int .i64 0, .slice none 0 0] 24)).alloc (.cells #[.bool false, .slice none 0 0] 47)).heap[w.heap.size]? = some (.cells #[.bool false, .int .i64 tm, .slice q n c] 24) from heap_old (heap_old (heap_old (heap_new w (.cells #[.bool false, .int .i64 tm, .slice q n c] 24)))))
  have B_r := Lib.hid (show ((((w.alloc (.cells #[.bool false, .int .i64 tm, .slice q n c] 24)).alloc (.cells #[.int .i64 kd, .string gp, .slice rp rn rc] 37)).alloc (.cells #[.bool false, .int .i64 0, .slice none 0 0] 24)).alloc (.cells #[.bool false, .slice none 0 0] 47)).heap[w.heap.size + 1]? = some (.cells #[.int .i64 kd, .string gp, .slice rp rn rc] 37) from heap_old (heap_old (by simpa using heap_new (w.alloc (.cells #[.bool false, .int .i64 tm, .slice q n c] 24)) (.cells #[.int .i64 kd, .string gp, .slice rp rn rc] 37))))
  have B_o := Lib.hid (show ((((w.alloc (.cells #[.bool false, .int .i64 tm, .slice q n c] 24)).alloc (.cells #[.int .i64 kd, .string gp, .slice rp rn rc] 37)).alloc (.cells #[.bool false, .int .i64 0, .slice none 0 0] 24)).alloc (.cells #[.bool false, .slice none 0 0] 47)).heap[w.heap.size + 1 + 1]? = some (.cells #[.bool false, .int .i64 0, .slice none 0 0] 24) from heap_old (by simpa using heap_new ((w.alloc (.cells #[.bool false, .int .i64 tm, .slice q n c] 24)).alloc (.cells #[.int .i64 kd, .string gp, .slice rp rn rc] 37)) (.cells #[.bool false, .int .i64 0, .slice none 0 0] 24)))
  have B_a := Lib.hid (show ((((w.alloc (.cells #[.bool false, .int .i64 tm, .slice q n c] 24)).alloc (.cells #[.int .i64 kd, .string gp, .slice rp rn rc] 37)).alloc (.cells #[.bool false, .int .i64 0, .slice none 0 0] 24)).alloc (.cells #[.bool false, .slice none 0 0] 47)).heap[w.heap.size + 1 + 1 + 1]? = some (.cells #[.bool false, .slice none 0 0] 47) from by simpa using heap_new (((w.alloc (.cells #[.bool false, .int .i64 tm, .slice q n c] 24)).alloc (.cells #[.int .i64 kd, .string gp, .slice rp rn rc] 37)).alloc (.cells #[.bool false, .int .i64 0, .slice none 0 0] 24)) (.cells #[.bool false, .slice none 0 0] 47))
  have HR := Lib.hid (hR.below k0)
  have HRR := Lib.hid (hRR.below k0)
  have ge_s := Lib.hid (Nat.le_refl w.heap.size)
  have ge_r := Lib.hid (show w.heap.size ≤ w.heap.size + 1 from by omega)
  have ge_o := Lib.hid (show w.heap.size ≤ w.heap.size + 1 + 1 from by omega)
  have ge_a := Lib.hid (show w.heap.size ≤ w.heap.size + 1 + 1 + 1 from by omega)
  have ne_s_r := Lib.hid (show w.heap.size ≠ w.heap.size + 1 from by omega)
  have ne_s_o := Lib.hid (show w.heap.size ≠ w.heap.size + 1 + 1 from by omega)
  have ne_s_a := Lib.hid (show w.heap.size ≠ w.heap.size + 1 + 1 + 1 from by omega)
  have ne_r_o := Lib.hid (show w.heap.size + 1 ≠ w.heap.size + 1 + 1 from by omega)
  have ne_r_a := Lib.hid (show w.heap.size + 1 ≠ w.heap.size + 1 + 1 + 1 from by omega)
  have ne_o_a := Lib.hid (show w.heap.size + 1 + 1 ≠ w.heap.size + 1 + 1 + 1 from by omega)
  have HQ := Lib.hid (show ∀ U vs va, RowsAt 2 cellsTm U vs S → AddrsAt U va ca → Below w.heap.size w U → ApPost ⟨⟨true, T, S⟩, true, cg, ca, 0⟩ w (.returned (.tuple #[.agg #[.bool true, .int .i64 T, vs], .bool true, .agg #[.bool cg, va], .int .i64 0])) U from fun U vs va h1 h2 h3 => ⟨vs, va, rfl, h1, h2, h3⟩)
  generalize ApPost ⟨⟨true, T, S⟩, true, cg, ca, 0⟩ w = Q at HQ ⊢
  have hl6 := Lib.hid (Nat.le_trans hl0 (show 100 ≤ 1000000 by decide))
  have hr6 := Lib.hid (Nat.le_trans hr0 (show 100 ≤ 1000000 by decide))
  have hchk := Lib.hid (show chkS ⟨false, tm, sl⟩ = 0 from by unfold chkS; rw [hok]; rfl)
  clear hok
  have hm := Lib.hid hm0
  have HCa := Lib.hid hC
  have hT := Lib.hid hT0
  have hS := Lib.hid hS0
  have hmay : 1 ≤ m ∧ m ≤ 1000000 ∧ 1 ≤ l ∧ l ≤ 1000000 ∧ 1 ≤ now ∧ now ≤ 1099511627776 := by
    have := hm0
    unfold mayT at this
    simp only [Bool.and_eq_true, decide_eq_true_iff] at this
    omega
  have hrec : 1 ≤ kd ∧ kd ≤ 6 ∧ rn ≤ 60 := by
    have := hr1
    unfold recT at this
    simp only [Bool.and_eq_true, decide_eq_true_iff] at this
    omega
  obtain ⟨q1, q2, q3⟩ := hrec
  obtain ⟨m1, m2, l1, l2, o1, o2⟩ := hmay
  have hrl := Lib.hid (show (ris rs).length ≤ 100 from Nat.le_trans (ris_len rs) hr0)
  have hll := Lib.hid hl0
  have hq1 := Lib.hid q1
  have hq2 := Lib.hid q2
  have hal := Lib.hid (show ca.length ≤ 100 from by have h := som_al (l := sl) hl0 (Nat.le_trans (ris_len rs) hr0) kd (now + m); rw [hC] at h; exact h)
  have d1 : decide (kd < 1) = false := decide_eq_false (by omega)
  have d2 : decide (6 < kd) = false := decide_eq_false (by omega)
  have d3 : decide (60 < (rn : Int)) = false := decide_eq_false (by omega)
  have d4 : decide (60 < rn) = false := decide_eq_false (by omega)
  have aw1 : wrap64 (now + m) = now + m := by unfold wrap64; omega
  have aw2 : wrap64 (now + l) = now + l := by unfold wrap64; omega
  obtain ⟨cn, hcn⟩ : ∃ cn, cn = cs.length := ⟨_, rfl⟩
  have HCN := Lib.hid hcn
  obtain ⟨sn, hsn⟩ : ∃ sn, sn = S.length := ⟨_, rfl⟩
  have HSN := Lib.hid hsn
  have f1 : decide (60 < cn) = false := decide_eq_false (by rw [hcn]; exact hb)
  have f2 : decide (60 < (cn : Int)) = false := decide_eq_false (by rw [hcn]; omega)
  have hcl := Lib.hid (show cs.length ≤ 100 from by omega)
  clear hm0 hC hT0 hS0 hr1 hcn hsn hb q1 q2 q3 m1 m2 l1 l2 o1 o2 hl0 hr0 hrn0
  clear k0 hR hRR
  go_enter Try.func21, Try.ntmps21
  go_upto_region 1 with fail
  generalize ((((w.alloc (.cells #[.bool false, .int .i64 tm, .slice q n c] 24)).alloc (.cells #[.int .i64 kd, .string gp, .slice rp rn rc] 37)).alloc (.cells #[.bool false, .int .i64 0, .slice none 0 0] 24)).alloc (.cells #[.bool false, .slice none 0 0] 47)) = W at B_s B_r B_o B_a HR HRR KW ⊢
  generalize w.heap.size + 1 + 1 + 1 = e14 at B_a ge_a ne_s_a ne_r_a ne_o_a ⊢
  generalize w.heap.size + 1 + 1 = e12 at B_o ge_o ne_s_o ne_r_o ne_o_a ⊢
  generalize w.heap.size + 1 = rb at B_r ge_r ne_s_r ne_r_o ne_r_a ⊢
  have c_s0 : W.cell? ⟨w.heap.size, 0, none⟩ = some (.bool false) := cell_of_block B_s.out rfl
  have c_s1 : W.cell? ⟨w.heap.size, 1, none⟩ = some (.int .i64 tm) := cell_of_block B_s.out rfl
  have c_s2 : W.cell? ⟨w.heap.size, 2, none⟩ = some (.slice q n c) := cell_of_block B_s.out rfl
  have CN := Lib.hid (by have h := rchk17_c false tm (.slice q n c) sl W hl6.out HR.out; rw [hchk.out] at h; exact h)
  go_wp2_with fail
  ((with_reducible refine CN.out.mono ?_); rintro e v1 ⟨rfl, kb9⟩)
  clear c_s0 c_s1 c_s2
  replace B_s := Lib.hid (below_block kb9 (lt_of_block B_s.out) B_s.out)
  replace B_r := Lib.hid (below_block kb9 (lt_of_block B_r.out) B_r.out)
  replace B_o := Lib.hid (below_block kb9 (lt_of_block B_o.out) B_o.out)
  replace B_a := Lib.hid (below_block kb9 (lt_of_block B_a.out) B_a.out)
  replace HR := Lib.hid (HR.out.below kb9)
  replace HRR := Lib.hid (HRR.out.below kb9)
  replace KW := Lib.hid (KW.out.trans (kb9.mono KW.out.size))
  clear CN kb9
  have CN := Lib.hid (by have h := may17_c now m l v1; rw [hm.out] at h; exact h)
  go_wp2_with fail
  ((with_reducible refine CN.out.mono ?_); rintro e v2 ⟨rfl, kb9⟩)
  replace B_s := Lib.hid (below_block kb9 (lt_of_block B_s.out) B_s.out)
  replace B_r := Lib.hid (below_block kb9 (lt_of_block B_r.out) B_r.out)
  replace B_o := Lib.hid (below_block kb9 (lt_of_block B_o.out) B_o.out)
  replace B_a := Lib.hid (below_block kb9 (lt_of_block B_a.out) B_a.out)
  replace HR := Lib.hid (HR.out.below kb9)
  replace HRR := Lib.hid (HRR.out.below kb9)
  replace KW := Lib.hid (KW.out.trans (kb9.mono KW.out.size))
  clear CN kb9
  have c_r0 : v2.cell? ⟨rb, 0, none⟩ = some (.int .i64 kd) := cell_of_block B_r.out rfl
  have c_r1 : v2.cell? ⟨rb, 1, none⟩ = some (.string gp) := cell_of_block B_r.out rfl
  have c_r2 : v2.cell? ⟨rb, 2, none⟩ = some (.slice rp rn rc) := cell_of_block B_r.out rfl
  have CN := Lib.hid (rris_c (.slice rp rn rc) rs v2 hr6.out HRR.out)
  unfold MPost at CN
  go_wp2_with fail
  ((with_reducible refine CN.out.mono ?_); rintro e v3 ⟨ul, rfl, a9, kb9⟩)
  clear c_r0 c_r1 c_r2
  replace B_s := Lib.hid (below_block kb9 (lt_of_block B_s.out) B_s.out)
  replace B_r := Lib.hid (below_block kb9 (lt_of_block B_r.out) B_r.out)
  replace B_o := Lib.hid (below_block kb9 (lt_of_block B_o.out) B_o.out)
  replace B_a := Lib.hid (below_block kb9 (lt_of_block B_a.out) B_a.out)
  replace HR := Lib.hid (HR.out.below kb9)
  replace HRR := Lib.hid (HRR.out.below kb9)
  replace KW := Lib.hid (KW.out.trans (kb9.mono KW.out.size))
  have HL := Lib.hid a9.at
  clear CN kb9 a9
  have c_s0 : v3.cell? ⟨w.heap.size, 0, none⟩ = some (.bool false) := cell_of_block B_s.out rfl
  have c_s1 : v3.cell? ⟨w.heap.size, 1, none⟩ = some (.int .i64 tm) := cell_of_block B_s.out rfl
  have c_s2 : v3.cell? ⟨w.heap.size, 2, none⟩ = some (.slice q n c) := cell_of_block B_s.out rfl
  have c_r0 : v3.cell? ⟨rb, 0, none⟩ = some (.int .i64 kd) := cell_of_block B_r.out rfl
  have c_r1 : v3.cell? ⟨rb, 1, none⟩ = some (.string gp) := cell_of_block B_r.out rfl
  have c_r2 : v3.cell? ⟨rb, 2, none⟩ = some (.slice rp rn rc) := cell_of_block B_r.out rfl
  have CN := Lib.hid (some17_c false tm q n c sl kd ul (ris rs) (now + m) v3 hq1.out hq2.out hll.out hrl.out HR.out HL.out)
  rw [HCa.out] at CN
  unfold CgPost at CN
  go_wp2_with fail
  ((with_reducible refine CN.out.mono ?_); rintro e v4 ⟨vs0, va0, rfl, r9, a9, kb9⟩)
  clear c_s0 c_s1 c_s2 c_r0 c_r1 c_r2
  replace B_s := Lib.hid (below_block kb9 (lt_of_block B_s.out) B_s.out)
  replace B_r := Lib.hid (below_block kb9 (lt_of_block B_r.out) B_r.out)
  replace B_o := Lib.hid (below_block kb9 (lt_of_block B_o.out) B_o.out)
  replace B_a := Lib.hid (below_block kb9 (lt_of_block B_a.out) B_a.out)
  replace HR := Lib.hid (HR.out.below kb9)
  replace HRR := Lib.hid (HRR.out.below kb9)
  replace HL := Lib.hid (HL.out.below kb9)
  replace KW := Lib.hid (KW.out.trans (kb9.mono KW.out.size))
  simp only at r9 a9 ⊢
  obtain ⟨oq, oc, hov⟩ := r9.slice
  rw [← HCN.out] at hov
  subst hov
  obtain ⟨aq, an, ac, rfl⟩ := addrs_slice3 a9
  have RO := Lib.hid r9
  have AO := Lib.hid a9
  clear CN kb9 r9 a9
  go_upto_region 9 with fail
  have kA : Below v4.heap.size v4 ((v4.alloc (.cells #[.bool true, .int .i64 ct, .slice oq cn oc] 24)).alloc (.cells #[.bool cg, .slice aq an ac] 47)) := ((Below.refl _ _).alloc (Nat.le_refl _) _).alloc (by simp) _
  have ge_p := Lib.hid (show w.heap.size ≤ v4.heap.size from KW.out.size)
  have ge_k := Lib.hid (show w.heap.size ≤ v4.heap.size + 1 from Nat.le_succ_of_le KW.out.size)
  have ne_p_k := Lib.hid (show v4.heap.size ≠ v4.heap.size + 1 from by omega)
  have ne_s_p := Lib.hid (Nat.ne_of_lt (lt_of_block B_s.out))
  have ne_s_k := Lib.hid (show w.heap.size ≠ v4.heap.size + 1 from Nat.ne_of_lt (Nat.lt_succ_of_lt (lt_of_block B_s.out)))
  have ne_r_p := Lib.hid (Nat.ne_of_lt (lt_of_block B_r.out))
  have ne_r_k := Lib.hid (show rb ≠ v4.heap.size + 1 from Nat.ne_of_lt (Nat.lt_succ_of_lt (lt_of_block B_r.out)))
  have ne_o_p := Lib.hid (Nat.ne_of_lt (lt_of_block B_o.out))
  have ne_o_k := Lib.hid (show e12 ≠ v4.heap.size + 1 from Nat.ne_of_lt (Nat.lt_succ_of_lt (lt_of_block B_o.out)))
  have ne_a_p := Lib.hid (Nat.ne_of_lt (lt_of_block B_a.out))
  have ne_a_k := Lib.hid (show e14 ≠ v4.heap.size + 1 from Nat.ne_of_lt (Nat.lt_succ_of_lt (lt_of_block B_a.out)))
  replace B_s := Lib.hid (below_block kA (lt_of_block B_s.out) B_s.out)
  replace B_r := Lib.hid (below_block kA (lt_of_block B_r.out) B_r.out)
  replace B_o := Lib.hid (below_block kA (lt_of_block B_o.out) B_o.out)
  replace B_a := Lib.hid (below_block kA (lt_of_block B_a.out) B_a.out)
  replace HR := Lib.hid (HR.out.below kA)
  replace HRR := Lib.hid (HRR.out.below kA)
  replace HL := Lib.hid (HL.out.below kA)
  replace RO := Lib.hid (RO.out.below kA)
  replace AO := Lib.hid (AO.out.below kA)
  replace KW := Lib.hid (KW.out.trans (kA.mono KW.out.size))
  have B_p := Lib.hid (show ((v4.alloc (.cells #[.bool true, .int .i64 ct, .slice oq cn oc] 24)).alloc (.cells #[.bool cg, .slice aq an ac] 47)).heap[v4.heap.size]? = some (.cells #[.bool true, .int .i64 ct, .slice oq cn oc] 24) from heap_old (heap_new v4 (.cells #[.bool true, .int .i64 ct, .slice oq cn oc] 24)))
  have B_k := Lib.hid (show ((v4.alloc (.cells #[.bool true, .int .i64 ct, .slice oq cn oc] 24)).alloc (.cells #[.bool cg, .slice aq an ac] 47)).heap[v4.heap.size + 1]? = some (.cells #[.bool cg, .slice aq an ac] 47) from by simpa using heap_new (v4.alloc (.cells #[.bool true, .int .i64 ct, .slice oq cn oc] 24)) (.cells #[.bool cg, .slice aq an ac] 47))
  clear kA
  generalize (v4.alloc (.cells #[.bool true, .int .i64 ct, .slice oq cn oc] 24)).alloc (.cells #[.bool cg, .slice aq an ac] 47) = v5 at B_s B_r B_o B_a B_p B_k HR HRR HL RO AO KW ⊢
  generalize v4.heap.size + 1 = kb at B_k ge_k ne_p_k ne_s_k ne_r_k ne_o_k ne_a_k ⊢
  generalize v4.heap.size = pb at B_p ge_p ne_p_k ne_s_p ne_r_p ne_o_p ne_a_p ⊢
  have c_s0 : v5.cell? ⟨w.heap.size, 0, none⟩ = some (.bool false) := cell_of_block B_s.out rfl
  have c_s1 : v5.cell? ⟨w.heap.size, 1, none⟩ = some (.int .i64 tm) := cell_of_block B_s.out rfl
  have c_s2 : v5.cell? ⟨w.heap.size, 2, none⟩ = some (.slice q n c) := cell_of_block B_s.out rfl
  have c_p0 : v5.cell? ⟨pb, 0, none⟩ = some (.bool true) := cell_of_block B_p.out rfl
  have c_p1 : v5.cell? ⟨pb, 1, none⟩ = some (.int .i64 ct) := cell_of_block B_p.out rfl
  have c_p2 : v5.cell? ⟨pb, 2, none⟩ = some (.slice oq cn oc) := cell_of_block B_p.out rfl
  have c_k0 : v5.cell? ⟨kb, 0, none⟩ = some (.bool cg) := cell_of_block B_k.out rfl
  have c_k1 : v5.cell? ⟨kb, 1, none⟩ = some (.slice aq an ac) := cell_of_block B_k.out rfl
  have CN := Lib.hid (by have h := asked17_c true ct (.slice oq cn oc) cs cg (.slice aq an ac) ca (now + l) v5 hcl.out hal.out RO.out AO.out; rw [← hT.out, ← hS.out] at h; unfold AkPost at h; exact h)
  go_wp2_with fail
  ((with_reducible refine CN.out.mono ?_); rintro e v6 ⟨vs1, rfl, r9, kb9⟩)
  clear c_p0 c_p1 c_p2 c_k0 c_k1
  clear c_s0 c_s1 c_s2
  replace B_s := Lib.hid (below_block kb9 (lt_of_block B_s.out) B_s.out)
  replace B_r := Lib.hid (below_block kb9 (lt_of_block B_r.out) B_r.out)
  replace B_o := Lib.hid (below_block kb9 (lt_of_block B_o.out) B_o.out)
  replace B_a := Lib.hid (below_block kb9 (lt_of_block B_a.out) B_a.out)
  replace B_p := Lib.hid (below_block kb9 (lt_of_block B_p.out) B_p.out)
  replace B_k := Lib.hid (below_block kb9 (lt_of_block B_k.out) B_k.out)
  replace HR := Lib.hid (HR.out.below kb9)
  replace HRR := Lib.hid (HRR.out.below kb9)
  replace HL := Lib.hid (HL.out.below kb9)
  replace RO := Lib.hid (RO.out.below kb9)
  replace AO := Lib.hid (AO.out.below kb9)
  replace KW := Lib.hid (KW.out.trans (kb9.mono KW.out.size))
  clear RO
  obtain ⟨sq, sc, hov⟩ := r9.slice
  rw [← HSN.out] at hov
  subst hov
  have RO := Lib.hid r9
  clear CN kb9 r9
  have c_p0 : v6.cell? ⟨pb, 0, none⟩ = some (.bool true) := cell_of_block B_p.out rfl
  have c_p1 : v6.cell? ⟨pb, 1, none⟩ = some (.int .i64 ct) := cell_of_block B_p.out rfl
  have c_p2 : v6.cell? ⟨pb, 2, none⟩ = some (.slice oq cn oc) := cell_of_block B_p.out rfl
  have z_p := (fun j : Nat => free_of_block (j := j) B_p.out)
  go_upto_region 14 with fail
  clear c_p0 c_p1 c_p2
  clear z_p
  have kt : Tw v6 (((v6.setCell ⟨pb, 0, none⟩ (.bool true)).setCell ⟨pb, 1, none⟩ (.int .i64 T)).setCell ⟨pb, 2, none⟩ (.slice sq sn sc)) pb pb := ((tw_set v6 pb 0 (.bool true)).trans (tw_set (v6.setCell ⟨pb, 0, none⟩ (.bool true)) pb 1 (.int .i64 T))).trans (tw_set ((v6.setCell ⟨pb, 0, none⟩ (.bool true)).setCell ⟨pb, 1, none⟩ (.int .i64 T)) pb 2 (.slice sq sn sc))
  replace HR := Lib.hid (rows_tw HR.out B_p.out no_str kt)
  replace HRR := Lib.hid (addrs_tw HRR.out B_p.out no_str kt)
  replace HL := Lib.hid (addrs_tw HL.out B_p.out no_str kt)
  replace AO := Lib.hid (addrs_tw AO.out B_p.out no_str kt)
  replace RO := Lib.hid (rows_tw RO.out B_p.out no_str kt)
  replace B_s := Lib.hid (blk_tw kt B_s.out ne_s_p.out)
  replace B_r := Lib.hid (blk_tw kt B_r.out ne_r_p.out)
  replace B_o := Lib.hid (blk_tw kt B_o.out ne_o_p.out)
  replace B_a := Lib.hid (blk_tw kt B_a.out ne_a_p.out)
  replace B_k := Lib.hid (blk_tw kt B_k.out (Ne.symm ne_p_k.out))
  replace B_p := Lib.hid (show ((((v6.setCell ⟨pb, 0, none⟩ (.bool true)).setCell ⟨pb, 1, none⟩ (.int .i64 T)).setCell ⟨pb, 2, none⟩ (.slice sq sn sc))).heap[pb]? = some (.cells #[.bool true, .int .i64 T, .slice sq sn sc] 24 (0, 0)) from (heap_store (j := 2) (v := .slice sq sn sc) (heap_store (j := 1) (v := .int .i64 T) (heap_store (j := 0) (v := .bool true) B_p.out))))
  replace KW := Lib.hid (bel_tw KW.out ge_p.out kt)
  clear kt
  generalize (((v6.setCell ⟨pb, 0, none⟩ (.bool true)).setCell ⟨pb, 1, none⟩ (.int .i64 T)).setCell ⟨pb, 2, none⟩ (.slice sq sn sc)) = v7 at B_s B_r B_o B_a B_p B_k HR HRR HL AO RO KW ⊢
  have c_p0 : v7.cell? ⟨pb, 0, none⟩ = some (.bool true) := cell_of_block B_p.out rfl
  have c_p1 : v7.cell? ⟨pb, 1, none⟩ = some (.int .i64 T) := cell_of_block B_p.out rfl
  have c_p2 : v7.cell? ⟨pb, 2, none⟩ = some (.slice sq sn sc) := cell_of_block B_p.out rfl
  go_upto_region 16 with fail
  have PB := B_p.out
  have hb := B_k.out
  have h8 := B_o.out
  have h9 := B_a.out
  have rf := RO.out
  have af := AO.out
  have kk := KW.out
  have KF := Lib.hid (show ∀ U : World, U.heap[pb]? = some (.cells #[.bool true, .int .i64 T, .slice sq sn sc] 24 (0, 0)) → U.heap[kb]? = some (.cells #[.bool cg, .slice aq an ac] 47 (0, 0)) → (U.cell? ⟨pb, 0, none⟩ = some (.bool true) ∧ U.cell? ⟨pb, 1, none⟩ = some (.int .i64 T) ∧ U.cell? ⟨pb, 2, none⟩ = some (.slice sq sn sc) ∧ U.cell? ⟨kb, 0, none⟩ = some (.bool cg) ∧ U.cell? ⟨kb, 1, none⟩ = some (.slice aq an ac)) from fun U h1 h2 => ⟨cell_of_block h1 rfl, cell_of_block h1 rfl, cell_of_block h1 rfl, cell_of_block h2 rfl, cell_of_block h2 rfl⟩)
  clear B_p B_k B_o B_a B_s B_r RO AO KW HR HRR HL
  refine wp_region_held_drew (S := fun U => U.cell? ⟨pb, 0, none⟩ = some (.bool true) ∧ U.cell? ⟨pb, 1, none⟩ = some (.int .i64 T) ∧ U.cell? ⟨pb, 2, none⟩ = some (.slice sq sn sc) ∧ U.cell? ⟨kb, 0, none⟩ = some (.bool cg) ∧ U.cell? ⟨kb, 1, none⟩ = some (.slice aq an ac)) (by kernel_rfl) (KF.out _ PB hb) (fun hH => ?_)
  replace h8 : v7.drew.heap[e12]? = _ := h8
  replace h9 : v7.drew.heap[e14]? = _ := h9
  replace PB : v7.drew.heap[pb]? = _ := PB
  replace hb : v7.drew.heap[kb]? = _ := hb
  replace rf := rf.below (show Below v7.heap.size v7 v7.drew from (Below.refl _ _).drew)
  replace af := af.below (show Below v7.heap.size v7 v7.drew from (Below.refl _ _).drew)
  replace kk := kk.drew
  generalize v7.drew = Y0 at h8 h9 PB hb rf af kk hH ⊢
  refine wpAnyH_take (i := 0) (oi := { dst := some 103, op := Op.load 24 (Operand.tmp 17), type := 24, pos := "ref.go:197", after := #[], guard := none }) (v := .agg #[.bool true, .int .i64 T, .slice sq sn sc]) rfl (by kernel_rfl) (by kernel_rfl) (by kernel_rfl) (fun _ _ _ h => h) (Or.inl ⟨by kernel_rfl, ?_⟩) hH ?_
  · intro w hSw; (try dsimp only at hSw); go_simp; (try rfl)
  try simp only [Act.put, List.setIfInBounds_toArray, List.set_cons_zero, List.set_cons_succ]
  refine wpAnyH_take (i := 1) (oi := { dst := some 104, op := Op.load 47 (Operand.tmp 18), type := 47, pos := "ref.go:197", after := #[{ on := 3, ground := Ground.gcOnly Departure.lateStores }], guard := none }) (v := .agg #[.bool cg, .slice aq an ac]) rfl (by kernel_rfl) (by kernel_rfl) (by kernel_rfl) (fun _ _ _ h => h) (Or.inl ⟨by kernel_rfl, ?_⟩) hH ?_
  · intro w hSw; (try dsimp only at hSw); go_simp; (try rfl)
  try simp only [Act.put, List.setIfInBounds_toArray, List.set_cons_zero, List.set_cons_succ]
  refine wpAnyH_ready (rs := [2]) (by kernel_rfl) (by simp) ?_
  refine AllReadyH.cons rfl (fun K hK => ?_) AllReadyH.nil
  have z0 := cell_of_block (j := 0) h8 rfl
  have fz0 := free_of_block (j := 0) h8
  have z1 := cell_of_block (j := 1) h8 rfl
  have fz1 := free_of_block (j := 1) h8
  have z2 := cell_of_block (j := 2) h8 rfl
  have fz2 := free_of_block (j := 2) h8
  go_simp
  clear z0 fz0 z1 fz1 z2 fz2
  have kt : Tw Y0 (((Y0.setCell ⟨e12, 0, none⟩ (.bool true)).setCell ⟨e12, 1, none⟩ (.int .i64 T)).setCell ⟨e12, 2, none⟩ (.slice sq sn sc)) e12 e12 := ((tw_set Y0 e12 0 (.bool true)).trans (tw_set (Y0.setCell ⟨e12, 0, none⟩ (.bool true)) e12 1 (.int .i64 T))).trans (tw_set ((Y0.setCell ⟨e12, 0, none⟩ (.bool true)).setCell ⟨e12, 1, none⟩ (.int .i64 T)) e12 2 (.slice sq sn sc))
  replace rf := rows_tw rf h8 no_str kt
  replace af := addrs_tw af h8 no_str kt
  replace kk := bel_tw kk ge_o.out kt
  replace h9 := blk_tw kt h9 ((Ne.symm ne_o_a.out))
  replace PB := blk_tw kt PB ((Ne.symm ne_o_p.out))
  replace hb := blk_tw kt hb ((Ne.symm ne_o_k.out))
  replace h8 : ((((Y0.setCell ⟨e12, 0, none⟩ (.bool true)).setCell ⟨e12, 1, none⟩ (.int .i64 T)).setCell ⟨e12, 2, none⟩ (.slice sq sn sc))).heap[e12]? = some (.cells #[.bool true, .int .i64 T, .slice sq sn sc] 24 (0, 0)) := (heap_store (j := 2) (v := .slice sq sn sc) (heap_store (j := 1) (v := .int .i64 T) (heap_store (j := 0) (v := .bool true) h8)))
  clear kt
  refine hK.out _ _ (KF.out _ PB hb) (fun hH => ?_)
  clear hK K
  try simp only [Act.put, List.setIfInBounds_toArray, List.set_cons_zero, List.set_cons_succ]
  generalize (((Y0.setCell ⟨e12, 0, none⟩ (.bool true)).setCell ⟨e12, 1, none⟩ (.int .i64 T)).setCell ⟨e12, 2, none⟩ (.slice sq sn sc)) = Y1 at h8 h9 PB hb rf af kk hH ⊢
  refine wpAnyH_take (i := 3) (oi := { dst := some 13, op := Op.assign (Operand.const (Value.bool true)), type := 4, pos := "ref.go:197", after := #[{ on := 2, ground := Ground.chain }, { on := 0, ground := Ground.phase }, { on := 1, ground := Ground.textOnly Departure.lateStores }, { on := 2, ground := Ground.phase }], guard := none }) (v := .bool true) rfl (by kernel_rfl) (by kernel_rfl) (by kernel_rfl) (fun _ _ _ h => h) (Or.inl ⟨by kernel_rfl, ?_⟩) hH ?_
  · intro w hSw; (try dsimp only at hSw); go_simp; (try rfl)
  try simp only [Act.put, List.setIfInBounds_toArray, List.set_cons_zero, List.set_cons_succ]
  refine wpAnyH_ready (rs := [4]) (by kernel_rfl) (by simp) ?_
  refine AllReadyH.cons rfl (fun K hK => ?_) AllReadyH.nil
  have z0 := cell_of_block (j := 0) h9 rfl
  have fz0 := free_of_block (j := 0) h9
  have z1 := cell_of_block (j := 1) h9 rfl
  have fz1 := free_of_block (j := 1) h9
  go_simp
  clear z0 fz0 z1 fz1
  have kt : Tw Y1 ((Y1.setCell ⟨e14, 0, none⟩ (.bool cg)).setCell ⟨e14, 1, none⟩ (.slice aq an ac)) e14 e14 := (tw_set Y1 e14 0 (.bool cg)).trans (tw_set (Y1.setCell ⟨e14, 0, none⟩ (.bool cg)) e14 1 (.slice aq an ac))
  replace rf := rows_tw rf h9 no_str2 kt
  replace af := addrs_tw af h9 no_str2 kt
  replace kk := bel_tw kk ge_a.out kt
  replace h8 := blk_tw kt h8 (ne_o_a.out)
  replace PB := blk_tw kt PB ((Ne.symm ne_a_p.out))
  replace hb := blk_tw kt hb ((Ne.symm ne_a_k.out))
  replace h9 : (((Y1.setCell ⟨e14, 0, none⟩ (.bool cg)).setCell ⟨e14, 1, none⟩ (.slice aq an ac))).heap[e14]? = some (.cells #[.bool cg, .slice aq an ac] 47 (0, 0)) := (heap_store (j := 1) (v := .slice aq an ac) (heap_store (j := 0) (v := .bool cg) h9))
  clear kt
  refine hK.out _ _ (KF.out _ PB hb) (fun hH => ?_)
  clear hK K
  try simp only [Act.put, List.setIfInBounds_toArray, List.set_cons_zero, List.set_cons_succ]
  generalize ((Y1.setCell ⟨e14, 0, none⟩ (.bool cg)).setCell ⟨e14, 1, none⟩ (.slice aq an ac)) = Y2 at h8 h9 PB hb rf af kk hH ⊢
  refine wpAnyH_take (i := 5) (oi := { dst := some 15, op := Op.assign (Operand.const (Value.int IntKind.i64 0)), type := 28, pos := "ref.go:197", after := #[{ on := 4, ground := Ground.chain }, { on := 0, ground := Ground.phase }, { on := 1, ground := Ground.phase }, { on := 2, ground := Ground.phase }, { on := 3, ground := Ground.phase }, { on := 4, ground := Ground.phase }], guard := none }) (v := .int .i64 0) rfl (by kernel_rfl) (by kernel_rfl) (by kernel_rfl) (fun _ _ _ h => h) (Or.inl ⟨by kernel_rfl, ?_⟩) hH ?_
  · intro w hSw; (try dsimp only at hSw); go_simp; (try rfl)
  try simp only [Act.put, List.setIfInBounds_toArray, List.set_cons_zero, List.set_cons_succ]
  refine wpAnyH_done (by kernel_rfl) ?_ _
  have HF := Lib.hid (HQ.out _ _ _ rf af kk)
  have y0 := cell_of_block (j := 0) h8 rfl
  have y1 := cell_of_block (j := 1) h8 rfl
  have y2 := cell_of_block (j := 2) h8 rfl
  have y3 := cell_of_block (j := 0) h9 rfl
  have y4 := cell_of_block (j := 1) h9 rfl
  clear hH h8 h9 PB hb rf af kk HQ KF
  go_wp2_with fail
  exact bodyPost_ret (v := .tuple #[.agg #[.bool true, .int .i64 T, .slice sq sn sc], .bool true, .agg #[.bool cg, .slice aq an ac], .int .i64 0]) (by simp [results, Try.results21, go_sem, y0, y1, y2, y3, y4]) rfl HF.out

set_option maxHeartbeats 16000000 in
set_option maxRecDepth 100000 in
theorem ap17_tn_okn (tm : Int) (q : Option Addr) (n c : Nat) (sl : List Tm) (kd : Int) (gp : ByteArray) (rp : Option Addr) (rn rc : Nat) (rs : List ByteArray) (now m l : Int) (w : World) (hl0 : sl.length ≤ 100) (hr0 : rs.length ≤ 100) (hrn0 : rn = rs.length) (hR : RowsAt 2 cellsTm w (.slice q n c) sl) (hRR : AddrsAt w (.slice rp rn rc) rs) (hok : okS ⟨false, tm, sl⟩ = true) (hm0 : mayT m l now = true) (hr1 : recT kd rs = true) (ct : Int) (cs : List Tm) (cg : Bool) (ca : List ByteArray) (hC : somP sl kd (ris rs) (now + m) = ⟨false, ct, cs, cg, ca⟩) (hb : ¬ 60 < cs.length) (hz : ¬ (askS cs ca (now + l)).length = 0) (T : Int) (hT0 : T = if cg then min ct (now + l) else ct) (S : List Tm) (hS0 : S = askS cs ca (now + l)) :
    Calls Try.prog 21 #[.agg #[.bool false, .int .i64 tm, .slice q n c], .bool true, .agg #[.int .i64 kd, .string gp, .slice rp rn rc], .int .i64 now, .int .i64 m, .int .i64 l] w (ApPost ⟨⟨false, T, S⟩, true, cg, ca, 0⟩ w) := by
  have k0 : Below w.heap.size w ((((w.alloc (.cells #[.bool false, .int .i64 tm, .slice q n c] 24)).alloc (.cells #[.int .i64 kd, .string gp, .slice rp rn rc] 37)).alloc (.cells #[.bool false, .int .i64 0, .slice none 0 0] 24)).alloc (.cells #[.bool false, .slice none 0 0] 47)) := ((((Below.refl _ _).alloc (Nat.le_refl _) _).alloc (by simp) _).alloc (by simp; omega) _).alloc (by simp; omega) _
  have KW := Lib.hid k0
  have B_s := Lib.hid (show ((((w.alloc (.cells #[.bool false, .int .i64 tm, .slice q n c] 24)).alloc (.cells #[.int .i64 kd, .string gp, .slice rp rn rc] 37)).alloc (.cells #[.bool false, .int .i64 0, .slice none 0 0] 24)).alloc (.cells #[.bool false, .slice none 0 0] 47)).heap[w.heap.size]? = some (.cells #[.bool false, .int .i64 tm, .slice q n c] 24) from heap_old (heap_old (heap_old (heap_new w (.cells #[.bool false, .int .i64 tm, .slice q n c] 24)))))
  have B_r := Lib.hid (show ((((w.alloc (.cells #[.bool false, .int .i64 tm, .slice q n c] 24)).alloc (.cells #[.int .i64 kd, .string gp, .slice rp rn rc] 37)).alloc (.cells #[.bool false, .int .i64 0, .slice none 0 0] 24)).alloc (.cells #[.bool false, .slice none 0 0] 47)).heap[w.heap.size + 1]? = some (.cells #[.int .i64 kd, .string gp, .slice rp rn rc] 37) from heap_old (heap_old (by simpa using heap_new (w.alloc (.cells #[.bool false, .int .i64 tm, .slice q n c] 24)) (.cells #[.int .i64 kd, .string gp, .slice rp rn rc] 37))))
  have B_o := Lib.hid (show ((((w.alloc (.cells #[.bool false, .int .i64 tm, .slice q n c] 24)).alloc (.cells #[.int .i64 kd, .string gp, .slice rp rn rc] 37)).alloc (.cells #[.bool false, .int .i64 0, .slice none 0 0] 24)).alloc (.cells #[.bool false, .slice none 0 0] 47)).heap[w.heap.size + 1 + 1]? = some (.cells #[.bool false, .int .i64 0, .slice none 0 0] 24) from heap_old (by simpa using heap_new ((w.alloc (.cells #[.bool false, .int .i64 tm, .slice q n c] 24)).alloc (.cells #[.int .i64 kd, .string gp, .slice rp rn rc] 37)) (.cells #[.bool false, .int .i64 0, .slice none 0 0] 24)))
  have B_a := Lib.hid (show ((((w.alloc (.cells #[.bool false, .int .i64 tm, .slice q n c] 24)).alloc (.cells #[.int .i64 kd, .string gp, .slice rp rn rc] 37)).alloc (.cells #[.bool false, .int .i64 0, .slice none 0 0] 24)).alloc (.cells #[.bool false, .slice none 0 0] 47)).heap[w.heap.size + 1 + 1 + 1]? = some (.cells #[.bool false, .slice none 0 0] 47) from by simpa using heap_new (((w.alloc (.cells #[.bool false, .int .i64 tm, .slice q n c] 24)).alloc (.cells #[.int .i64 kd, .string gp, .slice rp rn rc] 37)).alloc (.cells #[.bool false, .int .i64 0, .slice none 0 0] 24)) (.cells #[.bool false, .slice none 0 0] 47))
  have HR := Lib.hid (hR.below k0)
  have HRR := Lib.hid (hRR.below k0)
  have ge_s := Lib.hid (Nat.le_refl w.heap.size)
  have ge_r := Lib.hid (show w.heap.size ≤ w.heap.size + 1 from by omega)
  have ge_o := Lib.hid (show w.heap.size ≤ w.heap.size + 1 + 1 from by omega)
  have ge_a := Lib.hid (show w.heap.size ≤ w.heap.size + 1 + 1 + 1 from by omega)
  have ne_s_r := Lib.hid (show w.heap.size ≠ w.heap.size + 1 from by omega)
  have ne_s_o := Lib.hid (show w.heap.size ≠ w.heap.size + 1 + 1 from by omega)
  have ne_s_a := Lib.hid (show w.heap.size ≠ w.heap.size + 1 + 1 + 1 from by omega)
  have ne_r_o := Lib.hid (show w.heap.size + 1 ≠ w.heap.size + 1 + 1 from by omega)
  have ne_r_a := Lib.hid (show w.heap.size + 1 ≠ w.heap.size + 1 + 1 + 1 from by omega)
  have ne_o_a := Lib.hid (show w.heap.size + 1 + 1 ≠ w.heap.size + 1 + 1 + 1 from by omega)
  have HQ := Lib.hid (show ∀ U vs va, RowsAt 2 cellsTm U vs S → AddrsAt U va ca → Below w.heap.size w U → ApPost ⟨⟨false, T, S⟩, true, cg, ca, 0⟩ w (.returned (.tuple #[.agg #[.bool false, .int .i64 T, vs], .bool true, .agg #[.bool cg, va], .int .i64 0])) U from fun U vs va h1 h2 h3 => ⟨vs, va, rfl, h1, h2, h3⟩)
  generalize ApPost ⟨⟨false, T, S⟩, true, cg, ca, 0⟩ w = Q at HQ ⊢
  have hl6 := Lib.hid (Nat.le_trans hl0 (show 100 ≤ 1000000 by decide))
  have hr6 := Lib.hid (Nat.le_trans hr0 (show 100 ≤ 1000000 by decide))
  have hchk := Lib.hid (show chkS ⟨false, tm, sl⟩ = 0 from by unfold chkS; rw [hok]; rfl)
  clear hok
  have hm := Lib.hid hm0
  have HCa := Lib.hid hC
  have hT := Lib.hid hT0
  have hS := Lib.hid hS0
  have hmay : 1 ≤ m ∧ m ≤ 1000000 ∧ 1 ≤ l ∧ l ≤ 1000000 ∧ 1 ≤ now ∧ now ≤ 1099511627776 := by
    have := hm0
    unfold mayT at this
    simp only [Bool.and_eq_true, decide_eq_true_iff] at this
    omega
  have hrec : 1 ≤ kd ∧ kd ≤ 6 ∧ rn ≤ 60 := by
    have := hr1
    unfold recT at this
    simp only [Bool.and_eq_true, decide_eq_true_iff] at this
    omega
  obtain ⟨q1, q2, q3⟩ := hrec
  obtain ⟨m1, m2, l1, l2, o1, o2⟩ := hmay
  have hrl := Lib.hid (show (ris rs).length ≤ 100 from Nat.le_trans (ris_len rs) hr0)
  have hll := Lib.hid hl0
  have hq1 := Lib.hid q1
  have hq2 := Lib.hid q2
  have hal := Lib.hid (show ca.length ≤ 100 from by have h := som_al (l := sl) hl0 (Nat.le_trans (ris_len rs) hr0) kd (now + m); rw [hC] at h; exact h)
  have d1 : decide (kd < 1) = false := decide_eq_false (by omega)
  have d2 : decide (6 < kd) = false := decide_eq_false (by omega)
  have d3 : decide (60 < (rn : Int)) = false := decide_eq_false (by omega)
  have d4 : decide (60 < rn) = false := decide_eq_false (by omega)
  have aw1 : wrap64 (now + m) = now + m := by unfold wrap64; omega
  have aw2 : wrap64 (now + l) = now + l := by unfold wrap64; omega
  obtain ⟨cn, hcn⟩ : ∃ cn, cn = cs.length := ⟨_, rfl⟩
  have HCN := Lib.hid hcn
  obtain ⟨sn, hsn⟩ : ∃ sn, sn = S.length := ⟨_, rfl⟩
  have HSN := Lib.hid hsn
  have f1 : decide (60 < cn) = false := decide_eq_false (by rw [hcn]; exact hb)
  have f2 : decide (60 < (cn : Int)) = false := decide_eq_false (by rw [hcn]; omega)
  have hcl := Lib.hid (show cs.length ≤ 100 from by omega)
  rw [← hS0, ← hsn] at hz
  have f3 : decide (sn = 0) = false := decide_eq_false (by omega)
  have f4 : decide ((sn : Int) = 0) = false := decide_eq_false (by omega)
  have f5 : ¬ sn = 0 := hz
  have f6 : ¬ (sn : Int) = 0 := by omega
  clear hz
  clear hm0 hC hT0 hS0 hr1 hcn hsn hb q1 q2 q3 m1 m2 l1 l2 o1 o2 hl0 hr0 hrn0
  clear k0 hR hRR
  go_enter Try.func21, Try.ntmps21
  go_upto_region 1 with fail
  generalize ((((w.alloc (.cells #[.bool false, .int .i64 tm, .slice q n c] 24)).alloc (.cells #[.int .i64 kd, .string gp, .slice rp rn rc] 37)).alloc (.cells #[.bool false, .int .i64 0, .slice none 0 0] 24)).alloc (.cells #[.bool false, .slice none 0 0] 47)) = W at B_s B_r B_o B_a HR HRR KW ⊢
  generalize w.heap.size + 1 + 1 + 1 = e14 at B_a ge_a ne_s_a ne_r_a ne_o_a ⊢
  generalize w.heap.size + 1 + 1 = e12 at B_o ge_o ne_s_o ne_r_o ne_o_a ⊢
  generalize w.heap.size + 1 = rb at B_r ge_r ne_s_r ne_r_o ne_r_a ⊢
  have c_s0 : W.cell? ⟨w.heap.size, 0, none⟩ = some (.bool false) := cell_of_block B_s.out rfl
  have c_s1 : W.cell? ⟨w.heap.size, 1, none⟩ = some (.int .i64 tm) := cell_of_block B_s.out rfl
  have c_s2 : W.cell? ⟨w.heap.size, 2, none⟩ = some (.slice q n c) := cell_of_block B_s.out rfl
  have CN := Lib.hid (by have h := rchk17_c false tm (.slice q n c) sl W hl6.out HR.out; rw [hchk.out] at h; exact h)
  go_wp2_with fail
  ((with_reducible refine CN.out.mono ?_); rintro e v1 ⟨rfl, kb9⟩)
  clear c_s0 c_s1 c_s2
  replace B_s := Lib.hid (below_block kb9 (lt_of_block B_s.out) B_s.out)
  replace B_r := Lib.hid (below_block kb9 (lt_of_block B_r.out) B_r.out)
  replace B_o := Lib.hid (below_block kb9 (lt_of_block B_o.out) B_o.out)
  replace B_a := Lib.hid (below_block kb9 (lt_of_block B_a.out) B_a.out)
  replace HR := Lib.hid (HR.out.below kb9)
  replace HRR := Lib.hid (HRR.out.below kb9)
  replace KW := Lib.hid (KW.out.trans (kb9.mono KW.out.size))
  clear CN kb9
  have CN := Lib.hid (by have h := may17_c now m l v1; rw [hm.out] at h; exact h)
  go_wp2_with fail
  ((with_reducible refine CN.out.mono ?_); rintro e v2 ⟨rfl, kb9⟩)
  replace B_s := Lib.hid (below_block kb9 (lt_of_block B_s.out) B_s.out)
  replace B_r := Lib.hid (below_block kb9 (lt_of_block B_r.out) B_r.out)
  replace B_o := Lib.hid (below_block kb9 (lt_of_block B_o.out) B_o.out)
  replace B_a := Lib.hid (below_block kb9 (lt_of_block B_a.out) B_a.out)
  replace HR := Lib.hid (HR.out.below kb9)
  replace HRR := Lib.hid (HRR.out.below kb9)
  replace KW := Lib.hid (KW.out.trans (kb9.mono KW.out.size))
  clear CN kb9
  have c_r0 : v2.cell? ⟨rb, 0, none⟩ = some (.int .i64 kd) := cell_of_block B_r.out rfl
  have c_r1 : v2.cell? ⟨rb, 1, none⟩ = some (.string gp) := cell_of_block B_r.out rfl
  have c_r2 : v2.cell? ⟨rb, 2, none⟩ = some (.slice rp rn rc) := cell_of_block B_r.out rfl
  have CN := Lib.hid (rris_c (.slice rp rn rc) rs v2 hr6.out HRR.out)
  unfold MPost at CN
  go_wp2_with fail
  ((with_reducible refine CN.out.mono ?_); rintro e v3 ⟨ul, rfl, a9, kb9⟩)
  clear c_r0 c_r1 c_r2
  replace B_s := Lib.hid (below_block kb9 (lt_of_block B_s.out) B_s.out)
  replace B_r := Lib.hid (below_block kb9 (lt_of_block B_r.out) B_r.out)
  replace B_o := Lib.hid (below_block kb9 (lt_of_block B_o.out) B_o.out)
  replace B_a := Lib.hid (below_block kb9 (lt_of_block B_a.out) B_a.out)
  replace HR := Lib.hid (HR.out.below kb9)
  replace HRR := Lib.hid (HRR.out.below kb9)
  replace KW := Lib.hid (KW.out.trans (kb9.mono KW.out.size))
  have HL := Lib.hid a9.at
  clear CN kb9 a9
  have c_s0 : v3.cell? ⟨w.heap.size, 0, none⟩ = some (.bool false) := cell_of_block B_s.out rfl
  have c_s1 : v3.cell? ⟨w.heap.size, 1, none⟩ = some (.int .i64 tm) := cell_of_block B_s.out rfl
  have c_s2 : v3.cell? ⟨w.heap.size, 2, none⟩ = some (.slice q n c) := cell_of_block B_s.out rfl
  have c_r0 : v3.cell? ⟨rb, 0, none⟩ = some (.int .i64 kd) := cell_of_block B_r.out rfl
  have c_r1 : v3.cell? ⟨rb, 1, none⟩ = some (.string gp) := cell_of_block B_r.out rfl
  have c_r2 : v3.cell? ⟨rb, 2, none⟩ = some (.slice rp rn rc) := cell_of_block B_r.out rfl
  have CN := Lib.hid (some17_c false tm q n c sl kd ul (ris rs) (now + m) v3 hq1.out hq2.out hll.out hrl.out HR.out HL.out)
  rw [HCa.out] at CN
  unfold CgPost at CN
  go_wp2_with fail
  ((with_reducible refine CN.out.mono ?_); rintro e v4 ⟨vs0, va0, rfl, r9, a9, kb9⟩)
  clear c_s0 c_s1 c_s2 c_r0 c_r1 c_r2
  replace B_s := Lib.hid (below_block kb9 (lt_of_block B_s.out) B_s.out)
  replace B_r := Lib.hid (below_block kb9 (lt_of_block B_r.out) B_r.out)
  replace B_o := Lib.hid (below_block kb9 (lt_of_block B_o.out) B_o.out)
  replace B_a := Lib.hid (below_block kb9 (lt_of_block B_a.out) B_a.out)
  replace HR := Lib.hid (HR.out.below kb9)
  replace HRR := Lib.hid (HRR.out.below kb9)
  replace HL := Lib.hid (HL.out.below kb9)
  replace KW := Lib.hid (KW.out.trans (kb9.mono KW.out.size))
  simp only at r9 a9 ⊢
  obtain ⟨oq, oc, hov⟩ := r9.slice
  rw [← HCN.out] at hov
  subst hov
  obtain ⟨aq, an, ac, rfl⟩ := addrs_slice3 a9
  have RO := Lib.hid r9
  have AO := Lib.hid a9
  clear CN kb9 r9 a9
  go_upto_region 9 with fail
  have kA : Below v4.heap.size v4 ((v4.alloc (.cells #[.bool false, .int .i64 ct, .slice oq cn oc] 24)).alloc (.cells #[.bool cg, .slice aq an ac] 47)) := ((Below.refl _ _).alloc (Nat.le_refl _) _).alloc (by simp) _
  have ge_p := Lib.hid (show w.heap.size ≤ v4.heap.size from KW.out.size)
  have ge_k := Lib.hid (show w.heap.size ≤ v4.heap.size + 1 from Nat.le_succ_of_le KW.out.size)
  have ne_p_k := Lib.hid (show v4.heap.size ≠ v4.heap.size + 1 from by omega)
  have ne_s_p := Lib.hid (Nat.ne_of_lt (lt_of_block B_s.out))
  have ne_s_k := Lib.hid (show w.heap.size ≠ v4.heap.size + 1 from Nat.ne_of_lt (Nat.lt_succ_of_lt (lt_of_block B_s.out)))
  have ne_r_p := Lib.hid (Nat.ne_of_lt (lt_of_block B_r.out))
  have ne_r_k := Lib.hid (show rb ≠ v4.heap.size + 1 from Nat.ne_of_lt (Nat.lt_succ_of_lt (lt_of_block B_r.out)))
  have ne_o_p := Lib.hid (Nat.ne_of_lt (lt_of_block B_o.out))
  have ne_o_k := Lib.hid (show e12 ≠ v4.heap.size + 1 from Nat.ne_of_lt (Nat.lt_succ_of_lt (lt_of_block B_o.out)))
  have ne_a_p := Lib.hid (Nat.ne_of_lt (lt_of_block B_a.out))
  have ne_a_k := Lib.hid (show e14 ≠ v4.heap.size + 1 from Nat.ne_of_lt (Nat.lt_succ_of_lt (lt_of_block B_a.out)))
  replace B_s := Lib.hid (below_block kA (lt_of_block B_s.out) B_s.out)
  replace B_r := Lib.hid (below_block kA (lt_of_block B_r.out) B_r.out)
  replace B_o := Lib.hid (below_block kA (lt_of_block B_o.out) B_o.out)
  replace B_a := Lib.hid (below_block kA (lt_of_block B_a.out) B_a.out)
  replace HR := Lib.hid (HR.out.below kA)
  replace HRR := Lib.hid (HRR.out.below kA)
  replace HL := Lib.hid (HL.out.below kA)
  replace RO := Lib.hid (RO.out.below kA)
  replace AO := Lib.hid (AO.out.below kA)
  replace KW := Lib.hid (KW.out.trans (kA.mono KW.out.size))
  have B_p := Lib.hid (show ((v4.alloc (.cells #[.bool false, .int .i64 ct, .slice oq cn oc] 24)).alloc (.cells #[.bool cg, .slice aq an ac] 47)).heap[v4.heap.size]? = some (.cells #[.bool false, .int .i64 ct, .slice oq cn oc] 24) from heap_old (heap_new v4 (.cells #[.bool false, .int .i64 ct, .slice oq cn oc] 24)))
  have B_k := Lib.hid (show ((v4.alloc (.cells #[.bool false, .int .i64 ct, .slice oq cn oc] 24)).alloc (.cells #[.bool cg, .slice aq an ac] 47)).heap[v4.heap.size + 1]? = some (.cells #[.bool cg, .slice aq an ac] 47) from by simpa using heap_new (v4.alloc (.cells #[.bool false, .int .i64 ct, .slice oq cn oc] 24)) (.cells #[.bool cg, .slice aq an ac] 47))
  clear kA
  generalize (v4.alloc (.cells #[.bool false, .int .i64 ct, .slice oq cn oc] 24)).alloc (.cells #[.bool cg, .slice aq an ac] 47) = v5 at B_s B_r B_o B_a B_p B_k HR HRR HL RO AO KW ⊢
  generalize v4.heap.size + 1 = kb at B_k ge_k ne_p_k ne_s_k ne_r_k ne_o_k ne_a_k ⊢
  generalize v4.heap.size = pb at B_p ge_p ne_p_k ne_s_p ne_r_p ne_o_p ne_a_p ⊢
  have c_s0 : v5.cell? ⟨w.heap.size, 0, none⟩ = some (.bool false) := cell_of_block B_s.out rfl
  have c_s1 : v5.cell? ⟨w.heap.size, 1, none⟩ = some (.int .i64 tm) := cell_of_block B_s.out rfl
  have c_s2 : v5.cell? ⟨w.heap.size, 2, none⟩ = some (.slice q n c) := cell_of_block B_s.out rfl
  have c_p0 : v5.cell? ⟨pb, 0, none⟩ = some (.bool false) := cell_of_block B_p.out rfl
  have c_p1 : v5.cell? ⟨pb, 1, none⟩ = some (.int .i64 ct) := cell_of_block B_p.out rfl
  have c_p2 : v5.cell? ⟨pb, 2, none⟩ = some (.slice oq cn oc) := cell_of_block B_p.out rfl
  have c_k0 : v5.cell? ⟨kb, 0, none⟩ = some (.bool cg) := cell_of_block B_k.out rfl
  have c_k1 : v5.cell? ⟨kb, 1, none⟩ = some (.slice aq an ac) := cell_of_block B_k.out rfl
  have CN := Lib.hid (by have h := asked17_c false ct (.slice oq cn oc) cs cg (.slice aq an ac) ca (now + l) v5 hcl.out hal.out RO.out AO.out; rw [← hT.out, ← hS.out] at h; unfold AkPost at h; exact h)
  go_wp2_with fail
  ((with_reducible refine CN.out.mono ?_); rintro e v6 ⟨vs1, rfl, r9, kb9⟩)
  clear c_p0 c_p1 c_p2 c_k0 c_k1
  clear c_s0 c_s1 c_s2
  replace B_s := Lib.hid (below_block kb9 (lt_of_block B_s.out) B_s.out)
  replace B_r := Lib.hid (below_block kb9 (lt_of_block B_r.out) B_r.out)
  replace B_o := Lib.hid (below_block kb9 (lt_of_block B_o.out) B_o.out)
  replace B_a := Lib.hid (below_block kb9 (lt_of_block B_a.out) B_a.out)
  replace B_p := Lib.hid (below_block kb9 (lt_of_block B_p.out) B_p.out)
  replace B_k := Lib.hid (below_block kb9 (lt_of_block B_k.out) B_k.out)
  replace HR := Lib.hid (HR.out.below kb9)
  replace HRR := Lib.hid (HRR.out.below kb9)
  replace HL := Lib.hid (HL.out.below kb9)
  replace RO := Lib.hid (RO.out.below kb9)
  replace AO := Lib.hid (AO.out.below kb9)
  replace KW := Lib.hid (KW.out.trans (kb9.mono KW.out.size))
  clear RO
  obtain ⟨sq, sc, hov⟩ := r9.slice
  rw [← HSN.out] at hov
  subst hov
  have RO := Lib.hid r9
  clear CN kb9 r9
  have c_p0 : v6.cell? ⟨pb, 0, none⟩ = some (.bool false) := cell_of_block B_p.out rfl
  have c_p1 : v6.cell? ⟨pb, 1, none⟩ = some (.int .i64 ct) := cell_of_block B_p.out rfl
  have c_p2 : v6.cell? ⟨pb, 2, none⟩ = some (.slice oq cn oc) := cell_of_block B_p.out rfl
  have z_p := (fun j : Nat => free_of_block (j := j) B_p.out)
  go_upto_region 14 with fail
  clear c_p0 c_p1 c_p2
  clear z_p
  have kt : Tw v6 (((v6.setCell ⟨pb, 0, none⟩ (.bool false)).setCell ⟨pb, 1, none⟩ (.int .i64 T)).setCell ⟨pb, 2, none⟩ (.slice sq sn sc)) pb pb := ((tw_set v6 pb 0 (.bool false)).trans (tw_set (v6.setCell ⟨pb, 0, none⟩ (.bool false)) pb 1 (.int .i64 T))).trans (tw_set ((v6.setCell ⟨pb, 0, none⟩ (.bool false)).setCell ⟨pb, 1, none⟩ (.int .i64 T)) pb 2 (.slice sq sn sc))
  replace HR := Lib.hid (rows_tw HR.out B_p.out no_str kt)
  replace HRR := Lib.hid (addrs_tw HRR.out B_p.out no_str kt)
  replace HL := Lib.hid (addrs_tw HL.out B_p.out no_str kt)
  replace AO := Lib.hid (addrs_tw AO.out B_p.out no_str kt)
  replace RO := Lib.hid (rows_tw RO.out B_p.out no_str kt)
  replace B_s := Lib.hid (blk_tw kt B_s.out ne_s_p.out)
  replace B_r := Lib.hid (blk_tw kt B_r.out ne_r_p.out)
  replace B_o := Lib.hid (blk_tw kt B_o.out ne_o_p.out)
  replace B_a := Lib.hid (blk_tw kt B_a.out ne_a_p.out)
  replace B_k := Lib.hid (blk_tw kt B_k.out (Ne.symm ne_p_k.out))
  replace B_p := Lib.hid (show ((((v6.setCell ⟨pb, 0, none⟩ (.bool false)).setCell ⟨pb, 1, none⟩ (.int .i64 T)).setCell ⟨pb, 2, none⟩ (.slice sq sn sc))).heap[pb]? = some (.cells #[.bool false, .int .i64 T, .slice sq sn sc] 24 (0, 0)) from (heap_store (j := 2) (v := .slice sq sn sc) (heap_store (j := 1) (v := .int .i64 T) (heap_store (j := 0) (v := .bool false) B_p.out))))
  replace KW := Lib.hid (bel_tw KW.out ge_p.out kt)
  clear kt
  generalize (((v6.setCell ⟨pb, 0, none⟩ (.bool false)).setCell ⟨pb, 1, none⟩ (.int .i64 T)).setCell ⟨pb, 2, none⟩ (.slice sq sn sc)) = v7 at B_s B_r B_o B_a B_p B_k HR HRR HL AO RO KW ⊢
  have c_p0 : v7.cell? ⟨pb, 0, none⟩ = some (.bool false) := cell_of_block B_p.out rfl
  have c_p1 : v7.cell? ⟨pb, 1, none⟩ = some (.int .i64 T) := cell_of_block B_p.out rfl
  have c_p2 : v7.cell? ⟨pb, 2, none⟩ = some (.slice sq sn sc) := cell_of_block B_p.out rfl
  go_upto_region 16 with fail
  have PB := B_p.out
  have hb := B_k.out
  have h8 := B_o.out
  have h9 := B_a.out
  have rf := RO.out
  have af := AO.out
  have kk := KW.out
  have KF := Lib.hid (show ∀ U : World, U.heap[pb]? = some (.cells #[.bool false, .int .i64 T, .slice sq sn sc] 24 (0, 0)) → U.heap[kb]? = some (.cells #[.bool cg, .slice aq an ac] 47 (0, 0)) → (U.cell? ⟨pb, 0, none⟩ = some (.bool false) ∧ U.cell? ⟨pb, 1, none⟩ = some (.int .i64 T) ∧ U.cell? ⟨pb, 2, none⟩ = some (.slice sq sn sc) ∧ U.cell? ⟨kb, 0, none⟩ = some (.bool cg) ∧ U.cell? ⟨kb, 1, none⟩ = some (.slice aq an ac)) from fun U h1 h2 => ⟨cell_of_block h1 rfl, cell_of_block h1 rfl, cell_of_block h1 rfl, cell_of_block h2 rfl, cell_of_block h2 rfl⟩)
  clear B_p B_k B_o B_a B_s B_r RO AO KW HR HRR HL
  refine wp_region_held_drew (S := fun U => U.cell? ⟨pb, 0, none⟩ = some (.bool false) ∧ U.cell? ⟨pb, 1, none⟩ = some (.int .i64 T) ∧ U.cell? ⟨pb, 2, none⟩ = some (.slice sq sn sc) ∧ U.cell? ⟨kb, 0, none⟩ = some (.bool cg) ∧ U.cell? ⟨kb, 1, none⟩ = some (.slice aq an ac)) (by kernel_rfl) (KF.out _ PB hb) (fun hH => ?_)
  replace h8 : v7.drew.heap[e12]? = _ := h8
  replace h9 : v7.drew.heap[e14]? = _ := h9
  replace PB : v7.drew.heap[pb]? = _ := PB
  replace hb : v7.drew.heap[kb]? = _ := hb
  replace rf := rf.below (show Below v7.heap.size v7 v7.drew from (Below.refl _ _).drew)
  replace af := af.below (show Below v7.heap.size v7 v7.drew from (Below.refl _ _).drew)
  replace kk := kk.drew
  generalize v7.drew = Y0 at h8 h9 PB hb rf af kk hH ⊢
  refine wpAnyH_take (i := 0) (oi := { dst := some 103, op := Op.load 24 (Operand.tmp 17), type := 24, pos := "ref.go:197", after := #[], guard := none }) (v := .agg #[.bool false, .int .i64 T, .slice sq sn sc]) rfl (by kernel_rfl) (by kernel_rfl) (by kernel_rfl) (fun _ _ _ h => h) (Or.inl ⟨by kernel_rfl, ?_⟩) hH ?_
  · intro w hSw; (try dsimp only at hSw); go_simp; (try rfl)
  try simp only [Act.put, List.setIfInBounds_toArray, List.set_cons_zero, List.set_cons_succ]
  refine wpAnyH_take (i := 1) (oi := { dst := some 104, op := Op.load 47 (Operand.tmp 18), type := 47, pos := "ref.go:197", after := #[{ on := 3, ground := Ground.gcOnly Departure.lateStores }], guard := none }) (v := .agg #[.bool cg, .slice aq an ac]) rfl (by kernel_rfl) (by kernel_rfl) (by kernel_rfl) (fun _ _ _ h => h) (Or.inl ⟨by kernel_rfl, ?_⟩) hH ?_
  · intro w hSw; (try dsimp only at hSw); go_simp; (try rfl)
  try simp only [Act.put, List.setIfInBounds_toArray, List.set_cons_zero, List.set_cons_succ]
  refine wpAnyH_ready (rs := [2]) (by kernel_rfl) (by simp) ?_
  refine AllReadyH.cons rfl (fun K hK => ?_) AllReadyH.nil
  have z0 := cell_of_block (j := 0) h8 rfl
  have fz0 := free_of_block (j := 0) h8
  have z1 := cell_of_block (j := 1) h8 rfl
  have fz1 := free_of_block (j := 1) h8
  have z2 := cell_of_block (j := 2) h8 rfl
  have fz2 := free_of_block (j := 2) h8
  go_simp
  clear z0 fz0 z1 fz1 z2 fz2
  have kt : Tw Y0 (((Y0.setCell ⟨e12, 0, none⟩ (.bool false)).setCell ⟨e12, 1, none⟩ (.int .i64 T)).setCell ⟨e12, 2, none⟩ (.slice sq sn sc)) e12 e12 := ((tw_set Y0 e12 0 (.bool false)).trans (tw_set (Y0.setCell ⟨e12, 0, none⟩ (.bool false)) e12 1 (.int .i64 T))).trans (tw_set ((Y0.setCell ⟨e12, 0, none⟩ (.bool false)).setCell ⟨e12, 1, none⟩ (.int .i64 T)) e12 2 (.slice sq sn sc))
  replace rf := rows_tw rf h8 no_str kt
  replace af := addrs_tw af h8 no_str kt
  replace kk := bel_tw kk ge_o.out kt
  replace h9 := blk_tw kt h9 ((Ne.symm ne_o_a.out))
  replace PB := blk_tw kt PB ((Ne.symm ne_o_p.out))
  replace hb := blk_tw kt hb ((Ne.symm ne_o_k.out))
  replace h8 : ((((Y0.setCell ⟨e12, 0, none⟩ (.bool false)).setCell ⟨e12, 1, none⟩ (.int .i64 T)).setCell ⟨e12, 2, none⟩ (.slice sq sn sc))).heap[e12]? = some (.cells #[.bool false, .int .i64 T, .slice sq sn sc] 24 (0, 0)) := (heap_store (j := 2) (v := .slice sq sn sc) (heap_store (j := 1) (v := .int .i64 T) (heap_store (j := 0) (v := .bool false) h8)))
  clear kt
  refine hK.out _ _ (KF.out _ PB hb) (fun hH => ?_)
  clear hK K
  try simp only [Act.put, List.setIfInBounds_toArray, List.set_cons_zero, List.set_cons_succ]
  generalize (((Y0.setCell ⟨e12, 0, none⟩ (.bool false)).setCell ⟨e12, 1, none⟩ (.int .i64 T)).setCell ⟨e12, 2, none⟩ (.slice sq sn sc)) = Y1 at h8 h9 PB hb rf af kk hH ⊢
  refine wpAnyH_take (i := 3) (oi := { dst := some 13, op := Op.assign (Operand.const (Value.bool true)), type := 4, pos := "ref.go:197", after := #[{ on := 2, ground := Ground.chain }, { on := 0, ground := Ground.phase }, { on := 1, ground := Ground.textOnly Departure.lateStores }, { on := 2, ground := Ground.phase }], guard := none }) (v := .bool true) rfl (by kernel_rfl) (by kernel_rfl) (by kernel_rfl) (fun _ _ _ h => h) (Or.inl ⟨by kernel_rfl, ?_⟩) hH ?_
  · intro w hSw; (try dsimp only at hSw); go_simp; (try rfl)
  try simp only [Act.put, List.setIfInBounds_toArray, List.set_cons_zero, List.set_cons_succ]
  refine wpAnyH_ready (rs := [4]) (by kernel_rfl) (by simp) ?_
  refine AllReadyH.cons rfl (fun K hK => ?_) AllReadyH.nil
  have z0 := cell_of_block (j := 0) h9 rfl
  have fz0 := free_of_block (j := 0) h9
  have z1 := cell_of_block (j := 1) h9 rfl
  have fz1 := free_of_block (j := 1) h9
  go_simp
  clear z0 fz0 z1 fz1
  have kt : Tw Y1 ((Y1.setCell ⟨e14, 0, none⟩ (.bool cg)).setCell ⟨e14, 1, none⟩ (.slice aq an ac)) e14 e14 := (tw_set Y1 e14 0 (.bool cg)).trans (tw_set (Y1.setCell ⟨e14, 0, none⟩ (.bool cg)) e14 1 (.slice aq an ac))
  replace rf := rows_tw rf h9 no_str2 kt
  replace af := addrs_tw af h9 no_str2 kt
  replace kk := bel_tw kk ge_a.out kt
  replace h8 := blk_tw kt h8 (ne_o_a.out)
  replace PB := blk_tw kt PB ((Ne.symm ne_a_p.out))
  replace hb := blk_tw kt hb ((Ne.symm ne_a_k.out))
  replace h9 : (((Y1.setCell ⟨e14, 0, none⟩ (.bool cg)).setCell ⟨e14, 1, none⟩ (.slice aq an ac))).heap[e14]? = some (.cells #[.bool cg, .slice aq an ac] 47 (0, 0)) := (heap_store (j := 1) (v := .slice aq an ac) (heap_store (j := 0) (v := .bool cg) h9))
  clear kt
  refine hK.out _ _ (KF.out _ PB hb) (fun hH => ?_)
  clear hK K
  try simp only [Act.put, List.setIfInBounds_toArray, List.set_cons_zero, List.set_cons_succ]
  generalize ((Y1.setCell ⟨e14, 0, none⟩ (.bool cg)).setCell ⟨e14, 1, none⟩ (.slice aq an ac)) = Y2 at h8 h9 PB hb rf af kk hH ⊢
  refine wpAnyH_take (i := 5) (oi := { dst := some 15, op := Op.assign (Operand.const (Value.int IntKind.i64 0)), type := 28, pos := "ref.go:197", after := #[{ on := 4, ground := Ground.chain }, { on := 0, ground := Ground.phase }, { on := 1, ground := Ground.phase }, { on := 2, ground := Ground.phase }, { on := 3, ground := Ground.phase }, { on := 4, ground := Ground.phase }], guard := none }) (v := .int .i64 0) rfl (by kernel_rfl) (by kernel_rfl) (by kernel_rfl) (fun _ _ _ h => h) (Or.inl ⟨by kernel_rfl, ?_⟩) hH ?_
  · intro w hSw; (try dsimp only at hSw); go_simp; (try rfl)
  try simp only [Act.put, List.setIfInBounds_toArray, List.set_cons_zero, List.set_cons_succ]
  refine wpAnyH_done (by kernel_rfl) ?_ _
  have HF := Lib.hid (HQ.out _ _ _ rf af kk)
  have y0 := cell_of_block (j := 0) h8 rfl
  have y1 := cell_of_block (j := 1) h8 rfl
  have y2 := cell_of_block (j := 2) h8 rfl
  have y3 := cell_of_block (j := 0) h9 rfl
  have y4 := cell_of_block (j := 1) h9 rfl
  clear hH h8 h9 PB hb rf af kk HQ KF
  go_wp2_with fail
  exact bodyPost_ret (v := .tuple #[.agg #[.bool false, .int .i64 T, .slice sq sn sc], .bool true, .agg #[.bool cg, .slice aq an ac], .int .i64 0]) (by simp [results, Try.results21, go_sem, y0, y1, y2, y3, y4]) rfl HF.out

set_option maxHeartbeats 16000000 in
set_option maxRecDepth 100000 in
theorem ap17_tx_long (tm : Int) (q : Option Addr) (n c : Nat) (sl : List Tm) (kd : Int) (gp : ByteArray) (rp : Option Addr) (rn rc : Nat) (rs : List ByteArray) (now m l : Int) (w : World) (hl0 : sl.length ≤ 100) (hr0 : rs.length ≤ 100) (hrn0 : rn = rs.length) (hR : RowsAt 2 cellsTm w (.slice q n c) sl) (hRR : AddrsAt w (.slice rp rn rc) rs) (hok : okS ⟨true, tm, sl⟩ = true) (hm0 : mayT m l now = true) (hr1 : recT kd rs = true) (cx : Bool) (ct : Int) (cs : List Tm) (cg : Bool) (ca : List ByteArray) (hC : butP tm sl kd (ris rs) (now + m) = ⟨cx, ct, cs, cg, ca⟩) (hb : 60 < cs.length) (T : Int) (hT0 : T = if cg then min ct (now + l) else ct) (S : List Tm) (hS0 : S = askS cs ca (now + l)) :
    Calls Try.prog 21 #[.agg #[.bool true, .int .i64 tm, .slice q n c], .bool true, .agg #[.int .i64 kd, .string gp, .slice rp rn rc], .int .i64 now, .int .i64 m, .int .i64 l] w (ApPost (noA 1) w) := by
  have k0 : Below w.heap.size w ((((w.alloc (.cells #[.bool true, .int .i64 tm, .slice q n c] 24)).alloc (.cells #[.int .i64 kd, .string gp, .slice rp rn rc] 37)).alloc (.cells #[.bool false, .int .i64 0, .slice none 0 0] 24)).alloc (.cells #[.bool false, .slice none 0 0] 47)) := ((((Below.refl _ _).alloc (Nat.le_refl _) _).alloc (by simp) _).alloc (by simp; omega) _).alloc (by simp; omega) _
  have KW := Lib.hid k0
  have B_s := Lib.hid (show ((((w.alloc (.cells #[.bool true, .int .i64 tm, .slice q n c] 24)).alloc (.cells #[.int .i64 kd, .string gp, .slice rp rn rc] 37)).alloc (.cells #[.bool false, .int .i64 0, .slice none 0 0] 24)).alloc (.cells #[.bool false, .slice none 0 0] 47)).heap[w.heap.size]? = some (.cells #[.bool true, .int .i64 tm, .slice q n c] 24) from heap_old (heap_old (heap_old (heap_new w (.cells #[.bool true, .int .i64 tm, .slice q n c] 24)))))
  have B_r := Lib.hid (show ((((w.alloc (.cells #[.bool true, .int .i64 tm, .slice q n c] 24)).alloc (.cells #[.int .i64 kd, .string gp, .slice rp rn rc] 37)).alloc (.cells #[.bool false, .int .i64 0, .slice none 0 0] 24)).alloc (.cells #[.bool false, .slice none 0 0] 47)).heap[w.heap.size + 1]? = some (.cells #[.int .i64 kd, .string gp, .slice rp rn rc] 37) from heap_old (heap_old (by simpa using heap_new (w.alloc (.cells #[.bool true, .int .i64 tm, .slice q n c] 24)) (.cells #[.int .i64 kd, .string gp, .slice rp rn rc] 37))))
  have B_o := Lib.hid (show ((((w.alloc (.cells #[.bool true, .int .i64 tm, .slice q n c] 24)).alloc (.cells #[.int .i64 kd, .string gp, .slice rp rn rc] 37)).alloc (.cells #[.bool false, .int .i64 0, .slice none 0 0] 24)).alloc (.cells #[.bool false, .slice none 0 0] 47)).heap[w.heap.size + 1 + 1]? = some (.cells #[.bool false, .int .i64 0, .slice none 0 0] 24) from heap_old (by simpa using heap_new ((w.alloc (.cells #[.bool true, .int .i64 tm, .slice q n c] 24)).alloc (.cells #[.int .i64 kd, .string gp, .slice rp rn rc] 37)) (.cells #[.bool false, .int .i64 0, .slice none 0 0] 24)))
  have B_a := Lib.hid (show ((((w.alloc (.cells #[.bool true, .int .i64 tm, .slice q n c] 24)).alloc (.cells #[.int .i64 kd, .string gp, .slice rp rn rc] 37)).alloc (.cells #[.bool false, .int .i64 0, .slice none 0 0] 24)).alloc (.cells #[.bool false, .slice none 0 0] 47)).heap[w.heap.size + 1 + 1 + 1]? = some (.cells #[.bool false, .slice none 0 0] 47) from by simpa using heap_new (((w.alloc (.cells #[.bool true, .int .i64 tm, .slice q n c] 24)).alloc (.cells #[.int .i64 kd, .string gp, .slice rp rn rc] 37)).alloc (.cells #[.bool false, .int .i64 0, .slice none 0 0] 24)) (.cells #[.bool false, .slice none 0 0] 47))
  have HR := Lib.hid (hR.below k0)
  have HRR := Lib.hid (hRR.below k0)
  have ge_s := Lib.hid (Nat.le_refl w.heap.size)
  have ge_r := Lib.hid (show w.heap.size ≤ w.heap.size + 1 from by omega)
  have ge_o := Lib.hid (show w.heap.size ≤ w.heap.size + 1 + 1 from by omega)
  have ge_a := Lib.hid (show w.heap.size ≤ w.heap.size + 1 + 1 + 1 from by omega)
  have ne_s_r := Lib.hid (show w.heap.size ≠ w.heap.size + 1 from by omega)
  have ne_s_o := Lib.hid (show w.heap.size ≠ w.heap.size + 1 + 1 from by omega)
  have ne_s_a := Lib.hid (show w.heap.size ≠ w.heap.size + 1 + 1 + 1 from by omega)
  have ne_r_o := Lib.hid (show w.heap.size + 1 ≠ w.heap.size + 1 + 1 from by omega)
  have ne_r_a := Lib.hid (show w.heap.size + 1 ≠ w.heap.size + 1 + 1 + 1 from by omega)
  have ne_o_a := Lib.hid (show w.heap.size + 1 + 1 ≠ w.heap.size + 1 + 1 + 1 from by omega)
  have HQ := Lib.hid (show ∀ U, Below w.heap.size w U → ApPost (noA 1) w (.returned (.tuple #[.agg #[.bool false, .int .i64 0, .slice none 0 0], .bool false, .agg #[.bool false, .slice none 0 0], .int .i64 1])) U from fun U k => ⟨_, _, rfl, RowsAt.nil _, AddrsG.nil _ _ _, k⟩)
  generalize ApPost (noA 1) w = Q at HQ ⊢
  have hl6 := Lib.hid (Nat.le_trans hl0 (show 100 ≤ 1000000 by decide))
  have hr6 := Lib.hid (Nat.le_trans hr0 (show 100 ≤ 1000000 by decide))
  have hchk := Lib.hid (show chkS ⟨true, tm, sl⟩ = 0 from by unfold chkS; rw [hok]; rfl)
  clear hok
  have hm := Lib.hid hm0
  have HCa := Lib.hid hC
  have hT := Lib.hid hT0
  have hS := Lib.hid hS0
  have hmay : 1 ≤ m ∧ m ≤ 1000000 ∧ 1 ≤ l ∧ l ≤ 1000000 ∧ 1 ≤ now ∧ now ≤ 1099511627776 := by
    have := hm0
    unfold mayT at this
    simp only [Bool.and_eq_true, decide_eq_true_iff] at this
    omega
  have hrec : 1 ≤ kd ∧ kd ≤ 6 ∧ rn ≤ 60 := by
    have := hr1
    unfold recT at this
    simp only [Bool.and_eq_true, decide_eq_true_iff] at this
    omega
  obtain ⟨q1, q2, q3⟩ := hrec
  obtain ⟨m1, m2, l1, l2, o1, o2⟩ := hmay
  have hrl := Lib.hid (show (ris rs).length ≤ 100 from Nat.le_trans (ris_len rs) hr0)
  have hll := Lib.hid hl0
  have hq1 := Lib.hid q1
  have hq2 := Lib.hid q2
  have hal := Lib.hid (show ca.length ≤ 100 from by have h := but_al hl0 (Nat.le_trans (ris_len rs) hr0) tm kd (now + m); rw [hC] at h; exact h)
  have d1 : decide (kd < 1) = false := decide_eq_false (by omega)
  have d2 : decide (6 < kd) = false := decide_eq_false (by omega)
  have d3 : decide (60 < (rn : Int)) = false := decide_eq_false (by omega)
  have d4 : decide (60 < rn) = false := decide_eq_false (by omega)
  have aw1 : wrap64 (now + m) = now + m := by unfold wrap64; omega
  have aw2 : wrap64 (now + l) = now + l := by unfold wrap64; omega
  obtain ⟨cn, hcn⟩ : ∃ cn, cn = cs.length := ⟨_, rfl⟩
  have HCN := Lib.hid hcn
  obtain ⟨sn, hsn⟩ : ∃ sn, sn = S.length := ⟨_, rfl⟩
  have HSN := Lib.hid hsn
  have f1 : decide (60 < cn) = true := decide_eq_true (by rw [hcn]; exact hb)
  have f2 : decide (60 < (cn : Int)) = true := decide_eq_true (by rw [hcn]; omega)
  clear hm0 hC hT0 hS0 hr1 hcn hsn hb q1 q2 q3 m1 m2 l1 l2 o1 o2 hl0 hr0 hrn0
  clear k0 hR hRR
  go_enter Try.func21, Try.ntmps21
  go_upto_region 1 with fail
  generalize ((((w.alloc (.cells #[.bool true, .int .i64 tm, .slice q n c] 24)).alloc (.cells #[.int .i64 kd, .string gp, .slice rp rn rc] 37)).alloc (.cells #[.bool false, .int .i64 0, .slice none 0 0] 24)).alloc (.cells #[.bool false, .slice none 0 0] 47)) = W at B_s B_r B_o B_a HR HRR KW ⊢
  generalize w.heap.size + 1 + 1 + 1 = e14 at B_a ge_a ne_s_a ne_r_a ne_o_a ⊢
  generalize w.heap.size + 1 + 1 = e12 at B_o ge_o ne_s_o ne_r_o ne_o_a ⊢
  generalize w.heap.size + 1 = rb at B_r ge_r ne_s_r ne_r_o ne_r_a ⊢
  have c_s0 : W.cell? ⟨w.heap.size, 0, none⟩ = some (.bool true) := cell_of_block B_s.out rfl
  have c_s1 : W.cell? ⟨w.heap.size, 1, none⟩ = some (.int .i64 tm) := cell_of_block B_s.out rfl
  have c_s2 : W.cell? ⟨w.heap.size, 2, none⟩ = some (.slice q n c) := cell_of_block B_s.out rfl
  have CN := Lib.hid (by have h := rchk17_c true tm (.slice q n c) sl W hl6.out HR.out; rw [hchk.out] at h; exact h)
  go_wp2_with fail
  ((with_reducible refine CN.out.mono ?_); rintro e v1 ⟨rfl, kb9⟩)
  clear c_s0 c_s1 c_s2
  replace B_s := Lib.hid (below_block kb9 (lt_of_block B_s.out) B_s.out)
  replace B_r := Lib.hid (below_block kb9 (lt_of_block B_r.out) B_r.out)
  replace B_o := Lib.hid (below_block kb9 (lt_of_block B_o.out) B_o.out)
  replace B_a := Lib.hid (below_block kb9 (lt_of_block B_a.out) B_a.out)
  replace HR := Lib.hid (HR.out.below kb9)
  replace HRR := Lib.hid (HRR.out.below kb9)
  replace KW := Lib.hid (KW.out.trans (kb9.mono KW.out.size))
  clear CN kb9
  have CN := Lib.hid (by have h := may17_c now m l v1; rw [hm.out] at h; exact h)
  go_wp2_with fail
  ((with_reducible refine CN.out.mono ?_); rintro e v2 ⟨rfl, kb9⟩)
  replace B_s := Lib.hid (below_block kb9 (lt_of_block B_s.out) B_s.out)
  replace B_r := Lib.hid (below_block kb9 (lt_of_block B_r.out) B_r.out)
  replace B_o := Lib.hid (below_block kb9 (lt_of_block B_o.out) B_o.out)
  replace B_a := Lib.hid (below_block kb9 (lt_of_block B_a.out) B_a.out)
  replace HR := Lib.hid (HR.out.below kb9)
  replace HRR := Lib.hid (HRR.out.below kb9)
  replace KW := Lib.hid (KW.out.trans (kb9.mono KW.out.size))
  clear CN kb9
  have c_r0 : v2.cell? ⟨rb, 0, none⟩ = some (.int .i64 kd) := cell_of_block B_r.out rfl
  have c_r1 : v2.cell? ⟨rb, 1, none⟩ = some (.string gp) := cell_of_block B_r.out rfl
  have c_r2 : v2.cell? ⟨rb, 2, none⟩ = some (.slice rp rn rc) := cell_of_block B_r.out rfl
  have CN := Lib.hid (rris_c (.slice rp rn rc) rs v2 hr6.out HRR.out)
  unfold MPost at CN
  go_wp2_with fail
  ((with_reducible refine CN.out.mono ?_); rintro e v3 ⟨ul, rfl, a9, kb9⟩)
  clear c_r0 c_r1 c_r2
  replace B_s := Lib.hid (below_block kb9 (lt_of_block B_s.out) B_s.out)
  replace B_r := Lib.hid (below_block kb9 (lt_of_block B_r.out) B_r.out)
  replace B_o := Lib.hid (below_block kb9 (lt_of_block B_o.out) B_o.out)
  replace B_a := Lib.hid (below_block kb9 (lt_of_block B_a.out) B_a.out)
  replace HR := Lib.hid (HR.out.below kb9)
  replace HRR := Lib.hid (HRR.out.below kb9)
  replace KW := Lib.hid (KW.out.trans (kb9.mono KW.out.size))
  have HL := Lib.hid a9.at
  clear CN kb9 a9
  have c_s0 : v3.cell? ⟨w.heap.size, 0, none⟩ = some (.bool true) := cell_of_block B_s.out rfl
  have c_s1 : v3.cell? ⟨w.heap.size, 1, none⟩ = some (.int .i64 tm) := cell_of_block B_s.out rfl
  have c_s2 : v3.cell? ⟨w.heap.size, 2, none⟩ = some (.slice q n c) := cell_of_block B_s.out rfl
  have c_r0 : v3.cell? ⟨rb, 0, none⟩ = some (.int .i64 kd) := cell_of_block B_r.out rfl
  have c_r1 : v3.cell? ⟨rb, 1, none⟩ = some (.string gp) := cell_of_block B_r.out rfl
  have c_r2 : v3.cell? ⟨rb, 2, none⟩ = some (.slice rp rn rc) := cell_of_block B_r.out rfl
  have CN := Lib.hid (some17_c true tm q n c sl kd ul (ris rs) (now + m) v3 hq1.out hq2.out hll.out hrl.out HR.out HL.out)
  unfold CgPost at CN
  go_wp2_with fail
  ((with_reducible refine CN.out.mono ?_); rintro e v4 ⟨vs0, va0, rfl, r9, a9, kb9⟩)
  clear c_s0 c_s1 c_s2 c_r0 c_r1 c_r2
  replace B_s := Lib.hid (below_block kb9 (lt_of_block B_s.out) B_s.out)
  replace B_r := Lib.hid (below_block kb9 (lt_of_block B_r.out) B_r.out)
  replace B_o := Lib.hid (below_block kb9 (lt_of_block B_o.out) B_o.out)
  replace B_a := Lib.hid (below_block kb9 (lt_of_block B_a.out) B_a.out)
  replace HR := Lib.hid (HR.out.below kb9)
  replace HRR := Lib.hid (HRR.out.below kb9)
  replace HL := Lib.hid (HL.out.below kb9)
  replace KW := Lib.hid (KW.out.trans (kb9.mono KW.out.size))
  generalize somP sl kd (ris rs) (now + m) = C0 at r9 a9 CN ⊢
  obtain ⟨ex0, tm0, sl0, ag0, al0⟩ := C0
  obtain ⟨oq, on, oc, rfl⟩ := rows_slice3 r9
  obtain ⟨aq, an, ac, rfl⟩ := addrs_slice3 a9
  simp only at r9 a9 ⊢
  have RO := Lib.hid r9
  have AO := Lib.hid a9
  clear CN kb9 r9 a9
  go_upto_region 9 with fail
  have kA : Below v4.heap.size v4 ((v4.alloc (.cells #[.bool ex0, .int .i64 tm0, .slice oq on oc] 24)).alloc (.cells #[.bool ag0, .slice aq an ac] 47)) := ((Below.refl _ _).alloc (Nat.le_refl _) _).alloc (by simp) _
  have ge_p := Lib.hid (show w.heap.size ≤ v4.heap.size from KW.out.size)
  have ge_k := Lib.hid (show w.heap.size ≤ v4.heap.size + 1 from Nat.le_succ_of_le KW.out.size)
  have ne_p_k := Lib.hid (show v4.heap.size ≠ v4.heap.size + 1 from by omega)
  have ne_s_p := Lib.hid (Nat.ne_of_lt (lt_of_block B_s.out))
  have ne_s_k := Lib.hid (show w.heap.size ≠ v4.heap.size + 1 from Nat.ne_of_lt (Nat.lt_succ_of_lt (lt_of_block B_s.out)))
  have ne_r_p := Lib.hid (Nat.ne_of_lt (lt_of_block B_r.out))
  have ne_r_k := Lib.hid (show rb ≠ v4.heap.size + 1 from Nat.ne_of_lt (Nat.lt_succ_of_lt (lt_of_block B_r.out)))
  have ne_o_p := Lib.hid (Nat.ne_of_lt (lt_of_block B_o.out))
  have ne_o_k := Lib.hid (show e12 ≠ v4.heap.size + 1 from Nat.ne_of_lt (Nat.lt_succ_of_lt (lt_of_block B_o.out)))
  have ne_a_p := Lib.hid (Nat.ne_of_lt (lt_of_block B_a.out))
  have ne_a_k := Lib.hid (show e14 ≠ v4.heap.size + 1 from Nat.ne_of_lt (Nat.lt_succ_of_lt (lt_of_block B_a.out)))
  replace B_s := Lib.hid (below_block kA (lt_of_block B_s.out) B_s.out)
  replace B_r := Lib.hid (below_block kA (lt_of_block B_r.out) B_r.out)
  replace B_o := Lib.hid (below_block kA (lt_of_block B_o.out) B_o.out)
  replace B_a := Lib.hid (below_block kA (lt_of_block B_a.out) B_a.out)
  replace HR := Lib.hid (HR.out.below kA)
  replace HRR := Lib.hid (HRR.out.below kA)
  replace HL := Lib.hid (HL.out.below kA)
  replace RO := Lib.hid (RO.out.below kA)
  replace AO := Lib.hid (AO.out.below kA)
  replace KW := Lib.hid (KW.out.trans (kA.mono KW.out.size))
  have B_p := Lib.hid (show ((v4.alloc (.cells #[.bool ex0, .int .i64 tm0, .slice oq on oc] 24)).alloc (.cells #[.bool ag0, .slice aq an ac] 47)).heap[v4.heap.size]? = some (.cells #[.bool ex0, .int .i64 tm0, .slice oq on oc] 24) from heap_old (heap_new v4 (.cells #[.bool ex0, .int .i64 tm0, .slice oq on oc] 24)))
  have B_k := Lib.hid (show ((v4.alloc (.cells #[.bool ex0, .int .i64 tm0, .slice oq on oc] 24)).alloc (.cells #[.bool ag0, .slice aq an ac] 47)).heap[v4.heap.size + 1]? = some (.cells #[.bool ag0, .slice aq an ac] 47) from by simpa using heap_new (v4.alloc (.cells #[.bool ex0, .int .i64 tm0, .slice oq on oc] 24)) (.cells #[.bool ag0, .slice aq an ac] 47))
  clear kA
  generalize (v4.alloc (.cells #[.bool ex0, .int .i64 tm0, .slice oq on oc] 24)).alloc (.cells #[.bool ag0, .slice aq an ac] 47) = v5 at B_s B_r B_o B_a B_p B_k HR HRR HL RO AO KW ⊢
  generalize v4.heap.size + 1 = kb at B_k ge_k ne_p_k ne_s_k ne_r_k ne_o_k ne_a_k ⊢
  generalize v4.heap.size = pb at B_p ge_p ne_p_k ne_s_p ne_r_p ne_o_p ne_a_p ⊢
  have c_s0 : v5.cell? ⟨w.heap.size, 0, none⟩ = some (.bool true) := cell_of_block B_s.out rfl
  have c_s1 : v5.cell? ⟨w.heap.size, 1, none⟩ = some (.int .i64 tm) := cell_of_block B_s.out rfl
  have c_s2 : v5.cell? ⟨w.heap.size, 2, none⟩ = some (.slice q n c) := cell_of_block B_s.out rfl
  have c_r0 : v5.cell? ⟨rb, 0, none⟩ = some (.int .i64 kd) := cell_of_block B_r.out rfl
  have c_r1 : v5.cell? ⟨rb, 1, none⟩ = some (.string gp) := cell_of_block B_r.out rfl
  have c_r2 : v5.cell? ⟨rb, 2, none⟩ = some (.slice rp rn rc) := cell_of_block B_r.out rfl
  have CN := Lib.hid (but17_c true tm q n c sl kd ul (ris rs) (now + m) v5 hq1.out hq2.out hll.out hrl.out HR.out HL.out)
  rw [HCa.out] at CN
  unfold CgPost at CN
  go_wp2_with fail
  ((with_reducible refine CN.out.mono ?_); rintro e v6 ⟨vs0, va0, rfl, r9, a9, kb9⟩)
  clear c_s0 c_s1 c_s2 c_r0 c_r1 c_r2
  replace B_s := Lib.hid (below_block kb9 (lt_of_block B_s.out) B_s.out)
  replace B_r := Lib.hid (below_block kb9 (lt_of_block B_r.out) B_r.out)
  replace B_o := Lib.hid (below_block kb9 (lt_of_block B_o.out) B_o.out)
  replace B_a := Lib.hid (below_block kb9 (lt_of_block B_a.out) B_a.out)
  replace B_p := Lib.hid (below_block kb9 (lt_of_block B_p.out) B_p.out)
  replace B_k := Lib.hid (below_block kb9 (lt_of_block B_k.out) B_k.out)
  replace HR := Lib.hid (HR.out.below kb9)
  replace HRR := Lib.hid (HRR.out.below kb9)
  replace HL := Lib.hid (HL.out.below kb9)
  replace RO := Lib.hid (RO.out.below kb9)
  replace AO := Lib.hid (AO.out.below kb9)
  replace KW := Lib.hid (KW.out.trans (kb9.mono KW.out.size))
  clear RO AO
  simp only at r9 a9 ⊢
  obtain ⟨oq2, oc2, hov⟩ := r9.slice
  rw [← HCN.out] at hov
  subst hov
  obtain ⟨aq2, an2, ac2, rfl⟩ := addrs_slice3 a9
  have RO := Lib.hid r9
  have AO := Lib.hid a9
  clear CN kb9 r9 a9
  have c_p0 : v6.cell? ⟨pb, 0, none⟩ = some (.bool ex0) := cell_of_block B_p.out rfl
  have c_p1 : v6.cell? ⟨pb, 1, none⟩ = some (.int .i64 tm0) := cell_of_block B_p.out rfl
  have c_p2 : v6.cell? ⟨pb, 2, none⟩ = some (.slice oq on oc) := cell_of_block B_p.out rfl
  have c_k0 : v6.cell? ⟨kb, 0, none⟩ = some (.bool ag0) := cell_of_block B_k.out rfl
  have c_k1 : v6.cell? ⟨kb, 1, none⟩ = some (.slice aq an ac) := cell_of_block B_k.out rfl
  have z_p := (fun j : Nat => free_of_block (j := j) B_p.out)
  have z_k := (fun j : Nat => free_of_block (j := j) B_k.out)
  have nn1 := ne_p_k.out
  have nn2 := Ne.symm ne_p_k.out
  go_upto_region 11 with fail
  clear c_p0 c_p1 c_p2 c_k0 c_k1 z_p z_k nn1 nn2
  have kt : Tw v6 (((v6.setCell ⟨pb, 0, none⟩ (.bool cx)).setCell ⟨pb, 1, none⟩ (.int .i64 ct)).setCell ⟨pb, 2, none⟩ (.slice oq2 cn oc2)) pb pb := ((tw_set v6 pb 0 (.bool cx)).trans (tw_set (v6.setCell ⟨pb, 0, none⟩ (.bool cx)) pb 1 (.int .i64 ct))).trans (tw_set ((v6.setCell ⟨pb, 0, none⟩ (.bool cx)).setCell ⟨pb, 1, none⟩ (.int .i64 ct)) pb 2 (.slice oq2 cn oc2))
  replace HR := Lib.hid (rows_tw HR.out B_p.out no_str kt)
  replace HRR := Lib.hid (addrs_tw HRR.out B_p.out no_str kt)
  replace HL := Lib.hid (addrs_tw HL.out B_p.out no_str kt)
  replace RO := Lib.hid (rows_tw RO.out B_p.out no_str kt)
  replace AO := Lib.hid (addrs_tw AO.out B_p.out no_str kt)
  replace B_s := Lib.hid (blk_tw kt B_s.out ne_s_p.out)
  replace B_r := Lib.hid (blk_tw kt B_r.out ne_r_p.out)
  replace B_o := Lib.hid (blk_tw kt B_o.out ne_o_p.out)
  replace B_a := Lib.hid (blk_tw kt B_a.out ne_a_p.out)
  replace B_k := Lib.hid (blk_tw kt B_k.out (Ne.symm ne_p_k.out))
  replace B_p := Lib.hid (show ((((v6.setCell ⟨pb, 0, none⟩ (.bool cx)).setCell ⟨pb, 1, none⟩ (.int .i64 ct)).setCell ⟨pb, 2, none⟩ (.slice oq2 cn oc2))).heap[pb]? = some (.cells #[.bool cx, .int .i64 ct, .slice oq2 cn oc2] 24 (0, 0)) from (heap_store (j := 2) (v := .slice oq2 cn oc2) (heap_store (j := 1) (v := .int .i64 ct) (heap_store (j := 0) (v := .bool cx) B_p.out))))
  replace KW := Lib.hid (bel_tw KW.out ge_p.out kt)
  clear kt
  have kt : Tw (((v6.setCell ⟨pb, 0, none⟩ (.bool cx)).setCell ⟨pb, 1, none⟩ (.int .i64 ct)).setCell ⟨pb, 2, none⟩ (.slice oq2 cn oc2)) (((((v6.setCell ⟨pb, 0, none⟩ (.bool cx)).setCell ⟨pb, 1, none⟩ (.int .i64 ct)).setCell ⟨pb, 2, none⟩ (.slice oq2 cn oc2)).setCell ⟨kb, 0, none⟩ (.bool cg)).setCell ⟨kb, 1, none⟩ (.slice aq2 an2 ac2)) kb kb := (tw_set (((v6.setCell ⟨pb, 0, none⟩ (.bool cx)).setCell ⟨pb, 1, none⟩ (.int .i64 ct)).setCell ⟨pb, 2, none⟩ (.slice oq2 cn oc2)) kb 0 (.bool cg)).trans (tw_set ((((v6.setCell ⟨pb, 0, none⟩ (.bool cx)).setCell ⟨pb, 1, none⟩ (.int .i64 ct)).setCell ⟨pb, 2, none⟩ (.slice oq2 cn oc2)).setCell ⟨kb, 0, none⟩ (.bool cg)) kb 1 (.slice aq2 an2 ac2))
  replace HR := Lib.hid (rows_tw HR.out B_k.out no_str2 kt)
  replace HRR := Lib.hid (addrs_tw HRR.out B_k.out no_str2 kt)
  replace HL := Lib.hid (addrs_tw HL.out B_k.out no_str2 kt)
  replace RO := Lib.hid (rows_tw RO.out B_k.out no_str2 kt)
  replace AO := Lib.hid (addrs_tw AO.out B_k.out no_str2 kt)
  replace B_s := Lib.hid (blk_tw kt B_s.out ne_s_k.out)
  replace B_r := Lib.hid (blk_tw kt B_r.out ne_r_k.out)
  replace B_o := Lib.hid (blk_tw kt B_o.out ne_o_k.out)
  replace B_a := Lib.hid (blk_tw kt B_a.out ne_a_k.out)
  replace B_p := Lib.hid (blk_tw kt B_p.out ne_p_k.out)
  replace B_k := Lib.hid (show ((((((v6.setCell ⟨pb, 0, none⟩ (.bool cx)).setCell ⟨pb, 1, none⟩ (.int .i64 ct)).setCell ⟨pb, 2, none⟩ (.slice oq2 cn oc2)).setCell ⟨kb, 0, none⟩ (.bool cg)).setCell ⟨kb, 1, none⟩ (.slice aq2 an2 ac2))).heap[kb]? = some (.cells #[.bool cg, .slice aq2 an2 ac2] 47 (0, 0)) from (heap_store (j := 1) (v := .slice aq2 an2 ac2) (heap_store (j := 0) (v := .bool cg) B_k.out)))
  replace KW := Lib.hid (bel_tw KW.out ge_k.out kt)
  clear kt
  generalize (((((v6.setCell ⟨pb, 0, none⟩ (.bool cx)).setCell ⟨pb, 1, none⟩ (.int .i64 ct)).setCell ⟨pb, 2, none⟩ (.slice oq2 cn oc2)).setCell ⟨kb, 0, none⟩ (.bool cg)).setCell ⟨kb, 1, none⟩ (.slice aq2 an2 ac2)) = v7 at B_s B_r B_o B_a B_p B_k HR HRR HL RO AO KW ⊢
  have c_p0 : v7.cell? ⟨pb, 0, none⟩ = some (.bool cx) := cell_of_block B_p.out rfl
  have c_p1 : v7.cell? ⟨pb, 1, none⟩ = some (.int .i64 ct) := cell_of_block B_p.out rfl
  have c_p2 : v7.cell? ⟨pb, 2, none⟩ = some (.slice oq2 cn oc2) := cell_of_block B_p.out rfl
  clear HR HRR HL RO AO
  have c_o0 : v7.cell? ⟨e12, 0, none⟩ = some (.bool false) := cell_of_block B_o.out rfl
  have c_o1 : v7.cell? ⟨e12, 1, none⟩ = some (.int .i64 0) := cell_of_block B_o.out rfl
  have c_o2 : v7.cell? ⟨e12, 2, none⟩ = some (.slice none 0 0) := cell_of_block B_o.out rfl
  have c_a0 : v7.cell? ⟨e14, 0, none⟩ = some (.bool false) := cell_of_block B_a.out rfl
  have c_a1 : v7.cell? ⟨e14, 1, none⟩ = some (.slice none 0 0) := cell_of_block B_a.out rfl
  have z_o := (fun j : Nat => free_of_block (j := j) B_o.out)
  have z_a := (fun j : Nat => free_of_block (j := j) B_a.out)
  have kt : Tw v7 (((v7.setCell ⟨e12, 0, none⟩ (.bool false)).setCell ⟨e12, 1, none⟩ (.int .i64 0)).setCell ⟨e12, 2, none⟩ (.slice none 0 0)) e12 e12 := ((tw_set v7 e12 0 (.bool false)).trans (tw_set (v7.setCell ⟨e12, 0, none⟩ (.bool false)) e12 1 (.int .i64 0))).trans (tw_set ((v7.setCell ⟨e12, 0, none⟩ (.bool false)).setCell ⟨e12, 1, none⟩ (.int .i64 0)) e12 2 (.slice none 0 0))
  replace B_s := Lib.hid (blk_tw kt B_s.out ne_s_o.out)
  replace B_r := Lib.hid (blk_tw kt B_r.out ne_r_o.out)
  replace B_a := Lib.hid (blk_tw kt B_a.out (Ne.symm ne_o_a.out))
  replace B_p := Lib.hid (blk_tw kt B_p.out (Ne.symm ne_o_p.out))
  replace B_k := Lib.hid (blk_tw kt B_k.out (Ne.symm ne_o_k.out))
  replace B_o := Lib.hid (show ((((v7.setCell ⟨e12, 0, none⟩ (.bool false)).setCell ⟨e12, 1, none⟩ (.int .i64 0)).setCell ⟨e12, 2, none⟩ (.slice none 0 0))).heap[e12]? = some (.cells #[.bool false, .int .i64 0, .slice none 0 0] 24 (0, 0)) from (heap_store (j := 2) (v := .slice none 0 0) (heap_store (j := 1) (v := .int .i64 0) (heap_store (j := 0) (v := .bool false) B_o.out))))
  replace KW := Lib.hid (bel_tw KW.out ge_o.out kt)
  clear kt
  have kt : Tw (((v7.setCell ⟨e12, 0, none⟩ (.bool false)).setCell ⟨e12, 1, none⟩ (.int .i64 0)).setCell ⟨e12, 2, none⟩ (.slice none 0 0)) (((((v7.setCell ⟨e12, 0, none⟩ (.bool false)).setCell ⟨e12, 1, none⟩ (.int .i64 0)).setCell ⟨e12, 2, none⟩ (.slice none 0 0)).setCell ⟨e14, 0, none⟩ (.bool false)).setCell ⟨e14, 1, none⟩ (.slice none 0 0)) e14 e14 := (tw_set (((v7.setCell ⟨e12, 0, none⟩ (.bool false)).setCell ⟨e12, 1, none⟩ (.int .i64 0)).setCell ⟨e12, 2, none⟩ (.slice none 0 0)) e14 0 (.bool false)).trans (tw_set ((((v7.setCell ⟨e12, 0, none⟩ (.bool false)).setCell ⟨e12, 1, none⟩ (.int .i64 0)).setCell ⟨e12, 2, none⟩ (.slice none 0 0)).setCell ⟨e14, 0, none⟩ (.bool false)) e14 1 (.slice none 0 0))
  replace B_s := Lib.hid (blk_tw kt B_s.out ne_s_a.out)
  replace B_r := Lib.hid (blk_tw kt B_r.out ne_r_a.out)
  replace B_o := Lib.hid (blk_tw kt B_o.out ne_o_a.out)
  replace B_p := Lib.hid (blk_tw kt B_p.out (Ne.symm ne_a_p.out))
  replace B_k := Lib.hid (blk_tw kt B_k.out (Ne.symm ne_a_k.out))
  replace B_a := Lib.hid (show ((((((v7.setCell ⟨e12, 0, none⟩ (.bool false)).setCell ⟨e12, 1, none⟩ (.int .i64 0)).setCell ⟨e12, 2, none⟩ (.slice none 0 0)).setCell ⟨e14, 0, none⟩ (.bool false)).setCell ⟨e14, 1, none⟩ (.slice none 0 0))).heap[e14]? = some (.cells #[.bool false, .slice none 0 0] 47 (0, 0)) from (heap_store (j := 1) (v := .slice none 0 0) (heap_store (j := 0) (v := .bool false) B_a.out)))
  replace KW := Lib.hid (bel_tw KW.out ge_a.out kt)
  clear kt
  have HF := Lib.hid (HQ.out _ KW.out)
  have nn1 := ne_o_a.out
  have nn2 := Ne.symm ne_o_a.out
  go_wp2_with fail
  have y0 := cell_of_block (j := 0) B_o.out rfl
  have y1 := cell_of_block (j := 1) B_o.out rfl
  have y2 := cell_of_block (j := 2) B_o.out rfl
  have y3 := cell_of_block (j := 0) B_a.out rfl
  have y4 := cell_of_block (j := 1) B_a.out rfl
  exact bodyPost_ret (v := .tuple #[.agg #[.bool false, .int .i64 0, .slice none 0 0], .bool false, .agg #[.bool false, .slice none 0 0], .int .i64 1]) (by simp [results, Try.results21, go_sem, y0, y1, y2, y3, y4]) rfl HF.out

set_option maxHeartbeats 16000000 in
set_option maxRecDepth 100000 in
theorem ap17_tx_okx (tm : Int) (q : Option Addr) (n c : Nat) (sl : List Tm) (kd : Int) (gp : ByteArray) (rp : Option Addr) (rn rc : Nat) (rs : List ByteArray) (now m l : Int) (w : World) (hl0 : sl.length ≤ 100) (hr0 : rs.length ≤ 100) (hrn0 : rn = rs.length) (hR : RowsAt 2 cellsTm w (.slice q n c) sl) (hRR : AddrsAt w (.slice rp rn rc) rs) (hok : okS ⟨true, tm, sl⟩ = true) (hm0 : mayT m l now = true) (hr1 : recT kd rs = true) (ct : Int) (cs : List Tm) (cg : Bool) (ca : List ByteArray) (hC : butP tm sl kd (ris rs) (now + m) = ⟨true, ct, cs, cg, ca⟩) (hb : ¬ 60 < cs.length) (T : Int) (hT0 : T = if cg then min ct (now + l) else ct) (S : List Tm) (hS0 : S = askS cs ca (now + l)) :
    Calls Try.prog 21 #[.agg #[.bool true, .int .i64 tm, .slice q n c], .bool true, .agg #[.int .i64 kd, .string gp, .slice rp rn rc], .int .i64 now, .int .i64 m, .int .i64 l] w (ApPost ⟨⟨true, T, S⟩, true, cg, ca, 0⟩ w) := by
  have k0 : Below w.heap.size w ((((w.alloc (.cells #[.bool true, .int .i64 tm, .slice q n c] 24)).alloc (.cells #[.int .i64 kd, .string gp, .slice rp rn rc] 37)).alloc (.cells #[.bool false, .int .i64 0, .slice none 0 0] 24)).alloc (.cells #[.bool false, .slice none 0 0] 47)) := ((((Below.refl _ _).alloc (Nat.le_refl _) _).alloc (by simp) _).alloc (by simp; omega) _).alloc (by simp; omega) _
  have KW := Lib.hid k0
  have B_s := Lib.hid (show ((((w.alloc (.cells #[.bool true, .int .i64 tm, .slice q n c] 24)).alloc (.cells #[.int .i64 kd, .string gp, .slice rp rn rc] 37)).alloc (.cells #[.bool false, .int .i64 0, .slice none 0 0] 24)).alloc (.cells #[.bool false, .slice none 0 0] 47)).heap[w.heap.size]? = some (.cells #[.bool true, .int .i64 tm, .slice q n c] 24) from heap_old (heap_old (heap_old (heap_new w (.cells #[.bool true, .int .i64 tm, .slice q n c] 24)))))
  have B_r := Lib.hid (show ((((w.alloc (.cells #[.bool true, .int .i64 tm, .slice q n c] 24)).alloc (.cells #[.int .i64 kd, .string gp, .slice rp rn rc] 37)).alloc (.cells #[.bool false, .int .i64 0, .slice none 0 0] 24)).alloc (.cells #[.bool false, .slice none 0 0] 47)).heap[w.heap.size + 1]? = some (.cells #[.int .i64 kd, .string gp, .slice rp rn rc] 37) from heap_old (heap_old (by simpa using heap_new (w.alloc (.cells #[.bool true, .int .i64 tm, .slice q n c] 24)) (.cells #[.int .i64 kd, .string gp, .slice rp rn rc] 37))))
  have B_o := Lib.hid (show ((((w.alloc (.cells #[.bool true, .int .i64 tm, .slice q n c] 24)).alloc (.cells #[.int .i64 kd, .string gp, .slice rp rn rc] 37)).alloc (.cells #[.bool false, .int .i64 0, .slice none 0 0] 24)).alloc (.cells #[.bool false, .slice none 0 0] 47)).heap[w.heap.size + 1 + 1]? = some (.cells #[.bool false, .int .i64 0, .slice none 0 0] 24) from heap_old (by simpa using heap_new ((w.alloc (.cells #[.bool true, .int .i64 tm, .slice q n c] 24)).alloc (.cells #[.int .i64 kd, .string gp, .slice rp rn rc] 37)) (.cells #[.bool false, .int .i64 0, .slice none 0 0] 24)))
  have B_a := Lib.hid (show ((((w.alloc (.cells #[.bool true, .int .i64 tm, .slice q n c] 24)).alloc (.cells #[.int .i64 kd, .string gp, .slice rp rn rc] 37)).alloc (.cells #[.bool false, .int .i64 0, .slice none 0 0] 24)).alloc (.cells #[.bool false, .slice none 0 0] 47)).heap[w.heap.size + 1 + 1 + 1]? = some (.cells #[.bool false, .slice none 0 0] 47) from by simpa using heap_new (((w.alloc (.cells #[.bool true, .int .i64 tm, .slice q n c] 24)).alloc (.cells #[.int .i64 kd, .string gp, .slice rp rn rc] 37)).alloc (.cells #[.bool false, .int .i64 0, .slice none 0 0] 24)) (.cells #[.bool false, .slice none 0 0] 47))
  have HR := Lib.hid (hR.below k0)
  have HRR := Lib.hid (hRR.below k0)
  have ge_s := Lib.hid (Nat.le_refl w.heap.size)
  have ge_r := Lib.hid (show w.heap.size ≤ w.heap.size + 1 from by omega)
  have ge_o := Lib.hid (show w.heap.size ≤ w.heap.size + 1 + 1 from by omega)
  have ge_a := Lib.hid (show w.heap.size ≤ w.heap.size + 1 + 1 + 1 from by omega)
  have ne_s_r := Lib.hid (show w.heap.size ≠ w.heap.size + 1 from by omega)
  have ne_s_o := Lib.hid (show w.heap.size ≠ w.heap.size + 1 + 1 from by omega)
  have ne_s_a := Lib.hid (show w.heap.size ≠ w.heap.size + 1 + 1 + 1 from by omega)
  have ne_r_o := Lib.hid (show w.heap.size + 1 ≠ w.heap.size + 1 + 1 from by omega)
  have ne_r_a := Lib.hid (show w.heap.size + 1 ≠ w.heap.size + 1 + 1 + 1 from by omega)
  have ne_o_a := Lib.hid (show w.heap.size + 1 + 1 ≠ w.heap.size + 1 + 1 + 1 from by omega)
  have HQ := Lib.hid (show ∀ U vs va, RowsAt 2 cellsTm U vs S → AddrsAt U va ca → Below w.heap.size w U → ApPost ⟨⟨true, T, S⟩, true, cg, ca, 0⟩ w (.returned (.tuple #[.agg #[.bool true, .int .i64 T, vs], .bool true, .agg #[.bool cg, va], .int .i64 0])) U from fun U vs va h1 h2 h3 => ⟨vs, va, rfl, h1, h2, h3⟩)
  generalize ApPost ⟨⟨true, T, S⟩, true, cg, ca, 0⟩ w = Q at HQ ⊢
  have hl6 := Lib.hid (Nat.le_trans hl0 (show 100 ≤ 1000000 by decide))
  have hr6 := Lib.hid (Nat.le_trans hr0 (show 100 ≤ 1000000 by decide))
  have hchk := Lib.hid (show chkS ⟨true, tm, sl⟩ = 0 from by unfold chkS; rw [hok]; rfl)
  clear hok
  have hm := Lib.hid hm0
  have HCa := Lib.hid hC
  have hT := Lib.hid hT0
  have hS := Lib.hid hS0
  have hmay : 1 ≤ m ∧ m ≤ 1000000 ∧ 1 ≤ l ∧ l ≤ 1000000 ∧ 1 ≤ now ∧ now ≤ 1099511627776 := by
    have := hm0
    unfold mayT at this
    simp only [Bool.and_eq_true, decide_eq_true_iff] at this
    omega
  have hrec : 1 ≤ kd ∧ kd ≤ 6 ∧ rn ≤ 60 := by
    have := hr1
    unfold recT at this
    simp only [Bool.and_eq_true, decide_eq_true_iff] at this
    omega
  obtain ⟨q1, q2, q3⟩ := hrec
  obtain ⟨m1, m2, l1, l2, o1, o2⟩ := hmay
  have hrl := Lib.hid (show (ris rs).length ≤ 100 from Nat.le_trans (ris_len rs) hr0)
  have hll := Lib.hid hl0
  have hq1 := Lib.hid q1
  have hq2 := Lib.hid q2
  have hal := Lib.hid (show ca.length ≤ 100 from by have h := but_al hl0 (Nat.le_trans (ris_len rs) hr0) tm kd (now + m); rw [hC] at h; exact h)
  have d1 : decide (kd < 1) = false := decide_eq_false (by omega)
  have d2 : decide (6 < kd) = false := decide_eq_false (by omega)
  have d3 : decide (60 < (rn : Int)) = false := decide_eq_false (by omega)
  have d4 : decide (60 < rn) = false := decide_eq_false (by omega)
  have aw1 : wrap64 (now + m) = now + m := by unfold wrap64; omega
  have aw2 : wrap64 (now + l) = now + l := by unfold wrap64; omega
  obtain ⟨cn, hcn⟩ : ∃ cn, cn = cs.length := ⟨_, rfl⟩
  have HCN := Lib.hid hcn
  obtain ⟨sn, hsn⟩ : ∃ sn, sn = S.length := ⟨_, rfl⟩
  have HSN := Lib.hid hsn
  have f1 : decide (60 < cn) = false := decide_eq_false (by rw [hcn]; exact hb)
  have f2 : decide (60 < (cn : Int)) = false := decide_eq_false (by rw [hcn]; omega)
  have hcl := Lib.hid (show cs.length ≤ 100 from by omega)
  clear hm0 hC hT0 hS0 hr1 hcn hsn hb q1 q2 q3 m1 m2 l1 l2 o1 o2 hl0 hr0 hrn0
  clear k0 hR hRR
  go_enter Try.func21, Try.ntmps21
  go_upto_region 1 with fail
  generalize ((((w.alloc (.cells #[.bool true, .int .i64 tm, .slice q n c] 24)).alloc (.cells #[.int .i64 kd, .string gp, .slice rp rn rc] 37)).alloc (.cells #[.bool false, .int .i64 0, .slice none 0 0] 24)).alloc (.cells #[.bool false, .slice none 0 0] 47)) = W at B_s B_r B_o B_a HR HRR KW ⊢
  generalize w.heap.size + 1 + 1 + 1 = e14 at B_a ge_a ne_s_a ne_r_a ne_o_a ⊢
  generalize w.heap.size + 1 + 1 = e12 at B_o ge_o ne_s_o ne_r_o ne_o_a ⊢
  generalize w.heap.size + 1 = rb at B_r ge_r ne_s_r ne_r_o ne_r_a ⊢
  have c_s0 : W.cell? ⟨w.heap.size, 0, none⟩ = some (.bool true) := cell_of_block B_s.out rfl
  have c_s1 : W.cell? ⟨w.heap.size, 1, none⟩ = some (.int .i64 tm) := cell_of_block B_s.out rfl
  have c_s2 : W.cell? ⟨w.heap.size, 2, none⟩ = some (.slice q n c) := cell_of_block B_s.out rfl
  have CN := Lib.hid (by have h := rchk17_c true tm (.slice q n c) sl W hl6.out HR.out; rw [hchk.out] at h; exact h)
  go_wp2_with fail
  ((with_reducible refine CN.out.mono ?_); rintro e v1 ⟨rfl, kb9⟩)
  clear c_s0 c_s1 c_s2
  replace B_s := Lib.hid (below_block kb9 (lt_of_block B_s.out) B_s.out)
  replace B_r := Lib.hid (below_block kb9 (lt_of_block B_r.out) B_r.out)
  replace B_o := Lib.hid (below_block kb9 (lt_of_block B_o.out) B_o.out)
  replace B_a := Lib.hid (below_block kb9 (lt_of_block B_a.out) B_a.out)
  replace HR := Lib.hid (HR.out.below kb9)
  replace HRR := Lib.hid (HRR.out.below kb9)
  replace KW := Lib.hid (KW.out.trans (kb9.mono KW.out.size))
  clear CN kb9
  have CN := Lib.hid (by have h := may17_c now m l v1; rw [hm.out] at h; exact h)
  go_wp2_with fail
  ((with_reducible refine CN.out.mono ?_); rintro e v2 ⟨rfl, kb9⟩)
  replace B_s := Lib.hid (below_block kb9 (lt_of_block B_s.out) B_s.out)
  replace B_r := Lib.hid (below_block kb9 (lt_of_block B_r.out) B_r.out)
  replace B_o := Lib.hid (below_block kb9 (lt_of_block B_o.out) B_o.out)
  replace B_a := Lib.hid (below_block kb9 (lt_of_block B_a.out) B_a.out)
  replace HR := Lib.hid (HR.out.below kb9)
  replace HRR := Lib.hid (HRR.out.below kb9)
  replace KW := Lib.hid (KW.out.trans (kb9.mono KW.out.size))
  clear CN kb9
  have c_r0 : v2.cell? ⟨rb, 0, none⟩ = some (.int .i64 kd) := cell_of_block B_r.out rfl
  have c_r1 : v2.cell? ⟨rb, 1, none⟩ = some (.string gp) := cell_of_block B_r.out rfl
  have c_r2 : v2.cell? ⟨rb, 2, none⟩ = some (.slice rp rn rc) := cell_of_block B_r.out rfl
  have CN := Lib.hid (rris_c (.slice rp rn rc) rs v2 hr6.out HRR.out)
  unfold MPost at CN
  go_wp2_with fail
  ((with_reducible refine CN.out.mono ?_); rintro e v3 ⟨ul, rfl, a9, kb9⟩)
  clear c_r0 c_r1 c_r2
  replace B_s := Lib.hid (below_block kb9 (lt_of_block B_s.out) B_s.out)
  replace B_r := Lib.hid (below_block kb9 (lt_of_block B_r.out) B_r.out)
  replace B_o := Lib.hid (below_block kb9 (lt_of_block B_o.out) B_o.out)
  replace B_a := Lib.hid (below_block kb9 (lt_of_block B_a.out) B_a.out)
  replace HR := Lib.hid (HR.out.below kb9)
  replace HRR := Lib.hid (HRR.out.below kb9)
  replace KW := Lib.hid (KW.out.trans (kb9.mono KW.out.size))
  have HL := Lib.hid a9.at
  clear CN kb9 a9
  have c_s0 : v3.cell? ⟨w.heap.size, 0, none⟩ = some (.bool true) := cell_of_block B_s.out rfl
  have c_s1 : v3.cell? ⟨w.heap.size, 1, none⟩ = some (.int .i64 tm) := cell_of_block B_s.out rfl
  have c_s2 : v3.cell? ⟨w.heap.size, 2, none⟩ = some (.slice q n c) := cell_of_block B_s.out rfl
  have c_r0 : v3.cell? ⟨rb, 0, none⟩ = some (.int .i64 kd) := cell_of_block B_r.out rfl
  have c_r1 : v3.cell? ⟨rb, 1, none⟩ = some (.string gp) := cell_of_block B_r.out rfl
  have c_r2 : v3.cell? ⟨rb, 2, none⟩ = some (.slice rp rn rc) := cell_of_block B_r.out rfl
  have CN := Lib.hid (some17_c true tm q n c sl kd ul (ris rs) (now + m) v3 hq1.out hq2.out hll.out hrl.out HR.out HL.out)
  unfold CgPost at CN
  go_wp2_with fail
  ((with_reducible refine CN.out.mono ?_); rintro e v4 ⟨vs0, va0, rfl, r9, a9, kb9⟩)
  clear c_s0 c_s1 c_s2 c_r0 c_r1 c_r2
  replace B_s := Lib.hid (below_block kb9 (lt_of_block B_s.out) B_s.out)
  replace B_r := Lib.hid (below_block kb9 (lt_of_block B_r.out) B_r.out)
  replace B_o := Lib.hid (below_block kb9 (lt_of_block B_o.out) B_o.out)
  replace B_a := Lib.hid (below_block kb9 (lt_of_block B_a.out) B_a.out)
  replace HR := Lib.hid (HR.out.below kb9)
  replace HRR := Lib.hid (HRR.out.below kb9)
  replace HL := Lib.hid (HL.out.below kb9)
  replace KW := Lib.hid (KW.out.trans (kb9.mono KW.out.size))
  generalize somP sl kd (ris rs) (now + m) = C0 at r9 a9 CN ⊢
  obtain ⟨ex0, tm0, sl0, ag0, al0⟩ := C0
  obtain ⟨oq, on, oc, rfl⟩ := rows_slice3 r9
  obtain ⟨aq, an, ac, rfl⟩ := addrs_slice3 a9
  simp only at r9 a9 ⊢
  have RO := Lib.hid r9
  have AO := Lib.hid a9
  clear CN kb9 r9 a9
  go_upto_region 9 with fail
  have kA : Below v4.heap.size v4 ((v4.alloc (.cells #[.bool ex0, .int .i64 tm0, .slice oq on oc] 24)).alloc (.cells #[.bool ag0, .slice aq an ac] 47)) := ((Below.refl _ _).alloc (Nat.le_refl _) _).alloc (by simp) _
  have ge_p := Lib.hid (show w.heap.size ≤ v4.heap.size from KW.out.size)
  have ge_k := Lib.hid (show w.heap.size ≤ v4.heap.size + 1 from Nat.le_succ_of_le KW.out.size)
  have ne_p_k := Lib.hid (show v4.heap.size ≠ v4.heap.size + 1 from by omega)
  have ne_s_p := Lib.hid (Nat.ne_of_lt (lt_of_block B_s.out))
  have ne_s_k := Lib.hid (show w.heap.size ≠ v4.heap.size + 1 from Nat.ne_of_lt (Nat.lt_succ_of_lt (lt_of_block B_s.out)))
  have ne_r_p := Lib.hid (Nat.ne_of_lt (lt_of_block B_r.out))
  have ne_r_k := Lib.hid (show rb ≠ v4.heap.size + 1 from Nat.ne_of_lt (Nat.lt_succ_of_lt (lt_of_block B_r.out)))
  have ne_o_p := Lib.hid (Nat.ne_of_lt (lt_of_block B_o.out))
  have ne_o_k := Lib.hid (show e12 ≠ v4.heap.size + 1 from Nat.ne_of_lt (Nat.lt_succ_of_lt (lt_of_block B_o.out)))
  have ne_a_p := Lib.hid (Nat.ne_of_lt (lt_of_block B_a.out))
  have ne_a_k := Lib.hid (show e14 ≠ v4.heap.size + 1 from Nat.ne_of_lt (Nat.lt_succ_of_lt (lt_of_block B_a.out)))
  replace B_s := Lib.hid (below_block kA (lt_of_block B_s.out) B_s.out)
  replace B_r := Lib.hid (below_block kA (lt_of_block B_r.out) B_r.out)
  replace B_o := Lib.hid (below_block kA (lt_of_block B_o.out) B_o.out)
  replace B_a := Lib.hid (below_block kA (lt_of_block B_a.out) B_a.out)
  replace HR := Lib.hid (HR.out.below kA)
  replace HRR := Lib.hid (HRR.out.below kA)
  replace HL := Lib.hid (HL.out.below kA)
  replace RO := Lib.hid (RO.out.below kA)
  replace AO := Lib.hid (AO.out.below kA)
  replace KW := Lib.hid (KW.out.trans (kA.mono KW.out.size))
  have B_p := Lib.hid (show ((v4.alloc (.cells #[.bool ex0, .int .i64 tm0, .slice oq on oc] 24)).alloc (.cells #[.bool ag0, .slice aq an ac] 47)).heap[v4.heap.size]? = some (.cells #[.bool ex0, .int .i64 tm0, .slice oq on oc] 24) from heap_old (heap_new v4 (.cells #[.bool ex0, .int .i64 tm0, .slice oq on oc] 24)))
  have B_k := Lib.hid (show ((v4.alloc (.cells #[.bool ex0, .int .i64 tm0, .slice oq on oc] 24)).alloc (.cells #[.bool ag0, .slice aq an ac] 47)).heap[v4.heap.size + 1]? = some (.cells #[.bool ag0, .slice aq an ac] 47) from by simpa using heap_new (v4.alloc (.cells #[.bool ex0, .int .i64 tm0, .slice oq on oc] 24)) (.cells #[.bool ag0, .slice aq an ac] 47))
  clear kA
  generalize (v4.alloc (.cells #[.bool ex0, .int .i64 tm0, .slice oq on oc] 24)).alloc (.cells #[.bool ag0, .slice aq an ac] 47) = v5 at B_s B_r B_o B_a B_p B_k HR HRR HL RO AO KW ⊢
  generalize v4.heap.size + 1 = kb at B_k ge_k ne_p_k ne_s_k ne_r_k ne_o_k ne_a_k ⊢
  generalize v4.heap.size = pb at B_p ge_p ne_p_k ne_s_p ne_r_p ne_o_p ne_a_p ⊢
  have c_s0 : v5.cell? ⟨w.heap.size, 0, none⟩ = some (.bool true) := cell_of_block B_s.out rfl
  have c_s1 : v5.cell? ⟨w.heap.size, 1, none⟩ = some (.int .i64 tm) := cell_of_block B_s.out rfl
  have c_s2 : v5.cell? ⟨w.heap.size, 2, none⟩ = some (.slice q n c) := cell_of_block B_s.out rfl
  have c_r0 : v5.cell? ⟨rb, 0, none⟩ = some (.int .i64 kd) := cell_of_block B_r.out rfl
  have c_r1 : v5.cell? ⟨rb, 1, none⟩ = some (.string gp) := cell_of_block B_r.out rfl
  have c_r2 : v5.cell? ⟨rb, 2, none⟩ = some (.slice rp rn rc) := cell_of_block B_r.out rfl
  have CN := Lib.hid (but17_c true tm q n c sl kd ul (ris rs) (now + m) v5 hq1.out hq2.out hll.out hrl.out HR.out HL.out)
  rw [HCa.out] at CN
  unfold CgPost at CN
  go_wp2_with fail
  ((with_reducible refine CN.out.mono ?_); rintro e v6 ⟨vs0, va0, rfl, r9, a9, kb9⟩)
  clear c_s0 c_s1 c_s2 c_r0 c_r1 c_r2
  replace B_s := Lib.hid (below_block kb9 (lt_of_block B_s.out) B_s.out)
  replace B_r := Lib.hid (below_block kb9 (lt_of_block B_r.out) B_r.out)
  replace B_o := Lib.hid (below_block kb9 (lt_of_block B_o.out) B_o.out)
  replace B_a := Lib.hid (below_block kb9 (lt_of_block B_a.out) B_a.out)
  replace B_p := Lib.hid (below_block kb9 (lt_of_block B_p.out) B_p.out)
  replace B_k := Lib.hid (below_block kb9 (lt_of_block B_k.out) B_k.out)
  replace HR := Lib.hid (HR.out.below kb9)
  replace HRR := Lib.hid (HRR.out.below kb9)
  replace HL := Lib.hid (HL.out.below kb9)
  replace RO := Lib.hid (RO.out.below kb9)
  replace AO := Lib.hid (AO.out.below kb9)
  replace KW := Lib.hid (KW.out.trans (kb9.mono KW.out.size))
  clear RO AO
  simp only at r9 a9 ⊢
  obtain ⟨oq2, oc2, hov⟩ := r9.slice
  rw [← HCN.out] at hov
  subst hov
  obtain ⟨aq2, an2, ac2, rfl⟩ := addrs_slice3 a9
  have RO := Lib.hid r9
  have AO := Lib.hid a9
  clear CN kb9 r9 a9
  have c_p0 : v6.cell? ⟨pb, 0, none⟩ = some (.bool ex0) := cell_of_block B_p.out rfl
  have c_p1 : v6.cell? ⟨pb, 1, none⟩ = some (.int .i64 tm0) := cell_of_block B_p.out rfl
  have c_p2 : v6.cell? ⟨pb, 2, none⟩ = some (.slice oq on oc) := cell_of_block B_p.out rfl
  have c_k0 : v6.cell? ⟨kb, 0, none⟩ = some (.bool ag0) := cell_of_block B_k.out rfl
  have c_k1 : v6.cell? ⟨kb, 1, none⟩ = some (.slice aq an ac) := cell_of_block B_k.out rfl
  have z_p := (fun j : Nat => free_of_block (j := j) B_p.out)
  have z_k := (fun j : Nat => free_of_block (j := j) B_k.out)
  have nn1 := ne_p_k.out
  have nn2 := Ne.symm ne_p_k.out
  go_upto_region 11 with fail
  clear c_p0 c_p1 c_p2 c_k0 c_k1 z_p z_k nn1 nn2
  have kt : Tw v6 (((v6.setCell ⟨pb, 0, none⟩ (.bool true)).setCell ⟨pb, 1, none⟩ (.int .i64 ct)).setCell ⟨pb, 2, none⟩ (.slice oq2 cn oc2)) pb pb := ((tw_set v6 pb 0 (.bool true)).trans (tw_set (v6.setCell ⟨pb, 0, none⟩ (.bool true)) pb 1 (.int .i64 ct))).trans (tw_set ((v6.setCell ⟨pb, 0, none⟩ (.bool true)).setCell ⟨pb, 1, none⟩ (.int .i64 ct)) pb 2 (.slice oq2 cn oc2))
  replace HR := Lib.hid (rows_tw HR.out B_p.out no_str kt)
  replace HRR := Lib.hid (addrs_tw HRR.out B_p.out no_str kt)
  replace HL := Lib.hid (addrs_tw HL.out B_p.out no_str kt)
  replace RO := Lib.hid (rows_tw RO.out B_p.out no_str kt)
  replace AO := Lib.hid (addrs_tw AO.out B_p.out no_str kt)
  replace B_s := Lib.hid (blk_tw kt B_s.out ne_s_p.out)
  replace B_r := Lib.hid (blk_tw kt B_r.out ne_r_p.out)
  replace B_o := Lib.hid (blk_tw kt B_o.out ne_o_p.out)
  replace B_a := Lib.hid (blk_tw kt B_a.out ne_a_p.out)
  replace B_k := Lib.hid (blk_tw kt B_k.out (Ne.symm ne_p_k.out))
  replace B_p := Lib.hid (show ((((v6.setCell ⟨pb, 0, none⟩ (.bool true)).setCell ⟨pb, 1, none⟩ (.int .i64 ct)).setCell ⟨pb, 2, none⟩ (.slice oq2 cn oc2))).heap[pb]? = some (.cells #[.bool true, .int .i64 ct, .slice oq2 cn oc2] 24 (0, 0)) from (heap_store (j := 2) (v := .slice oq2 cn oc2) (heap_store (j := 1) (v := .int .i64 ct) (heap_store (j := 0) (v := .bool true) B_p.out))))
  replace KW := Lib.hid (bel_tw KW.out ge_p.out kt)
  clear kt
  have kt : Tw (((v6.setCell ⟨pb, 0, none⟩ (.bool true)).setCell ⟨pb, 1, none⟩ (.int .i64 ct)).setCell ⟨pb, 2, none⟩ (.slice oq2 cn oc2)) (((((v6.setCell ⟨pb, 0, none⟩ (.bool true)).setCell ⟨pb, 1, none⟩ (.int .i64 ct)).setCell ⟨pb, 2, none⟩ (.slice oq2 cn oc2)).setCell ⟨kb, 0, none⟩ (.bool cg)).setCell ⟨kb, 1, none⟩ (.slice aq2 an2 ac2)) kb kb := (tw_set (((v6.setCell ⟨pb, 0, none⟩ (.bool true)).setCell ⟨pb, 1, none⟩ (.int .i64 ct)).setCell ⟨pb, 2, none⟩ (.slice oq2 cn oc2)) kb 0 (.bool cg)).trans (tw_set ((((v6.setCell ⟨pb, 0, none⟩ (.bool true)).setCell ⟨pb, 1, none⟩ (.int .i64 ct)).setCell ⟨pb, 2, none⟩ (.slice oq2 cn oc2)).setCell ⟨kb, 0, none⟩ (.bool cg)) kb 1 (.slice aq2 an2 ac2))
  replace HR := Lib.hid (rows_tw HR.out B_k.out no_str2 kt)
  replace HRR := Lib.hid (addrs_tw HRR.out B_k.out no_str2 kt)
  replace HL := Lib.hid (addrs_tw HL.out B_k.out no_str2 kt)
  replace RO := Lib.hid (rows_tw RO.out B_k.out no_str2 kt)
  replace AO := Lib.hid (addrs_tw AO.out B_k.out no_str2 kt)
  replace B_s := Lib.hid (blk_tw kt B_s.out ne_s_k.out)
  replace B_r := Lib.hid (blk_tw kt B_r.out ne_r_k.out)
  replace B_o := Lib.hid (blk_tw kt B_o.out ne_o_k.out)
  replace B_a := Lib.hid (blk_tw kt B_a.out ne_a_k.out)
  replace B_p := Lib.hid (blk_tw kt B_p.out ne_p_k.out)
  replace B_k := Lib.hid (show ((((((v6.setCell ⟨pb, 0, none⟩ (.bool true)).setCell ⟨pb, 1, none⟩ (.int .i64 ct)).setCell ⟨pb, 2, none⟩ (.slice oq2 cn oc2)).setCell ⟨kb, 0, none⟩ (.bool cg)).setCell ⟨kb, 1, none⟩ (.slice aq2 an2 ac2))).heap[kb]? = some (.cells #[.bool cg, .slice aq2 an2 ac2] 47 (0, 0)) from (heap_store (j := 1) (v := .slice aq2 an2 ac2) (heap_store (j := 0) (v := .bool cg) B_k.out)))
  replace KW := Lib.hid (bel_tw KW.out ge_k.out kt)
  clear kt
  generalize (((((v6.setCell ⟨pb, 0, none⟩ (.bool true)).setCell ⟨pb, 1, none⟩ (.int .i64 ct)).setCell ⟨pb, 2, none⟩ (.slice oq2 cn oc2)).setCell ⟨kb, 0, none⟩ (.bool cg)).setCell ⟨kb, 1, none⟩ (.slice aq2 an2 ac2)) = v7 at B_s B_r B_o B_a B_p B_k HR HRR HL RO AO KW ⊢
  have c_p0 : v7.cell? ⟨pb, 0, none⟩ = some (.bool true) := cell_of_block B_p.out rfl
  have c_p1 : v7.cell? ⟨pb, 1, none⟩ = some (.int .i64 ct) := cell_of_block B_p.out rfl
  have c_p2 : v7.cell? ⟨pb, 2, none⟩ = some (.slice oq2 cn oc2) := cell_of_block B_p.out rfl
  have c_k0 : v7.cell? ⟨kb, 0, none⟩ = some (.bool cg) := cell_of_block B_k.out rfl
  have c_k1 : v7.cell? ⟨kb, 1, none⟩ = some (.slice aq2 an2 ac2) := cell_of_block B_k.out rfl
  have CN := Lib.hid (by have h := asked17_c true ct (.slice oq2 cn oc2) cs cg (.slice aq2 an2 ac2) ca (now + l) v7 hcl.out hal.out RO.out AO.out; rw [← hT.out, ← hS.out] at h; unfold AkPost at h; exact h)
  go_wp2_with fail
  ((with_reducible refine CN.out.mono ?_); rintro e v8 ⟨vs1, rfl, r9, kb9⟩)
  clear c_p0 c_p1 c_p2 c_k0 c_k1
  replace B_s := Lib.hid (below_block kb9 (lt_of_block B_s.out) B_s.out)
  replace B_r := Lib.hid (below_block kb9 (lt_of_block B_r.out) B_r.out)
  replace B_o := Lib.hid (below_block kb9 (lt_of_block B_o.out) B_o.out)
  replace B_a := Lib.hid (below_block kb9 (lt_of_block B_a.out) B_a.out)
  replace B_p := Lib.hid (below_block kb9 (lt_of_block B_p.out) B_p.out)
  replace B_k := Lib.hid (below_block kb9 (lt_of_block B_k.out) B_k.out)
  replace HR := Lib.hid (HR.out.below kb9)
  replace HRR := Lib.hid (HRR.out.below kb9)
  replace HL := Lib.hid (HL.out.below kb9)
  replace RO := Lib.hid (RO.out.below kb9)
  replace AO := Lib.hid (AO.out.below kb9)
  replace KW := Lib.hid (KW.out.trans (kb9.mono KW.out.size))
  clear RO
  obtain ⟨sq, sc, hov⟩ := r9.slice
  rw [← HSN.out] at hov
  subst hov
  have RO := Lib.hid r9
  clear CN kb9 r9
  have c_p0 : v8.cell? ⟨pb, 0, none⟩ = some (.bool true) := cell_of_block B_p.out rfl
  have c_p1 : v8.cell? ⟨pb, 1, none⟩ = some (.int .i64 ct) := cell_of_block B_p.out rfl
  have c_p2 : v8.cell? ⟨pb, 2, none⟩ = some (.slice oq2 cn oc2) := cell_of_block B_p.out rfl
  have z_p := (fun j : Nat => free_of_block (j := j) B_p.out)
  go_upto_region 14 with fail
  clear c_p0 c_p1 c_p2
  clear z_p
  have kt : Tw v8 (((v8.setCell ⟨pb, 0, none⟩ (.bool true)).setCell ⟨pb, 1, none⟩ (.int .i64 T)).setCell ⟨pb, 2, none⟩ (.slice sq sn sc)) pb pb := ((tw_set v8 pb 0 (.bool true)).trans (tw_set (v8.setCell ⟨pb, 0, none⟩ (.bool true)) pb 1 (.int .i64 T))).trans (tw_set ((v8.setCell ⟨pb, 0, none⟩ (.bool true)).setCell ⟨pb, 1, none⟩ (.int .i64 T)) pb 2 (.slice sq sn sc))
  replace HR := Lib.hid (rows_tw HR.out B_p.out no_str kt)
  replace HRR := Lib.hid (addrs_tw HRR.out B_p.out no_str kt)
  replace HL := Lib.hid (addrs_tw HL.out B_p.out no_str kt)
  replace AO := Lib.hid (addrs_tw AO.out B_p.out no_str kt)
  replace RO := Lib.hid (rows_tw RO.out B_p.out no_str kt)
  replace B_s := Lib.hid (blk_tw kt B_s.out ne_s_p.out)
  replace B_r := Lib.hid (blk_tw kt B_r.out ne_r_p.out)
  replace B_o := Lib.hid (blk_tw kt B_o.out ne_o_p.out)
  replace B_a := Lib.hid (blk_tw kt B_a.out ne_a_p.out)
  replace B_k := Lib.hid (blk_tw kt B_k.out (Ne.symm ne_p_k.out))
  replace B_p := Lib.hid (show ((((v8.setCell ⟨pb, 0, none⟩ (.bool true)).setCell ⟨pb, 1, none⟩ (.int .i64 T)).setCell ⟨pb, 2, none⟩ (.slice sq sn sc))).heap[pb]? = some (.cells #[.bool true, .int .i64 T, .slice sq sn sc] 24 (0, 0)) from (heap_store (j := 2) (v := .slice sq sn sc) (heap_store (j := 1) (v := .int .i64 T) (heap_store (j := 0) (v := .bool true) B_p.out))))
  replace KW := Lib.hid (bel_tw KW.out ge_p.out kt)
  clear kt
  generalize (((v8.setCell ⟨pb, 0, none⟩ (.bool true)).setCell ⟨pb, 1, none⟩ (.int .i64 T)).setCell ⟨pb, 2, none⟩ (.slice sq sn sc)) = v9 at B_s B_r B_o B_a B_p B_k HR HRR HL AO RO KW ⊢
  have c_p0 : v9.cell? ⟨pb, 0, none⟩ = some (.bool true) := cell_of_block B_p.out rfl
  have c_p1 : v9.cell? ⟨pb, 1, none⟩ = some (.int .i64 T) := cell_of_block B_p.out rfl
  have c_p2 : v9.cell? ⟨pb, 2, none⟩ = some (.slice sq sn sc) := cell_of_block B_p.out rfl
  go_upto_region 16 with fail
  have PB := B_p.out
  have hb := B_k.out
  have h8 := B_o.out
  have h9 := B_a.out
  have rf := RO.out
  have af := AO.out
  have kk := KW.out
  have KF := Lib.hid (show ∀ U : World, U.heap[pb]? = some (.cells #[.bool true, .int .i64 T, .slice sq sn sc] 24 (0, 0)) → U.heap[kb]? = some (.cells #[.bool cg, .slice aq2 an2 ac2] 47 (0, 0)) → (U.cell? ⟨pb, 0, none⟩ = some (.bool true) ∧ U.cell? ⟨pb, 1, none⟩ = some (.int .i64 T) ∧ U.cell? ⟨pb, 2, none⟩ = some (.slice sq sn sc) ∧ U.cell? ⟨kb, 0, none⟩ = some (.bool cg) ∧ U.cell? ⟨kb, 1, none⟩ = some (.slice aq2 an2 ac2)) from fun U h1 h2 => ⟨cell_of_block h1 rfl, cell_of_block h1 rfl, cell_of_block h1 rfl, cell_of_block h2 rfl, cell_of_block h2 rfl⟩)
  clear B_p B_k B_o B_a B_s B_r RO AO KW HR HRR HL
  refine wp_region_held_drew (S := fun U => U.cell? ⟨pb, 0, none⟩ = some (.bool true) ∧ U.cell? ⟨pb, 1, none⟩ = some (.int .i64 T) ∧ U.cell? ⟨pb, 2, none⟩ = some (.slice sq sn sc) ∧ U.cell? ⟨kb, 0, none⟩ = some (.bool cg) ∧ U.cell? ⟨kb, 1, none⟩ = some (.slice aq2 an2 ac2)) (by kernel_rfl) (KF.out _ PB hb) (fun hH => ?_)
  replace h8 : v9.drew.heap[e12]? = _ := h8
  replace h9 : v9.drew.heap[e14]? = _ := h9
  replace PB : v9.drew.heap[pb]? = _ := PB
  replace hb : v9.drew.heap[kb]? = _ := hb
  replace rf := rf.below (show Below v9.heap.size v9 v9.drew from (Below.refl _ _).drew)
  replace af := af.below (show Below v9.heap.size v9 v9.drew from (Below.refl _ _).drew)
  replace kk := kk.drew
  generalize v9.drew = Y0 at h8 h9 PB hb rf af kk hH ⊢
  refine wpAnyH_take (i := 0) (oi := { dst := some 103, op := Op.load 24 (Operand.tmp 17), type := 24, pos := "ref.go:197", after := #[], guard := none }) (v := .agg #[.bool true, .int .i64 T, .slice sq sn sc]) rfl (by kernel_rfl) (by kernel_rfl) (by kernel_rfl) (fun _ _ _ h => h) (Or.inl ⟨by kernel_rfl, ?_⟩) hH ?_
  · intro w hSw; (try dsimp only at hSw); go_simp; (try rfl)
  try simp only [Act.put, List.setIfInBounds_toArray, List.set_cons_zero, List.set_cons_succ]
  refine wpAnyH_take (i := 1) (oi := { dst := some 104, op := Op.load 47 (Operand.tmp 18), type := 47, pos := "ref.go:197", after := #[{ on := 3, ground := Ground.gcOnly Departure.lateStores }], guard := none }) (v := .agg #[.bool cg, .slice aq2 an2 ac2]) rfl (by kernel_rfl) (by kernel_rfl) (by kernel_rfl) (fun _ _ _ h => h) (Or.inl ⟨by kernel_rfl, ?_⟩) hH ?_
  · intro w hSw; (try dsimp only at hSw); go_simp; (try rfl)
  try simp only [Act.put, List.setIfInBounds_toArray, List.set_cons_zero, List.set_cons_succ]
  refine wpAnyH_ready (rs := [2]) (by kernel_rfl) (by simp) ?_
  refine AllReadyH.cons rfl (fun K hK => ?_) AllReadyH.nil
  have z0 := cell_of_block (j := 0) h8 rfl
  have fz0 := free_of_block (j := 0) h8
  have z1 := cell_of_block (j := 1) h8 rfl
  have fz1 := free_of_block (j := 1) h8
  have z2 := cell_of_block (j := 2) h8 rfl
  have fz2 := free_of_block (j := 2) h8
  go_simp
  clear z0 fz0 z1 fz1 z2 fz2
  have kt : Tw Y0 (((Y0.setCell ⟨e12, 0, none⟩ (.bool true)).setCell ⟨e12, 1, none⟩ (.int .i64 T)).setCell ⟨e12, 2, none⟩ (.slice sq sn sc)) e12 e12 := ((tw_set Y0 e12 0 (.bool true)).trans (tw_set (Y0.setCell ⟨e12, 0, none⟩ (.bool true)) e12 1 (.int .i64 T))).trans (tw_set ((Y0.setCell ⟨e12, 0, none⟩ (.bool true)).setCell ⟨e12, 1, none⟩ (.int .i64 T)) e12 2 (.slice sq sn sc))
  replace rf := rows_tw rf h8 no_str kt
  replace af := addrs_tw af h8 no_str kt
  replace kk := bel_tw kk ge_o.out kt
  replace h9 := blk_tw kt h9 ((Ne.symm ne_o_a.out))
  replace PB := blk_tw kt PB ((Ne.symm ne_o_p.out))
  replace hb := blk_tw kt hb ((Ne.symm ne_o_k.out))
  replace h8 : ((((Y0.setCell ⟨e12, 0, none⟩ (.bool true)).setCell ⟨e12, 1, none⟩ (.int .i64 T)).setCell ⟨e12, 2, none⟩ (.slice sq sn sc))).heap[e12]? = some (.cells #[.bool true, .int .i64 T, .slice sq sn sc] 24 (0, 0)) := (heap_store (j := 2) (v := .slice sq sn sc) (heap_store (j := 1) (v := .int .i64 T) (heap_store (j := 0) (v := .bool true) h8)))
  clear kt
  refine hK.out _ _ (KF.out _ PB hb) (fun hH => ?_)
  clear hK K
  try simp only [Act.put, List.setIfInBounds_toArray, List.set_cons_zero, List.set_cons_succ]
  generalize (((Y0.setCell ⟨e12, 0, none⟩ (.bool true)).setCell ⟨e12, 1, none⟩ (.int .i64 T)).setCell ⟨e12, 2, none⟩ (.slice sq sn sc)) = Y1 at h8 h9 PB hb rf af kk hH ⊢
  refine wpAnyH_take (i := 3) (oi := { dst := some 13, op := Op.assign (Operand.const (Value.bool true)), type := 4, pos := "ref.go:197", after := #[{ on := 2, ground := Ground.chain }, { on := 0, ground := Ground.phase }, { on := 1, ground := Ground.textOnly Departure.lateStores }, { on := 2, ground := Ground.phase }], guard := none }) (v := .bool true) rfl (by kernel_rfl) (by kernel_rfl) (by kernel_rfl) (fun _ _ _ h => h) (Or.inl ⟨by kernel_rfl, ?_⟩) hH ?_
  · intro w hSw; (try dsimp only at hSw); go_simp; (try rfl)
  try simp only [Act.put, List.setIfInBounds_toArray, List.set_cons_zero, List.set_cons_succ]
  refine wpAnyH_ready (rs := [4]) (by kernel_rfl) (by simp) ?_
  refine AllReadyH.cons rfl (fun K hK => ?_) AllReadyH.nil
  have z0 := cell_of_block (j := 0) h9 rfl
  have fz0 := free_of_block (j := 0) h9
  have z1 := cell_of_block (j := 1) h9 rfl
  have fz1 := free_of_block (j := 1) h9
  go_simp
  clear z0 fz0 z1 fz1
  have kt : Tw Y1 ((Y1.setCell ⟨e14, 0, none⟩ (.bool cg)).setCell ⟨e14, 1, none⟩ (.slice aq2 an2 ac2)) e14 e14 := (tw_set Y1 e14 0 (.bool cg)).trans (tw_set (Y1.setCell ⟨e14, 0, none⟩ (.bool cg)) e14 1 (.slice aq2 an2 ac2))
  replace rf := rows_tw rf h9 no_str2 kt
  replace af := addrs_tw af h9 no_str2 kt
  replace kk := bel_tw kk ge_a.out kt
  replace h8 := blk_tw kt h8 (ne_o_a.out)
  replace PB := blk_tw kt PB ((Ne.symm ne_a_p.out))
  replace hb := blk_tw kt hb ((Ne.symm ne_a_k.out))
  replace h9 : (((Y1.setCell ⟨e14, 0, none⟩ (.bool cg)).setCell ⟨e14, 1, none⟩ (.slice aq2 an2 ac2))).heap[e14]? = some (.cells #[.bool cg, .slice aq2 an2 ac2] 47 (0, 0)) := (heap_store (j := 1) (v := .slice aq2 an2 ac2) (heap_store (j := 0) (v := .bool cg) h9))
  clear kt
  refine hK.out _ _ (KF.out _ PB hb) (fun hH => ?_)
  clear hK K
  try simp only [Act.put, List.setIfInBounds_toArray, List.set_cons_zero, List.set_cons_succ]
  generalize ((Y1.setCell ⟨e14, 0, none⟩ (.bool cg)).setCell ⟨e14, 1, none⟩ (.slice aq2 an2 ac2)) = Y2 at h8 h9 PB hb rf af kk hH ⊢
  refine wpAnyH_take (i := 5) (oi := { dst := some 15, op := Op.assign (Operand.const (Value.int IntKind.i64 0)), type := 28, pos := "ref.go:197", after := #[{ on := 4, ground := Ground.chain }, { on := 0, ground := Ground.phase }, { on := 1, ground := Ground.phase }, { on := 2, ground := Ground.phase }, { on := 3, ground := Ground.phase }, { on := 4, ground := Ground.phase }], guard := none }) (v := .int .i64 0) rfl (by kernel_rfl) (by kernel_rfl) (by kernel_rfl) (fun _ _ _ h => h) (Or.inl ⟨by kernel_rfl, ?_⟩) hH ?_
  · intro w hSw; (try dsimp only at hSw); go_simp; (try rfl)
  try simp only [Act.put, List.setIfInBounds_toArray, List.set_cons_zero, List.set_cons_succ]
  refine wpAnyH_done (by kernel_rfl) ?_ _
  have HF := Lib.hid (HQ.out _ _ _ rf af kk)
  have y0 := cell_of_block (j := 0) h8 rfl
  have y1 := cell_of_block (j := 1) h8 rfl
  have y2 := cell_of_block (j := 2) h8 rfl
  have y3 := cell_of_block (j := 0) h9 rfl
  have y4 := cell_of_block (j := 1) h9 rfl
  clear hH h8 h9 PB hb rf af kk HQ KF
  go_wp2_with fail
  exact bodyPost_ret (v := .tuple #[.agg #[.bool true, .int .i64 T, .slice sq sn sc], .bool true, .agg #[.bool cg, .slice aq2 an2 ac2], .int .i64 0]) (by simp [results, Try.results21, go_sem, y0, y1, y2, y3, y4]) rfl HF.out

set_option maxHeartbeats 16000000 in
set_option maxRecDepth 100000 in
theorem ap17_fn_long (ex : Bool) (tm : Int) (q : Option Addr) (n c : Nat) (sl : List Tm) (kd : Int) (gp : ByteArray) (rp : Option Addr) (rn rc : Nat) (rs : List ByteArray) (now m l : Int) (w : World) (hl0 : sl.length ≤ 100) (hr0 : rs.length ≤ 100) (hrn0 : rn = rs.length) (hR : RowsAt 2 cellsTm w (.slice q n c) sl) (hRR : AddrsAt w (.slice rp rn rc) rs) (hm0 : mayT m l now = true) (hr1 : recT kd rs = true) (cx : Bool) (ct : Int) (cs : List Tm) (cg : Bool) (ca : List ByteArray) (hC : somP [] kd (ris rs) (now + m) = ⟨cx, ct, cs, cg, ca⟩) (hb : 60 < cs.length) (T : Int) (hT0 : T = if cg then min ct (now + l) else ct) (S : List Tm) (hS0 : S = askS cs ca (now + l)) :
    Calls Try.prog 21 #[.agg #[.bool ex, .int .i64 tm, .slice q n c], .bool false, .agg #[.int .i64 kd, .string gp, .slice rp rn rc], .int .i64 now, .int .i64 m, .int .i64 l] w (ApPost (noA 1) w) := by
  have k0 : Below w.heap.size w ((((w.alloc (.cells #[.bool ex, .int .i64 tm, .slice q n c] 24)).alloc (.cells #[.int .i64 kd, .string gp, .slice rp rn rc] 37)).alloc (.cells #[.bool false, .int .i64 0, .slice none 0 0] 24)).alloc (.cells #[.bool false, .slice none 0 0] 47)) := ((((Below.refl _ _).alloc (Nat.le_refl _) _).alloc (by simp) _).alloc (by simp; omega) _).alloc (by simp; omega) _
  have KW := Lib.hid k0
  have B_s := Lib.hid (show ((((w.alloc (.cells #[.bool ex, .int .i64 tm, .slice q n c] 24)).alloc (.cells #[.int .i64 kd, .string gp, .slice rp rn rc] 37)).alloc (.cells #[.bool false, .int .i64 0, .slice none 0 0] 24)).alloc (.cells #[.bool false, .slice none 0 0] 47)).heap[w.heap.size]? = some (.cells #[.bool ex, .int .i64 tm, .slice q n c] 24) from heap_old (heap_old (heap_old (heap_new w (.cells #[.bool ex, .int .i64 tm, .slice q n c] 24)))))
  have B_r := Lib.hid (show ((((w.alloc (.cells #[.bool ex, .int .i64 tm, .slice q n c] 24)).alloc (.cells #[.int .i64 kd, .string gp, .slice rp rn rc] 37)).alloc (.cells #[.bool false, .int .i64 0, .slice none 0 0] 24)).alloc (.cells #[.bool false, .slice none 0 0] 47)).heap[w.heap.size + 1]? = some (.cells #[.int .i64 kd, .string gp, .slice rp rn rc] 37) from heap_old (heap_old (by simpa using heap_new (w.alloc (.cells #[.bool ex, .int .i64 tm, .slice q n c] 24)) (.cells #[.int .i64 kd, .string gp, .slice rp rn rc] 37))))
  have B_o := Lib.hid (show ((((w.alloc (.cells #[.bool ex, .int .i64 tm, .slice q n c] 24)).alloc (.cells #[.int .i64 kd, .string gp, .slice rp rn rc] 37)).alloc (.cells #[.bool false, .int .i64 0, .slice none 0 0] 24)).alloc (.cells #[.bool false, .slice none 0 0] 47)).heap[w.heap.size + 1 + 1]? = some (.cells #[.bool false, .int .i64 0, .slice none 0 0] 24) from heap_old (by simpa using heap_new ((w.alloc (.cells #[.bool ex, .int .i64 tm, .slice q n c] 24)).alloc (.cells #[.int .i64 kd, .string gp, .slice rp rn rc] 37)) (.cells #[.bool false, .int .i64 0, .slice none 0 0] 24)))
  have B_a := Lib.hid (show ((((w.alloc (.cells #[.bool ex, .int .i64 tm, .slice q n c] 24)).alloc (.cells #[.int .i64 kd, .string gp, .slice rp rn rc] 37)).alloc (.cells #[.bool false, .int .i64 0, .slice none 0 0] 24)).alloc (.cells #[.bool false, .slice none 0 0] 47)).heap[w.heap.size + 1 + 1 + 1]? = some (.cells #[.bool false, .slice none 0 0] 47) from by simpa using heap_new (((w.alloc (.cells #[.bool ex, .int .i64 tm, .slice q n c] 24)).alloc (.cells #[.int .i64 kd, .string gp, .slice rp rn rc] 37)).alloc (.cells #[.bool false, .int .i64 0, .slice none 0 0] 24)) (.cells #[.bool false, .slice none 0 0] 47))
  have HR := Lib.hid (hR.below k0)
  have HRR := Lib.hid (hRR.below k0)
  have ge_s := Lib.hid (Nat.le_refl w.heap.size)
  have ge_r := Lib.hid (show w.heap.size ≤ w.heap.size + 1 from by omega)
  have ge_o := Lib.hid (show w.heap.size ≤ w.heap.size + 1 + 1 from by omega)
  have ge_a := Lib.hid (show w.heap.size ≤ w.heap.size + 1 + 1 + 1 from by omega)
  have ne_s_r := Lib.hid (show w.heap.size ≠ w.heap.size + 1 from by omega)
  have ne_s_o := Lib.hid (show w.heap.size ≠ w.heap.size + 1 + 1 from by omega)
  have ne_s_a := Lib.hid (show w.heap.size ≠ w.heap.size + 1 + 1 + 1 from by omega)
  have ne_r_o := Lib.hid (show w.heap.size + 1 ≠ w.heap.size + 1 + 1 from by omega)
  have ne_r_a := Lib.hid (show w.heap.size + 1 ≠ w.heap.size + 1 + 1 + 1 from by omega)
  have ne_o_a := Lib.hid (show w.heap.size + 1 + 1 ≠ w.heap.size + 1 + 1 + 1 from by omega)
  have HQ := Lib.hid (show ∀ U, Below w.heap.size w U → ApPost (noA 1) w (.returned (.tuple #[.agg #[.bool false, .int .i64 0, .slice none 0 0], .bool false, .agg #[.bool false, .slice none 0 0], .int .i64 1])) U from fun U k => ⟨_, _, rfl, RowsAt.nil _, AddrsG.nil _ _ _, k⟩)
  generalize ApPost (noA 1) w = Q at HQ ⊢
  have hl6 := Lib.hid (Nat.le_trans hl0 (show 100 ≤ 1000000 by decide))
  have hr6 := Lib.hid (Nat.le_trans hr0 (show 100 ≤ 1000000 by decide))
  have hm := Lib.hid hm0
  have HCa := Lib.hid hC
  have hT := Lib.hid hT0
  have hS := Lib.hid hS0
  have hmay : 1 ≤ m ∧ m ≤ 1000000 ∧ 1 ≤ l ∧ l ≤ 1000000 ∧ 1 ≤ now ∧ now ≤ 1099511627776 := by
    have := hm0
    unfold mayT at this
    simp only [Bool.and_eq_true, decide_eq_true_iff] at this
    omega
  have hrec : 1 ≤ kd ∧ kd ≤ 6 ∧ rn ≤ 60 := by
    have := hr1
    unfold recT at this
    simp only [Bool.and_eq_true, decide_eq_true_iff] at this
    omega
  obtain ⟨q1, q2, q3⟩ := hrec
  obtain ⟨m1, m2, l1, l2, o1, o2⟩ := hmay
  have hrl := Lib.hid (show (ris rs).length ≤ 100 from Nat.le_trans (ris_len rs) hr0)
  have hll := Lib.hid hl0
  have hq1 := Lib.hid q1
  have hq2 := Lib.hid q2
  have hal := Lib.hid (show ca.length ≤ 100 from by have h := som_al (l := []) (by decide) (Nat.le_trans (ris_len rs) hr0) kd (now + m); rw [hC] at h; exact h)
  have d1 : decide (kd < 1) = false := decide_eq_false (by omega)
  have d2 : decide (6 < kd) = false := decide_eq_false (by omega)
  have d3 : decide (60 < (rn : Int)) = false := decide_eq_false (by omega)
  have d4 : decide (60 < rn) = false := decide_eq_false (by omega)
  have aw1 : wrap64 (now + m) = now + m := by unfold wrap64; omega
  have aw2 : wrap64 (now + l) = now + l := by unfold wrap64; omega
  obtain ⟨cn, hcn⟩ : ∃ cn, cn = cs.length := ⟨_, rfl⟩
  have HCN := Lib.hid hcn
  obtain ⟨sn, hsn⟩ : ∃ sn, sn = S.length := ⟨_, rfl⟩
  have HSN := Lib.hid hsn
  have f1 : decide (60 < cn) = true := decide_eq_true (by rw [hcn]; exact hb)
  have f2 : decide (60 < (cn : Int)) = true := decide_eq_true (by rw [hcn]; omega)
  clear hm0 hC hT0 hS0 hr1 hcn hsn hb q1 q2 q3 m1 m2 l1 l2 o1 o2 hl0 hr0 hrn0
  clear k0 hR hRR
  go_enter Try.func21, Try.ntmps21
  go_upto_region 1 with fail
  generalize ((((w.alloc (.cells #[.bool ex, .int .i64 tm, .slice q n c] 24)).alloc (.cells #[.int .i64 kd, .string gp, .slice rp rn rc] 37)).alloc (.cells #[.bool false, .int .i64 0, .slice none 0 0] 24)).alloc (.cells #[.bool false, .slice none 0 0] 47)) = W at B_s B_r B_o B_a HR HRR KW ⊢
  generalize w.heap.size + 1 + 1 + 1 = e14 at B_a ge_a ne_s_a ne_r_a ne_o_a ⊢
  generalize w.heap.size + 1 + 1 = e12 at B_o ge_o ne_s_o ne_r_o ne_o_a ⊢
  generalize w.heap.size + 1 = rb at B_r ge_r ne_s_r ne_r_o ne_r_a ⊢
  have CN := Lib.hid (by have h := may17_c now m l W; rw [hm.out] at h; exact h)
  go_wp2_with fail
  ((with_reducible refine CN.out.mono ?_); rintro e v1 ⟨rfl, kb9⟩)
  replace B_s := Lib.hid (below_block kb9 (lt_of_block B_s.out) B_s.out)
  replace B_r := Lib.hid (below_block kb9 (lt_of_block B_r.out) B_r.out)
  replace B_o := Lib.hid (below_block kb9 (lt_of_block B_o.out) B_o.out)
  replace B_a := Lib.hid (below_block kb9 (lt_of_block B_a.out) B_a.out)
  replace HR := Lib.hid (HR.out.below kb9)
  replace HRR := Lib.hid (HRR.out.below kb9)
  replace KW := Lib.hid (KW.out.trans (kb9.mono KW.out.size))
  clear CN kb9
  have c_r0 : v1.cell? ⟨rb, 0, none⟩ = some (.int .i64 kd) := cell_of_block B_r.out rfl
  have c_r1 : v1.cell? ⟨rb, 1, none⟩ = some (.string gp) := cell_of_block B_r.out rfl
  have c_r2 : v1.cell? ⟨rb, 2, none⟩ = some (.slice rp rn rc) := cell_of_block B_r.out rfl
  have c_s0 : v1.cell? ⟨w.heap.size, 0, none⟩ = some (.bool ex) := cell_of_block B_s.out rfl
  have c_s1 : v1.cell? ⟨w.heap.size, 1, none⟩ = some (.int .i64 tm) := cell_of_block B_s.out rfl
  have c_s2 : v1.cell? ⟨w.heap.size, 2, none⟩ = some (.slice q n c) := cell_of_block B_s.out rfl
  have z_s := (fun j : Nat => free_of_block (j := j) B_s.out)
  have kt : Tw v1 (((v1.setCell ⟨w.heap.size, 0, none⟩ (.bool false)).setCell ⟨w.heap.size, 1, none⟩ (.int .i64 0)).setCell ⟨w.heap.size, 2, none⟩ (.slice none 0 0)) w.heap.size w.heap.size := ((tw_set v1 w.heap.size 0 (.bool false)).trans (tw_set (v1.setCell ⟨w.heap.size, 0, none⟩ (.bool false)) w.heap.size 1 (.int .i64 0))).trans (tw_set ((v1.setCell ⟨w.heap.size, 0, none⟩ (.bool false)).setCell ⟨w.heap.size, 1, none⟩ (.int .i64 0)) w.heap.size 2 (.slice none 0 0))
  replace HR := Lib.hid (rows_tw HR.out B_s.out no_str kt)
  replace HRR := Lib.hid (addrs_tw HRR.out B_s.out no_str kt)
  replace B_r := Lib.hid (blk_tw kt B_r.out (Ne.symm ne_s_r.out))
  replace B_o := Lib.hid (blk_tw kt B_o.out (Ne.symm ne_s_o.out))
  replace B_a := Lib.hid (blk_tw kt B_a.out (Ne.symm ne_s_a.out))
  replace B_s := Lib.hid (show ((((v1.setCell ⟨w.heap.size, 0, none⟩ (.bool false)).setCell ⟨w.heap.size, 1, none⟩ (.int .i64 0)).setCell ⟨w.heap.size, 2, none⟩ (.slice none 0 0))).heap[w.heap.size]? = some (.cells #[.bool false, .int .i64 0, .slice none 0 0] 24 (0, 0)) from (heap_store (j := 2) (v := .slice none 0 0) (heap_store (j := 1) (v := .int .i64 0) (heap_store (j := 0) (v := .bool false) B_s.out))))
  replace KW := Lib.hid (bel_tw KW.out ge_s.out kt)
  clear kt
  go_upto_region 7 with fail
  clear c_r0 c_r1 c_r2
  clear c_s0 c_s1 c_s2 z_s
  generalize (((v1.setCell ⟨w.heap.size, 0, none⟩ (.bool false)).setCell ⟨w.heap.size, 1, none⟩ (.int .i64 0)).setCell ⟨w.heap.size, 2, none⟩ (.slice none 0 0)) = v2 at B_s B_r B_o B_a HR HRR KW ⊢
  clear HR
  have HR := Lib.hid (show RowsAt 2 cellsTm v2 (.slice none 0 0) [] from RowsAt.nil _)
  have c_r0 : v2.cell? ⟨rb, 0, none⟩ = some (.int .i64 kd) := cell_of_block B_r.out rfl
  have c_r1 : v2.cell? ⟨rb, 1, none⟩ = some (.string gp) := cell_of_block B_r.out rfl
  have c_r2 : v2.cell? ⟨rb, 2, none⟩ = some (.slice rp rn rc) := cell_of_block B_r.out rfl
  have CN := Lib.hid (rris_c (.slice rp rn rc) rs v2 hr6.out HRR.out)
  unfold MPost at CN
  go_wp2_with fail
  ((with_reducible refine CN.out.mono ?_); rintro e v3 ⟨ul, rfl, a9, kb9⟩)
  clear c_r0 c_r1 c_r2
  replace B_s := Lib.hid (below_block kb9 (lt_of_block B_s.out) B_s.out)
  replace B_r := Lib.hid (below_block kb9 (lt_of_block B_r.out) B_r.out)
  replace B_o := Lib.hid (below_block kb9 (lt_of_block B_o.out) B_o.out)
  replace B_a := Lib.hid (below_block kb9 (lt_of_block B_a.out) B_a.out)
  replace HR := Lib.hid (HR.out.below kb9)
  replace HRR := Lib.hid (HRR.out.below kb9)
  replace KW := Lib.hid (KW.out.trans (kb9.mono KW.out.size))
  have HL := Lib.hid a9.at
  clear CN kb9 a9
  have c_s0 : v3.cell? ⟨w.heap.size, 0, none⟩ = some (.bool false) := cell_of_block B_s.out rfl
  have c_s1 : v3.cell? ⟨w.heap.size, 1, none⟩ = some (.int .i64 0) := cell_of_block B_s.out rfl
  have c_s2 : v3.cell? ⟨w.heap.size, 2, none⟩ = some (.slice none 0 0) := cell_of_block B_s.out rfl
  have c_r0 : v3.cell? ⟨rb, 0, none⟩ = some (.int .i64 kd) := cell_of_block B_r.out rfl
  have c_r1 : v3.cell? ⟨rb, 1, none⟩ = some (.string gp) := cell_of_block B_r.out rfl
  have c_r2 : v3.cell? ⟨rb, 2, none⟩ = some (.slice rp rn rc) := cell_of_block B_r.out rfl
  have CN := Lib.hid (some17_c false 0 (none) 0 0 [] kd ul (ris rs) (now + m) v3 hq1.out hq2.out (by decide) hrl.out HR.out HL.out)
  rw [HCa.out] at CN
  unfold CgPost at CN
  go_wp2_with fail
  ((with_reducible refine CN.out.mono ?_); rintro e v4 ⟨vs0, va0, rfl, r9, a9, kb9⟩)
  clear c_s0 c_s1 c_s2 c_r0 c_r1 c_r2
  replace B_s := Lib.hid (below_block kb9 (lt_of_block B_s.out) B_s.out)
  replace B_r := Lib.hid (below_block kb9 (lt_of_block B_r.out) B_r.out)
  replace B_o := Lib.hid (below_block kb9 (lt_of_block B_o.out) B_o.out)
  replace B_a := Lib.hid (below_block kb9 (lt_of_block B_a.out) B_a.out)
  replace HR := Lib.hid (HR.out.below kb9)
  replace HRR := Lib.hid (HRR.out.below kb9)
  replace HL := Lib.hid (HL.out.below kb9)
  replace KW := Lib.hid (KW.out.trans (kb9.mono KW.out.size))
  simp only at r9 a9 ⊢
  obtain ⟨oq, oc, hov⟩ := r9.slice
  rw [← HCN.out] at hov
  subst hov
  obtain ⟨aq, an, ac, rfl⟩ := addrs_slice3 a9
  have RO := Lib.hid r9
  have AO := Lib.hid a9
  clear CN kb9 r9 a9
  go_upto_region 9 with fail
  have kA : Below v4.heap.size v4 ((v4.alloc (.cells #[.bool cx, .int .i64 ct, .slice oq cn oc] 24)).alloc (.cells #[.bool cg, .slice aq an ac] 47)) := ((Below.refl _ _).alloc (Nat.le_refl _) _).alloc (by simp) _
  have ge_p := Lib.hid (show w.heap.size ≤ v4.heap.size from KW.out.size)
  have ge_k := Lib.hid (show w.heap.size ≤ v4.heap.size + 1 from Nat.le_succ_of_le KW.out.size)
  have ne_p_k := Lib.hid (show v4.heap.size ≠ v4.heap.size + 1 from by omega)
  have ne_s_p := Lib.hid (Nat.ne_of_lt (lt_of_block B_s.out))
  have ne_s_k := Lib.hid (show w.heap.size ≠ v4.heap.size + 1 from Nat.ne_of_lt (Nat.lt_succ_of_lt (lt_of_block B_s.out)))
  have ne_r_p := Lib.hid (Nat.ne_of_lt (lt_of_block B_r.out))
  have ne_r_k := Lib.hid (show rb ≠ v4.heap.size + 1 from Nat.ne_of_lt (Nat.lt_succ_of_lt (lt_of_block B_r.out)))
  have ne_o_p := Lib.hid (Nat.ne_of_lt (lt_of_block B_o.out))
  have ne_o_k := Lib.hid (show e12 ≠ v4.heap.size + 1 from Nat.ne_of_lt (Nat.lt_succ_of_lt (lt_of_block B_o.out)))
  have ne_a_p := Lib.hid (Nat.ne_of_lt (lt_of_block B_a.out))
  have ne_a_k := Lib.hid (show e14 ≠ v4.heap.size + 1 from Nat.ne_of_lt (Nat.lt_succ_of_lt (lt_of_block B_a.out)))
  replace B_s := Lib.hid (below_block kA (lt_of_block B_s.out) B_s.out)
  replace B_r := Lib.hid (below_block kA (lt_of_block B_r.out) B_r.out)
  replace B_o := Lib.hid (below_block kA (lt_of_block B_o.out) B_o.out)
  replace B_a := Lib.hid (below_block kA (lt_of_block B_a.out) B_a.out)
  replace HR := Lib.hid (HR.out.below kA)
  replace HRR := Lib.hid (HRR.out.below kA)
  replace HL := Lib.hid (HL.out.below kA)
  replace RO := Lib.hid (RO.out.below kA)
  replace AO := Lib.hid (AO.out.below kA)
  replace KW := Lib.hid (KW.out.trans (kA.mono KW.out.size))
  have B_p := Lib.hid (show ((v4.alloc (.cells #[.bool cx, .int .i64 ct, .slice oq cn oc] 24)).alloc (.cells #[.bool cg, .slice aq an ac] 47)).heap[v4.heap.size]? = some (.cells #[.bool cx, .int .i64 ct, .slice oq cn oc] 24) from heap_old (heap_new v4 (.cells #[.bool cx, .int .i64 ct, .slice oq cn oc] 24)))
  have B_k := Lib.hid (show ((v4.alloc (.cells #[.bool cx, .int .i64 ct, .slice oq cn oc] 24)).alloc (.cells #[.bool cg, .slice aq an ac] 47)).heap[v4.heap.size + 1]? = some (.cells #[.bool cg, .slice aq an ac] 47) from by simpa using heap_new (v4.alloc (.cells #[.bool cx, .int .i64 ct, .slice oq cn oc] 24)) (.cells #[.bool cg, .slice aq an ac] 47))
  clear kA
  generalize (v4.alloc (.cells #[.bool cx, .int .i64 ct, .slice oq cn oc] 24)).alloc (.cells #[.bool cg, .slice aq an ac] 47) = v5 at B_s B_r B_o B_a B_p B_k HR HRR HL RO AO KW ⊢
  generalize v4.heap.size + 1 = kb at B_k ge_k ne_p_k ne_s_k ne_r_k ne_o_k ne_a_k ⊢
  generalize v4.heap.size = pb at B_p ge_p ne_p_k ne_s_p ne_r_p ne_o_p ne_a_p ⊢
  have c_s0 : v5.cell? ⟨w.heap.size, 0, none⟩ = some (.bool false) := cell_of_block B_s.out rfl
  have c_s1 : v5.cell? ⟨w.heap.size, 1, none⟩ = some (.int .i64 0) := cell_of_block B_s.out rfl
  have c_s2 : v5.cell? ⟨w.heap.size, 2, none⟩ = some (.slice none 0 0) := cell_of_block B_s.out rfl
  have c_p0 : v5.cell? ⟨pb, 0, none⟩ = some (.bool cx) := cell_of_block B_p.out rfl
  have c_p1 : v5.cell? ⟨pb, 1, none⟩ = some (.int .i64 ct) := cell_of_block B_p.out rfl
  have c_p2 : v5.cell? ⟨pb, 2, none⟩ = some (.slice oq cn oc) := cell_of_block B_p.out rfl
  clear HR HRR HL RO AO
  have c_o0 : v5.cell? ⟨e12, 0, none⟩ = some (.bool false) := cell_of_block B_o.out rfl
  have c_o1 : v5.cell? ⟨e12, 1, none⟩ = some (.int .i64 0) := cell_of_block B_o.out rfl
  have c_o2 : v5.cell? ⟨e12, 2, none⟩ = some (.slice none 0 0) := cell_of_block B_o.out rfl
  have c_a0 : v5.cell? ⟨e14, 0, none⟩ = some (.bool false) := cell_of_block B_a.out rfl
  have c_a1 : v5.cell? ⟨e14, 1, none⟩ = some (.slice none 0 0) := cell_of_block B_a.out rfl
  have z_o := (fun j : Nat => free_of_block (j := j) B_o.out)
  have z_a := (fun j : Nat => free_of_block (j := j) B_a.out)
  have kt : Tw v5 (((v5.setCell ⟨e12, 0, none⟩ (.bool false)).setCell ⟨e12, 1, none⟩ (.int .i64 0)).setCell ⟨e12, 2, none⟩ (.slice none 0 0)) e12 e12 := ((tw_set v5 e12 0 (.bool false)).trans (tw_set (v5.setCell ⟨e12, 0, none⟩ (.bool false)) e12 1 (.int .i64 0))).trans (tw_set ((v5.setCell ⟨e12, 0, none⟩ (.bool false)).setCell ⟨e12, 1, none⟩ (.int .i64 0)) e12 2 (.slice none 0 0))
  replace B_s := Lib.hid (blk_tw kt B_s.out ne_s_o.out)
  replace B_r := Lib.hid (blk_tw kt B_r.out ne_r_o.out)
  replace B_a := Lib.hid (blk_tw kt B_a.out (Ne.symm ne_o_a.out))
  replace B_p := Lib.hid (blk_tw kt B_p.out (Ne.symm ne_o_p.out))
  replace B_k := Lib.hid (blk_tw kt B_k.out (Ne.symm ne_o_k.out))
  replace B_o := Lib.hid (show ((((v5.setCell ⟨e12, 0, none⟩ (.bool false)).setCell ⟨e12, 1, none⟩ (.int .i64 0)).setCell ⟨e12, 2, none⟩ (.slice none 0 0))).heap[e12]? = some (.cells #[.bool false, .int .i64 0, .slice none 0 0] 24 (0, 0)) from (heap_store (j := 2) (v := .slice none 0 0) (heap_store (j := 1) (v := .int .i64 0) (heap_store (j := 0) (v := .bool false) B_o.out))))
  replace KW := Lib.hid (bel_tw KW.out ge_o.out kt)
  clear kt
  have kt : Tw (((v5.setCell ⟨e12, 0, none⟩ (.bool false)).setCell ⟨e12, 1, none⟩ (.int .i64 0)).setCell ⟨e12, 2, none⟩ (.slice none 0 0)) (((((v5.setCell ⟨e12, 0, none⟩ (.bool false)).setCell ⟨e12, 1, none⟩ (.int .i64 0)).setCell ⟨e12, 2, none⟩ (.slice none 0 0)).setCell ⟨e14, 0, none⟩ (.bool false)).setCell ⟨e14, 1, none⟩ (.slice none 0 0)) e14 e14 := (tw_set (((v5.setCell ⟨e12, 0, none⟩ (.bool false)).setCell ⟨e12, 1, none⟩ (.int .i64 0)).setCell ⟨e12, 2, none⟩ (.slice none 0 0)) e14 0 (.bool false)).trans (tw_set ((((v5.setCell ⟨e12, 0, none⟩ (.bool false)).setCell ⟨e12, 1, none⟩ (.int .i64 0)).setCell ⟨e12, 2, none⟩ (.slice none 0 0)).setCell ⟨e14, 0, none⟩ (.bool false)) e14 1 (.slice none 0 0))
  replace B_s := Lib.hid (blk_tw kt B_s.out ne_s_a.out)
  replace B_r := Lib.hid (blk_tw kt B_r.out ne_r_a.out)
  replace B_o := Lib.hid (blk_tw kt B_o.out ne_o_a.out)
  replace B_p := Lib.hid (blk_tw kt B_p.out (Ne.symm ne_a_p.out))
  replace B_k := Lib.hid (blk_tw kt B_k.out (Ne.symm ne_a_k.out))
  replace B_a := Lib.hid (show ((((((v5.setCell ⟨e12, 0, none⟩ (.bool false)).setCell ⟨e12, 1, none⟩ (.int .i64 0)).setCell ⟨e12, 2, none⟩ (.slice none 0 0)).setCell ⟨e14, 0, none⟩ (.bool false)).setCell ⟨e14, 1, none⟩ (.slice none 0 0))).heap[e14]? = some (.cells #[.bool false, .slice none 0 0] 47 (0, 0)) from (heap_store (j := 1) (v := .slice none 0 0) (heap_store (j := 0) (v := .bool false) B_a.out)))
  replace KW := Lib.hid (bel_tw KW.out ge_a.out kt)
  clear kt
  have HF := Lib.hid (HQ.out _ KW.out)
  have nn1 := ne_o_a.out
  have nn2 := Ne.symm ne_o_a.out
  go_wp2_with fail
  have y0 := cell_of_block (j := 0) B_o.out rfl
  have y1 := cell_of_block (j := 1) B_o.out rfl
  have y2 := cell_of_block (j := 2) B_o.out rfl
  have y3 := cell_of_block (j := 0) B_a.out rfl
  have y4 := cell_of_block (j := 1) B_a.out rfl
  exact bodyPost_ret (v := .tuple #[.agg #[.bool false, .int .i64 0, .slice none 0 0], .bool false, .agg #[.bool false, .slice none 0 0], .int .i64 1]) (by simp [results, Try.results21, go_sem, y0, y1, y2, y3, y4]) rfl HF.out

set_option maxHeartbeats 16000000 in
set_option maxRecDepth 100000 in
theorem ap17_fn_none (ex : Bool) (tm : Int) (q : Option Addr) (n c : Nat) (sl : List Tm) (kd : Int) (gp : ByteArray) (rp : Option Addr) (rn rc : Nat) (rs : List ByteArray) (now m l : Int) (w : World) (hl0 : sl.length ≤ 100) (hr0 : rs.length ≤ 100) (hrn0 : rn = rs.length) (hR : RowsAt 2 cellsTm w (.slice q n c) sl) (hRR : AddrsAt w (.slice rp rn rc) rs) (hm0 : mayT m l now = true) (hr1 : recT kd rs = true) (ct : Int) (cs : List Tm) (cg : Bool) (ca : List ByteArray) (hC : somP [] kd (ris rs) (now + m) = ⟨false, ct, cs, cg, ca⟩) (hb : ¬ 60 < cs.length) (hz : (askS cs ca (now + l)).length = 0) (T : Int) (hT0 : T = if cg then min ct (now + l) else ct) (S : List Tm) (hS0 : S = askS cs ca (now + l)) :
    Calls Try.prog 21 #[.agg #[.bool ex, .int .i64 tm, .slice q n c], .bool false, .agg #[.int .i64 kd, .string gp, .slice rp rn rc], .int .i64 now, .int .i64 m, .int .i64 l] w (ApPost (noA 0) w) := by
  have k0 : Below w.heap.size w ((((w.alloc (.cells #[.bool ex, .int .i64 tm, .slice q n c] 24)).alloc (.cells #[.int .i64 kd, .string gp, .slice rp rn rc] 37)).alloc (.cells #[.bool false, .int .i64 0, .slice none 0 0] 24)).alloc (.cells #[.bool false, .slice none 0 0] 47)) := ((((Below.refl _ _).alloc (Nat.le_refl _) _).alloc (by simp) _).alloc (by simp; omega) _).alloc (by simp; omega) _
  have KW := Lib.hid k0
  have B_s := Lib.hid (show ((((w.alloc (.cells #[.bool ex, .int .i64 tm, .slice q n c] 24)).alloc (.cells #[.int .i64 kd, .string gp, .slice rp rn rc] 37)).alloc (.cells #[.bool false, .int .i64 0, .slice none 0 0] 24)).alloc (.cells #[.bool false, .slice none 0 0] 47)).heap[w.heap.size]? = some (.cells #[.bool ex, .int .i64 tm, .slice q n c] 24) from heap_old (heap_old (heap_old (heap_new w (.cells #[.bool ex, .int .i64 tm, .slice q n c] 24)))))
  have B_r := Lib.hid (show ((((w.alloc (.cells #[.bool ex, .int .i64 tm, .slice q n c] 24)).alloc (.cells #[.int .i64 kd, .string gp, .slice rp rn rc] 37)).alloc (.cells #[.bool false, .int .i64 0, .slice none 0 0] 24)).alloc (.cells #[.bool false, .slice none 0 0] 47)).heap[w.heap.size + 1]? = some (.cells #[.int .i64 kd, .string gp, .slice rp rn rc] 37) from heap_old (heap_old (by simpa using heap_new (w.alloc (.cells #[.bool ex, .int .i64 tm, .slice q n c] 24)) (.cells #[.int .i64 kd, .string gp, .slice rp rn rc] 37))))
  have B_o := Lib.hid (show ((((w.alloc (.cells #[.bool ex, .int .i64 tm, .slice q n c] 24)).alloc (.cells #[.int .i64 kd, .string gp, .slice rp rn rc] 37)).alloc (.cells #[.bool false, .int .i64 0, .slice none 0 0] 24)).alloc (.cells #[.bool false, .slice none 0 0] 47)).heap[w.heap.size + 1 + 1]? = some (.cells #[.bool false, .int .i64 0, .slice none 0 0] 24) from heap_old (by simpa using heap_new ((w.alloc (.cells #[.bool ex, .int .i64 tm, .slice q n c] 24)).alloc (.cells #[.int .i64 kd, .string gp, .slice rp rn rc] 37)) (.cells #[.bool false, .int .i64 0, .slice none 0 0] 24)))
  have B_a := Lib.hid (show ((((w.alloc (.cells #[.bool ex, .int .i64 tm, .slice q n c] 24)).alloc (.cells #[.int .i64 kd, .string gp, .slice rp rn rc] 37)).alloc (.cells #[.bool false, .int .i64 0, .slice none 0 0] 24)).alloc (.cells #[.bool false, .slice none 0 0] 47)).heap[w.heap.size + 1 + 1 + 1]? = some (.cells #[.bool false, .slice none 0 0] 47) from by simpa using heap_new (((w.alloc (.cells #[.bool ex, .int .i64 tm, .slice q n c] 24)).alloc (.cells #[.int .i64 kd, .string gp, .slice rp rn rc] 37)).alloc (.cells #[.bool false, .int .i64 0, .slice none 0 0] 24)) (.cells #[.bool false, .slice none 0 0] 47))
  have HR := Lib.hid (hR.below k0)
  have HRR := Lib.hid (hRR.below k0)
  have ge_s := Lib.hid (Nat.le_refl w.heap.size)
  have ge_r := Lib.hid (show w.heap.size ≤ w.heap.size + 1 from by omega)
  have ge_o := Lib.hid (show w.heap.size ≤ w.heap.size + 1 + 1 from by omega)
  have ge_a := Lib.hid (show w.heap.size ≤ w.heap.size + 1 + 1 + 1 from by omega)
  have ne_s_r := Lib.hid (show w.heap.size ≠ w.heap.size + 1 from by omega)
  have ne_s_o := Lib.hid (show w.heap.size ≠ w.heap.size + 1 + 1 from by omega)
  have ne_s_a := Lib.hid (show w.heap.size ≠ w.heap.size + 1 + 1 + 1 from by omega)
  have ne_r_o := Lib.hid (show w.heap.size + 1 ≠ w.heap.size + 1 + 1 from by omega)
  have ne_r_a := Lib.hid (show w.heap.size + 1 ≠ w.heap.size + 1 + 1 + 1 from by omega)
  have ne_o_a := Lib.hid (show w.heap.size + 1 + 1 ≠ w.heap.size + 1 + 1 + 1 from by omega)
  have HQ := Lib.hid (show ∀ U, Below w.heap.size w U → ApPost (noA 0) w (.returned (.tuple #[.agg #[.bool false, .int .i64 0, .slice none 0 0], .bool false, .agg #[.bool false, .slice none 0 0], .int .i64 0])) U from fun U k => ⟨_, _, rfl, RowsAt.nil _, AddrsG.nil _ _ _, k⟩)
  generalize ApPost (noA 0) w = Q at HQ ⊢
  have hl6 := Lib.hid (Nat.le_trans hl0 (show 100 ≤ 1000000 by decide))
  have hr6 := Lib.hid (Nat.le_trans hr0 (show 100 ≤ 1000000 by decide))
  have hm := Lib.hid hm0
  have HCa := Lib.hid hC
  have hT := Lib.hid hT0
  have hS := Lib.hid hS0
  have hmay : 1 ≤ m ∧ m ≤ 1000000 ∧ 1 ≤ l ∧ l ≤ 1000000 ∧ 1 ≤ now ∧ now ≤ 1099511627776 := by
    have := hm0
    unfold mayT at this
    simp only [Bool.and_eq_true, decide_eq_true_iff] at this
    omega
  have hrec : 1 ≤ kd ∧ kd ≤ 6 ∧ rn ≤ 60 := by
    have := hr1
    unfold recT at this
    simp only [Bool.and_eq_true, decide_eq_true_iff] at this
    omega
  obtain ⟨q1, q2, q3⟩ := hrec
  obtain ⟨m1, m2, l1, l2, o1, o2⟩ := hmay
  have hrl := Lib.hid (show (ris rs).length ≤ 100 from Nat.le_trans (ris_len rs) hr0)
  have hll := Lib.hid hl0
  have hq1 := Lib.hid q1
  have hq2 := Lib.hid q2
  have hal := Lib.hid (show ca.length ≤ 100 from by have h := som_al (l := []) (by decide) (Nat.le_trans (ris_len rs) hr0) kd (now + m); rw [hC] at h; exact h)
  have d1 : decide (kd < 1) = false := decide_eq_false (by omega)
  have d2 : decide (6 < kd) = false := decide_eq_false (by omega)
  have d3 : decide (60 < (rn : Int)) = false := decide_eq_false (by omega)
  have d4 : decide (60 < rn) = false := decide_eq_false (by omega)
  have aw1 : wrap64 (now + m) = now + m := by unfold wrap64; omega
  have aw2 : wrap64 (now + l) = now + l := by unfold wrap64; omega
  obtain ⟨cn, hcn⟩ : ∃ cn, cn = cs.length := ⟨_, rfl⟩
  have HCN := Lib.hid hcn
  have HSN := Lib.hid (show 0 = S.length from by rw [hS0]; exact hz.symm)
  have hsn := HSN
  have f1 : decide (60 < cn) = false := decide_eq_false (by rw [hcn]; exact hb)
  have f2 : decide (60 < (cn : Int)) = false := decide_eq_false (by rw [hcn]; omega)
  have hcl := Lib.hid (show cs.length ≤ 100 from by omega)
  clear hz
  clear hm0 hC hT0 hS0 hr1 hcn hsn hb q1 q2 q3 m1 m2 l1 l2 o1 o2 hl0 hr0 hrn0
  clear k0 hR hRR
  go_enter Try.func21, Try.ntmps21
  go_upto_region 1 with fail
  generalize ((((w.alloc (.cells #[.bool ex, .int .i64 tm, .slice q n c] 24)).alloc (.cells #[.int .i64 kd, .string gp, .slice rp rn rc] 37)).alloc (.cells #[.bool false, .int .i64 0, .slice none 0 0] 24)).alloc (.cells #[.bool false, .slice none 0 0] 47)) = W at B_s B_r B_o B_a HR HRR KW ⊢
  generalize w.heap.size + 1 + 1 + 1 = e14 at B_a ge_a ne_s_a ne_r_a ne_o_a ⊢
  generalize w.heap.size + 1 + 1 = e12 at B_o ge_o ne_s_o ne_r_o ne_o_a ⊢
  generalize w.heap.size + 1 = rb at B_r ge_r ne_s_r ne_r_o ne_r_a ⊢
  have CN := Lib.hid (by have h := may17_c now m l W; rw [hm.out] at h; exact h)
  go_wp2_with fail
  ((with_reducible refine CN.out.mono ?_); rintro e v1 ⟨rfl, kb9⟩)
  replace B_s := Lib.hid (below_block kb9 (lt_of_block B_s.out) B_s.out)
  replace B_r := Lib.hid (below_block kb9 (lt_of_block B_r.out) B_r.out)
  replace B_o := Lib.hid (below_block kb9 (lt_of_block B_o.out) B_o.out)
  replace B_a := Lib.hid (below_block kb9 (lt_of_block B_a.out) B_a.out)
  replace HR := Lib.hid (HR.out.below kb9)
  replace HRR := Lib.hid (HRR.out.below kb9)
  replace KW := Lib.hid (KW.out.trans (kb9.mono KW.out.size))
  clear CN kb9
  have c_r0 : v1.cell? ⟨rb, 0, none⟩ = some (.int .i64 kd) := cell_of_block B_r.out rfl
  have c_r1 : v1.cell? ⟨rb, 1, none⟩ = some (.string gp) := cell_of_block B_r.out rfl
  have c_r2 : v1.cell? ⟨rb, 2, none⟩ = some (.slice rp rn rc) := cell_of_block B_r.out rfl
  have c_s0 : v1.cell? ⟨w.heap.size, 0, none⟩ = some (.bool ex) := cell_of_block B_s.out rfl
  have c_s1 : v1.cell? ⟨w.heap.size, 1, none⟩ = some (.int .i64 tm) := cell_of_block B_s.out rfl
  have c_s2 : v1.cell? ⟨w.heap.size, 2, none⟩ = some (.slice q n c) := cell_of_block B_s.out rfl
  have z_s := (fun j : Nat => free_of_block (j := j) B_s.out)
  have kt : Tw v1 (((v1.setCell ⟨w.heap.size, 0, none⟩ (.bool false)).setCell ⟨w.heap.size, 1, none⟩ (.int .i64 0)).setCell ⟨w.heap.size, 2, none⟩ (.slice none 0 0)) w.heap.size w.heap.size := ((tw_set v1 w.heap.size 0 (.bool false)).trans (tw_set (v1.setCell ⟨w.heap.size, 0, none⟩ (.bool false)) w.heap.size 1 (.int .i64 0))).trans (tw_set ((v1.setCell ⟨w.heap.size, 0, none⟩ (.bool false)).setCell ⟨w.heap.size, 1, none⟩ (.int .i64 0)) w.heap.size 2 (.slice none 0 0))
  replace HR := Lib.hid (rows_tw HR.out B_s.out no_str kt)
  replace HRR := Lib.hid (addrs_tw HRR.out B_s.out no_str kt)
  replace B_r := Lib.hid (blk_tw kt B_r.out (Ne.symm ne_s_r.out))
  replace B_o := Lib.hid (blk_tw kt B_o.out (Ne.symm ne_s_o.out))
  replace B_a := Lib.hid (blk_tw kt B_a.out (Ne.symm ne_s_a.out))
  replace B_s := Lib.hid (show ((((v1.setCell ⟨w.heap.size, 0, none⟩ (.bool false)).setCell ⟨w.heap.size, 1, none⟩ (.int .i64 0)).setCell ⟨w.heap.size, 2, none⟩ (.slice none 0 0))).heap[w.heap.size]? = some (.cells #[.bool false, .int .i64 0, .slice none 0 0] 24 (0, 0)) from (heap_store (j := 2) (v := .slice none 0 0) (heap_store (j := 1) (v := .int .i64 0) (heap_store (j := 0) (v := .bool false) B_s.out))))
  replace KW := Lib.hid (bel_tw KW.out ge_s.out kt)
  clear kt
  go_upto_region 7 with fail
  clear c_r0 c_r1 c_r2
  clear c_s0 c_s1 c_s2 z_s
  generalize (((v1.setCell ⟨w.heap.size, 0, none⟩ (.bool false)).setCell ⟨w.heap.size, 1, none⟩ (.int .i64 0)).setCell ⟨w.heap.size, 2, none⟩ (.slice none 0 0)) = v2 at B_s B_r B_o B_a HR HRR KW ⊢
  clear HR
  have HR := Lib.hid (show RowsAt 2 cellsTm v2 (.slice none 0 0) [] from RowsAt.nil _)
  have c_r0 : v2.cell? ⟨rb, 0, none⟩ = some (.int .i64 kd) := cell_of_block B_r.out rfl
  have c_r1 : v2.cell? ⟨rb, 1, none⟩ = some (.string gp) := cell_of_block B_r.out rfl
  have c_r2 : v2.cell? ⟨rb, 2, none⟩ = some (.slice rp rn rc) := cell_of_block B_r.out rfl
  have CN := Lib.hid (rris_c (.slice rp rn rc) rs v2 hr6.out HRR.out)
  unfold MPost at CN
  go_wp2_with fail
  ((with_reducible refine CN.out.mono ?_); rintro e v3 ⟨ul, rfl, a9, kb9⟩)
  clear c_r0 c_r1 c_r2
  replace B_s := Lib.hid (below_block kb9 (lt_of_block B_s.out) B_s.out)
  replace B_r := Lib.hid (below_block kb9 (lt_of_block B_r.out) B_r.out)
  replace B_o := Lib.hid (below_block kb9 (lt_of_block B_o.out) B_o.out)
  replace B_a := Lib.hid (below_block kb9 (lt_of_block B_a.out) B_a.out)
  replace HR := Lib.hid (HR.out.below kb9)
  replace HRR := Lib.hid (HRR.out.below kb9)
  replace KW := Lib.hid (KW.out.trans (kb9.mono KW.out.size))
  have HL := Lib.hid a9.at
  clear CN kb9 a9
  have c_s0 : v3.cell? ⟨w.heap.size, 0, none⟩ = some (.bool false) := cell_of_block B_s.out rfl
  have c_s1 : v3.cell? ⟨w.heap.size, 1, none⟩ = some (.int .i64 0) := cell_of_block B_s.out rfl
  have c_s2 : v3.cell? ⟨w.heap.size, 2, none⟩ = some (.slice none 0 0) := cell_of_block B_s.out rfl
  have c_r0 : v3.cell? ⟨rb, 0, none⟩ = some (.int .i64 kd) := cell_of_block B_r.out rfl
  have c_r1 : v3.cell? ⟨rb, 1, none⟩ = some (.string gp) := cell_of_block B_r.out rfl
  have c_r2 : v3.cell? ⟨rb, 2, none⟩ = some (.slice rp rn rc) := cell_of_block B_r.out rfl
  have CN := Lib.hid (some17_c false 0 (none) 0 0 [] kd ul (ris rs) (now + m) v3 hq1.out hq2.out (by decide) hrl.out HR.out HL.out)
  rw [HCa.out] at CN
  unfold CgPost at CN
  go_wp2_with fail
  ((with_reducible refine CN.out.mono ?_); rintro e v4 ⟨vs0, va0, rfl, r9, a9, kb9⟩)
  clear c_s0 c_s1 c_s2 c_r0 c_r1 c_r2
  replace B_s := Lib.hid (below_block kb9 (lt_of_block B_s.out) B_s.out)
  replace B_r := Lib.hid (below_block kb9 (lt_of_block B_r.out) B_r.out)
  replace B_o := Lib.hid (below_block kb9 (lt_of_block B_o.out) B_o.out)
  replace B_a := Lib.hid (below_block kb9 (lt_of_block B_a.out) B_a.out)
  replace HR := Lib.hid (HR.out.below kb9)
  replace HRR := Lib.hid (HRR.out.below kb9)
  replace HL := Lib.hid (HL.out.below kb9)
  replace KW := Lib.hid (KW.out.trans (kb9.mono KW.out.size))
  simp only at r9 a9 ⊢
  obtain ⟨oq, oc, hov⟩ := r9.slice
  rw [← HCN.out] at hov
  subst hov
  obtain ⟨aq, an, ac, rfl⟩ := addrs_slice3 a9
  have RO := Lib.hid r9
  have AO := Lib.hid a9
  clear CN kb9 r9 a9
  go_upto_region 9 with fail
  have kA : Below v4.heap.size v4 ((v4.alloc (.cells #[.bool false, .int .i64 ct, .slice oq cn oc] 24)).alloc (.cells #[.bool cg, .slice aq an ac] 47)) := ((Below.refl _ _).alloc (Nat.le_refl _) _).alloc (by simp) _
  have ge_p := Lib.hid (show w.heap.size ≤ v4.heap.size from KW.out.size)
  have ge_k := Lib.hid (show w.heap.size ≤ v4.heap.size + 1 from Nat.le_succ_of_le KW.out.size)
  have ne_p_k := Lib.hid (show v4.heap.size ≠ v4.heap.size + 1 from by omega)
  have ne_s_p := Lib.hid (Nat.ne_of_lt (lt_of_block B_s.out))
  have ne_s_k := Lib.hid (show w.heap.size ≠ v4.heap.size + 1 from Nat.ne_of_lt (Nat.lt_succ_of_lt (lt_of_block B_s.out)))
  have ne_r_p := Lib.hid (Nat.ne_of_lt (lt_of_block B_r.out))
  have ne_r_k := Lib.hid (show rb ≠ v4.heap.size + 1 from Nat.ne_of_lt (Nat.lt_succ_of_lt (lt_of_block B_r.out)))
  have ne_o_p := Lib.hid (Nat.ne_of_lt (lt_of_block B_o.out))
  have ne_o_k := Lib.hid (show e12 ≠ v4.heap.size + 1 from Nat.ne_of_lt (Nat.lt_succ_of_lt (lt_of_block B_o.out)))
  have ne_a_p := Lib.hid (Nat.ne_of_lt (lt_of_block B_a.out))
  have ne_a_k := Lib.hid (show e14 ≠ v4.heap.size + 1 from Nat.ne_of_lt (Nat.lt_succ_of_lt (lt_of_block B_a.out)))
  replace B_s := Lib.hid (below_block kA (lt_of_block B_s.out) B_s.out)
  replace B_r := Lib.hid (below_block kA (lt_of_block B_r.out) B_r.out)
  replace B_o := Lib.hid (below_block kA (lt_of_block B_o.out) B_o.out)
  replace B_a := Lib.hid (below_block kA (lt_of_block B_a.out) B_a.out)
  replace HR := Lib.hid (HR.out.below kA)
  replace HRR := Lib.hid (HRR.out.below kA)
  replace HL := Lib.hid (HL.out.below kA)
  replace RO := Lib.hid (RO.out.below kA)
  replace AO := Lib.hid (AO.out.below kA)
  replace KW := Lib.hid (KW.out.trans (kA.mono KW.out.size))
  have B_p := Lib.hid (show ((v4.alloc (.cells #[.bool false, .int .i64 ct, .slice oq cn oc] 24)).alloc (.cells #[.bool cg, .slice aq an ac] 47)).heap[v4.heap.size]? = some (.cells #[.bool false, .int .i64 ct, .slice oq cn oc] 24) from heap_old (heap_new v4 (.cells #[.bool false, .int .i64 ct, .slice oq cn oc] 24)))
  have B_k := Lib.hid (show ((v4.alloc (.cells #[.bool false, .int .i64 ct, .slice oq cn oc] 24)).alloc (.cells #[.bool cg, .slice aq an ac] 47)).heap[v4.heap.size + 1]? = some (.cells #[.bool cg, .slice aq an ac] 47) from by simpa using heap_new (v4.alloc (.cells #[.bool false, .int .i64 ct, .slice oq cn oc] 24)) (.cells #[.bool cg, .slice aq an ac] 47))
  clear kA
  generalize (v4.alloc (.cells #[.bool false, .int .i64 ct, .slice oq cn oc] 24)).alloc (.cells #[.bool cg, .slice aq an ac] 47) = v5 at B_s B_r B_o B_a B_p B_k HR HRR HL RO AO KW ⊢
  generalize v4.heap.size + 1 = kb at B_k ge_k ne_p_k ne_s_k ne_r_k ne_o_k ne_a_k ⊢
  generalize v4.heap.size = pb at B_p ge_p ne_p_k ne_s_p ne_r_p ne_o_p ne_a_p ⊢
  have c_s0 : v5.cell? ⟨w.heap.size, 0, none⟩ = some (.bool false) := cell_of_block B_s.out rfl
  have c_s1 : v5.cell? ⟨w.heap.size, 1, none⟩ = some (.int .i64 0) := cell_of_block B_s.out rfl
  have c_s2 : v5.cell? ⟨w.heap.size, 2, none⟩ = some (.slice none 0 0) := cell_of_block B_s.out rfl
  have c_p0 : v5.cell? ⟨pb, 0, none⟩ = some (.bool false) := cell_of_block B_p.out rfl
  have c_p1 : v5.cell? ⟨pb, 1, none⟩ = some (.int .i64 ct) := cell_of_block B_p.out rfl
  have c_p2 : v5.cell? ⟨pb, 2, none⟩ = some (.slice oq cn oc) := cell_of_block B_p.out rfl
  have c_k0 : v5.cell? ⟨kb, 0, none⟩ = some (.bool cg) := cell_of_block B_k.out rfl
  have c_k1 : v5.cell? ⟨kb, 1, none⟩ = some (.slice aq an ac) := cell_of_block B_k.out rfl
  have CN := Lib.hid (by have h := asked17_c false ct (.slice oq cn oc) cs cg (.slice aq an ac) ca (now + l) v5 hcl.out hal.out RO.out AO.out; rw [← hT.out, ← hS.out] at h; unfold AkPost at h; exact h)
  go_wp2_with fail
  ((with_reducible refine CN.out.mono ?_); rintro e v6 ⟨vs1, rfl, r9, kb9⟩)
  clear c_p0 c_p1 c_p2 c_k0 c_k1
  clear c_s0 c_s1 c_s2
  replace B_s := Lib.hid (below_block kb9 (lt_of_block B_s.out) B_s.out)
  replace B_r := Lib.hid (below_block kb9 (lt_of_block B_r.out) B_r.out)
  replace B_o := Lib.hid (below_block kb9 (lt_of_block B_o.out) B_o.out)
  replace B_a := Lib.hid (below_block kb9 (lt_of_block B_a.out) B_a.out)
  replace B_p := Lib.hid (below_block kb9 (lt_of_block B_p.out) B_p.out)
  replace B_k := Lib.hid (below_block kb9 (lt_of_block B_k.out) B_k.out)
  replace HR := Lib.hid (HR.out.below kb9)
  replace HRR := Lib.hid (HRR.out.below kb9)
  replace HL := Lib.hid (HL.out.below kb9)
  replace RO := Lib.hid (RO.out.below kb9)
  replace AO := Lib.hid (AO.out.below kb9)
  replace KW := Lib.hid (KW.out.trans (kb9.mono KW.out.size))
  clear RO
  obtain ⟨sq, sc, hov⟩ := r9.slice
  rw [← HSN.out] at hov
  subst hov
  have RO := Lib.hid r9
  clear CN kb9 r9
  have c_p0 : v6.cell? ⟨pb, 0, none⟩ = some (.bool false) := cell_of_block B_p.out rfl
  have c_p1 : v6.cell? ⟨pb, 1, none⟩ = some (.int .i64 ct) := cell_of_block B_p.out rfl
  have c_p2 : v6.cell? ⟨pb, 2, none⟩ = some (.slice oq cn oc) := cell_of_block B_p.out rfl
  have z_p := (fun j : Nat => free_of_block (j := j) B_p.out)
  go_upto_region 14 with fail
  clear c_p0 c_p1 c_p2
  clear z_p
  have kt : Tw v6 (((v6.setCell ⟨pb, 0, none⟩ (.bool false)).setCell ⟨pb, 1, none⟩ (.int .i64 T)).setCell ⟨pb, 2, none⟩ (.slice sq 0 sc)) pb pb := ((tw_set v6 pb 0 (.bool false)).trans (tw_set (v6.setCell ⟨pb, 0, none⟩ (.bool false)) pb 1 (.int .i64 T))).trans (tw_set ((v6.setCell ⟨pb, 0, none⟩ (.bool false)).setCell ⟨pb, 1, none⟩ (.int .i64 T)) pb 2 (.slice sq 0 sc))
  replace HR := Lib.hid (rows_tw HR.out B_p.out no_str kt)
  replace HRR := Lib.hid (addrs_tw HRR.out B_p.out no_str kt)
  replace HL := Lib.hid (addrs_tw HL.out B_p.out no_str kt)
  replace AO := Lib.hid (addrs_tw AO.out B_p.out no_str kt)
  replace RO := Lib.hid (rows_tw RO.out B_p.out no_str kt)
  replace B_s := Lib.hid (blk_tw kt B_s.out ne_s_p.out)
  replace B_r := Lib.hid (blk_tw kt B_r.out ne_r_p.out)
  replace B_o := Lib.hid (blk_tw kt B_o.out ne_o_p.out)
  replace B_a := Lib.hid (blk_tw kt B_a.out ne_a_p.out)
  replace B_k := Lib.hid (blk_tw kt B_k.out (Ne.symm ne_p_k.out))
  replace B_p := Lib.hid (show ((((v6.setCell ⟨pb, 0, none⟩ (.bool false)).setCell ⟨pb, 1, none⟩ (.int .i64 T)).setCell ⟨pb, 2, none⟩ (.slice sq 0 sc))).heap[pb]? = some (.cells #[.bool false, .int .i64 T, .slice sq 0 sc] 24 (0, 0)) from (heap_store (j := 2) (v := .slice sq 0 sc) (heap_store (j := 1) (v := .int .i64 T) (heap_store (j := 0) (v := .bool false) B_p.out))))
  replace KW := Lib.hid (bel_tw KW.out ge_p.out kt)
  clear kt
  generalize (((v6.setCell ⟨pb, 0, none⟩ (.bool false)).setCell ⟨pb, 1, none⟩ (.int .i64 T)).setCell ⟨pb, 2, none⟩ (.slice sq 0 sc)) = v7 at B_s B_r B_o B_a B_p B_k HR HRR HL AO RO KW ⊢
  have c_p0 : v7.cell? ⟨pb, 0, none⟩ = some (.bool false) := cell_of_block B_p.out rfl
  have c_p1 : v7.cell? ⟨pb, 1, none⟩ = some (.int .i64 T) := cell_of_block B_p.out rfl
  have c_p2 : v7.cell? ⟨pb, 2, none⟩ = some (.slice sq 0 sc) := cell_of_block B_p.out rfl
  clear HR HRR HL RO AO
  have c_o0 : v7.cell? ⟨e12, 0, none⟩ = some (.bool false) := cell_of_block B_o.out rfl
  have c_o1 : v7.cell? ⟨e12, 1, none⟩ = some (.int .i64 0) := cell_of_block B_o.out rfl
  have c_o2 : v7.cell? ⟨e12, 2, none⟩ = some (.slice none 0 0) := cell_of_block B_o.out rfl
  have c_a0 : v7.cell? ⟨e14, 0, none⟩ = some (.bool false) := cell_of_block B_a.out rfl
  have c_a1 : v7.cell? ⟨e14, 1, none⟩ = some (.slice none 0 0) := cell_of_block B_a.out rfl
  have z_o := (fun j : Nat => free_of_block (j := j) B_o.out)
  have z_a := (fun j : Nat => free_of_block (j := j) B_a.out)
  have kt : Tw v7 (((v7.setCell ⟨e12, 0, none⟩ (.bool false)).setCell ⟨e12, 1, none⟩ (.int .i64 0)).setCell ⟨e12, 2, none⟩ (.slice none 0 0)) e12 e12 := ((tw_set v7 e12 0 (.bool false)).trans (tw_set (v7.setCell ⟨e12, 0, none⟩ (.bool false)) e12 1 (.int .i64 0))).trans (tw_set ((v7.setCell ⟨e12, 0, none⟩ (.bool false)).setCell ⟨e12, 1, none⟩ (.int .i64 0)) e12 2 (.slice none 0 0))
  replace B_s := Lib.hid (blk_tw kt B_s.out ne_s_o.out)
  replace B_r := Lib.hid (blk_tw kt B_r.out ne_r_o.out)
  replace B_a := Lib.hid (blk_tw kt B_a.out (Ne.symm ne_o_a.out))
  replace B_p := Lib.hid (blk_tw kt B_p.out (Ne.symm ne_o_p.out))
  replace B_k := Lib.hid (blk_tw kt B_k.out (Ne.symm ne_o_k.out))
  replace B_o := Lib.hid (show ((((v7.setCell ⟨e12, 0, none⟩ (.bool false)).setCell ⟨e12, 1, none⟩ (.int .i64 0)).setCell ⟨e12, 2, none⟩ (.slice none 0 0))).heap[e12]? = some (.cells #[.bool false, .int .i64 0, .slice none 0 0] 24 (0, 0)) from (heap_store (j := 2) (v := .slice none 0 0) (heap_store (j := 1) (v := .int .i64 0) (heap_store (j := 0) (v := .bool false) B_o.out))))
  replace KW := Lib.hid (bel_tw KW.out ge_o.out kt)
  clear kt
  have kt : Tw (((v7.setCell ⟨e12, 0, none⟩ (.bool false)).setCell ⟨e12, 1, none⟩ (.int .i64 0)).setCell ⟨e12, 2, none⟩ (.slice none 0 0)) (((((v7.setCell ⟨e12, 0, none⟩ (.bool false)).setCell ⟨e12, 1, none⟩ (.int .i64 0)).setCell ⟨e12, 2, none⟩ (.slice none 0 0)).setCell ⟨e14, 0, none⟩ (.bool false)).setCell ⟨e14, 1, none⟩ (.slice none 0 0)) e14 e14 := (tw_set (((v7.setCell ⟨e12, 0, none⟩ (.bool false)).setCell ⟨e12, 1, none⟩ (.int .i64 0)).setCell ⟨e12, 2, none⟩ (.slice none 0 0)) e14 0 (.bool false)).trans (tw_set ((((v7.setCell ⟨e12, 0, none⟩ (.bool false)).setCell ⟨e12, 1, none⟩ (.int .i64 0)).setCell ⟨e12, 2, none⟩ (.slice none 0 0)).setCell ⟨e14, 0, none⟩ (.bool false)) e14 1 (.slice none 0 0))
  replace B_s := Lib.hid (blk_tw kt B_s.out ne_s_a.out)
  replace B_r := Lib.hid (blk_tw kt B_r.out ne_r_a.out)
  replace B_o := Lib.hid (blk_tw kt B_o.out ne_o_a.out)
  replace B_p := Lib.hid (blk_tw kt B_p.out (Ne.symm ne_a_p.out))
  replace B_k := Lib.hid (blk_tw kt B_k.out (Ne.symm ne_a_k.out))
  replace B_a := Lib.hid (show ((((((v7.setCell ⟨e12, 0, none⟩ (.bool false)).setCell ⟨e12, 1, none⟩ (.int .i64 0)).setCell ⟨e12, 2, none⟩ (.slice none 0 0)).setCell ⟨e14, 0, none⟩ (.bool false)).setCell ⟨e14, 1, none⟩ (.slice none 0 0))).heap[e14]? = some (.cells #[.bool false, .slice none 0 0] 47 (0, 0)) from (heap_store (j := 1) (v := .slice none 0 0) (heap_store (j := 0) (v := .bool false) B_a.out)))
  replace KW := Lib.hid (bel_tw KW.out ge_a.out kt)
  clear kt
  have HF := Lib.hid (HQ.out _ KW.out)
  have nn1 := ne_o_a.out
  have nn2 := Ne.symm ne_o_a.out
  go_wp2_with fail
  have y0 := cell_of_block (j := 0) B_o.out rfl
  have y1 := cell_of_block (j := 1) B_o.out rfl
  have y2 := cell_of_block (j := 2) B_o.out rfl
  have y3 := cell_of_block (j := 0) B_a.out rfl
  have y4 := cell_of_block (j := 1) B_a.out rfl
  exact bodyPost_ret (v := .tuple #[.agg #[.bool false, .int .i64 0, .slice none 0 0], .bool false, .agg #[.bool false, .slice none 0 0], .int .i64 0]) (by simp [results, Try.results21, go_sem, y0, y1, y2, y3, y4]) rfl HF.out

set_option maxHeartbeats 16000000 in
set_option maxRecDepth 100000 in
theorem ap17_fn_okx (ex : Bool) (tm : Int) (q : Option Addr) (n c : Nat) (sl : List Tm) (kd : Int) (gp : ByteArray) (rp : Option Addr) (rn rc : Nat) (rs : List ByteArray) (now m l : Int) (w : World) (hl0 : sl.length ≤ 100) (hr0 : rs.length ≤ 100) (hrn0 : rn = rs.length) (hR : RowsAt 2 cellsTm w (.slice q n c) sl) (hRR : AddrsAt w (.slice rp rn rc) rs) (hm0 : mayT m l now = true) (hr1 : recT kd rs = true) (ct : Int) (cs : List Tm) (cg : Bool) (ca : List ByteArray) (hC : somP [] kd (ris rs) (now + m) = ⟨true, ct, cs, cg, ca⟩) (hb : ¬ 60 < cs.length) (T : Int) (hT0 : T = if cg then min ct (now + l) else ct) (S : List Tm) (hS0 : S = askS cs ca (now + l)) :
    Calls Try.prog 21 #[.agg #[.bool ex, .int .i64 tm, .slice q n c], .bool false, .agg #[.int .i64 kd, .string gp, .slice rp rn rc], .int .i64 now, .int .i64 m, .int .i64 l] w (ApPost ⟨⟨true, T, S⟩, true, cg, ca, 0⟩ w) := by
  have k0 : Below w.heap.size w ((((w.alloc (.cells #[.bool ex, .int .i64 tm, .slice q n c] 24)).alloc (.cells #[.int .i64 kd, .string gp, .slice rp rn rc] 37)).alloc (.cells #[.bool false, .int .i64 0, .slice none 0 0] 24)).alloc (.cells #[.bool false, .slice none 0 0] 47)) := ((((Below.refl _ _).alloc (Nat.le_refl _) _).alloc (by simp) _).alloc (by simp; omega) _).alloc (by simp; omega) _
  have KW := Lib.hid k0
  have B_s := Lib.hid (show ((((w.alloc (.cells #[.bool ex, .int .i64 tm, .slice q n c] 24)).alloc (.cells #[.int .i64 kd, .string gp, .slice rp rn rc] 37)).alloc (.cells #[.bool false, .int .i64 0, .slice none 0 0] 24)).alloc (.cells #[.bool false, .slice none 0 0] 47)).heap[w.heap.size]? = some (.cells #[.bool ex, .int .i64 tm, .slice q n c] 24) from heap_old (heap_old (heap_old (heap_new w (.cells #[.bool ex, .int .i64 tm, .slice q n c] 24)))))
  have B_r := Lib.hid (show ((((w.alloc (.cells #[.bool ex, .int .i64 tm, .slice q n c] 24)).alloc (.cells #[.int .i64 kd, .string gp, .slice rp rn rc] 37)).alloc (.cells #[.bool false, .int .i64 0, .slice none 0 0] 24)).alloc (.cells #[.bool false, .slice none 0 0] 47)).heap[w.heap.size + 1]? = some (.cells #[.int .i64 kd, .string gp, .slice rp rn rc] 37) from heap_old (heap_old (by simpa using heap_new (w.alloc (.cells #[.bool ex, .int .i64 tm, .slice q n c] 24)) (.cells #[.int .i64 kd, .string gp, .slice rp rn rc] 37))))
  have B_o := Lib.hid (show ((((w.alloc (.cells #[.bool ex, .int .i64 tm, .slice q n c] 24)).alloc (.cells #[.int .i64 kd, .string gp, .slice rp rn rc] 37)).alloc (.cells #[.bool false, .int .i64 0, .slice none 0 0] 24)).alloc (.cells #[.bool false, .slice none 0 0] 47)).heap[w.heap.size + 1 + 1]? = some (.cells #[.bool false, .int .i64 0, .slice none 0 0] 24) from heap_old (by simpa using heap_new ((w.alloc (.cells #[.bool ex, .int .i64 tm, .slice q n c] 24)).alloc (.cells #[.int .i64 kd, .string gp, .slice rp rn rc] 37)) (.cells #[.bool false, .int .i64 0, .slice none 0 0] 24)))
  have B_a := Lib.hid (show ((((w.alloc (.cells #[.bool ex, .int .i64 tm, .slice q n c] 24)).alloc (.cells #[.int .i64 kd, .string gp, .slice rp rn rc] 37)).alloc (.cells #[.bool false, .int .i64 0, .slice none 0 0] 24)).alloc (.cells #[.bool false, .slice none 0 0] 47)).heap[w.heap.size + 1 + 1 + 1]? = some (.cells #[.bool false, .slice none 0 0] 47) from by simpa using heap_new (((w.alloc (.cells #[.bool ex, .int .i64 tm, .slice q n c] 24)).alloc (.cells #[.int .i64 kd, .string gp, .slice rp rn rc] 37)).alloc (.cells #[.bool false, .int .i64 0, .slice none 0 0] 24)) (.cells #[.bool false, .slice none 0 0] 47))
  have HR := Lib.hid (hR.below k0)
  have HRR := Lib.hid (hRR.below k0)
  have ge_s := Lib.hid (Nat.le_refl w.heap.size)
  have ge_r := Lib.hid (show w.heap.size ≤ w.heap.size + 1 from by omega)
  have ge_o := Lib.hid (show w.heap.size ≤ w.heap.size + 1 + 1 from by omega)
  have ge_a := Lib.hid (show w.heap.size ≤ w.heap.size + 1 + 1 + 1 from by omega)
  have ne_s_r := Lib.hid (show w.heap.size ≠ w.heap.size + 1 from by omega)
  have ne_s_o := Lib.hid (show w.heap.size ≠ w.heap.size + 1 + 1 from by omega)
  have ne_s_a := Lib.hid (show w.heap.size ≠ w.heap.size + 1 + 1 + 1 from by omega)
  have ne_r_o := Lib.hid (show w.heap.size + 1 ≠ w.heap.size + 1 + 1 from by omega)
  have ne_r_a := Lib.hid (show w.heap.size + 1 ≠ w.heap.size + 1 + 1 + 1 from by omega)
  have ne_o_a := Lib.hid (show w.heap.size + 1 + 1 ≠ w.heap.size + 1 + 1 + 1 from by omega)
  have HQ := Lib.hid (show ∀ U vs va, RowsAt 2 cellsTm U vs S → AddrsAt U va ca → Below w.heap.size w U → ApPost ⟨⟨true, T, S⟩, true, cg, ca, 0⟩ w (.returned (.tuple #[.agg #[.bool true, .int .i64 T, vs], .bool true, .agg #[.bool cg, va], .int .i64 0])) U from fun U vs va h1 h2 h3 => ⟨vs, va, rfl, h1, h2, h3⟩)
  generalize ApPost ⟨⟨true, T, S⟩, true, cg, ca, 0⟩ w = Q at HQ ⊢
  have hl6 := Lib.hid (Nat.le_trans hl0 (show 100 ≤ 1000000 by decide))
  have hr6 := Lib.hid (Nat.le_trans hr0 (show 100 ≤ 1000000 by decide))
  have hm := Lib.hid hm0
  have HCa := Lib.hid hC
  have hT := Lib.hid hT0
  have hS := Lib.hid hS0
  have hmay : 1 ≤ m ∧ m ≤ 1000000 ∧ 1 ≤ l ∧ l ≤ 1000000 ∧ 1 ≤ now ∧ now ≤ 1099511627776 := by
    have := hm0
    unfold mayT at this
    simp only [Bool.and_eq_true, decide_eq_true_iff] at this
    omega
  have hrec : 1 ≤ kd ∧ kd ≤ 6 ∧ rn ≤ 60 := by
    have := hr1
    unfold recT at this
    simp only [Bool.and_eq_true, decide_eq_true_iff] at this
    omega
  obtain ⟨q1, q2, q3⟩ := hrec
  obtain ⟨m1, m2, l1, l2, o1, o2⟩ := hmay
  have hrl := Lib.hid (show (ris rs).length ≤ 100 from Nat.le_trans (ris_len rs) hr0)
  have hll := Lib.hid hl0
  have hq1 := Lib.hid q1
  have hq2 := Lib.hid q2
  have hal := Lib.hid (show ca.length ≤ 100 from by have h := som_al (l := []) (by decide) (Nat.le_trans (ris_len rs) hr0) kd (now + m); rw [hC] at h; exact h)
  have d1 : decide (kd < 1) = false := decide_eq_false (by omega)
  have d2 : decide (6 < kd) = false := decide_eq_false (by omega)
  have d3 : decide (60 < (rn : Int)) = false := decide_eq_false (by omega)
  have d4 : decide (60 < rn) = false := decide_eq_false (by omega)
  have aw1 : wrap64 (now + m) = now + m := by unfold wrap64; omega
  have aw2 : wrap64 (now + l) = now + l := by unfold wrap64; omega
  obtain ⟨cn, hcn⟩ : ∃ cn, cn = cs.length := ⟨_, rfl⟩
  have HCN := Lib.hid hcn
  obtain ⟨sn, hsn⟩ : ∃ sn, sn = S.length := ⟨_, rfl⟩
  have HSN := Lib.hid hsn
  have f1 : decide (60 < cn) = false := decide_eq_false (by rw [hcn]; exact hb)
  have f2 : decide (60 < (cn : Int)) = false := decide_eq_false (by rw [hcn]; omega)
  have hcl := Lib.hid (show cs.length ≤ 100 from by omega)
  clear hm0 hC hT0 hS0 hr1 hcn hsn hb q1 q2 q3 m1 m2 l1 l2 o1 o2 hl0 hr0 hrn0
  clear k0 hR hRR
  go_enter Try.func21, Try.ntmps21
  go_upto_region 1 with fail
  generalize ((((w.alloc (.cells #[.bool ex, .int .i64 tm, .slice q n c] 24)).alloc (.cells #[.int .i64 kd, .string gp, .slice rp rn rc] 37)).alloc (.cells #[.bool false, .int .i64 0, .slice none 0 0] 24)).alloc (.cells #[.bool false, .slice none 0 0] 47)) = W at B_s B_r B_o B_a HR HRR KW ⊢
  generalize w.heap.size + 1 + 1 + 1 = e14 at B_a ge_a ne_s_a ne_r_a ne_o_a ⊢
  generalize w.heap.size + 1 + 1 = e12 at B_o ge_o ne_s_o ne_r_o ne_o_a ⊢
  generalize w.heap.size + 1 = rb at B_r ge_r ne_s_r ne_r_o ne_r_a ⊢
  have CN := Lib.hid (by have h := may17_c now m l W; rw [hm.out] at h; exact h)
  go_wp2_with fail
  ((with_reducible refine CN.out.mono ?_); rintro e v1 ⟨rfl, kb9⟩)
  replace B_s := Lib.hid (below_block kb9 (lt_of_block B_s.out) B_s.out)
  replace B_r := Lib.hid (below_block kb9 (lt_of_block B_r.out) B_r.out)
  replace B_o := Lib.hid (below_block kb9 (lt_of_block B_o.out) B_o.out)
  replace B_a := Lib.hid (below_block kb9 (lt_of_block B_a.out) B_a.out)
  replace HR := Lib.hid (HR.out.below kb9)
  replace HRR := Lib.hid (HRR.out.below kb9)
  replace KW := Lib.hid (KW.out.trans (kb9.mono KW.out.size))
  clear CN kb9
  have c_r0 : v1.cell? ⟨rb, 0, none⟩ = some (.int .i64 kd) := cell_of_block B_r.out rfl
  have c_r1 : v1.cell? ⟨rb, 1, none⟩ = some (.string gp) := cell_of_block B_r.out rfl
  have c_r2 : v1.cell? ⟨rb, 2, none⟩ = some (.slice rp rn rc) := cell_of_block B_r.out rfl
  have c_s0 : v1.cell? ⟨w.heap.size, 0, none⟩ = some (.bool ex) := cell_of_block B_s.out rfl
  have c_s1 : v1.cell? ⟨w.heap.size, 1, none⟩ = some (.int .i64 tm) := cell_of_block B_s.out rfl
  have c_s2 : v1.cell? ⟨w.heap.size, 2, none⟩ = some (.slice q n c) := cell_of_block B_s.out rfl
  have z_s := (fun j : Nat => free_of_block (j := j) B_s.out)
  have kt : Tw v1 (((v1.setCell ⟨w.heap.size, 0, none⟩ (.bool false)).setCell ⟨w.heap.size, 1, none⟩ (.int .i64 0)).setCell ⟨w.heap.size, 2, none⟩ (.slice none 0 0)) w.heap.size w.heap.size := ((tw_set v1 w.heap.size 0 (.bool false)).trans (tw_set (v1.setCell ⟨w.heap.size, 0, none⟩ (.bool false)) w.heap.size 1 (.int .i64 0))).trans (tw_set ((v1.setCell ⟨w.heap.size, 0, none⟩ (.bool false)).setCell ⟨w.heap.size, 1, none⟩ (.int .i64 0)) w.heap.size 2 (.slice none 0 0))
  replace HR := Lib.hid (rows_tw HR.out B_s.out no_str kt)
  replace HRR := Lib.hid (addrs_tw HRR.out B_s.out no_str kt)
  replace B_r := Lib.hid (blk_tw kt B_r.out (Ne.symm ne_s_r.out))
  replace B_o := Lib.hid (blk_tw kt B_o.out (Ne.symm ne_s_o.out))
  replace B_a := Lib.hid (blk_tw kt B_a.out (Ne.symm ne_s_a.out))
  replace B_s := Lib.hid (show ((((v1.setCell ⟨w.heap.size, 0, none⟩ (.bool false)).setCell ⟨w.heap.size, 1, none⟩ (.int .i64 0)).setCell ⟨w.heap.size, 2, none⟩ (.slice none 0 0))).heap[w.heap.size]? = some (.cells #[.bool false, .int .i64 0, .slice none 0 0] 24 (0, 0)) from (heap_store (j := 2) (v := .slice none 0 0) (heap_store (j := 1) (v := .int .i64 0) (heap_store (j := 0) (v := .bool false) B_s.out))))
  replace KW := Lib.hid (bel_tw KW.out ge_s.out kt)
  clear kt
  go_upto_region 7 with fail
  clear c_r0 c_r1 c_r2
  clear c_s0 c_s1 c_s2 z_s
  generalize (((v1.setCell ⟨w.heap.size, 0, none⟩ (.bool false)).setCell ⟨w.heap.size, 1, none⟩ (.int .i64 0)).setCell ⟨w.heap.size, 2, none⟩ (.slice none 0 0)) = v2 at B_s B_r B_o B_a HR HRR KW ⊢
  clear HR
  have HR := Lib.hid (show RowsAt 2 cellsTm v2 (.slice none 0 0) [] from RowsAt.nil _)
  have c_r0 : v2.cell? ⟨rb, 0, none⟩ = some (.int .i64 kd) := cell_of_block B_r.out rfl
  have c_r1 : v2.cell? ⟨rb, 1, none⟩ = some (.string gp) := cell_of_block B_r.out rfl
  have c_r2 : v2.cell? ⟨rb, 2, none⟩ = some (.slice rp rn rc) := cell_of_block B_r.out rfl
  have CN := Lib.hid (rris_c (.slice rp rn rc) rs v2 hr6.out HRR.out)
  unfold MPost at CN
  go_wp2_with fail
  ((with_reducible refine CN.out.mono ?_); rintro e v3 ⟨ul, rfl, a9, kb9⟩)
  clear c_r0 c_r1 c_r2
  replace B_s := Lib.hid (below_block kb9 (lt_of_block B_s.out) B_s.out)
  replace B_r := Lib.hid (below_block kb9 (lt_of_block B_r.out) B_r.out)
  replace B_o := Lib.hid (below_block kb9 (lt_of_block B_o.out) B_o.out)
  replace B_a := Lib.hid (below_block kb9 (lt_of_block B_a.out) B_a.out)
  replace HR := Lib.hid (HR.out.below kb9)
  replace HRR := Lib.hid (HRR.out.below kb9)
  replace KW := Lib.hid (KW.out.trans (kb9.mono KW.out.size))
  have HL := Lib.hid a9.at
  clear CN kb9 a9
  have c_s0 : v3.cell? ⟨w.heap.size, 0, none⟩ = some (.bool false) := cell_of_block B_s.out rfl
  have c_s1 : v3.cell? ⟨w.heap.size, 1, none⟩ = some (.int .i64 0) := cell_of_block B_s.out rfl
  have c_s2 : v3.cell? ⟨w.heap.size, 2, none⟩ = some (.slice none 0 0) := cell_of_block B_s.out rfl
  have c_r0 : v3.cell? ⟨rb, 0, none⟩ = some (.int .i64 kd) := cell_of_block B_r.out rfl
  have c_r1 : v3.cell? ⟨rb, 1, none⟩ = some (.string gp) := cell_of_block B_r.out rfl
  have c_r2 : v3.cell? ⟨rb, 2, none⟩ = some (.slice rp rn rc) := cell_of_block B_r.out rfl
  have CN := Lib.hid (some17_c false 0 (none) 0 0 [] kd ul (ris rs) (now + m) v3 hq1.out hq2.out (by decide) hrl.out HR.out HL.out)
  rw [HCa.out] at CN
  unfold CgPost at CN
  go_wp2_with fail
  ((with_reducible refine CN.out.mono ?_); rintro e v4 ⟨vs0, va0, rfl, r9, a9, kb9⟩)
  clear c_s0 c_s1 c_s2 c_r0 c_r1 c_r2
  replace B_s := Lib.hid (below_block kb9 (lt_of_block B_s.out) B_s.out)
  replace B_r := Lib.hid (below_block kb9 (lt_of_block B_r.out) B_r.out)
  replace B_o := Lib.hid (below_block kb9 (lt_of_block B_o.out) B_o.out)
  replace B_a := Lib.hid (below_block kb9 (lt_of_block B_a.out) B_a.out)
  replace HR := Lib.hid (HR.out.below kb9)
  replace HRR := Lib.hid (HRR.out.below kb9)
  replace HL := Lib.hid (HL.out.below kb9)
  replace KW := Lib.hid (KW.out.trans (kb9.mono KW.out.size))
  simp only at r9 a9 ⊢
  obtain ⟨oq, oc, hov⟩ := r9.slice
  rw [← HCN.out] at hov
  subst hov
  obtain ⟨aq, an, ac, rfl⟩ := addrs_slice3 a9
  have RO := Lib.hid r9
  have AO := Lib.hid a9
  clear CN kb9 r9 a9
  go_upto_region 9 with fail
  have kA : Below v4.heap.size v4 ((v4.alloc (.cells #[.bool true, .int .i64 ct, .slice oq cn oc] 24)).alloc (.cells #[.bool cg, .slice aq an ac] 47)) := ((Below.refl _ _).alloc (Nat.le_refl _) _).alloc (by simp) _
  have ge_p := Lib.hid (show w.heap.size ≤ v4.heap.size from KW.out.size)
  have ge_k := Lib.hid (show w.heap.size ≤ v4.heap.size + 1 from Nat.le_succ_of_le KW.out.size)
  have ne_p_k := Lib.hid (show v4.heap.size ≠ v4.heap.size + 1 from by omega)
  have ne_s_p := Lib.hid (Nat.ne_of_lt (lt_of_block B_s.out))
  have ne_s_k := Lib.hid (show w.heap.size ≠ v4.heap.size + 1 from Nat.ne_of_lt (Nat.lt_succ_of_lt (lt_of_block B_s.out)))
  have ne_r_p := Lib.hid (Nat.ne_of_lt (lt_of_block B_r.out))
  have ne_r_k := Lib.hid (show rb ≠ v4.heap.size + 1 from Nat.ne_of_lt (Nat.lt_succ_of_lt (lt_of_block B_r.out)))
  have ne_o_p := Lib.hid (Nat.ne_of_lt (lt_of_block B_o.out))
  have ne_o_k := Lib.hid (show e12 ≠ v4.heap.size + 1 from Nat.ne_of_lt (Nat.lt_succ_of_lt (lt_of_block B_o.out)))
  have ne_a_p := Lib.hid (Nat.ne_of_lt (lt_of_block B_a.out))
  have ne_a_k := Lib.hid (show e14 ≠ v4.heap.size + 1 from Nat.ne_of_lt (Nat.lt_succ_of_lt (lt_of_block B_a.out)))
  replace B_s := Lib.hid (below_block kA (lt_of_block B_s.out) B_s.out)
  replace B_r := Lib.hid (below_block kA (lt_of_block B_r.out) B_r.out)
  replace B_o := Lib.hid (below_block kA (lt_of_block B_o.out) B_o.out)
  replace B_a := Lib.hid (below_block kA (lt_of_block B_a.out) B_a.out)
  replace HR := Lib.hid (HR.out.below kA)
  replace HRR := Lib.hid (HRR.out.below kA)
  replace HL := Lib.hid (HL.out.below kA)
  replace RO := Lib.hid (RO.out.below kA)
  replace AO := Lib.hid (AO.out.below kA)
  replace KW := Lib.hid (KW.out.trans (kA.mono KW.out.size))
  have B_p := Lib.hid (show ((v4.alloc (.cells #[.bool true, .int .i64 ct, .slice oq cn oc] 24)).alloc (.cells #[.bool cg, .slice aq an ac] 47)).heap[v4.heap.size]? = some (.cells #[.bool true, .int .i64 ct, .slice oq cn oc] 24) from heap_old (heap_new v4 (.cells #[.bool true, .int .i64 ct, .slice oq cn oc] 24)))
  have B_k := Lib.hid (show ((v4.alloc (.cells #[.bool true, .int .i64 ct, .slice oq cn oc] 24)).alloc (.cells #[.bool cg, .slice aq an ac] 47)).heap[v4.heap.size + 1]? = some (.cells #[.bool cg, .slice aq an ac] 47) from by simpa using heap_new (v4.alloc (.cells #[.bool true, .int .i64 ct, .slice oq cn oc] 24)) (.cells #[.bool cg, .slice aq an ac] 47))
  clear kA
  generalize (v4.alloc (.cells #[.bool true, .int .i64 ct, .slice oq cn oc] 24)).alloc (.cells #[.bool cg, .slice aq an ac] 47) = v5 at B_s B_r B_o B_a B_p B_k HR HRR HL RO AO KW ⊢
  generalize v4.heap.size + 1 = kb at B_k ge_k ne_p_k ne_s_k ne_r_k ne_o_k ne_a_k ⊢
  generalize v4.heap.size = pb at B_p ge_p ne_p_k ne_s_p ne_r_p ne_o_p ne_a_p ⊢
  have c_s0 : v5.cell? ⟨w.heap.size, 0, none⟩ = some (.bool false) := cell_of_block B_s.out rfl
  have c_s1 : v5.cell? ⟨w.heap.size, 1, none⟩ = some (.int .i64 0) := cell_of_block B_s.out rfl
  have c_s2 : v5.cell? ⟨w.heap.size, 2, none⟩ = some (.slice none 0 0) := cell_of_block B_s.out rfl
  have c_p0 : v5.cell? ⟨pb, 0, none⟩ = some (.bool true) := cell_of_block B_p.out rfl
  have c_p1 : v5.cell? ⟨pb, 1, none⟩ = some (.int .i64 ct) := cell_of_block B_p.out rfl
  have c_p2 : v5.cell? ⟨pb, 2, none⟩ = some (.slice oq cn oc) := cell_of_block B_p.out rfl
  have c_k0 : v5.cell? ⟨kb, 0, none⟩ = some (.bool cg) := cell_of_block B_k.out rfl
  have c_k1 : v5.cell? ⟨kb, 1, none⟩ = some (.slice aq an ac) := cell_of_block B_k.out rfl
  have CN := Lib.hid (by have h := asked17_c true ct (.slice oq cn oc) cs cg (.slice aq an ac) ca (now + l) v5 hcl.out hal.out RO.out AO.out; rw [← hT.out, ← hS.out] at h; unfold AkPost at h; exact h)
  go_wp2_with fail
  ((with_reducible refine CN.out.mono ?_); rintro e v6 ⟨vs1, rfl, r9, kb9⟩)
  clear c_p0 c_p1 c_p2 c_k0 c_k1
  clear c_s0 c_s1 c_s2
  replace B_s := Lib.hid (below_block kb9 (lt_of_block B_s.out) B_s.out)
  replace B_r := Lib.hid (below_block kb9 (lt_of_block B_r.out) B_r.out)
  replace B_o := Lib.hid (below_block kb9 (lt_of_block B_o.out) B_o.out)
  replace B_a := Lib.hid (below_block kb9 (lt_of_block B_a.out) B_a.out)
  replace B_p := Lib.hid (below_block kb9 (lt_of_block B_p.out) B_p.out)
  replace B_k := Lib.hid (below_block kb9 (lt_of_block B_k.out) B_k.out)
  replace HR := Lib.hid (HR.out.below kb9)
  replace HRR := Lib.hid (HRR.out.below kb9)
  replace HL := Lib.hid (HL.out.below kb9)
  replace RO := Lib.hid (RO.out.below kb9)
  replace AO := Lib.hid (AO.out.below kb9)
  replace KW := Lib.hid (KW.out.trans (kb9.mono KW.out.size))
  clear RO
  obtain ⟨sq, sc, hov⟩ := r9.slice
  rw [← HSN.out] at hov
  subst hov
  have RO := Lib.hid r9
  clear CN kb9 r9
  have c_p0 : v6.cell? ⟨pb, 0, none⟩ = some (.bool true) := cell_of_block B_p.out rfl
  have c_p1 : v6.cell? ⟨pb, 1, none⟩ = some (.int .i64 ct) := cell_of_block B_p.out rfl
  have c_p2 : v6.cell? ⟨pb, 2, none⟩ = some (.slice oq cn oc) := cell_of_block B_p.out rfl
  have z_p := (fun j : Nat => free_of_block (j := j) B_p.out)
  go_upto_region 14 with fail
  clear c_p0 c_p1 c_p2
  clear z_p
  have kt : Tw v6 (((v6.setCell ⟨pb, 0, none⟩ (.bool true)).setCell ⟨pb, 1, none⟩ (.int .i64 T)).setCell ⟨pb, 2, none⟩ (.slice sq sn sc)) pb pb := ((tw_set v6 pb 0 (.bool true)).trans (tw_set (v6.setCell ⟨pb, 0, none⟩ (.bool true)) pb 1 (.int .i64 T))).trans (tw_set ((v6.setCell ⟨pb, 0, none⟩ (.bool true)).setCell ⟨pb, 1, none⟩ (.int .i64 T)) pb 2 (.slice sq sn sc))
  replace HR := Lib.hid (rows_tw HR.out B_p.out no_str kt)
  replace HRR := Lib.hid (addrs_tw HRR.out B_p.out no_str kt)
  replace HL := Lib.hid (addrs_tw HL.out B_p.out no_str kt)
  replace AO := Lib.hid (addrs_tw AO.out B_p.out no_str kt)
  replace RO := Lib.hid (rows_tw RO.out B_p.out no_str kt)
  replace B_s := Lib.hid (blk_tw kt B_s.out ne_s_p.out)
  replace B_r := Lib.hid (blk_tw kt B_r.out ne_r_p.out)
  replace B_o := Lib.hid (blk_tw kt B_o.out ne_o_p.out)
  replace B_a := Lib.hid (blk_tw kt B_a.out ne_a_p.out)
  replace B_k := Lib.hid (blk_tw kt B_k.out (Ne.symm ne_p_k.out))
  replace B_p := Lib.hid (show ((((v6.setCell ⟨pb, 0, none⟩ (.bool true)).setCell ⟨pb, 1, none⟩ (.int .i64 T)).setCell ⟨pb, 2, none⟩ (.slice sq sn sc))).heap[pb]? = some (.cells #[.bool true, .int .i64 T, .slice sq sn sc] 24 (0, 0)) from (heap_store (j := 2) (v := .slice sq sn sc) (heap_store (j := 1) (v := .int .i64 T) (heap_store (j := 0) (v := .bool true) B_p.out))))
  replace KW := Lib.hid (bel_tw KW.out ge_p.out kt)
  clear kt
  generalize (((v6.setCell ⟨pb, 0, none⟩ (.bool true)).setCell ⟨pb, 1, none⟩ (.int .i64 T)).setCell ⟨pb, 2, none⟩ (.slice sq sn sc)) = v7 at B_s B_r B_o B_a B_p B_k HR HRR HL AO RO KW ⊢
  have c_p0 : v7.cell? ⟨pb, 0, none⟩ = some (.bool true) := cell_of_block B_p.out rfl
  have c_p1 : v7.cell? ⟨pb, 1, none⟩ = some (.int .i64 T) := cell_of_block B_p.out rfl
  have c_p2 : v7.cell? ⟨pb, 2, none⟩ = some (.slice sq sn sc) := cell_of_block B_p.out rfl
  go_upto_region 16 with fail
  have PB := B_p.out
  have hb := B_k.out
  have h8 := B_o.out
  have h9 := B_a.out
  have rf := RO.out
  have af := AO.out
  have kk := KW.out
  have KF := Lib.hid (show ∀ U : World, U.heap[pb]? = some (.cells #[.bool true, .int .i64 T, .slice sq sn sc] 24 (0, 0)) → U.heap[kb]? = some (.cells #[.bool cg, .slice aq an ac] 47 (0, 0)) → (U.cell? ⟨pb, 0, none⟩ = some (.bool true) ∧ U.cell? ⟨pb, 1, none⟩ = some (.int .i64 T) ∧ U.cell? ⟨pb, 2, none⟩ = some (.slice sq sn sc) ∧ U.cell? ⟨kb, 0, none⟩ = some (.bool cg) ∧ U.cell? ⟨kb, 1, none⟩ = some (.slice aq an ac)) from fun U h1 h2 => ⟨cell_of_block h1 rfl, cell_of_block h1 rfl, cell_of_block h1 rfl, cell_of_block h2 rfl, cell_of_block h2 rfl⟩)
  clear B_p B_k B_o B_a B_s B_r RO AO KW HR HRR HL
  refine wp_region_held_drew (S := fun U => U.cell? ⟨pb, 0, none⟩ = some (.bool true) ∧ U.cell? ⟨pb, 1, none⟩ = some (.int .i64 T) ∧ U.cell? ⟨pb, 2, none⟩ = some (.slice sq sn sc) ∧ U.cell? ⟨kb, 0, none⟩ = some (.bool cg) ∧ U.cell? ⟨kb, 1, none⟩ = some (.slice aq an ac)) (by kernel_rfl) (KF.out _ PB hb) (fun hH => ?_)
  replace h8 : v7.drew.heap[e12]? = _ := h8
  replace h9 : v7.drew.heap[e14]? = _ := h9
  replace PB : v7.drew.heap[pb]? = _ := PB
  replace hb : v7.drew.heap[kb]? = _ := hb
  replace rf := rf.below (show Below v7.heap.size v7 v7.drew from (Below.refl _ _).drew)
  replace af := af.below (show Below v7.heap.size v7 v7.drew from (Below.refl _ _).drew)
  replace kk := kk.drew
  generalize v7.drew = Y0 at h8 h9 PB hb rf af kk hH ⊢
  refine wpAnyH_take (i := 0) (oi := { dst := some 103, op := Op.load 24 (Operand.tmp 17), type := 24, pos := "ref.go:197", after := #[], guard := none }) (v := .agg #[.bool true, .int .i64 T, .slice sq sn sc]) rfl (by kernel_rfl) (by kernel_rfl) (by kernel_rfl) (fun _ _ _ h => h) (Or.inl ⟨by kernel_rfl, ?_⟩) hH ?_
  · intro w hSw; (try dsimp only at hSw); go_simp; (try rfl)
  try simp only [Act.put, List.setIfInBounds_toArray, List.set_cons_zero, List.set_cons_succ]
  refine wpAnyH_take (i := 1) (oi := { dst := some 104, op := Op.load 47 (Operand.tmp 18), type := 47, pos := "ref.go:197", after := #[{ on := 3, ground := Ground.gcOnly Departure.lateStores }], guard := none }) (v := .agg #[.bool cg, .slice aq an ac]) rfl (by kernel_rfl) (by kernel_rfl) (by kernel_rfl) (fun _ _ _ h => h) (Or.inl ⟨by kernel_rfl, ?_⟩) hH ?_
  · intro w hSw; (try dsimp only at hSw); go_simp; (try rfl)
  try simp only [Act.put, List.setIfInBounds_toArray, List.set_cons_zero, List.set_cons_succ]
  refine wpAnyH_ready (rs := [2]) (by kernel_rfl) (by simp) ?_
  refine AllReadyH.cons rfl (fun K hK => ?_) AllReadyH.nil
  have z0 := cell_of_block (j := 0) h8 rfl
  have fz0 := free_of_block (j := 0) h8
  have z1 := cell_of_block (j := 1) h8 rfl
  have fz1 := free_of_block (j := 1) h8
  have z2 := cell_of_block (j := 2) h8 rfl
  have fz2 := free_of_block (j := 2) h8
  go_simp
  clear z0 fz0 z1 fz1 z2 fz2
  have kt : Tw Y0 (((Y0.setCell ⟨e12, 0, none⟩ (.bool true)).setCell ⟨e12, 1, none⟩ (.int .i64 T)).setCell ⟨e12, 2, none⟩ (.slice sq sn sc)) e12 e12 := ((tw_set Y0 e12 0 (.bool true)).trans (tw_set (Y0.setCell ⟨e12, 0, none⟩ (.bool true)) e12 1 (.int .i64 T))).trans (tw_set ((Y0.setCell ⟨e12, 0, none⟩ (.bool true)).setCell ⟨e12, 1, none⟩ (.int .i64 T)) e12 2 (.slice sq sn sc))
  replace rf := rows_tw rf h8 no_str kt
  replace af := addrs_tw af h8 no_str kt
  replace kk := bel_tw kk ge_o.out kt
  replace h9 := blk_tw kt h9 ((Ne.symm ne_o_a.out))
  replace PB := blk_tw kt PB ((Ne.symm ne_o_p.out))
  replace hb := blk_tw kt hb ((Ne.symm ne_o_k.out))
  replace h8 : ((((Y0.setCell ⟨e12, 0, none⟩ (.bool true)).setCell ⟨e12, 1, none⟩ (.int .i64 T)).setCell ⟨e12, 2, none⟩ (.slice sq sn sc))).heap[e12]? = some (.cells #[.bool true, .int .i64 T, .slice sq sn sc] 24 (0, 0)) := (heap_store (j := 2) (v := .slice sq sn sc) (heap_store (j := 1) (v := .int .i64 T) (heap_store (j := 0) (v := .bool true) h8)))
  clear kt
  refine hK.out _ _ (KF.out _ PB hb) (fun hH => ?_)
  clear hK K
  try simp only [Act.put, List.setIfInBounds_toArray, List.set_cons_zero, List.set_cons_succ]
  generalize (((Y0.setCell ⟨e12, 0, none⟩ (.bool true)).setCell ⟨e12, 1, none⟩ (.int .i64 T)).setCell ⟨e12, 2, none⟩ (.slice sq sn sc)) = Y1 at h8 h9 PB hb rf af kk hH ⊢
  refine wpAnyH_take (i := 3) (oi := { dst := some 13, op := Op.assign (Operand.const (Value.bool true)), type := 4, pos := "ref.go:197", after := #[{ on := 2, ground := Ground.chain }, { on := 0, ground := Ground.phase }, { on := 1, ground := Ground.textOnly Departure.lateStores }, { on := 2, ground := Ground.phase }], guard := none }) (v := .bool true) rfl (by kernel_rfl) (by kernel_rfl) (by kernel_rfl) (fun _ _ _ h => h) (Or.inl ⟨by kernel_rfl, ?_⟩) hH ?_
  · intro w hSw; (try dsimp only at hSw); go_simp; (try rfl)
  try simp only [Act.put, List.setIfInBounds_toArray, List.set_cons_zero, List.set_cons_succ]
  refine wpAnyH_ready (rs := [4]) (by kernel_rfl) (by simp) ?_
  refine AllReadyH.cons rfl (fun K hK => ?_) AllReadyH.nil
  have z0 := cell_of_block (j := 0) h9 rfl
  have fz0 := free_of_block (j := 0) h9
  have z1 := cell_of_block (j := 1) h9 rfl
  have fz1 := free_of_block (j := 1) h9
  go_simp
  clear z0 fz0 z1 fz1
  have kt : Tw Y1 ((Y1.setCell ⟨e14, 0, none⟩ (.bool cg)).setCell ⟨e14, 1, none⟩ (.slice aq an ac)) e14 e14 := (tw_set Y1 e14 0 (.bool cg)).trans (tw_set (Y1.setCell ⟨e14, 0, none⟩ (.bool cg)) e14 1 (.slice aq an ac))
  replace rf := rows_tw rf h9 no_str2 kt
  replace af := addrs_tw af h9 no_str2 kt
  replace kk := bel_tw kk ge_a.out kt
  replace h8 := blk_tw kt h8 (ne_o_a.out)
  replace PB := blk_tw kt PB ((Ne.symm ne_a_p.out))
  replace hb := blk_tw kt hb ((Ne.symm ne_a_k.out))
  replace h9 : (((Y1.setCell ⟨e14, 0, none⟩ (.bool cg)).setCell ⟨e14, 1, none⟩ (.slice aq an ac))).heap[e14]? = some (.cells #[.bool cg, .slice aq an ac] 47 (0, 0)) := (heap_store (j := 1) (v := .slice aq an ac) (heap_store (j := 0) (v := .bool cg) h9))
  clear kt
  refine hK.out _ _ (KF.out _ PB hb) (fun hH => ?_)
  clear hK K
  try simp only [Act.put, List.setIfInBounds_toArray, List.set_cons_zero, List.set_cons_succ]
  generalize ((Y1.setCell ⟨e14, 0, none⟩ (.bool cg)).setCell ⟨e14, 1, none⟩ (.slice aq an ac)) = Y2 at h8 h9 PB hb rf af kk hH ⊢
  refine wpAnyH_take (i := 5) (oi := { dst := some 15, op := Op.assign (Operand.const (Value.int IntKind.i64 0)), type := 28, pos := "ref.go:197", after := #[{ on := 4, ground := Ground.chain }, { on := 0, ground := Ground.phase }, { on := 1, ground := Ground.phase }, { on := 2, ground := Ground.phase }, { on := 3, ground := Ground.phase }, { on := 4, ground := Ground.phase }], guard := none }) (v := .int .i64 0) rfl (by kernel_rfl) (by kernel_rfl) (by kernel_rfl) (fun _ _ _ h => h) (Or.inl ⟨by kernel_rfl, ?_⟩) hH ?_
  · intro w hSw; (try dsimp only at hSw); go_simp; (try rfl)
  try simp only [Act.put, List.setIfInBounds_toArray, List.set_cons_zero, List.set_cons_succ]
  refine wpAnyH_done (by kernel_rfl) ?_ _
  have HF := Lib.hid (HQ.out _ _ _ rf af kk)
  have y0 := cell_of_block (j := 0) h8 rfl
  have y1 := cell_of_block (j := 1) h8 rfl
  have y2 := cell_of_block (j := 2) h8 rfl
  have y3 := cell_of_block (j := 0) h9 rfl
  have y4 := cell_of_block (j := 1) h9 rfl
  clear hH h8 h9 PB hb rf af kk HQ KF
  go_wp2_with fail
  exact bodyPost_ret (v := .tuple #[.agg #[.bool true, .int .i64 T, .slice sq sn sc], .bool true, .agg #[.bool cg, .slice aq an ac], .int .i64 0]) (by simp [results, Try.results21, go_sem, y0, y1, y2, y3, y4]) rfl HF.out

set_option maxHeartbeats 16000000 in
set_option maxRecDepth 100000 in
theorem ap17_fn_okn (ex : Bool) (tm : Int) (q : Option Addr) (n c : Nat) (sl : List Tm) (kd : Int) (gp : ByteArray) (rp : Option Addr) (rn rc : Nat) (rs : List ByteArray) (now m l : Int) (w : World) (hl0 : sl.length ≤ 100) (hr0 : rs.length ≤ 100) (hrn0 : rn = rs.length) (hR : RowsAt 2 cellsTm w (.slice q n c) sl) (hRR : AddrsAt w (.slice rp rn rc) rs) (hm0 : mayT m l now = true) (hr1 : recT kd rs = true) (ct : Int) (cs : List Tm) (cg : Bool) (ca : List ByteArray) (hC : somP [] kd (ris rs) (now + m) = ⟨false, ct, cs, cg, ca⟩) (hb : ¬ 60 < cs.length) (hz : ¬ (askS cs ca (now + l)).length = 0) (T : Int) (hT0 : T = if cg then min ct (now + l) else ct) (S : List Tm) (hS0 : S = askS cs ca (now + l)) :
    Calls Try.prog 21 #[.agg #[.bool ex, .int .i64 tm, .slice q n c], .bool false, .agg #[.int .i64 kd, .string gp, .slice rp rn rc], .int .i64 now, .int .i64 m, .int .i64 l] w (ApPost ⟨⟨false, T, S⟩, true, cg, ca, 0⟩ w) := by
  have k0 : Below w.heap.size w ((((w.alloc (.cells #[.bool ex, .int .i64 tm, .slice q n c] 24)).alloc (.cells #[.int .i64 kd, .string gp, .slice rp rn rc] 37)).alloc (.cells #[.bool false, .int .i64 0, .slice none 0 0] 24)).alloc (.cells #[.bool false, .slice none 0 0] 47)) := ((((Below.refl _ _).alloc (Nat.le_refl _) _).alloc (by simp) _).alloc (by simp; omega) _).alloc (by simp; omega) _
  have KW := Lib.hid k0
  have B_s := Lib.hid (show ((((w.alloc (.cells #[.bool ex, .int .i64 tm, .slice q n c] 24)).alloc (.cells #[.int .i64 kd, .string gp, .slice rp rn rc] 37)).alloc (.cells #[.bool false, .int .i64 0, .slice none 0 0] 24)).alloc (.cells #[.bool false, .slice none 0 0] 47)).heap[w.heap.size]? = some (.cells #[.bool ex, .int .i64 tm, .slice q n c] 24) from heap_old (heap_old (heap_old (heap_new w (.cells #[.bool ex, .int .i64 tm, .slice q n c] 24)))))
  have B_r := Lib.hid (show ((((w.alloc (.cells #[.bool ex, .int .i64 tm, .slice q n c] 24)).alloc (.cells #[.int .i64 kd, .string gp, .slice rp rn rc] 37)).alloc (.cells #[.bool false, .int .i64 0, .slice none 0 0] 24)).alloc (.cells #[.bool false, .slice none 0 0] 47)).heap[w.heap.size + 1]? = some (.cells #[.int .i64 kd, .string gp, .slice rp rn rc] 37) from heap_old (heap_old (by simpa using heap_new (w.alloc (.cells #[.bool ex, .int .i64 tm, .slice q n c] 24)) (.cells #[.int .i64 kd, .string gp, .slice rp rn rc] 37))))
  have B_o := Lib.hid (show ((((w.alloc (.cells #[.bool ex, .int .i64 tm, .slice q n c] 24)).alloc (.cells #[.int .i64 kd, .string gp, .slice rp rn rc] 37)).alloc (.cells #[.bool false, .int .i64 0, .slice none 0 0] 24)).alloc (.cells #[.bool false, .slice none 0 0] 47)).heap[w.heap.size + 1 + 1]? = some (.cells #[.bool false, .int .i64 0, .slice none 0 0] 24) from heap_old (by simpa using heap_new ((w.alloc (.cells #[.bool ex, .int .i64 tm, .slice q n c] 24)).alloc (.cells #[.int .i64 kd, .string gp, .slice rp rn rc] 37)) (.cells #[.bool false, .int .i64 0, .slice none 0 0] 24)))
  have B_a := Lib.hid (show ((((w.alloc (.cells #[.bool ex, .int .i64 tm, .slice q n c] 24)).alloc (.cells #[.int .i64 kd, .string gp, .slice rp rn rc] 37)).alloc (.cells #[.bool false, .int .i64 0, .slice none 0 0] 24)).alloc (.cells #[.bool false, .slice none 0 0] 47)).heap[w.heap.size + 1 + 1 + 1]? = some (.cells #[.bool false, .slice none 0 0] 47) from by simpa using heap_new (((w.alloc (.cells #[.bool ex, .int .i64 tm, .slice q n c] 24)).alloc (.cells #[.int .i64 kd, .string gp, .slice rp rn rc] 37)).alloc (.cells #[.bool false, .int .i64 0, .slice none 0 0] 24)) (.cells #[.bool false, .slice none 0 0] 47))
  have HR := Lib.hid (hR.below k0)
  have HRR := Lib.hid (hRR.below k0)
  have ge_s := Lib.hid (Nat.le_refl w.heap.size)
  have ge_r := Lib.hid (show w.heap.size ≤ w.heap.size + 1 from by omega)
  have ge_o := Lib.hid (show w.heap.size ≤ w.heap.size + 1 + 1 from by omega)
  have ge_a := Lib.hid (show w.heap.size ≤ w.heap.size + 1 + 1 + 1 from by omega)
  have ne_s_r := Lib.hid (show w.heap.size ≠ w.heap.size + 1 from by omega)
  have ne_s_o := Lib.hid (show w.heap.size ≠ w.heap.size + 1 + 1 from by omega)
  have ne_s_a := Lib.hid (show w.heap.size ≠ w.heap.size + 1 + 1 + 1 from by omega)
  have ne_r_o := Lib.hid (show w.heap.size + 1 ≠ w.heap.size + 1 + 1 from by omega)
  have ne_r_a := Lib.hid (show w.heap.size + 1 ≠ w.heap.size + 1 + 1 + 1 from by omega)
  have ne_o_a := Lib.hid (show w.heap.size + 1 + 1 ≠ w.heap.size + 1 + 1 + 1 from by omega)
  have HQ := Lib.hid (show ∀ U vs va, RowsAt 2 cellsTm U vs S → AddrsAt U va ca → Below w.heap.size w U → ApPost ⟨⟨false, T, S⟩, true, cg, ca, 0⟩ w (.returned (.tuple #[.agg #[.bool false, .int .i64 T, vs], .bool true, .agg #[.bool cg, va], .int .i64 0])) U from fun U vs va h1 h2 h3 => ⟨vs, va, rfl, h1, h2, h3⟩)
  generalize ApPost ⟨⟨false, T, S⟩, true, cg, ca, 0⟩ w = Q at HQ ⊢
  have hl6 := Lib.hid (Nat.le_trans hl0 (show 100 ≤ 1000000 by decide))
  have hr6 := Lib.hid (Nat.le_trans hr0 (show 100 ≤ 1000000 by decide))
  have hm := Lib.hid hm0
  have HCa := Lib.hid hC
  have hT := Lib.hid hT0
  have hS := Lib.hid hS0
  have hmay : 1 ≤ m ∧ m ≤ 1000000 ∧ 1 ≤ l ∧ l ≤ 1000000 ∧ 1 ≤ now ∧ now ≤ 1099511627776 := by
    have := hm0
    unfold mayT at this
    simp only [Bool.and_eq_true, decide_eq_true_iff] at this
    omega
  have hrec : 1 ≤ kd ∧ kd ≤ 6 ∧ rn ≤ 60 := by
    have := hr1
    unfold recT at this
    simp only [Bool.and_eq_true, decide_eq_true_iff] at this
    omega
  obtain ⟨q1, q2, q3⟩ := hrec
  obtain ⟨m1, m2, l1, l2, o1, o2⟩ := hmay
  have hrl := Lib.hid (show (ris rs).length ≤ 100 from Nat.le_trans (ris_len rs) hr0)
  have hll := Lib.hid hl0
  have hq1 := Lib.hid q1
  have hq2 := Lib.hid q2
  have hal := Lib.hid (show ca.length ≤ 100 from by have h := som_al (l := []) (by decide) (Nat.le_trans (ris_len rs) hr0) kd (now + m); rw [hC] at h; exact h)
  have d1 : decide (kd < 1) = false := decide_eq_false (by omega)
  have d2 : decide (6 < kd) = false := decide_eq_false (by omega)
  have d3 : decide (60 < (rn : Int)) = false := decide_eq_false (by omega)
  have d4 : decide (60 < rn) = false := decide_eq_false (by omega)
  have aw1 : wrap64 (now + m) = now + m := by unfold wrap64; omega
  have aw2 : wrap64 (now + l) = now + l := by unfold wrap64; omega
  obtain ⟨cn, hcn⟩ : ∃ cn, cn = cs.length := ⟨_, rfl⟩
  have HCN := Lib.hid hcn
  obtain ⟨sn, hsn⟩ : ∃ sn, sn = S.length := ⟨_, rfl⟩
  have HSN := Lib.hid hsn
  have f1 : decide (60 < cn) = false := decide_eq_false (by rw [hcn]; exact hb)
  have f2 : decide (60 < (cn : Int)) = false := decide_eq_false (by rw [hcn]; omega)
  have hcl := Lib.hid (show cs.length ≤ 100 from by omega)
  rw [← hS0, ← hsn] at hz
  have f3 : decide (sn = 0) = false := decide_eq_false (by omega)
  have f4 : decide ((sn : Int) = 0) = false := decide_eq_false (by omega)
  have f5 : ¬ sn = 0 := hz
  have f6 : ¬ (sn : Int) = 0 := by omega
  clear hz
  clear hm0 hC hT0 hS0 hr1 hcn hsn hb q1 q2 q3 m1 m2 l1 l2 o1 o2 hl0 hr0 hrn0
  clear k0 hR hRR
  go_enter Try.func21, Try.ntmps21
  go_upto_region 1 with fail
  generalize ((((w.alloc (.cells #[.bool ex, .int .i64 tm, .slice q n c] 24)).alloc (.cells #[.int .i64 kd, .string gp, .slice rp rn rc] 37)).alloc (.cells #[.bool false, .int .i64 0, .slice none 0 0] 24)).alloc (.cells #[.bool false, .slice none 0 0] 47)) = W at B_s B_r B_o B_a HR HRR KW ⊢
  generalize w.heap.size + 1 + 1 + 1 = e14 at B_a ge_a ne_s_a ne_r_a ne_o_a ⊢
  generalize w.heap.size + 1 + 1 = e12 at B_o ge_o ne_s_o ne_r_o ne_o_a ⊢
  generalize w.heap.size + 1 = rb at B_r ge_r ne_s_r ne_r_o ne_r_a ⊢
  have CN := Lib.hid (by have h := may17_c now m l W; rw [hm.out] at h; exact h)
  go_wp2_with fail
  ((with_reducible refine CN.out.mono ?_); rintro e v1 ⟨rfl, kb9⟩)
  replace B_s := Lib.hid (below_block kb9 (lt_of_block B_s.out) B_s.out)
  replace B_r := Lib.hid (below_block kb9 (lt_of_block B_r.out) B_r.out)
  replace B_o := Lib.hid (below_block kb9 (lt_of_block B_o.out) B_o.out)
  replace B_a := Lib.hid (below_block kb9 (lt_of_block B_a.out) B_a.out)
  replace HR := Lib.hid (HR.out.below kb9)
  replace HRR := Lib.hid (HRR.out.below kb9)
  replace KW := Lib.hid (KW.out.trans (kb9.mono KW.out.size))
  clear CN kb9
  have c_r0 : v1.cell? ⟨rb, 0, none⟩ = some (.int .i64 kd) := cell_of_block B_r.out rfl
  have c_r1 : v1.cell? ⟨rb, 1, none⟩ = some (.string gp) := cell_of_block B_r.out rfl
  have c_r2 : v1.cell? ⟨rb, 2, none⟩ = some (.slice rp rn rc) := cell_of_block B_r.out rfl
  have c_s0 : v1.cell? ⟨w.heap.size, 0, none⟩ = some (.bool ex) := cell_of_block B_s.out rfl
  have c_s1 : v1.cell? ⟨w.heap.size, 1, none⟩ = some (.int .i64 tm) := cell_of_block B_s.out rfl
  have c_s2 : v1.cell? ⟨w.heap.size, 2, none⟩ = some (.slice q n c) := cell_of_block B_s.out rfl
  have z_s := (fun j : Nat => free_of_block (j := j) B_s.out)
  have kt : Tw v1 (((v1.setCell ⟨w.heap.size, 0, none⟩ (.bool false)).setCell ⟨w.heap.size, 1, none⟩ (.int .i64 0)).setCell ⟨w.heap.size, 2, none⟩ (.slice none 0 0)) w.heap.size w.heap.size := ((tw_set v1 w.heap.size 0 (.bool false)).trans (tw_set (v1.setCell ⟨w.heap.size, 0, none⟩ (.bool false)) w.heap.size 1 (.int .i64 0))).trans (tw_set ((v1.setCell ⟨w.heap.size, 0, none⟩ (.bool false)).setCell ⟨w.heap.size, 1, none⟩ (.int .i64 0)) w.heap.size 2 (.slice none 0 0))
  replace HR := Lib.hid (rows_tw HR.out B_s.out no_str kt)
  replace HRR := Lib.hid (addrs_tw HRR.out B_s.out no_str kt)
  replace B_r := Lib.hid (blk_tw kt B_r.out (Ne.symm ne_s_r.out))
  replace B_o := Lib.hid (blk_tw kt B_o.out (Ne.symm ne_s_o.out))
  replace B_a := Lib.hid (blk_tw kt B_a.out (Ne.symm ne_s_a.out))
  replace B_s := Lib.hid (show ((((v1.setCell ⟨w.heap.size, 0, none⟩ (.bool false)).setCell ⟨w.heap.size, 1, none⟩ (.int .i64 0)).setCell ⟨w.heap.size, 2, none⟩ (.slice none 0 0))).heap[w.heap.size]? = some (.cells #[.bool false, .int .i64 0, .slice none 0 0] 24 (0, 0)) from (heap_store (j := 2) (v := .slice none 0 0) (heap_store (j := 1) (v := .int .i64 0) (heap_store (j := 0) (v := .bool false) B_s.out))))
  replace KW := Lib.hid (bel_tw KW.out ge_s.out kt)
  clear kt
  go_upto_region 7 with fail
  clear c_r0 c_r1 c_r2
  clear c_s0 c_s1 c_s2 z_s
  generalize (((v1.setCell ⟨w.heap.size, 0, none⟩ (.bool false)).setCell ⟨w.heap.size, 1, none⟩ (.int .i64 0)).setCell ⟨w.heap.size, 2, none⟩ (.slice none 0 0)) = v2 at B_s B_r B_o B_a HR HRR KW ⊢
  clear HR
  have HR := Lib.hid (show RowsAt 2 cellsTm v2 (.slice none 0 0) [] from RowsAt.nil _)
  have c_r0 : v2.cell? ⟨rb, 0, none⟩ = some (.int .i64 kd) := cell_of_block B_r.out rfl
  have c_r1 : v2.cell? ⟨rb, 1, none⟩ = some (.string gp) := cell_of_block B_r.out rfl
  have c_r2 : v2.cell? ⟨rb, 2, none⟩ = some (.slice rp rn rc) := cell_of_block B_r.out rfl
  have CN := Lib.hid (rris_c (.slice rp rn rc) rs v2 hr6.out HRR.out)
  unfold MPost at CN
  go_wp2_with fail
  ((with_reducible refine CN.out.mono ?_); rintro e v3 ⟨ul, rfl, a9, kb9⟩)
  clear c_r0 c_r1 c_r2
  replace B_s := Lib.hid (below_block kb9 (lt_of_block B_s.out) B_s.out)
  replace B_r := Lib.hid (below_block kb9 (lt_of_block B_r.out) B_r.out)
  replace B_o := Lib.hid (below_block kb9 (lt_of_block B_o.out) B_o.out)
  replace B_a := Lib.hid (below_block kb9 (lt_of_block B_a.out) B_a.out)
  replace HR := Lib.hid (HR.out.below kb9)
  replace HRR := Lib.hid (HRR.out.below kb9)
  replace KW := Lib.hid (KW.out.trans (kb9.mono KW.out.size))
  have HL := Lib.hid a9.at
  clear CN kb9 a9
  have c_s0 : v3.cell? ⟨w.heap.size, 0, none⟩ = some (.bool false) := cell_of_block B_s.out rfl
  have c_s1 : v3.cell? ⟨w.heap.size, 1, none⟩ = some (.int .i64 0) := cell_of_block B_s.out rfl
  have c_s2 : v3.cell? ⟨w.heap.size, 2, none⟩ = some (.slice none 0 0) := cell_of_block B_s.out rfl
  have c_r0 : v3.cell? ⟨rb, 0, none⟩ = some (.int .i64 kd) := cell_of_block B_r.out rfl
  have c_r1 : v3.cell? ⟨rb, 1, none⟩ = some (.string gp) := cell_of_block B_r.out rfl
  have c_r2 : v3.cell? ⟨rb, 2, none⟩ = some (.slice rp rn rc) := cell_of_block B_r.out rfl
  have CN := Lib.hid (some17_c false 0 (none) 0 0 [] kd ul (ris rs) (now + m) v3 hq1.out hq2.out (by decide) hrl.out HR.out HL.out)
  rw [HCa.out] at CN
  unfold CgPost at CN
  go_wp2_with fail
  ((with_reducible refine CN.out.mono ?_); rintro e v4 ⟨vs0, va0, rfl, r9, a9, kb9⟩)
  clear c_s0 c_s1 c_s2 c_r0 c_r1 c_r2
  replace B_s := Lib.hid (below_block kb9 (lt_of_block B_s.out) B_s.out)
  replace B_r := Lib.hid (below_block kb9 (lt_of_block B_r.out) B_r.out)
  replace B_o := Lib.hid (below_block kb9 (lt_of_block B_o.out) B_o.out)
  replace B_a := Lib.hid (below_block kb9 (lt_of_block B_a.out) B_a.out)
  replace HR := Lib.hid (HR.out.below kb9)
  replace HRR := Lib.hid (HRR.out.below kb9)
  replace HL := Lib.hid (HL.out.below kb9)
  replace KW := Lib.hid (KW.out.trans (kb9.mono KW.out.size))
  simp only at r9 a9 ⊢
  obtain ⟨oq, oc, hov⟩ := r9.slice
  rw [← HCN.out] at hov
  subst hov
  obtain ⟨aq, an, ac, rfl⟩ := addrs_slice3 a9
  have RO := Lib.hid r9
  have AO := Lib.hid a9
  clear CN kb9 r9 a9
  go_upto_region 9 with fail
  have kA : Below v4.heap.size v4 ((v4.alloc (.cells #[.bool false, .int .i64 ct, .slice oq cn oc] 24)).alloc (.cells #[.bool cg, .slice aq an ac] 47)) := ((Below.refl _ _).alloc (Nat.le_refl _) _).alloc (by simp) _
  have ge_p := Lib.hid (show w.heap.size ≤ v4.heap.size from KW.out.size)
  have ge_k := Lib.hid (show w.heap.size ≤ v4.heap.size + 1 from Nat.le_succ_of_le KW.out.size)
  have ne_p_k := Lib.hid (show v4.heap.size ≠ v4.heap.size + 1 from by omega)
  have ne_s_p := Lib.hid (Nat.ne_of_lt (lt_of_block B_s.out))
  have ne_s_k := Lib.hid (show w.heap.size ≠ v4.heap.size + 1 from Nat.ne_of_lt (Nat.lt_succ_of_lt (lt_of_block B_s.out)))
  have ne_r_p := Lib.hid (Nat.ne_of_lt (lt_of_block B_r.out))
  have ne_r_k := Lib.hid (show rb ≠ v4.heap.size + 1 from Nat.ne_of_lt (Nat.lt_succ_of_lt (lt_of_block B_r.out)))
  have ne_o_p := Lib.hid (Nat.ne_of_lt (lt_of_block B_o.out))
  have ne_o_k := Lib.hid (show e12 ≠ v4.heap.size + 1 from Nat.ne_of_lt (Nat.lt_succ_of_lt (lt_of_block B_o.out)))
  have ne_a_p := Lib.hid (Nat.ne_of_lt (lt_of_block B_a.out))
  have ne_a_k := Lib.hid (show e14 ≠ v4.heap.size + 1 from Nat.ne_of_lt (Nat.lt_succ_of_lt (lt_of_block B_a.out)))
  replace B_s := Lib.hid (below_block kA (lt_of_block B_s.out) B_s.out)
  replace B_r := Lib.hid (below_block kA (lt_of_block B_r.out) B_r.out)
  replace B_o := Lib.hid (below_block kA (lt_of_block B_o.out) B_o.out)
  replace B_a := Lib.hid (below_block kA (lt_of_block B_a.out) B_a.out)
  replace HR := Lib.hid (HR.out.below kA)
  replace HRR := Lib.hid (HRR.out.below kA)
  replace HL := Lib.hid (HL.out.below kA)
  replace RO := Lib.hid (RO.out.below kA)
  replace AO := Lib.hid (AO.out.below kA)
  replace KW := Lib.hid (KW.out.trans (kA.mono KW.out.size))
  have B_p := Lib.hid (show ((v4.alloc (.cells #[.bool false, .int .i64 ct, .slice oq cn oc] 24)).alloc (.cells #[.bool cg, .slice aq an ac] 47)).heap[v4.heap.size]? = some (.cells #[.bool false, .int .i64 ct, .slice oq cn oc] 24) from heap_old (heap_new v4 (.cells #[.bool false, .int .i64 ct, .slice oq cn oc] 24)))
  have B_k := Lib.hid (show ((v4.alloc (.cells #[.bool false, .int .i64 ct, .slice oq cn oc] 24)).alloc (.cells #[.bool cg, .slice aq an ac] 47)).heap[v4.heap.size + 1]? = some (.cells #[.bool cg, .slice aq an ac] 47) from by simpa using heap_new (v4.alloc (.cells #[.bool false, .int .i64 ct, .slice oq cn oc] 24)) (.cells #[.bool cg, .slice aq an ac] 47))
  clear kA
  generalize (v4.alloc (.cells #[.bool false, .int .i64 ct, .slice oq cn oc] 24)).alloc (.cells #[.bool cg, .slice aq an ac] 47) = v5 at B_s B_r B_o B_a B_p B_k HR HRR HL RO AO KW ⊢
  generalize v4.heap.size + 1 = kb at B_k ge_k ne_p_k ne_s_k ne_r_k ne_o_k ne_a_k ⊢
  generalize v4.heap.size = pb at B_p ge_p ne_p_k ne_s_p ne_r_p ne_o_p ne_a_p ⊢
  have c_s0 : v5.cell? ⟨w.heap.size, 0, none⟩ = some (.bool false) := cell_of_block B_s.out rfl
  have c_s1 : v5.cell? ⟨w.heap.size, 1, none⟩ = some (.int .i64 0) := cell_of_block B_s.out rfl
  have c_s2 : v5.cell? ⟨w.heap.size, 2, none⟩ = some (.slice none 0 0) := cell_of_block B_s.out rfl
  have c_p0 : v5.cell? ⟨pb, 0, none⟩ = some (.bool false) := cell_of_block B_p.out rfl
  have c_p1 : v5.cell? ⟨pb, 1, none⟩ = some (.int .i64 ct) := cell_of_block B_p.out rfl
  have c_p2 : v5.cell? ⟨pb, 2, none⟩ = some (.slice oq cn oc) := cell_of_block B_p.out rfl
  have c_k0 : v5.cell? ⟨kb, 0, none⟩ = some (.bool cg) := cell_of_block B_k.out rfl
  have c_k1 : v5.cell? ⟨kb, 1, none⟩ = some (.slice aq an ac) := cell_of_block B_k.out rfl
  have CN := Lib.hid (by have h := asked17_c false ct (.slice oq cn oc) cs cg (.slice aq an ac) ca (now + l) v5 hcl.out hal.out RO.out AO.out; rw [← hT.out, ← hS.out] at h; unfold AkPost at h; exact h)
  go_wp2_with fail
  ((with_reducible refine CN.out.mono ?_); rintro e v6 ⟨vs1, rfl, r9, kb9⟩)
  clear c_p0 c_p1 c_p2 c_k0 c_k1
  clear c_s0 c_s1 c_s2
  replace B_s := Lib.hid (below_block kb9 (lt_of_block B_s.out) B_s.out)
  replace B_r := Lib.hid (below_block kb9 (lt_of_block B_r.out) B_r.out)
  replace B_o := Lib.hid (below_block kb9 (lt_of_block B_o.out) B_o.out)
  replace B_a := Lib.hid (below_block kb9 (lt_of_block B_a.out) B_a.out)
  replace B_p := Lib.hid (below_block kb9 (lt_of_block B_p.out) B_p.out)
  replace B_k := Lib.hid (below_block kb9 (lt_of_block B_k.out) B_k.out)
  replace HR := Lib.hid (HR.out.below kb9)
  replace HRR := Lib.hid (HRR.out.below kb9)
  replace HL := Lib.hid (HL.out.below kb9)
  replace RO := Lib.hid (RO.out.below kb9)
  replace AO := Lib.hid (AO.out.below kb9)
  replace KW := Lib.hid (KW.out.trans (kb9.mono KW.out.size))
  clear RO
  obtain ⟨sq, sc, hov⟩ := r9.slice
  rw [← HSN.out] at hov
  subst hov
  have RO := Lib.hid r9
  clear CN kb9 r9
  have c_p0 : v6.cell? ⟨pb, 0, none⟩ = some (.bool false) := cell_of_block B_p.out rfl
  have c_p1 : v6.cell? ⟨pb, 1, none⟩ = some (.int .i64 ct) := cell_of_block B_p.out rfl
  have c_p2 : v6.cell? ⟨pb, 2, none⟩ = some (.slice oq cn oc) := cell_of_block B_p.out rfl
  have z_p := (fun j : Nat => free_of_block (j := j) B_p.out)
  go_upto_region 14 with fail
  clear c_p0 c_p1 c_p2
  clear z_p
  have kt : Tw v6 (((v6.setCell ⟨pb, 0, none⟩ (.bool false)).setCell ⟨pb, 1, none⟩ (.int .i64 T)).setCell ⟨pb, 2, none⟩ (.slice sq sn sc)) pb pb := ((tw_set v6 pb 0 (.bool false)).trans (tw_set (v6.setCell ⟨pb, 0, none⟩ (.bool false)) pb 1 (.int .i64 T))).trans (tw_set ((v6.setCell ⟨pb, 0, none⟩ (.bool false)).setCell ⟨pb, 1, none⟩ (.int .i64 T)) pb 2 (.slice sq sn sc))
  replace HR := Lib.hid (rows_tw HR.out B_p.out no_str kt)
  replace HRR := Lib.hid (addrs_tw HRR.out B_p.out no_str kt)
  replace HL := Lib.hid (addrs_tw HL.out B_p.out no_str kt)
  replace AO := Lib.hid (addrs_tw AO.out B_p.out no_str kt)
  replace RO := Lib.hid (rows_tw RO.out B_p.out no_str kt)
  replace B_s := Lib.hid (blk_tw kt B_s.out ne_s_p.out)
  replace B_r := Lib.hid (blk_tw kt B_r.out ne_r_p.out)
  replace B_o := Lib.hid (blk_tw kt B_o.out ne_o_p.out)
  replace B_a := Lib.hid (blk_tw kt B_a.out ne_a_p.out)
  replace B_k := Lib.hid (blk_tw kt B_k.out (Ne.symm ne_p_k.out))
  replace B_p := Lib.hid (show ((((v6.setCell ⟨pb, 0, none⟩ (.bool false)).setCell ⟨pb, 1, none⟩ (.int .i64 T)).setCell ⟨pb, 2, none⟩ (.slice sq sn sc))).heap[pb]? = some (.cells #[.bool false, .int .i64 T, .slice sq sn sc] 24 (0, 0)) from (heap_store (j := 2) (v := .slice sq sn sc) (heap_store (j := 1) (v := .int .i64 T) (heap_store (j := 0) (v := .bool false) B_p.out))))
  replace KW := Lib.hid (bel_tw KW.out ge_p.out kt)
  clear kt
  generalize (((v6.setCell ⟨pb, 0, none⟩ (.bool false)).setCell ⟨pb, 1, none⟩ (.int .i64 T)).setCell ⟨pb, 2, none⟩ (.slice sq sn sc)) = v7 at B_s B_r B_o B_a B_p B_k HR HRR HL AO RO KW ⊢
  have c_p0 : v7.cell? ⟨pb, 0, none⟩ = some (.bool false) := cell_of_block B_p.out rfl
  have c_p1 : v7.cell? ⟨pb, 1, none⟩ = some (.int .i64 T) := cell_of_block B_p.out rfl
  have c_p2 : v7.cell? ⟨pb, 2, none⟩ = some (.slice sq sn sc) := cell_of_block B_p.out rfl
  go_upto_region 16 with fail
  have PB := B_p.out
  have hb := B_k.out
  have h8 := B_o.out
  have h9 := B_a.out
  have rf := RO.out
  have af := AO.out
  have kk := KW.out
  have KF := Lib.hid (show ∀ U : World, U.heap[pb]? = some (.cells #[.bool false, .int .i64 T, .slice sq sn sc] 24 (0, 0)) → U.heap[kb]? = some (.cells #[.bool cg, .slice aq an ac] 47 (0, 0)) → (U.cell? ⟨pb, 0, none⟩ = some (.bool false) ∧ U.cell? ⟨pb, 1, none⟩ = some (.int .i64 T) ∧ U.cell? ⟨pb, 2, none⟩ = some (.slice sq sn sc) ∧ U.cell? ⟨kb, 0, none⟩ = some (.bool cg) ∧ U.cell? ⟨kb, 1, none⟩ = some (.slice aq an ac)) from fun U h1 h2 => ⟨cell_of_block h1 rfl, cell_of_block h1 rfl, cell_of_block h1 rfl, cell_of_block h2 rfl, cell_of_block h2 rfl⟩)
  clear B_p B_k B_o B_a B_s B_r RO AO KW HR HRR HL
  refine wp_region_held_drew (S := fun U => U.cell? ⟨pb, 0, none⟩ = some (.bool false) ∧ U.cell? ⟨pb, 1, none⟩ = some (.int .i64 T) ∧ U.cell? ⟨pb, 2, none⟩ = some (.slice sq sn sc) ∧ U.cell? ⟨kb, 0, none⟩ = some (.bool cg) ∧ U.cell? ⟨kb, 1, none⟩ = some (.slice aq an ac)) (by kernel_rfl) (KF.out _ PB hb) (fun hH => ?_)
  replace h8 : v7.drew.heap[e12]? = _ := h8
  replace h9 : v7.drew.heap[e14]? = _ := h9
  replace PB : v7.drew.heap[pb]? = _ := PB
  replace hb : v7.drew.heap[kb]? = _ := hb
  replace rf := rf.below (show Below v7.heap.size v7 v7.drew from (Below.refl _ _).drew)
  replace af := af.below (show Below v7.heap.size v7 v7.drew from (Below.refl _ _).drew)
  replace kk := kk.drew
  generalize v7.drew = Y0 at h8 h9 PB hb rf af kk hH ⊢
  refine wpAnyH_take (i := 0) (oi := { dst := some 103, op := Op.load 24 (Operand.tmp 17), type := 24, pos := "ref.go:197", after := #[], guard := none }) (v := .agg #[.bool false, .int .i64 T, .slice sq sn sc]) rfl (by kernel_rfl) (by kernel_rfl) (by kernel_rfl) (fun _ _ _ h => h) (Or.inl ⟨by kernel_rfl, ?_⟩) hH ?_
  · intro w hSw; (try dsimp only at hSw); go_simp; (try rfl)
  try simp only [Act.put, List.setIfInBounds_toArray, List.set_cons_zero, List.set_cons_succ]
  refine wpAnyH_take (i := 1) (oi := { dst := some 104, op := Op.load 47 (Operand.tmp 18), type := 47, pos := "ref.go:197", after := #[{ on := 3, ground := Ground.gcOnly Departure.lateStores }], guard := none }) (v := .agg #[.bool cg, .slice aq an ac]) rfl (by kernel_rfl) (by kernel_rfl) (by kernel_rfl) (fun _ _ _ h => h) (Or.inl ⟨by kernel_rfl, ?_⟩) hH ?_
  · intro w hSw; (try dsimp only at hSw); go_simp; (try rfl)
  try simp only [Act.put, List.setIfInBounds_toArray, List.set_cons_zero, List.set_cons_succ]
  refine wpAnyH_ready (rs := [2]) (by kernel_rfl) (by simp) ?_
  refine AllReadyH.cons rfl (fun K hK => ?_) AllReadyH.nil
  have z0 := cell_of_block (j := 0) h8 rfl
  have fz0 := free_of_block (j := 0) h8
  have z1 := cell_of_block (j := 1) h8 rfl
  have fz1 := free_of_block (j := 1) h8
  have z2 := cell_of_block (j := 2) h8 rfl
  have fz2 := free_of_block (j := 2) h8
  go_simp
  clear z0 fz0 z1 fz1 z2 fz2
  have kt : Tw Y0 (((Y0.setCell ⟨e12, 0, none⟩ (.bool false)).setCell ⟨e12, 1, none⟩ (.int .i64 T)).setCell ⟨e12, 2, none⟩ (.slice sq sn sc)) e12 e12 := ((tw_set Y0 e12 0 (.bool false)).trans (tw_set (Y0.setCell ⟨e12, 0, none⟩ (.bool false)) e12 1 (.int .i64 T))).trans (tw_set ((Y0.setCell ⟨e12, 0, none⟩ (.bool false)).setCell ⟨e12, 1, none⟩ (.int .i64 T)) e12 2 (.slice sq sn sc))
  replace rf := rows_tw rf h8 no_str kt
  replace af := addrs_tw af h8 no_str kt
  replace kk := bel_tw kk ge_o.out kt
  replace h9 := blk_tw kt h9 ((Ne.symm ne_o_a.out))
  replace PB := blk_tw kt PB ((Ne.symm ne_o_p.out))
  replace hb := blk_tw kt hb ((Ne.symm ne_o_k.out))
  replace h8 : ((((Y0.setCell ⟨e12, 0, none⟩ (.bool false)).setCell ⟨e12, 1, none⟩ (.int .i64 T)).setCell ⟨e12, 2, none⟩ (.slice sq sn sc))).heap[e12]? = some (.cells #[.bool false, .int .i64 T, .slice sq sn sc] 24 (0, 0)) := (heap_store (j := 2) (v := .slice sq sn sc) (heap_store (j := 1) (v := .int .i64 T) (heap_store (j := 0) (v := .bool false) h8)))
  clear kt
  refine hK.out _ _ (KF.out _ PB hb) (fun hH => ?_)
  clear hK K
  try simp only [Act.put, List.setIfInBounds_toArray, List.set_cons_zero, List.set_cons_succ]
  generalize (((Y0.setCell ⟨e12, 0, none⟩ (.bool false)).setCell ⟨e12, 1, none⟩ (.int .i64 T)).setCell ⟨e12, 2, none⟩ (.slice sq sn sc)) = Y1 at h8 h9 PB hb rf af kk hH ⊢
  refine wpAnyH_take (i := 3) (oi := { dst := some 13, op := Op.assign (Operand.const (Value.bool true)), type := 4, pos := "ref.go:197", after := #[{ on := 2, ground := Ground.chain }, { on := 0, ground := Ground.phase }, { on := 1, ground := Ground.textOnly Departure.lateStores }, { on := 2, ground := Ground.phase }], guard := none }) (v := .bool true) rfl (by kernel_rfl) (by kernel_rfl) (by kernel_rfl) (fun _ _ _ h => h) (Or.inl ⟨by kernel_rfl, ?_⟩) hH ?_
  · intro w hSw; (try dsimp only at hSw); go_simp; (try rfl)
  try simp only [Act.put, List.setIfInBounds_toArray, List.set_cons_zero, List.set_cons_succ]
  refine wpAnyH_ready (rs := [4]) (by kernel_rfl) (by simp) ?_
  refine AllReadyH.cons rfl (fun K hK => ?_) AllReadyH.nil
  have z0 := cell_of_block (j := 0) h9 rfl
  have fz0 := free_of_block (j := 0) h9
  have z1 := cell_of_block (j := 1) h9 rfl
  have fz1 := free_of_block (j := 1) h9
  go_simp
  clear z0 fz0 z1 fz1
  have kt : Tw Y1 ((Y1.setCell ⟨e14, 0, none⟩ (.bool cg)).setCell ⟨e14, 1, none⟩ (.slice aq an ac)) e14 e14 := (tw_set Y1 e14 0 (.bool cg)).trans (tw_set (Y1.setCell ⟨e14, 0, none⟩ (.bool cg)) e14 1 (.slice aq an ac))
  replace rf := rows_tw rf h9 no_str2 kt
  replace af := addrs_tw af h9 no_str2 kt
  replace kk := bel_tw kk ge_a.out kt
  replace h8 := blk_tw kt h8 (ne_o_a.out)
  replace PB := blk_tw kt PB ((Ne.symm ne_a_p.out))
  replace hb := blk_tw kt hb ((Ne.symm ne_a_k.out))
  replace h9 : (((Y1.setCell ⟨e14, 0, none⟩ (.bool cg)).setCell ⟨e14, 1, none⟩ (.slice aq an ac))).heap[e14]? = some (.cells #[.bool cg, .slice aq an ac] 47 (0, 0)) := (heap_store (j := 1) (v := .slice aq an ac) (heap_store (j := 0) (v := .bool cg) h9))
  clear kt
  refine hK.out _ _ (KF.out _ PB hb) (fun hH => ?_)
  clear hK K
  try simp only [Act.put, List.setIfInBounds_toArray, List.set_cons_zero, List.set_cons_succ]
  generalize ((Y1.setCell ⟨e14, 0, none⟩ (.bool cg)).setCell ⟨e14, 1, none⟩ (.slice aq an ac)) = Y2 at h8 h9 PB hb rf af kk hH ⊢
  refine wpAnyH_take (i := 5) (oi := { dst := some 15, op := Op.assign (Operand.const (Value.int IntKind.i64 0)), type := 28, pos := "ref.go:197", after := #[{ on := 4, ground := Ground.chain }, { on := 0, ground := Ground.phase }, { on := 1, ground := Ground.phase }, { on := 2, ground := Ground.phase }, { on := 3, ground := Ground.phase }, { on := 4, ground := Ground.phase }], guard := none }) (v := .int .i64 0) rfl (by kernel_rfl) (by kernel_rfl) (by kernel_rfl) (fun _ _ _ h => h) (Or.inl ⟨by kernel_rfl, ?_⟩) hH ?_
  · intro w hSw; (try dsimp only at hSw); go_simp; (try rfl)
  try simp only [Act.put, List.setIfInBounds_toArray, List.set_cons_zero, List.set_cons_succ]
  refine wpAnyH_done (by kernel_rfl) ?_ _
  have HF := Lib.hid (HQ.out _ _ _ rf af kk)
  have y0 := cell_of_block (j := 0) h8 rfl
  have y1 := cell_of_block (j := 1) h8 rfl
  have y2 := cell_of_block (j := 2) h8 rfl
  have y3 := cell_of_block (j := 0) h9 rfl
  have y4 := cell_of_block (j := 1) h9 rfl
  clear hH h8 h9 PB hb rf af kk HQ KF
  go_wp2_with fail
  exact bodyPost_ret (v := .tuple #[.agg #[.bool false, .int .i64 T, .slice sq sn sc], .bool true, .agg #[.bool cg, .slice aq an ac], .int .i64 0]) (by simp [results, Try.results21, go_sem, y0, y1, y2, y3, y4]) rfl HF.out

end Go.Proofs.Ytceilgeefegbmaa
