/-
  'forward.Local'; the document's Local, Flood, Decide. Contracts over the translated program.
-/
import Derived.Test.YtpaehbmhdjnofaaFwC
namespace Go.Proofs.Ytpaehbmhdjnofaa
open Go Go.Maps Go.WideMaps
open Go.RowKit
set_option linter.unusedVariables false
set_option linter.unusedSimpArgs false

def nearA (g : ByteArray) : Bool := (g.extract 0 3).toList == [224, 0, 0]
def nodes (g : ByteArray) : Bool := g.toList == [255, 2, 0, 0, 0, 0, 0, 0, 0, 0, 0, 0, 0, 0, 0, 1]
def locB (g : ByteArray) : Bool := if g.size = 4 then nearA g else nodes g
theorem nodes_four {g : ByteArray} (h : g.size = 4) : nodes g = false := by
  unfold nodes
  rw [beq_eq_false_iff_ne]
  intro e
  have := congrArg List.length e
  rw [Lib.toList_data] at this
  simp at this
  have h2 : g.data.size = 4 := h
  omega

set_option maxHeartbeats 2000000 in
set_option maxRecDepth 100000 in
theorem local_c (g : ByteArray) (w : World) (hg : g.size ≤ 140737488351232) : Calls Try.prog 16 #[.string g] w fun e w' => e = .returned (.bool (locB g)) ∧ w' = w := by
  obtain ⟨r, hr⟩ : ∃ r, r = locB g := ⟨_, rfl⟩
  rw [← hr]
  unfold locB at hr
  by_cases h4 : g.size = 4
  · rw [if_pos h4] at hr
    obtain ⟨q1, q2⟩ := eq_t (show (g.size : Int) = 4 by omega)
    have z1 : (0 : Int) ≤ 3 ∧ (3 : Int) ≤ (g.size : Int) := by omega
    have z2 : 3 ≤ g.size := by omega
    rcases hb : nearA g with _ | _
    · have hn := nodes_four h4
      have hn2 := Lib.hid hn
      unfold nearA at hb
      unfold nodes at hn
      have V := Lib.hid (show r = false by rw [hr]; unfold nearA; exact hb)
      clear hr h4
      go_enter Try.func16, Try.ntmps16
      go_wp2_with fail
      go_ret
      exact ⟨by rw [V.out]; rfl, rfl⟩
    · unfold nearA at hb
      have V := Lib.hid (show r = true by rw [hr]; unfold nearA; exact hb)
      clear hr h4
      go_enter Try.func16, Try.ntmps16
      go_wp2_with fail
      go_ret
      exact ⟨by rw [V.out]; rfl, rfl⟩
  · rw [if_neg h4] at hr
    obtain ⟨q1, q2⟩ := ne_t (show (g.size : Int) ≠ 4 by omega)
    rcases hb : nodes g with _ | _
    · unfold nodes at hb
      have V := Lib.hid (show r = false by rw [hr]; unfold nodes; exact hb)
      clear hr h4
      go_enter Try.func16, Try.ntmps16
      go_wp2_with fail
      go_ret
      exact ⟨by rw [V.out]; rfl, rfl⟩
    · unfold nodes at hb
      have V := Lib.hid (show r = true by rw [hr]; unfold nodes; exact hb)
      clear hr h4
      go_enter Try.func16, Try.ntmps16
      go_wp2_with fail
      go_ret
      exact ⟨by rw [V.out]; rfl, rfl⟩

set_option maxHeartbeats 2000000 in
set_option maxRecDepth 100000 in
theorem rlocal_c (g : ByteArray) (w : World) (hg : g.size ≤ 140737488351232) : Calls Try.prog 17 #[.string g] w fun e w' => e = .returned (.bool (locB g)) ∧ w' = w := by
  obtain ⟨r, hr⟩ : ∃ r, r = locB g := ⟨_, rfl⟩
  rw [← hr]
  unfold locB at hr
  by_cases h4 : g.size = 4
  · rw [if_pos h4] at hr
    obtain ⟨q1, q2⟩ := eq_t (show (g.size : Int) = 4 by omega)
    have z1 : (0 : Int) ≤ 3 ∧ (3 : Int) ≤ (g.size : Int) := by omega
    have z2 : 3 ≤ g.size := by omega
    have hb : ((g.extract 0 3).toList == [224, 0, 0]) = r := by rw [hr]; rfl
    clear hr h4
    go_enter Try.func17, Try.ntmps17
    go_wp2_with fail
    go_ret
    exact ⟨rfl, rfl⟩
  · rw [if_neg h4] at hr
    obtain ⟨q1, q2⟩ := ne_t (show (g.size : Int) ≠ 4 by omega)
    have hb : (g.toList == [255, 2, 0, 0, 0, 0, 0, 0, 0, 0, 0, 0, 0, 0, 0, 1]) = r := by rw [hr]; rfl
    clear hr h4
    go_enter Try.func17, Try.ntmps17
    go_wp2_with fail
    go_ret
    exact ⟨rfl, rfl⟩

theorem keep_int {f : Int → Bool} {l : List Int} {k : Nat} {s : Int} (h : l[k]? = some s) : ((l.take (k + 1)).filter f).map (Value.int .i64) = ((l.take k).filter f).map (Value.int .i64) ++ (if f s then [.int .i64 s] else []) := by
  rw [List.take_succ_eq_append_getElem (List.getElem?_eq_some_iff.1 h).1, (List.getElem?_eq_some_iff.1 h).2, List.filter_append, List.filter_cons]
  split <;> simp
theorem rflo_eq (c : Cs) : (risI c.opn).filter (fun x => decide (x ≠ c.port) && hasB c.mem x) = floL c := by
  refine upI_unique ((risI_up _).filter _) (risI_up _) fun x => ?_
  unfold floL
  rw [List.mem_filter, risI_mem, risI_mem, List.mem_filter]
  unfold floP
  rw [Bool.and_eq_true, Bool.and_eq_true, hasB_iff, hasB_iff]
  exact ⟨fun h => ⟨h.2.2, h.1, h.2.1⟩, fun h => ⟨h.2.1, h.2.2, h.1⟩⟩
theorem rdec_eq (c : Cs) (f : Int → Bool) : (floL c).filter f = risI ((floL c).filter f) :=
  upI_unique ((risI_up _).filter _) (risI_up _) fun x => by rw [risI_mem]

set_option maxHeartbeats 8000000 in
set_option maxRecDepth 100000 in
theorem rflood_c (pt : Int) (vm vo vr vw : Value) (lo ov rc kn fl : Bool) (M O R N : List Int) (w : World) (h : CasOk w vm vo vr vw M O R N) (p1 : -9223372036854775808 ≤ pt) (p2 : pt ≤ 9223372036854775807) :
    Calls Try.prog 14 #[.agg #[.int .i64 pt, vm, vo, vr, vw, .bool lo, .bool ov, .bool rc, .bool kn, .bool fl]] w (IPost w (floL ⟨pt, M, O, R, N, lo, ov, rc, kn, fl⟩)) := by
  obtain ⟨pm, cm, rfl⟩ := h.m.slice
  obtain ⟨po, co, rfl⟩ := h.o.slice
  obtain ⟨pr, cr, rfl⟩ := h.r.slice
  obtain ⟨pw, cw, rfl⟩ := h.n.slice
  obtain ⟨nm, hnm⟩ : ∃ nm, nm = M.length := ⟨_, rfl⟩
  obtain ⟨no, hno⟩ : ∃ no, no = O.length := ⟨_, rfl⟩
  obtain ⟨nr, hnr⟩ : ∃ nr, nr = R.length := ⟨_, rfl⟩
  obtain ⟨nw, hnw⟩ : ∃ nw, nw = N.length := ⟨_, rfl⟩
  rw [← hnm, ← hno, ← hnr, ← hnw] at h ⊢
  have HB := Lib.hid (heap_new w (.cells #[.int .i64 pt, .slice pm nm cm, .slice po no co, .slice pr nr cr, .slice pw nw cw, .bool lo, .bool ov, .bool rc, .bool kn, .bool fl] 24))
  have K0 := Lib.hid (show Below w.heap.size w (w.alloc (.cells #[.int .i64 pt, .slice pm nm cm, .slice po no co, .slice pr nr cr, .slice pw nw cw, .bool lo, .bool ov, .bool rc, .bool kn, .bool fl] 24)) from (Below.refl _ _).alloc (Nat.le_refl _) _)
  have HC := Lib.hid h
  clear hnm hno hnr hnw h
  obtain ⟨f, hf⟩ : ∃ f : Int → Bool, f = fun x => decide (x ≠ pt) && hasB M x := ⟨_, rfl⟩
  have HFE := Lib.hid (show ∀ x, f x = (decide (x ≠ pt) && hasB M x) from fun x => by rw [hf])
  have HQ := Lib.hid (show ∀ u U, IntsAt U u ((risI O).filter f) → Below w.heap.size w U → IPost w (floL ⟨pt, M, O, R, N, lo, ov, rc, kn, fl⟩) (.returned u) U from fun u U h1 h2 => ⟨u, rfl, by rw [hf, rflo_eq ⟨pt, M, O, R, N, lo, ov, rc, kn, fl⟩] at h1; exact h1, h2⟩)
  generalize IPost w (floL ⟨pt, M, O, R, N, lo, ov, rc, kn, fl⟩) = Q at HQ ⊢
  have HLL := Lib.hid (show (risI O).length ≤ 1000 from Nat.le_trans (risI_len _) HC.out.lo)
  clear hf
  go_enter Try.func14, Try.ntmps14
  go_upto_region 1 with fail
  generalize w.alloc (.cells #[.int .i64 pt, .slice pm nm cm, .slice po no co, .slice pr nr cr, .slice pw nw cw, .bool lo, .bool ov, .bool rc, .bool kn, .bool fl] 24) = W at HB K0 ⊢
  have x2 : W.cell? ⟨w.heap.size, 2, none⟩ = some (.slice po no co) := cell_of_block HB.out rfl
  have SC := Lib.hid (rsorted_c (.slice po no co) O W (by have := HC.out.lo; omega) (HC.out.o.below K0.out))
  unfold IPost at SC
  generalize risI O = L at SC HQ HLL
  go_wp2_with fail
  ((with_reducible refine SC.out.mono ?_); rintro e w1 ⟨u1, rfl, a1, k1⟩)
  have HA1 := Lib.hid a1
  have HB1 := Lib.hid (below_block k1 (lt_of_block HB.out) HB.out)
  have K1 := Lib.hid (K0.out.trans (k1.mono K0.out.size))
  clear a1 k1 SC x2 HB K0
  obtain ⟨pl, cl, b1, o1, rfl, hp1, hc1⟩ := HA1.out
  have HP := Lib.hid hp1
  have HCL := Lib.hid hc1
  obtain ⟨n, hn⟩ : ∃ n, n = L.length := ⟨_, rfl⟩
  have HNN := Lib.hid hn
  rw [← hn] at HA1 ⊢
  have hnl : n ≤ 1000 := by rw [hn]; exact HLL.out
  clear hp1 hc1 hn
  obtain ⟨i0, hi0, hz0, hz1, hz2⟩ := info_parts info_FI
  go_wp2_with fail
  go_loopw [3, 5] (fun s i wr => ∃ (k m : Nat), k ≤ n ∧ m ≤ k ∧ i = .int .i64 k ∧ Hid (wr.ownsRow w1.heap.size 3 1 s m (((L.take k).filter f).map (Value.int .i64))) ∧ Hid (Below w1.heap.size w1 wr)) (fun _ i _ => n - (intOf i).toNat)
  case atStart => exact ⟨0, 0, Nat.zero_le _, Nat.le_refl _, rfl, Lib.hid (World.ownsRow_nil _ _ _ _), Lib.hid (Below.refl _ _)⟩
  case round =>
    obtain ⟨k, m, hk, hmk, rfl, HO, KB⟩ := hrel
    by_cases hlt : k < n
    · obtain ⟨x, hx⟩ : ∃ x, L[k]? = some x := ⟨_, List.getElem?_eq_getElem (by rw [← HNN.out]; exact hlt)⟩
      have hne : L ≠ [] := by rintro rfl; simp at hx
      obtain rfl := HP.out hne
      have HTK := Lib.hid (keep_int (f := f) hx)
      have x0 : wr.cell? ⟨b1, o1 + k, none⟩ = some (.int .i64 x) := icell_below KB.out (HCL.out k x hx)
      have HBr := Lib.hid (below_block KB.out (lt_of_block HB1.out) HB1.out)
      have HX := Lib.hid (show ∀ U, Below wr.heap.size wr U → U.cell? ⟨b1, o1 + k, none⟩ = some (.int .i64 x) from fun U hU => icell_below hU x0)
      have y0 : wr.cell? ⟨w.heap.size, 0, none⟩ = some (.int .i64 pt) := cell_of_block HBr.out rfl
      have y1 : wr.cell? ⟨w.heap.size, 1, none⟩ = some (.slice pm nm cm) := cell_of_block HBr.out rfl
      have d1 : decide (k < n) = true := decide_eq_true hlt
      have d2 : decide ((k : Int) < (n : Int)) = true := decide_eq_true (by omega)
      have d4 : decide (0 ≤ (k : Int)) = true := decide_eq_true (by omega)
      have d5 : (0 : Int) ≤ (k : Int) := by omega
      have d6 : (k : Int) < (n : Int) := by omega
      have HFX := Lib.hid (HFE.out x)
      have HH := Lib.hid (fun q => (rhas_c (.slice pm nm cm) M x (wr.drewN q) (by have := HC.out.lm; omega) ((HC.out.m.below K1.out).below (below_drewN KB.out q))).mono (fun e w9 h9 => And.intro h9.1 h9.2.symm))
      generalize hasB M x = hmx at HH HFX
      clear hx hne HBr
      by_cases hq : x = pt
      · obtain ⟨q1, q2⟩ := eq_t hq
        have hd := decide_eq_false (p := x ≠ pt) (by simp [hq])
        clear hq
        have hf : f x = false := HFX.out.trans (by rw [hd]; rfl)
        have HT2 := Lib.hid (show ((L.take (k + 1)).filter f).map (Value.int .i64) = ((L.take k).filter f).map (Value.int .i64) by rw [HTK.out, hf]; simp)
        clear HTK HFX hf
        go_wp2_with fail
        go_quiet (((go_at_call 18; exact Calls.quiet_of_same (HH.out _))))
        have HO3 := Lib.hid (iowns_below HO.out (show Below wr.heap.size wr (wr.drewN nq) from below_drewN (Below.refl _ _) _))
        have KB3 := Lib.hid (show Below w1.heap.size w1 (wr.drewN nq) from below_drewN KB.out _)
        clear HO KB x0 HX y0 y1
        generalize wr.drewN nq = w3 at HO3 KB3 ⊢
        go_wp2_with fail
        go_roundw
        case rel => exact ⟨k + 1, m, by omega, by omega, by go_num, Lib.hid (by rw [HT2.out]; exact HO3.out), KB3⟩
        case measure => simp [intOf]; omega
      · obtain ⟨q1, q2⟩ := ne_t hq
        have hd := decide_eq_true (p := x ≠ pt) hq
        clear hq
        rcases Bool.eq_false_or_eq_true hmx with rfl | rfl
        · have hf : f x = true := HFX.out.trans (by rw [hd]; rfl)
          have HT2 := Lib.hid (show ((L.take (k + 1)).filter f).map (Value.int .i64) = ((L.take k).filter f).map (Value.int .i64) ++ [.int .i64 x] by rw [HTK.out, hf]; rfl)
          clear HTK HFX hf
          go_wp2_with fail
          go_quiet (((go_at_call 18; exact Calls.quiet_of_same (HH.out _))))
          have HO3 := Lib.hid (iowns_below HO.out (show Below wr.heap.size wr (wr.drewN nq) from below_drewN (Below.refl _ _) _))
          have KB3 := Lib.hid (show Below w1.heap.size w1 (wr.drewN nq) from below_drewN KB.out _)
          have x3 := HX.out (wr.drewN nq) (below_drewN (Below.refl _ _) _)
          clear HO KB x0 HX y0 y1
          generalize wr.drewN nq = w3 at HO3 KB3 x3 ⊢
          go_upto_region 7 with fail
          have NEW := Lib.hid (int_fresh w3 [.int .i64 x] 3)
          have HO5 := Lib.hid (HO3.out.alloc (.cells #[.int .i64 x] 3))
          have K5 := Lib.hid (KB3.out.alloc KB3.out.size (.cells #[.int .i64 x] 3))
          have n11 := Lib.hid (show m + 1 ≤ maxLen by unfold maxLen; omega)
          have n22 := Lib.hid (show (m + 1) * 8 ≤ 140737488355328 by omega)
          have n33 := Lib.hid (show w1.heap.size ≤ (w3.alloc (.cells #[.int .i64 x] 3)).heap.size from K5.out.size)
          have oc := Lib.hid (one_i64 x)
          clear HO3 KB3
          go_wp2_with (at_builtin; refine wpList_append_own _ rfl _ _ 22 rfl w1.heap.size 3 i0 (.int .i64 0) 1 8 Try.underlying22 hi0 hz0 hz1 hz2 rfl (by decide) _ _ _ rfl HO5.out ⟨w3.heap.size, 0, none⟩ 1 1 [.int .i64 x] rfl rfl NEW.out oc.out n11.out n22.out n33.out ?_)
          intro v' w6 hown' hgrow _
          have HO6 := Lib.hid hown'
          have K6 := Lib.hid (K5.out.grown hgrow n33.out (fun j hj => (HO5.out.lt j hj).1))
          clear hown' hgrow HO5 K5 NEW
          go_wp2_with fail
          go_roundw
          case rel => exact ⟨k + 1, m + 1, by omega, by omega, by go_num, Lib.hid (by rw [HT2.out]; exact HO6.out), K6⟩
          case measure => simp [intOf]; omega
        · have hf : f x = false := HFX.out.trans (by rw [hd]; rfl)
          have HT2 := Lib.hid (show ((L.take (k + 1)).filter f).map (Value.int .i64) = ((L.take k).filter f).map (Value.int .i64) by rw [HTK.out, hf]; simp)
          clear HTK HFX hf
          go_wp2_with fail
          go_quiet (((go_at_call 18; exact Calls.quiet_of_same (HH.out _))))
          have HO3 := Lib.hid (iowns_below HO.out (show Below wr.heap.size wr (wr.drewN nq) from below_drewN (Below.refl _ _) _))
          have KB3 := Lib.hid (show Below w1.heap.size w1 (wr.drewN nq) from below_drewN KB.out _)
          clear HO KB x0 HX y0 y1
          generalize wr.drewN nq = w3 at HO3 KB3 ⊢
          go_wp2_with fail
          go_roundw
          case rel => exact ⟨k + 1, m, by omega, by omega, by go_num, Lib.hid (by rw [HT2.out]; exact HO3.out), KB3⟩
          case measure => simp [intOf]; omega
    · obtain rfl : k = n := by omega
      rw [List.take_of_length_le (by rw [HNN.out]; exact Nat.le_refl _)] at HO
      have HF := Lib.hid (HQ.out _ wr (IntsAt.of_owns HO.out) (K1.out.trans (KB.out.mono K1.out.size)))
      clear hlt HO HQ
      go_wp2_with fail
      exact HF.out

end Go.Proofs.Ytpaehbmhdjnofaa
