/-
  'group.Expire'. A contract over the translated program.
-/
import Derived.Test.YthpafojeadbjlaaGrA
import Derived.Test.YthpafojeadbjlaaGrK
import Derived.Deep.RegionHeld3
import Derived.Deep.CutRange
namespace Go.Proofs.Ythpafojeadbjlaa
open Go.RowKit
set_option linter.unusedVariables false
set_option linter.unusedSimpArgs false

theorem info_Tm : (Try.prog.info? 65).map (fun i => (i.zero, i.size, i.bytes)) = some (some (.agg #[.string ByteArray.empty, .int .i64 0]), 2, 24) := by kernel_rfl
theorem one_tm (s : ByteArray) (a : Int) : ∀ u ∈ [Value.string s, .int .i64 a], u.oneCell' = true := by intro u hu; simp at hu; rcases hu with rfl | rfl <;> rfl
/-- A state as an answer. -/
def StPost (s : St) (is : Bool) (w : World) (e : Ending) (w' : World) : Prop := ∃ vs, e = .returned (.tuple #[.agg #[.bool s.ex, .int .i64 s.tm, vs], .bool is]) ∧ RowsAt 2 cellsTm w' vs s.src ∧ Below w.heap.size w w'
theorem pos_of {s : St} {now : Int} (h : okS s = true) (he : exE s now = false) : ∀ x ∈ s.src, now < x.2 → 0 < x.2 := by
  intro x hx hn
  obtain ⟨-, h2, h3, h4, -⟩ := (ok_iff s).1 h
  have h5 := h4 x hx
  unfold okX at h5
  unfold exE at he
  rcases Bool.eq_false_or_eq_true s.ex with e | e
  · rw [e] at he h3
    simp at he h3 h5
    omega
  · rw [e] at h5
    simp at h5
    omega
theorem exp_yes {s : St} {now : Int} (h : okS s = true) : expS s now = (stE s now, anyS (stE s now)) := by unfold expS; rw [if_pos h]
theorem exp_no {s : St} {now : Int} (h : okS s = false) : expS s now = (noS, false) := by unfold expS; rw [if_neg (by rw [h]; decide)]
theorem chk_yes {s : St} (h : okS s = true) : chkS s = 0 := by unfold chkS; rw [if_pos h]
theorem chk_bad {s : St} (h : okS s = false) : chkS s = 3 := by unfold chkS; rw [if_neg (by rw [h]; decide)]

set_option maxHeartbeats 8000000 in
set_option maxRecDepth 100000 in
theorem gexp_c (ex : Bool) (tm : Int) (v : Value) (l : List Tm) (now : Int) (w : World) (hl : l.length ≤ 1000000) (h : RowsAt 2 cellsTm w v l) : Calls Try.prog 29 #[.agg #[.bool ex, .int .i64 tm, v], .int .i64 now] w (StPost (expS ⟨ex, tm, l⟩ now).1 (expS ⟨ex, tm, l⟩ now).2 w) := by
  have CK := Lib.hid fun (U : World) (kz : Below w.heap.size w U) => gchk_c ex tm v l U hl (h.below kz)
  obtain ⟨p, cap, b, off, rfl, hp, hc⟩ := h
  have HP := Lib.hid hp
  have HC := Lib.hid hc
  obtain ⟨i0, hi0, hz0, hz1, hz2⟩ := info_parts info_Tm
  obtain ⟨n, hn⟩ : ∃ n, n = l.length := ⟨_, rfl⟩
  have HNN := Lib.hid hn
  have hB2 := Lib.hid (show Below w.heap.size w ((w.alloc (.cells #[.bool ex, .int .i64 tm, .slice p n cap] 32)).alloc (.cells #[.bool false, .int .i64 0, .slice none 0 0] 32)) from ((Below.refl _ w).alloc (Nat.le_refl _) _).alloc (by simp) _)
  have HSB0 := Lib.hid (show ((w.alloc (.cells #[.bool ex, .int .i64 tm, .slice p n cap] 32)).alloc (.cells #[.bool false, .int .i64 0, .slice none 0 0] 32)).heap[w.heap.size]? = some (.cells #[.bool ex, .int .i64 tm, .slice p n cap] 32 (0, 0)) from heap_old (heap_new w _))
  have HRB0 := Lib.hid (show ((w.alloc (.cells #[.bool ex, .int .i64 tm, .slice p n cap] 32)).alloc (.cells #[.bool false, .int .i64 0, .slice none 0 0] 32)).heap[w.heap.size + 1]? = some (.cells #[.bool false, .int .i64 0, .slice none 0 0] 32 (0, 0)) from by have h := heap_new (w.alloc (.cells #[.bool ex, .int .i64 tm, .slice p n cap] 32)) (.cells #[.bool false, .int .i64 0, .slice none 0 0] 32); simpa using h)
  rw [← hn] at hl CK
  rw [← hn]
  clear hp hc hn
  rcases Bool.eq_false_or_eq_true (okS ⟨ex, tm, l⟩) with hok | hok
  · have HE := Lib.hid (exp_yes (now := now) hok)
    have HPOS := Lib.hid (pos_of (now := now) hok)
    have HN60 := Lib.hid (show n ≤ 60 by rw [HNN.out]; exact ((ok_iff _).1 hok).1)
    have HST := Lib.hid (show stE ⟨ex, tm, l⟩ now = ⟨exE ⟨ex, tm, l⟩ now, if exE ⟨ex, tm, l⟩ now then tm else 0, l.flatMap (keepX (exE ⟨ex, tm, l⟩ now) now)⟩ from rfl)
    have HEE := Lib.hid (show exE ⟨ex, tm, l⟩ now = (ex && decide (now < tm)) from rfl)
    rw [chk_yes hok] at CK
    rw [HE.out, HST.out]
    have HANY := Lib.hid (show anyS ⟨exE ⟨ex, tm, l⟩ now, if exE ⟨ex, tm, l⟩ now then tm else 0, l.flatMap (keepX (exE ⟨ex, tm, l⟩ now) now)⟩ = (exE ⟨ex, tm, l⟩ now || decide (0 < (l.flatMap (keepX (exE ⟨ex, tm, l⟩ now) now)).length)) from rfl)
    simp only
    rw [HANY.out]
    clear HE HST HANY hok
    generalize exE ⟨ex, tm, l⟩ now = ev at HEE HPOS ⊢
    obtain ⟨fl, hfl⟩ : ∃ fl, fl = l.flatMap (keepX ev now) := ⟨_, rfl⟩
    obtain ⟨tv, htv⟩ : ∃ tv : Int, tv = if ev then tm else 0 := ⟨_, rfl⟩
    rw [← hfl, ← htv]
    have HFL := Lib.hid hfl
    have HTV := Lib.hid htv
    have HFIN := Lib.hid (fun (sv : Value) (w' : World) (hr : RowsAt 2 cellsTm w' sv fl) (hk : Below w.heap.size w w') => show StPost ⟨ev, tv, fl⟩ (ev || decide (0 < fl.length)) w (.returned (.tuple #[.agg #[.bool ev, .int .i64 tv, sv], .bool (ev || decide (0 < fl.length))])) w' from ⟨sv, rfl, hr, hk⟩)
    generalize StPost ⟨ev, tv, fl⟩ (ev || decide (0 < fl.length)) w = Q at HFIN ⊢
    clear hfl htv
    go_enter Try.func29, Try.ntmps29
    go_upto_region 1 with fail
    generalize (w.alloc (.cells #[.bool ex, .int .i64 tm, .slice p n cap] 32)).alloc (.cells #[.bool false, .int .i64 0, .slice none 0 0] 32) = W2 at hB2 HSB0 HRB0 ⊢
    generalize hrb : w.heap.size + 1 = rb at HRB0 ⊢
    have HGR := Lib.hid (show w.heap.size ≤ rb by omega)
    obtain ⟨sb, hsb⟩ : ∃ sb, sb = w.heap.size := ⟨_, rfl⟩
    have HNRS := Lib.hid (show rb ≠ sb by omega)
    rw [← hsb] at HSB0 ⊢
    have s0 : W2.cell? ⟨sb, 0, none⟩ = some (.bool ex) := cell_of_block HSB0.out rfl
    have s1 : W2.cell? ⟨sb, 1, none⟩ = some (.int .i64 tm) := cell_of_block HSB0.out rfl
    have s2 : W2.cell? ⟨sb, 2, none⟩ = some (.slice p n cap) := cell_of_block HSB0.out rfl
    clear hrb hsb
    go_wp2_with fail
    ((with_reducible refine (CK.out _ hB2.out).mono ?_); rintro e w3 ⟨rfl, k3⟩)
    have hB3 := Lib.hid (hB2.out.trans (k3.mono hB2.out.size))
    have HSB := Lib.hid (below_block k3 (lt_of_block HSB0.out) HSB0.out)
    have HRB := Lib.hid (below_block k3 (lt_of_block HRB0.out) HRB0.out)
    clear s0 s1 s2 k3 hB2 HSB0 HRB0 CK
    go_upto_region 4 with fail
    have HLB := Lib.hid (heap_new w3 (.cells #[.bool false, .int .i64 0, .slice none 0 0] 32))
    have HNLS := Lib.hid (show w3.heap.size ≠ sb from fun e => by have := lt_of_block HSB.out; omega)
    have HNLR := Lib.hid (show w3.heap.size ≠ rb from fun e => by have := lt_of_block HRB.out; omega)
    have HGL := Lib.hid (show w.heap.size ≤ w3.heap.size from hB3.out.size)
    replace HSB := Lib.hid (heap_old (p := .cells #[.bool false, .int .i64 0, .slice none 0 0] 32) HSB.out)
    replace HRB := Lib.hid (heap_old (p := .cells #[.bool false, .int .i64 0, .slice none 0 0] 32) HRB.out)
    have HB4 := Lib.hid (hB3.out.alloc hB3.out.size (.cells #[.bool false, .int .i64 0, .slice none 0 0] 32))
    clear hB3
    generalize w3.alloc (.cells #[.bool false, .int .i64 0, .slice none 0 0] 32) = W4 at HLB HSB HRB HB4 ⊢
    generalize w3.heap.size = lb at HLB HNLS HNLR HGL ⊢
    go_cut [20] from 13 to 21 (fun s20 wx => s20 = .bool ev ∧ W4 = wx)
    case first =>
      have s0 : W4.cell? ⟨sb, 0, none⟩ = some (.bool ex) := cell_of_block HSB.out rfl
      have s1 : W4.cell? ⟨sb, 1, none⟩ = some (.int .i64 tm) := cell_of_block HSB.out rfl
      rcases Bool.eq_false_or_eq_true ex with rfl | rfl
      · by_cases hlt : now < tm
        · have d1 : decide (now < tm) = true := decide_eq_true hlt
          have E := Lib.hid (show ev = true by rw [HEE.out, d1]; rfl)
          clear hlt
          go_wp2_with fail
          go_meet
          exact ⟨by rw [E.out], rfl⟩
        · have d1 : decide (now < tm) = false := decide_eq_false hlt
          have E := Lib.hid (show ev = false by rw [HEE.out, d1]; rfl)
          clear hlt
          go_wp2_with fail
          go_meet
          exact ⟨by rw [E.out], rfl⟩
      · have E := Lib.hid (show ev = false by rw [HEE.out]; rfl)
        go_wp2_with fail
        go_meet
        exact ⟨by rw [E.out], rfl⟩
    case rest =>
    obtain ⟨rfl, rfl⟩ := hcut
    go_upto_if 20 with fail
    go_cut [] from 13 to 25 (fun wx => Hid (wx.heap[lb]? = some (.cells #[.bool ev, .int .i64 tv, .slice none 0 0] 32 (0, 0))) ∧ Hid (wx.heap[sb]? = some (.cells #[.bool ex, .int .i64 tm, .slice p n cap] 32 (0, 0))) ∧ Hid (wx.heap[rb]? = some (.cells #[.bool false, .int .i64 0, .slice none 0 0] 32 (0, 0))) ∧ Hid (Below w.heap.size w wx))
    case first =>
      rcases Bool.eq_false_or_eq_true ev with rfl | rfl
      · have T : tv = tm := HTV.out
        have s1 : W4.cell? ⟨sb, 1, none⟩ = some (.int .i64 tm) := cell_of_block HSB.out rfl
        have f0 := free_of_block (j := 0) HLB.out
        have f1 := free_of_block (j := 1) HLB.out
        have l0 := cell_of_block (j := 0) HLB.out rfl
        have l1 := cell_of_block (j := 1) HLB.out rfl
        have F := Lib.hid (show Hid (((W4.setCell ⟨lb, 0, none⟩ (.bool true)).setCell ⟨lb, 1, none⟩ (.int .i64 tm)).heap[lb]? = some (.cells #[.bool true, .int .i64 tv, .slice none 0 0] 32 (0, 0))) ∧ Hid (((W4.setCell ⟨lb, 0, none⟩ (.bool true)).setCell ⟨lb, 1, none⟩ (.int .i64 tm)).heap[sb]? = some (.cells #[.bool ex, .int .i64 tm, .slice p n cap] 32 (0, 0))) ∧ Hid (((W4.setCell ⟨lb, 0, none⟩ (.bool true)).setCell ⟨lb, 1, none⟩ (.int .i64 tm)).heap[rb]? = some (.cells #[.bool false, .int .i64 0, .slice none 0 0] 32 (0, 0))) ∧ Hid (Below w.heap.size w ((W4.setCell ⟨lb, 0, none⟩ (.bool true)).setCell ⟨lb, 1, none⟩ (.int .i64 tm))) from
          ⟨Lib.hid (by rw [T]; exact heap_store (j := 1) (v := .int .i64 tm) (heap_store (j := 0) (v := .bool true) HLB.out)), Lib.hid (heap_store_other (heap_store_other HSB.out (Ne.symm HNLS.out)) (Ne.symm HNLS.out)), Lib.hid (heap_store_other (heap_store_other HRB.out (Ne.symm HNLR.out)) (Ne.symm HNLR.out)), Lib.hid ((HB4.out.setCell (p := ⟨lb, 0, none⟩) HGL.out (.bool true)).setCell (p := ⟨lb, 1, none⟩) HGL.out (.int .i64 tm))⟩)
        clear T
        go_wp2_with fail
        go_region
        all_goals (go_wp2_with fail; go_meet; exact ⟨F.out.1, F.out.2.1, F.out.2.2.1, Lib.hid F.out.2.2.2.out.drew⟩)
      · have T : tv = 0 := HTV.out
        go_wp2_with fail
        go_meet
        exact ⟨by rw [T]; exact HLB, HSB, HRB, HB4⟩
    case rest =>
    obtain ⟨HLB1, HSB1, HRB1, HB5⟩ := hcut
    have s2 : wc.cell? ⟨sb, 2, none⟩ = some (.slice p n cap) := cell_of_block HSB1.out rfl
    clear HLB HSB HRB HB4
    go_wp2_with fail
    go_loopw [8, 28] (fun _ i wr => ∃ (k c : Nat) (sv : Value), k ≤ n ∧ c ≤ k ∧ i = .int .i64 k ∧ Hid (wr.ownsRow w.heap.size 65 2 sv c (((l.take k).flatMap (keepX ev now)).flatMap cellsTm)) ∧ Hid (wr.heap[lb]? = some (.cells #[.bool ev, .int .i64 tv, sv] 32 (0, 0))) ∧ Hid (wr.heap[rb]? = some (.cells #[.bool false, .int .i64 0, .slice none 0 0] 32 (0, 0))) ∧ Hid (Below w.heap.size w wr)) (fun _ i _ => n - (intOf i).toNat)
    case atStart => exact ⟨0, 0, _, Nat.zero_le _, Nat.le_refl _, rfl, Lib.hid (World.ownsRow_nil _ _ _ _), HLB1, HRB1, HB5⟩
    case round =>
      obtain ⟨k, c, sv, hk, hck, rfl, HO, HL, HR, KB⟩ := hrel
      clear s2 HLB1 HRB1 HB5 HSB1
      obtain ⟨sp, sc, rfl⟩ := g_slice HO.out
      by_cases hlt : k < n
      · obtain ⟨x, hx⟩ : ∃ x, l[k]? = some x := ⟨_, List.getElem?_eq_getElem (by rw [← HNN.out]; exact hlt)⟩
        have hne : l ≠ [] := by rintro rfl; simp at hx
        obtain rfl := HP.out hne
        have HTK := Lib.hid (keep_take (ex := ev) (now := now) hx)
        have HPX := Lib.hid (fun h1 h2 => HPOS.out h1 x (List.mem_of_getElem? hx) h2)
        have x0 : wr.cell? ⟨b, off + k * 2, none⟩ = some (.string x.1) := gcell_below KB.out (HC.out k _ hx 0 _ rfl)
        have x1 : wr.cell? ⟨b, off + k * 2 + 1, none⟩ = some (.int .i64 x.2) := gcell_below KB.out (HC.out k _ hx 1 _ rfl)
        have HKX := Lib.hid (show keepX ev now x = if now < x.2 then [(x.1, x.2)] else if ev then [(x.1, 0)] else [] from rfl)
        generalize keepX ev now x = kx at HTK HKX
        generalize x.1 = xs at x0 HKX
        generalize x.2 = xa at x1 HKX HPX
        have d1 : decide (k < n) = true := decide_eq_true hlt
        have d2 : decide ((k : Int) < (n : Int)) = true := decide_eq_true (by omega)
        have d3 : decide (n ≤ k) = false := decide_eq_false (by omega)
        have d4 : decide (0 ≤ (k : Int)) = true := decide_eq_true (by omega)
        clear hx hne
        go_upto_region 9 with fail
        by_cases hq : now < xa
        · have q1 : decide (xa ≤ now) = false := decide_eq_false (by omega)
          have HK1 := Lib.hid (show kx = [(xs, xa)] by rw [HKX.out, if_pos hq])
          go_upto_region 11 with fail
          clear q1
          rcases Bool.eq_false_or_eq_true ev with rfl | rfl
          · clear hq HKX HPX
            have HE1 := Lib.hid (heap_new wr (.cells #[.string xs, .int .i64 xa] 65))
            have HO1 := Lib.hid (HO.out.alloc (.cells #[.string xs, .int .i64 xa] 65))
            have KB1 := Lib.hid (KB.out.alloc KB.out.size (.cells #[.string xs, .int .i64 xa] 65))
            have HL1 := Lib.hid (heap_old (p := .cells #[.string xs, .int .i64 xa] 65) HL.out)
            have HR1 := Lib.hid (heap_old (p := .cells #[.string xs, .int .i64 xa] 65) HR.out)
            clear x0 x1 HO KB HL HR
            generalize wr.alloc (.cells #[.string xs, .int .i64 xa] 65) = W1 at HE1 HO1 KB1 HL1 HR1 ⊢
            generalize wr.heap.size = eb at HE1 ⊢
            have l0 := cell_of_block (j := 0) HL1.out rfl
            have e1 := cell_of_block (j := 1) HE1.out rfl
            go_upto_region 12 with fail
            have l2 := cell_of_block (j := 2) HL1.out rfl
            have e0 := cell_of_block (j := 0) HE1.out rfl
            have NEW := Lib.hid (g_new W1 [.string xs, .int .i64 xa] 65)
            have HO5 := Lib.hid (HO1.out.alloc (.cells #[.string xs, .int .i64 xa] 65))
            have K5 := Lib.hid (KB1.out.alloc KB1.out.size (.cells #[.string xs, .int .i64 xa] 65))
            have HL5 := Lib.hid (heap_old (p := .cells #[.string xs, .int .i64 xa] 65) HL1.out)
            have HR5 := Lib.hid (heap_old (p := .cells #[.string xs, .int .i64 xa] 65) HR1.out)
            have n11 := Lib.hid (show c + 1 ≤ maxLen by unfold maxLen; omega)
            have n22 := Lib.hid (show (c + 1) * 24 ≤ 140737488355328 by omega)
            have n33 := Lib.hid (show w.heap.size ≤ (W1.alloc (.cells #[.string xs, .int .i64 xa] 65)).heap.size from K5.out.size)
            have oc := Lib.hid (one_tm xs xa)
            clear HO1 KB1 HE1 HL1 HR1
            go_wp2_with (at_builtin; refine wpList_append_own _ rfl _ _ 30 rfl w.heap.size 65 i0 (.agg #[.string ByteArray.empty, .int .i64 0]) 2 24 Try.underlying30 hi0 hz0 hz1 hz2 rfl (by decide) _ _ _ rfl HO5.out ⟨W1.heap.size, 0, none⟩ 1 1 [.string xs, .int .i64 xa] rfl rfl NEW.out oc.out n11.out n22.out n33.out ?_)
            intro v' w6 hown' hgrow _
            have HO6 := Lib.hid hown'
            have K6 := Lib.hid (K5.out.grown hgrow n33.out (fun j hj => (HO5.out.lt j hj).1))
            have HL6 := Lib.hid (g_keeps HO5.out hgrow HL5.out (by decide))
            have HR6 := Lib.hid (g_keeps HO5.out hgrow HR5.out (by decide))
            clear hown' hgrow HO5 K5 NEW e0 e1 l0 l2 HL5 HR5
            obtain ⟨vp, vc, rfl⟩ := g_slice HO6.out
            have m2 := cell_of_block (j := 2) HL6.out rfl
            have fm2 := free_of_block (j := 2) HL6.out
            have HO7 := Lib.hid (g_set (j := 2) (u := .slice vp (c + 1) vc) HO6.out HL6.out (by decide))
            have HL7 := Lib.hid (heap_store (j := 2) (v := .slice vp (c + 1) vc) HL6.out)
            have HR7 := Lib.hid (heap_store_other (j := 2) (v := .slice vp (c + 1) vc) HR6.out (Ne.symm HNLR.out))
            have K7 := Lib.hid (K6.out.setCell (p := ⟨lb, 2, none⟩) HGL.out (.slice vp (c + 1) vc))
            have HTL := Lib.hid (show ((l.take (k + 1)).flatMap (keepX true now)).flatMap cellsTm = ((l.take k).flatMap (keepX true now)).flatMap cellsTm ++ [.string xs, .int .i64 xa] by rw [HTK.out, HK1.out, List.flatMap_append]; rfl)
            go_wp2_with fail
            go_roundw
            case rel => exact ⟨k + 1, c + 1, _, by omega, by omega, by go_num, Lib.hid (by rw [HTL.out]; exact HO7.out), HL7, HR7, K7⟩
            case measure => simp [intOf]; omega
          · have q2 : decide (0 < xa) = true := decide_eq_true (HPX.out rfl hq)
            clear hq HKX HPX
            have HE1 := Lib.hid (heap_new wr (.cells #[.string xs, .int .i64 xa] 65))
            have HO1 := Lib.hid (HO.out.alloc (.cells #[.string xs, .int .i64 xa] 65))
            have KB1 := Lib.hid (KB.out.alloc KB.out.size (.cells #[.string xs, .int .i64 xa] 65))
            have HL1 := Lib.hid (heap_old (p := .cells #[.string xs, .int .i64 xa] 65) HL.out)
            have HR1 := Lib.hid (heap_old (p := .cells #[.string xs, .int .i64 xa] 65) HR.out)
            clear x0 x1 HO KB HL HR
            generalize wr.alloc (.cells #[.string xs, .int .i64 xa] 65) = W1 at HE1 HO1 KB1 HL1 HR1 ⊢
            generalize wr.heap.size = eb at HE1 ⊢
            have l0 := cell_of_block (j := 0) HL1.out rfl
            have e1 := cell_of_block (j := 1) HE1.out rfl
            go_upto_region 12 with fail
            have l2 := cell_of_block (j := 2) HL1.out rfl
            have e0 := cell_of_block (j := 0) HE1.out rfl
            have NEW := Lib.hid (g_new W1 [.string xs, .int .i64 xa] 65)
            have HO5 := Lib.hid (HO1.out.alloc (.cells #[.string xs, .int .i64 xa] 65))
            have K5 := Lib.hid (KB1.out.alloc KB1.out.size (.cells #[.string xs, .int .i64 xa] 65))
            have HL5 := Lib.hid (heap_old (p := .cells #[.string xs, .int .i64 xa] 65) HL1.out)
            have HR5 := Lib.hid (heap_old (p := .cells #[.string xs, .int .i64 xa] 65) HR1.out)
            have n11 := Lib.hid (show c + 1 ≤ maxLen by unfold maxLen; omega)
            have n22 := Lib.hid (show (c + 1) * 24 ≤ 140737488355328 by omega)
            have n33 := Lib.hid (show w.heap.size ≤ (W1.alloc (.cells #[.string xs, .int .i64 xa] 65)).heap.size from K5.out.size)
            have oc := Lib.hid (one_tm xs xa)
            clear HO1 KB1 HE1 HL1 HR1
            go_wp2_with (at_builtin; refine wpList_append_own _ rfl _ _ 30 rfl w.heap.size 65 i0 (.agg #[.string ByteArray.empty, .int .i64 0]) 2 24 Try.underlying30 hi0 hz0 hz1 hz2 rfl (by decide) _ _ _ rfl HO5.out ⟨W1.heap.size, 0, none⟩ 1 1 [.string xs, .int .i64 xa] rfl rfl NEW.out oc.out n11.out n22.out n33.out ?_)
            intro v' w6 hown' hgrow _
            have HO6 := Lib.hid hown'
            have K6 := Lib.hid (K5.out.grown hgrow n33.out (fun j hj => (HO5.out.lt j hj).1))
            have HL6 := Lib.hid (g_keeps HO5.out hgrow HL5.out (by decide))
            have HR6 := Lib.hid (g_keeps HO5.out hgrow HR5.out (by decide))
            clear hown' hgrow HO5 K5 NEW e0 e1 l0 l2 HL5 HR5
            obtain ⟨vp, vc, rfl⟩ := g_slice HO6.out
            have m2 := cell_of_block (j := 2) HL6.out rfl
            have fm2 := free_of_block (j := 2) HL6.out
            have HO7 := Lib.hid (g_set (j := 2) (u := .slice vp (c + 1) vc) HO6.out HL6.out (by decide))
            have HL7 := Lib.hid (heap_store (j := 2) (v := .slice vp (c + 1) vc) HL6.out)
            have HR7 := Lib.hid (heap_store_other (j := 2) (v := .slice vp (c + 1) vc) HR6.out (Ne.symm HNLR.out))
            have K7 := Lib.hid (K6.out.setCell (p := ⟨lb, 2, none⟩) HGL.out (.slice vp (c + 1) vc))
            have HTL := Lib.hid (show ((l.take (k + 1)).flatMap (keepX false now)).flatMap cellsTm = ((l.take k).flatMap (keepX false now)).flatMap cellsTm ++ [.string xs, .int .i64 xa] by rw [HTK.out, HK1.out, List.flatMap_append]; rfl)
            go_wp2_with fail
            go_roundw
            case rel => exact ⟨k + 1, c + 1, _, by omega, by omega, by go_num, Lib.hid (by rw [HTL.out]; exact HO7.out), HL7, HR7, K7⟩
            case measure => simp [intOf]; omega
        · have q1 : decide (xa ≤ now) = true := decide_eq_true (by omega)
          go_upto_region 11 with fail
          clear q1
          rcases Bool.eq_false_or_eq_true ev with rfl | rfl
          · have HK1 := Lib.hid (show kx = [(xs, 0)] by rw [HKX.out, if_neg hq]; rfl)
            clear hq HKX HPX
            have HE1 := Lib.hid (heap_new wr (.cells #[.string xs, .int .i64 0] 65))
            have HO1 := Lib.hid (HO.out.alloc (.cells #[.string xs, .int .i64 0] 65))
            have KB1 := Lib.hid (KB.out.alloc KB.out.size (.cells #[.string xs, .int .i64 0] 65))
            have HL1 := Lib.hid (heap_old (p := .cells #[.string xs, .int .i64 0] 65) HL.out)
            have HR1 := Lib.hid (heap_old (p := .cells #[.string xs, .int .i64 0] 65) HR.out)
            clear x0 x1 HO KB HL HR
            generalize wr.alloc (.cells #[.string xs, .int .i64 0] 65) = W1 at HE1 HO1 KB1 HL1 HR1 ⊢
            generalize wr.heap.size = eb at HE1 ⊢
            have l0 := cell_of_block (j := 0) HL1.out rfl
            have e1 := cell_of_block (j := 1) HE1.out rfl
            go_upto_region 12 with fail
            have l2 := cell_of_block (j := 2) HL1.out rfl
            have e0 := cell_of_block (j := 0) HE1.out rfl
            have NEW := Lib.hid (g_new W1 [.string xs, .int .i64 0] 65)
            have HO5 := Lib.hid (HO1.out.alloc (.cells #[.string xs, .int .i64 0] 65))
            have K5 := Lib.hid (KB1.out.alloc KB1.out.size (.cells #[.string xs, .int .i64 0] 65))
            have HL5 := Lib.hid (heap_old (p := .cells #[.string xs, .int .i64 0] 65) HL1.out)
            have HR5 := Lib.hid (heap_old (p := .cells #[.string xs, .int .i64 0] 65) HR1.out)
            have n11 := Lib.hid (show c + 1 ≤ maxLen by unfold maxLen; omega)
            have n22 := Lib.hid (show (c + 1) * 24 ≤ 140737488355328 by omega)
            have n33 := Lib.hid (show w.heap.size ≤ (W1.alloc (.cells #[.string xs, .int .i64 0] 65)).heap.size from K5.out.size)
            have oc := Lib.hid (one_tm xs 0)
            clear HO1 KB1 HE1 HL1 HR1
            go_wp2_with (at_builtin; refine wpList_append_own _ rfl _ _ 30 rfl w.heap.size 65 i0 (.agg #[.string ByteArray.empty, .int .i64 0]) 2 24 Try.underlying30 hi0 hz0 hz1 hz2 rfl (by decide) _ _ _ rfl HO5.out ⟨W1.heap.size, 0, none⟩ 1 1 [.string xs, .int .i64 0] rfl rfl NEW.out oc.out n11.out n22.out n33.out ?_)
            intro v' w6 hown' hgrow _
            have HO6 := Lib.hid hown'
            have K6 := Lib.hid (K5.out.grown hgrow n33.out (fun j hj => (HO5.out.lt j hj).1))
            have HL6 := Lib.hid (g_keeps HO5.out hgrow HL5.out (by decide))
            have HR6 := Lib.hid (g_keeps HO5.out hgrow HR5.out (by decide))
            clear hown' hgrow HO5 K5 NEW e0 e1 l0 l2 HL5 HR5
            obtain ⟨vp, vc, rfl⟩ := g_slice HO6.out
            have m2 := cell_of_block (j := 2) HL6.out rfl
            have fm2 := free_of_block (j := 2) HL6.out
            have HO7 := Lib.hid (g_set (j := 2) (u := .slice vp (c + 1) vc) HO6.out HL6.out (by decide))
            have HL7 := Lib.hid (heap_store (j := 2) (v := .slice vp (c + 1) vc) HL6.out)
            have HR7 := Lib.hid (heap_store_other (j := 2) (v := .slice vp (c + 1) vc) HR6.out (Ne.symm HNLR.out))
            have K7 := Lib.hid (K6.out.setCell (p := ⟨lb, 2, none⟩) HGL.out (.slice vp (c + 1) vc))
            have HTL := Lib.hid (show ((l.take (k + 1)).flatMap (keepX true now)).flatMap cellsTm = ((l.take k).flatMap (keepX true now)).flatMap cellsTm ++ [.string xs, .int .i64 0] by rw [HTK.out, HK1.out, List.flatMap_append]; rfl)
            go_wp2_with fail
            go_roundw
            case rel => exact ⟨k + 1, c + 1, _, by omega, by omega, by go_num, Lib.hid (by rw [HTL.out]; exact HO7.out), HL7, HR7, K7⟩
            case measure => simp [intOf]; omega
          · have HK1 := Lib.hid (show kx = [] by rw [HKX.out, if_neg hq]; rfl)
            clear hq HKX HPX
            have HE1 := Lib.hid (heap_new wr (.cells #[.string xs, .int .i64 0] 65))
            have HO1 := Lib.hid (HO.out.alloc (.cells #[.string xs, .int .i64 0] 65))
            have KB1 := Lib.hid (KB.out.alloc KB.out.size (.cells #[.string xs, .int .i64 0] 65))
            have HL1 := Lib.hid (heap_old (p := .cells #[.string xs, .int .i64 0] 65) HL.out)
            have HR1 := Lib.hid (heap_old (p := .cells #[.string xs, .int .i64 0] 65) HR.out)
            clear x0 x1 HO KB HL HR
            generalize wr.alloc (.cells #[.string xs, .int .i64 0] 65) = W1 at HE1 HO1 KB1 HL1 HR1 ⊢
            generalize wr.heap.size = eb at HE1 ⊢
            have l0 := cell_of_block (j := 0) HL1.out rfl
            have e1 := cell_of_block (j := 1) HE1.out rfl
            have HTL := Lib.hid (show ((l.take (k + 1)).flatMap (keepX false now)).flatMap cellsTm = ((l.take k).flatMap (keepX false now)).flatMap cellsTm by rw [HTK.out, HK1.out, List.append_nil])
            go_wp2_with fail
            go_roundw
            case rel => exact ⟨k + 1, c, _, by omega, by omega, by go_num, Lib.hid (by rw [HTL.out]; exact HO1.out), HL1, HR1, KB1⟩
            case measure => simp [intOf]; omega
      · obtain rfl : k = n := by omega
        rw [List.take_of_length_le (by rw [HNN.out]; exact Nat.le_refl _), ← HFL.out] at HO
        have HA := Lib.hid (rowsAt_own (by decide) tm_len HO.out)
        have HCN := Lib.hid (show c = fl.length by obtain ⟨p2, c2, e2⟩ := HA.out.slice; injection e2)
        have r0 := free_of_block (j := 0) HR.out
        have r1 := free_of_block (j := 1) HR.out
        have r2 := free_of_block (j := 2) HR.out
        have r3 : wr.cell? ⟨rb, 0, none⟩ = some (.bool false) := cell_of_block HR.out rfl
        have r4 : wr.cell? ⟨rb, 1, none⟩ = some (.int .i64 0) := cell_of_block HR.out rfl
        have r5 : wr.cell? ⟨rb, 2, none⟩ = some (.slice none 0 0) := cell_of_block HR.out rfl
        have l0 : wr.cell? ⟨lb, 0, none⟩ = some (.bool ev) := cell_of_block HL.out rfl
        have l1 : wr.cell? ⟨lb, 1, none⟩ = some (.int .i64 tv) := cell_of_block HL.out rfl
        have l2 : wr.cell? ⟨lb, 2, none⟩ = some (.slice sp c sc) := cell_of_block HL.out rfl
        have HF := Lib.hid (fun (w' : World) (hr : RowsAt 2 cellsTm w' (.slice sp c sc) fl) (hk : Below w.heap.size w w') => show Q (.returned (.tuple #[.agg #[.bool ev, .int .i64 tv, .slice sp c sc], .bool (ev || decide (0 < c))])) w' from by have h := HFIN.out (.slice sp c sc) w' hr hk; rw [← HCN.out] at h; exact h)
        have HRd := Lib.hid (show wr.drew.heap[rb]? = some (.cells #[.bool false, .int .i64 0, .slice none 0 0] 32 (0, 0)) from HR.out)
        have HLd := Lib.hid (show wr.drew.heap[lb]? = some (.cells #[.bool ev, .int .i64 tv, .slice sp c sc] 32 (0, 0)) from HL.out)
        have KBd := Lib.hid (show Below w.heap.size w wr.drew from KB.out.drew)
        have HZ := Lib.hid (heap_store (j := 2) (v := .slice sp c sc) (heap_store (j := 1) (v := .int .i64 tv) (heap_store (j := 0) (v := .bool ev) HRd.out)))
        have KZ := Lib.hid (((KBd.out.setCell (p := ⟨rb, 0, none⟩) HGR.out (.bool ev)).setCell (p := ⟨rb, 1, none⟩) HGR.out (.int .i64 tv)).setCell (p := ⟨rb, 2, none⟩) HGR.out (.slice sp c sc))
        have HY := Lib.hid (heap_store (j := 2) (v := .slice sp c sc) (heap_store (j := 1) (v := .int .i64 tv) (heap_store (j := 0) (v := .bool ev) HR.out)))
        have KY := Lib.hid (((KB.out.setCell (p := ⟨rb, 0, none⟩) HGR.out (.bool ev)).setCell (p := ⟨rb, 1, none⟩) HGR.out (.int .i64 tv)).setCell (p := ⟨rb, 2, none⟩) HGR.out (.slice sp c sc)).drew
        clear hlt
        go_upto_region 14 with fail
        clear HFIN HCN HP HC HPOS HFL HTV HEE HNN
        go_region_with (go_at_call 50; refine (isAny_c _ _ _ _ _ _).mono ?_; rintro e w8 ⟨rfl, k8⟩; first | (have kw8 := Lib.hid (KZ.out.trans (k8.mono KZ.out.size)); have hb8 := Lib.hid (below_block k8 (lt_of_block HZ.out) HZ.out)) | (have kw8 := Lib.hid (KY.out.trans (k8.mono KY.out.size)); have hb8 := Lib.hid (below_block k8 (lt_of_block HY.out) HY.out)) | (have kw8 := Lib.hid (KBd.out.trans (k8.mono KBd.out.size)); have hb8 := Lib.hid (below_block k8 (lt_of_block HRd.out) HRd.out); have g0 := free_of_block (j := 0) hb8.out; have g1 := free_of_block (j := 1) hb8.out; have g2 := free_of_block (j := 2) hb8.out; have c0 : w8.cell? ⟨rb, 0, none⟩ = some (.bool false) := cell_of_block hb8.out rfl; have c1 : w8.cell? ⟨rb, 1, none⟩ = some (.int .i64 0) := cell_of_block hb8.out rfl; have c2 : w8.cell? ⟨rb, 2, none⟩ = some (.slice none 0 0) := cell_of_block hb8.out rfl; have hl8 := Lib.hid (below_block k8 (lt_of_block HLd.out) HLd.out); have m0 : w8.cell? ⟨lb, 0, none⟩ = some (.bool ev) := cell_of_block hl8.out rfl; have m1 : w8.cell? ⟨lb, 1, none⟩ = some (.int .i64 tv) := cell_of_block hl8.out rfl; have m2 : w8.cell? ⟨lb, 2, none⟩ = some (.slice sp c sc) := cell_of_block hl8.out rfl))
        all_goals (
          go_wp2_with fail
          have HZ8 := Lib.hid (heap_store (j := 2) (v := .slice sp c sc) (heap_store (j := 1) (v := .int .i64 tv) (heap_store (j := 0) (v := .bool ev) hb8.out)))
          have KZ8 := Lib.hid (((kw8.out.setCell (p := ⟨rb, 0, none⟩) HGR.out (.bool ev)).setCell (p := ⟨rb, 1, none⟩) HGR.out (.int .i64 tv)).setCell (p := ⟨rb, 2, none⟩) HGR.out (.slice sp c sc))
          have HO8 := Lib.hid (g_below (w := wr.drew) (show wr.drew.ownsRow w.heap.size 65 2 (.slice sp c sc) c (fl.flatMap cellsTm) from HO.out) k8)
          have HA8 := Lib.hid (rowsAt_own (by decide) tm_len (g_set (j := 2) (u := .slice sp c sc) (g_set (j := 1) (u := .int .i64 tv) (g_set (j := 0) (u := .bool ev) HO8.out hb8.out (by decide)) (heap_store (j := 0) (v := .bool ev) hb8.out) (by decide)) (heap_store (j := 1) (v := .int .i64 tv) (heap_store (j := 0) (v := .bool ev) hb8.out)) (by decide)))
          have z0 := cell_of_block (j := 0) (v := .bool ev) HZ8.out rfl
          have z1 := cell_of_block (j := 1) (v := .int .i64 tv) HZ8.out rfl
          have z2 := cell_of_block (j := 2) (v := .slice sp c sc) HZ8.out rfl
          exact bodyPost_ret (v := .tuple #[.agg #[.bool ev, .int .i64 tv, .slice sp c sc], .bool (ev || decide (0 < c))]) (by simp [results, Try.results29, go_sem, z0, z1, z2]) rfl (HF.out _ HA8.out KZ8.out))
  · have HE := Lib.hid (exp_no (now := now) hok)
    rw [chk_bad hok] at CK
    rw [HE.out]
    clear HE hok
    go_enter Try.func29, Try.ntmps29
    go_upto_region 1 with fail
    generalize (w.alloc (.cells #[.bool ex, .int .i64 tm, .slice p n cap] 32)).alloc (.cells #[.bool false, .int .i64 0, .slice none 0 0] 32) = W2 at hB2 HSB0 HRB0 ⊢
    generalize hrb : w.heap.size + 1 = rb at HRB0 ⊢
    have HGR := Lib.hid (show w.heap.size ≤ rb by omega)
    have s0 : W2.cell? ⟨w.heap.size, 0, none⟩ = some (.bool ex) := cell_of_block HSB0.out rfl
    have s1 : W2.cell? ⟨w.heap.size, 1, none⟩ = some (.int .i64 tm) := cell_of_block HSB0.out rfl
    have s2 : W2.cell? ⟨w.heap.size, 2, none⟩ = some (.slice p n cap) := cell_of_block HSB0.out rfl
    clear hrb
    go_wp2_with fail
    ((with_reducible refine (CK.out _ hB2.out).mono ?_); rintro e w3 ⟨rfl, k3⟩)
    have hB3 := Lib.hid (hB2.out.trans (k3.mono hB2.out.size))
    have HRB := Lib.hid (below_block k3 (lt_of_block HRB0.out) HRB0.out)
    clear s0 s1 s2 k3 hB2 HSB0 HRB0 CK
    have r0 : w3.cell? ⟨rb, 0, none⟩ = some (.bool false) := cell_of_block HRB.out rfl
    have r1 : w3.cell? ⟨rb, 1, none⟩ = some (.int .i64 0) := cell_of_block HRB.out rfl
    have r2 : w3.cell? ⟨rb, 2, none⟩ = some (.slice none 0 0) := cell_of_block HRB.out rfl
    have f0 := free_of_block (j := 0) HRB.out
    have f1 := free_of_block (j := 1) HRB.out
    have f2 := free_of_block (j := 2) HRB.out
    have KZ := Lib.hid (((hB3.out.setCell (p := ⟨rb, 0, none⟩) HGR.out (.bool false)).setCell (p := ⟨rb, 1, none⟩) HGR.out (.int .i64 0)).setCell (p := ⟨rb, 2, none⟩) HGR.out (.slice none 0 0))
    have HZ := Lib.hid (heap_store (j := 2) (v := .slice none 0 0) (heap_store (j := 1) (v := .int .i64 0) (heap_store (j := 0) (v := .bool false) HRB.out)))
    go_wp2_with fail
    have z0 := cell_of_block (j := 0) HZ.out rfl
    have z1 := cell_of_block (j := 1) HZ.out rfl
    have z2 := cell_of_block (j := 2) HZ.out rfl
    exact bodyPost_ret (v := .tuple #[.agg #[.bool false, .int .i64 0, .slice none 0 0], .bool false]) (by simp [results, Try.results29, go_sem, z0, z1, z2]) rfl ⟨_, rfl, RowsAt.nil _, KZ.out⟩
end Go.Proofs.Ythpafojeadbjlaa
