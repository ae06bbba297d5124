/-
  'group.Admits'. A contract over the translated program.
-/
import Derived.Test.YthpafojeadbjlaaGrB
namespace Go.Proofs.Ythpafojeadbjlaa
open Go.RowKit
set_option linter.unusedVariables false
set_option linter.unusedSimpArgs false

theorem exp_len (s : St) (now : Int) : (expS s now).1.src.length ≤ s.src.length := by
  unfold expS
  split
  · exact keeps_len _ _ _
  · exact Nat.zero_le _
theorem fil_take {f : Tm → Bool} {l : List Tm} {k : Nat} {x : Tm} (h : l[k]? = some x) : (nmS ((l.take (k + 1)).filter f)).map Value.string = (nmS ((l.take k).filter f)).map Value.string ++ (if f x then [.string x.1] else []) := by
  rw [List.take_succ_eq_append_getElem (List.getElem?_eq_some_iff.1 h).1, (List.getElem?_eq_some_iff.1 h).2, List.filter_append, List.filter_cons]
  split <;> simp [nmS]

set_option maxHeartbeats 8000000 in
set_option maxRecDepth 100000 in
theorem gadm_c (ex : Bool) (tm : Int) (v : Value) (l : List Tm) (a : ByteArray) (now : Int) (w : World) (hl : l.length ≤ 1000000) (h : RowsAt 2 cellsTm w v l) : Calls Try.prog 16 #[.agg #[.bool ex, .int .i64 tm, v], .string a, .int .i64 now] w fun e w' => e = .returned (.bool (admS ⟨ex, tm, l⟩ a now)) ∧ Below w.heap.size w w' := by
  have GX := Lib.hid fun (U : World) (kz : Below w.heap.size w U) => gexp_c ex tm v l now U hl (h.below kz)
  have HV := Lib.hid (show admS ⟨ex, tm, l⟩ a now = ((expS ⟨ex, tm, l⟩ now).2 && admB (filS (expS ⟨ex, tm, l⟩ now).1) a) from rfl)
  have HLEN := Lib.hid (Nat.le_trans (exp_len ⟨ex, tm, l⟩ now) hl)
  obtain ⟨p, cap, rfl⟩ := h.slice
  generalize expS ⟨ex, tm, l⟩ now = X at GX HV HLEN
  obtain ⟨⟨fe, ft, fl⟩, is⟩ := X
  generalize admS ⟨ex, tm, l⟩ a now = r at HV ⊢
  dsimp only at GX HV HLEN
  generalize l.length = n at hl GX ⊢
  clear h hl
  obtain ⟨i0, hi0, hz0, hz1, hz2⟩ := info_parts info_Ad
  have hB1 := Lib.hid (show Below w.heap.size w (w.alloc (.cells #[.bool ex, .int .i64 tm, .slice p n cap] 32)) from (Below.refl _ w).alloc (Nat.le_refl _) _)
  go_enter Try.func16, Try.ntmps16
  go_wp2_with fail
  ((with_reducible refine (GX.out _ hB1.out).mono ?_); rintro e w3 ⟨vs, rfl, hr, k3⟩)
  have hB3 := Lib.hid (hB1.out.trans (k3.mono hB1.out.size))
  obtain ⟨q, qc, qb, qo, rfl, hq, hqc⟩ := hr
  have HQ := Lib.hid hq
  have HQC := Lib.hid hqc
  have HM := Lib.hid (show fl.length = fl.length from rfl)
  obtain ⟨m, hm⟩ : ∃ m, m = fl.length := ⟨_, rfl⟩
  have HMM := Lib.hid hm
  rw [← hm] at HLEN ⊢
  clear hq hqc HM hm k3 hB1 GX
  go_upto_region 3 with fail
  have HLB := Lib.hid (heap_old (p := .cells #[.bool fe, .slice none 0 0] 28) (heap_new w3 (.cells #[.bool fe, .int .i64 ft, .slice q m qc] 32)))
  have HFB := Lib.hid (show ((w3.alloc (.cells #[.bool fe, .int .i64 ft, .slice q m qc] 32)).alloc (.cells #[.bool fe, .slice none 0 0] 28)).heap[w3.heap.size + 1]? = some (.cells #[.bool fe, .slice none 0 0] 28 (0, 0)) from by have h := heap_new (w3.alloc (.cells #[.bool fe, .int .i64 ft, .slice q m qc] 32)) (.cells #[.bool fe, .slice none 0 0] 28); simpa using h)
  have KB := Lib.hid (show Below w3.heap.size w3 ((w3.alloc (.cells #[.bool fe, .int .i64 ft, .slice q m qc] 32)).alloc (.cells #[.bool fe, .slice none 0 0] 28)) from ((Below.refl _ w3).alloc (Nat.le_refl _) _).alloc (by simp) _)
  generalize (w3.alloc (.cells #[.bool fe, .int .i64 ft, .slice q m qc] 32)).alloc (.cells #[.bool fe, .slice none 0 0] 28) = W4 at HLB HFB KB ⊢
  generalize hfb : w3.heap.size + 1 = fb at HFB ⊢
  obtain ⟨lb, hlb⟩ : ∃ lb, lb = w3.heap.size := ⟨_, rfl⟩
  have HNLF := Lib.hid (show lb ≠ fb by omega)
  have HGF := Lib.hid (show w3.heap.size ≤ fb by omega)
  rw [← hlb] at HLB ⊢
  clear hfb
  obtain ⟨B3, hB3e⟩ : ∃ B3, B3 = w3.heap.size := ⟨_, rfl⟩
  rw [← hB3e] at HGF hlb KB
  have HBE := Lib.hid hB3e
  clear hlb hB3e
  have HSZ := Lib.hid (fun (U : World) (h : Below B3 w3 U) => show B3 ≤ U.heap.size from by rw [HBE.out]; exact h.size)
  have l2 : W4.cell? ⟨lb, 2, none⟩ = some (.slice q m qc) := cell_of_block HLB.out rfl
  go_wp2_with fail
  go_loopw [11, 24] (fun _ i wr => ∃ (k c : Nat) (sv : Value), k ≤ m ∧ c ≤ k ∧ i = .int .i64 k ∧ Hid (wr.ownsRow B3 35 1 sv c ((nmS ((fl.take k).filter fun x => !fe || decide (x.2 = 0))).map Value.string)) ∧ Hid (wr.heap[fb]? = some (.cells #[.bool fe, sv] 28 (0, 0))) ∧ Hid (wr.heap[lb]? = some (.cells #[.bool fe, .int .i64 ft, .slice q m qc] 32 (0, 0))) ∧ Hid (Below B3 w3 wr)) (fun _ i _ => m - (intOf i).toNat)
  case atStart => exact ⟨0, 0, _, Nat.zero_le _, Nat.le_refl _, rfl, Lib.hid (World.ownsRow_nil _ _ _ _), HFB, HLB, KB⟩
  case round =>
    clear l2 HLB HFB KB
    obtain ⟨k, c, sv, hk, hck, rfl, HO, HF, HL, KB⟩ := hrel
    obtain ⟨sp, sc, rfl⟩ := g_slice HO.out
    have hmb : m ≤ 1000000 := HLEN.out
    by_cases hlt : k < m
    · obtain ⟨x, hx⟩ : ∃ x, fl[k]? = some x := ⟨_, List.getElem?_eq_getElem (by rw [← HMM.out]; exact hlt)⟩
      have hne : fl ≠ [] := by rintro rfl; simp at hx
      obtain rfl := HQ.out hne
      have HTK := Lib.hid (fil_take (f := fun x => !fe || decide (x.2 = 0)) hx)
      have KB3 : Below w3.heap.size w3 wr := by rw [← HBE.out]; exact KB.out
      have x0 : wr.cell? ⟨qb, qo + k * 2, none⟩ = some (.string x.1) := gcell_below KB3 (HQC.out k _ hx 0 _ rfl)
      have x1 : wr.cell? ⟨qb, qo + k * 2 + 1, none⟩ = some (.int .i64 x.2) := gcell_below KB3 (HQC.out k _ hx 1 _ rfl)
      try dsimp only at HTK
      generalize x.1 = xs at x0 HTK
      generalize x.2 = xa at x1 HTK
      have d1 : decide (k < m) = true := decide_eq_true hlt
      have d2 : decide ((k : Int) < (m : Int)) = true := decide_eq_true (by omega)
      have d3 : decide (m ≤ k) = false := decide_eq_false (by omega)
      have d4 : decide (0 ≤ (k : Int)) = true := decide_eq_true (by omega)
      clear hx hne KB3
      go_upto_region 6 with fail
      have HE1 := Lib.hid (heap_new wr (.cells #[.string xs, .int .i64 xa] 65))
      have HO1 := Lib.hid (HO.out.alloc (.cells #[.string xs, .int .i64 xa] 65))
      have KB1 := Lib.hid (KB.out.alloc (HSZ.out _ KB.out) (.cells #[.string xs, .int .i64 xa] 65))
      have HL1 := Lib.hid (heap_old (p := .cells #[.string xs, .int .i64 xa] 65) HL.out)
      have HF1 := Lib.hid (heap_old (p := .cells #[.string xs, .int .i64 xa] 65) HF.out)
      clear x0 x1 HO KB HL HF d1 d2 d3 d4
      generalize wr.alloc (.cells #[.string xs, .int .i64 xa] 65) = W1 at HE1 HO1 KB1 HL1 HF1 ⊢
      generalize wr.heap.size = eb at HE1 ⊢
      have l0 : W1.cell? ⟨lb, 0, none⟩ = some (.bool fe) := cell_of_block HL1.out rfl
      have e1 : W1.cell? ⟨eb, 1, none⟩ = some (.int .i64 xa) := cell_of_block HE1.out rfl
      have e0 : W1.cell? ⟨eb, 0, none⟩ = some (.string xs) := cell_of_block HE1.out rfl
      have f1 : W1.cell? ⟨fb, 1, none⟩ = some (.slice sp c sc) := cell_of_block HF1.out rfl
      rcases Bool.eq_false_or_eq_true fe with rfl | rfl
      · by_cases hz : xa = 0
        · subst hz
          have HT2 := Lib.hid (show (nmS ((fl.take (k + 1)).filter fun x => !true || decide (x.2 = 0))).map Value.string = (nmS ((fl.take k).filter fun x => !true || decide (x.2 = 0))).map Value.string ++ [.string xs] by rw [HTK.out]; rfl)
          clear HTK
          go_upto_region 7 with fail
          have NEW := Lib.hid (g_new W1 [.string xs] 35)
          have HO5 := Lib.hid (HO1.out.alloc (.cells #[.string xs] 35))
          have K5 := Lib.hid (KB1.out.alloc (HSZ.out _ KB1.out) (.cells #[.string xs] 35))
          have HL5 := Lib.hid (heap_old (p := .cells #[.string xs] 35) HL1.out)
          have HF5 := Lib.hid (heap_old (p := .cells #[.string xs] 35) HF1.out)
          have n11 := Lib.hid (show c + 1 ≤ maxLen by have h3 := HLEN.out; unfold maxLen; omega)
          have n22 := Lib.hid (show (c + 1) * 16 ≤ 140737488355328 by have h3 := HLEN.out; omega)
          have n33 := Lib.hid (HSZ.out _ K5.out)
          have oc := Lib.hid (one_str xs)
          clear HO1 KB1 HE1 HL1 HF1
          go_wp2_with (at_builtin; refine wpList_append_own _ rfl _ _ 26 rfl B3 35 i0 (.string ByteArray.empty) 1 16 Try.underlying26 hi0 hz0 hz1 hz2 rfl (by decide) _ _ _ rfl HO5.out ⟨W1.heap.size, 0, none⟩ 1 1 [.string xs] rfl rfl NEW.out oc.out n11.out n22.out n33.out ?_)
          intro v' w6 hown' hgrow _
          have HO6 := Lib.hid hown'
          have K6 := Lib.hid (K5.out.grown hgrow n33.out (fun j hj => (HO5.out.lt j hj).1))
          have HL6 := Lib.hid (g_keeps HO5.out hgrow HL5.out (by decide))
          have HF6 := Lib.hid (g_keeps HO5.out hgrow HF5.out (by decide))
          clear hown' hgrow HO5 K5 NEW e0 e1 l0 f1 HL5 HF5
          obtain ⟨vp, vc, rfl⟩ := g_slice HO6.out
          have m2 : w6.cell? ⟨fb, 1, none⟩ = some (.slice sp c sc) := cell_of_block HF6.out rfl
          have fm2 := free_of_block (j := 1) HF6.out
          have HO7 := Lib.hid (g_set (j := 1) (u := .slice vp (c + 1) vc) HO6.out HF6.out (by decide))
          have HF7 := Lib.hid (heap_store (j := 1) (v := .slice vp (c + 1) vc) HF6.out)
          have HL7 := Lib.hid (heap_store_other (j := 1) (v := .slice vp (c + 1) vc) HL6.out HNLF.out)
          have K7 := Lib.hid (K6.out.setCell (p := ⟨fb, 1, none⟩) HGF.out (.slice vp (c + 1) vc))
          go_wp2_with fail
          go_roundw
          case rel => exact ⟨k + 1, c + 1, _, by omega, by omega, by go_num, Lib.hid (by rw [HT2.out]; exact HO7.out), HF7, HL7, K7⟩
          case measure => simp [intOf]; omega
        · have q1 : (xa == 0) = false := by simp [hz]
          have HT2 := Lib.hid (show (nmS ((fl.take (k + 1)).filter fun x => !true || decide (x.2 = 0))).map Value.string = (nmS ((fl.take k).filter fun x => !true || decide (x.2 = 0))).map Value.string by rw [HTK.out]; simp [hz])
          clear HTK
          go_wp2_with fail
          go_roundw
          case rel => exact ⟨k + 1, c, _, by omega, by omega, by go_num, Lib.hid (by rw [HT2.out]; exact HO1.out), HF1, HL1, KB1⟩
          case measure => simp [intOf]; omega
      · have HT2 := Lib.hid (show (nmS ((fl.take (k + 1)).filter fun x => !false || decide (x.2 = 0))).map Value.string = (nmS ((fl.take k).filter fun x => !false || decide (x.2 = 0))).map Value.string ++ [.string xs] by rw [HTK.out]; rfl)
        clear HTK
        go_upto_region 7 with fail
        have NEW := Lib.hid (g_new W1 [.string xs] 35)
        have HO5 := Lib.hid (HO1.out.alloc (.cells #[.string xs] 35))
        have K5 := Lib.hid (KB1.out.alloc (HSZ.out _ KB1.out) (.cells #[.string xs] 35))
        have HL5 := Lib.hid (heap_old (p := .cells #[.string xs] 35) HL1.out)
        have HF5 := Lib.hid (heap_old (p := .cells #[.string xs] 35) HF1.out)
        have n11 := Lib.hid (show c + 1 ≤ maxLen by have h3 := HLEN.out; unfold maxLen; omega)
        have n22 := Lib.hid (show (c + 1) * 16 ≤ 140737488355328 by have h3 := HLEN.out; omega)
        have n33 := Lib.hid (HSZ.out _ K5.out)
        have oc := Lib.hid (one_str xs)
        clear HO1 KB1 HE1 HL1 HF1
        go_wp2_with (at_builtin; refine wpList_append_own _ rfl _ _ 26 rfl B3 35 i0 (.string ByteArray.empty) 1 16 Try.underlying26 hi0 hz0 hz1 hz2 rfl (by decide) _ _ _ rfl HO5.out ⟨W1.heap.size, 0, none⟩ 1 1 [.string xs] rfl rfl NEW.out oc.out n11.out n22.out n33.out ?_)
        intro v' w6 hown' hgrow _
        have HO6 := Lib.hid hown'
        have K6 := Lib.hid (K5.out.grown hgrow n33.out (fun j hj => (HO5.out.lt j hj).1))
        have HL6 := Lib.hid (g_keeps HO5.out hgrow HL5.out (by decide))
        have HF6 := Lib.hid (g_keeps HO5.out hgrow HF5.out (by decide))
        clear hown' hgrow HO5 K5 NEW e0 e1 l0 f1 HL5 HF5
        obtain ⟨vp, vc, rfl⟩ := g_slice HO6.out
        have m2 : w6.cell? ⟨fb, 1, none⟩ = some (.slice sp c sc) := cell_of_block HF6.out rfl
        have fm2 := free_of_block (j := 1) HF6.out
        have HO7 := Lib.hid (g_set (j := 1) (u := .slice vp (c + 1) vc) HO6.out HF6.out (by decide))
        have HF7 := Lib.hid (heap_store (j := 1) (v := .slice vp (c + 1) vc) HF6.out)
        have HL7 := Lib.hid (heap_store_other (j := 1) (v := .slice vp (c + 1) vc) HL6.out HNLF.out)
        have K7 := Lib.hid (K6.out.setCell (p := ⟨fb, 1, none⟩) HGF.out (.slice vp (c + 1) vc))
        go_wp2_with fail
        go_roundw
        case rel => exact ⟨k + 1, c + 1, _, by omega, by omega, by go_num, Lib.hid (by rw [HT2.out]; exact HO7.out), HF7, HL7, K7⟩
        case measure => simp [intOf]; omega
    · obtain rfl : k = m := by omega
      rw [List.take_of_length_le (by rw [HMM.out]; exact Nat.le_refl _)] at HO
      have HA := Lib.hid (AddrsG.of_owns HO.out).at
      have KW := Lib.hid (show Below w.heap.size w wr from hB3.out.trans (by have h := KB.out; rw [HBE.out] at h; exact h.mono hB3.out.size))
      have f0 : wr.cell? ⟨fb, 0, none⟩ = some (.bool fe) := cell_of_block HF.out rfl
      have f1 : wr.cell? ⟨fb, 1, none⟩ = some (.slice sp c sc) := cell_of_block HF.out rfl
      clear hlt
      rcases Bool.eq_false_or_eq_true is with rfl | rfl
      · have AC := Lib.hid (fun (hl : _) => admits_c fe _ (nmS (fl.filter fun x => !fe || decide (x.2 = 0))) a wr hl HA.out)
        have AC2 := Lib.hid (AC.out (by have h := List.length_filter_le (fun x : Tm => !fe || decide (x.2 = 0)) fl; have h2 := HMM.out; have h3 := HLEN.out; rw [nm_len]; omega))
        have HV2 := Lib.hid (show r = admB ⟨fe, nmS (fl.filter fun x => !fe || decide (x.2 = 0))⟩ a by rw [HV.out]; rfl)
        rw [← HV2.out] at AC2
        clear HV HV2 AC HA HO
        go_wp2_with fail
        ((with_reducible refine AC2.out.mono ?_); rintro e w9 ⟨rfl, k9⟩)
        go_wp2_with fail
        go_ret
        exact ⟨rfl, KW.out.trans (k9.mono KW.out.size)⟩
      · have HV2 := Lib.hid (show r = false by rw [HV.out]; rfl)
        clear HV HA HO
        go_wp2_with fail
        go_ret
        exact ⟨by rw [HV2.out]; rfl, KW.out⟩
end Go.Proofs.Ythpafojeadbjlaa
