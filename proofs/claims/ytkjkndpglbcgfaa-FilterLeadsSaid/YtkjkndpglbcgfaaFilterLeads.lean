/-
  'siphonlaw11.FilterLeads' returns true, whatever the input, and each argument reads behind the call as it read before. Conditions: none beyond those that the row itself states.
-/
import Derived.Test.YtkjkndpglbcgfaaRows
import Derived.Test.YtkjkndpglbcgfaaFlI
import Derived.Test.YtkjkndpglbcgfaaFlE
import Derived.Test.YtkjkndpglbcgfaaFlV
import Derived.Test.YtkjkndpglbcgfaaTrod
import Derived.WalkKit
import Derived.ProofKit
import Derived.OpenShut
import Derived.ShutString
import Derived.ChangeOld
import Derived.Below
import Derived.Carry
import Derived.SizedLaws
import Derived.Lib.SmallJoins
import Derived.ChangeArms
import Derived.WideShapes
namespace Go.Proofs.Ytkjkndpglbcgfaa.filterLeadsLaw
open Go.ChangeShapes Go.WideShapes Go.ChangeAt Go.RowKit Go.Joins
open Go.ChangeMaps (open_string shut_string)
set_option linter.unusedVariables false

theorem list2 {α : Type} (l : List α) (h : l.length = 2) : ∃ x0 x1 : α, l = [x0, x1] := by
  match l, h with
  | [x0, x1], _ => exact ⟨x0, x1, rfl⟩

theorem after_fold (L : List Rec) (f : Fl) (k : Nat) (r : Rec) (h : L[k]? = some r) : (L.take (k + 1)).foldl afterF f = afterF ((L.take k).foldl afterF f) r := by
  obtain ⟨hk, rfl⟩ := List.getElem?_eq_some_iff.1 h
  rw [List.take_succ_eq_append_getElem hk, List.foldl_append]
  rfl

/-- A box of a filter behind two others and what has been made: block b. -/
def HB (b : Nat) (w : World) (x : Array Value) : Prop := w.heap[b]? = some (.cells x 24 (0, 0))
theorem HB.below {b : Nat} {w w' : World} {x : Array Value} (h : HB b w x) (k : Below w.heap.size w w') : HB b w' x := below_block k (lt_of_block h) h
theorem k2_set {w0 w : World} {xf xg : Array Value} (h : K2 w0 w xf xg) (b j : Nat) (v : Value) (hb : w0.heap.size + 1 < b) : K2 w0 (w.setCell ⟨b, j, none⟩ v) xf xg :=
  ⟨heap_store_other h.1 (by omega), heap_store_other h.2.1 (by omega), h.2.2.setCell (p := ⟨b, j, none⟩) (by show _ ≤ b; omega) _⟩

theorem addr_store_box {w : World} {v u : Value} {l : List ByteArray} {b j : Nat} {x : Bool} {p : Option Addr} {n c : Nat} {t : TypeId} (h : AddrsAt w v l) (hb : w.heap[b]? = some (.cells #[.bool x, .slice p n c] t (0, 0))) : AddrsAt (w.setCell ⟨b, j, none⟩ u) v l := by
  obtain ⟨p', cap, b', off, hv, hp, hc⟩ := h
  refine ⟨p', cap, b', off, hv, fun hl => ⟨(hp hl).1, Nat.zero_le _, fun h => by cases h⟩, fun i s hi => cell_far (hc i s hi) ?_⟩
  rintro rfl
  have h1 := hc i s hi
  simp only [World.cell?, hb] at h1
  rcases ho : off + i with _ | _ | m
  · rw [ho] at h1; simp at h1
  · rw [ho] at h1; simp at h1
  · rw [ho] at h1; simp at h1

set_option maxHeartbeats 16000000 in
set_option maxRecDepth 100000 in
theorem walk (a0_0 : Bool) (a0_1 : Value) (la0_1 : List ByteArray) (a1_0 : Bool) (a1_1 : Value) (la1_1 : List ByteArray) (w : World) (ha0_1 : AddrsAt w a0_1 la0_1) (qa0_1 : la0_1.length ≤ maxLen) (ha1_1 : AddrsAt w a1_1 la1_1) (qa1_1 : la1_1.length ≤ maxLen) :
    Calls Try.prog 8 #[.agg #[.bool a0_0, a0_1], .agg #[.bool a1_0, a1_1]] w fun e w' => e = .returned (.bool true) ∧ Below w.heap.size w w' := by
  unfold maxLen at qa0_1 qa1_1
  obtain ⟨p0, c0, rfl⟩ := ha0_1.slice
  obtain ⟨p1, c1, rfl⟩ := ha1_1.slice
  have HL := Lib.hid fun U => live11_c U
  have HF := Lib.hid fun U => fewf_c a0_0 a1_0 p0 la0_1.length c0 p1 la1_1.length c1 U
  have B := Lib.hid (K2.start w #[.bool a0_0, .slice p0 la0_1.length c0] #[.bool a1_0, .slice p1 la1_1.length c1])
  rcases hfw : (decide (la0_1.length ≤ 100) && decide (la1_1.length ≤ 100)) with _ | _
  · rw [hfw] at HF
    generalize la0_1.length = n0 at *
    generalize la1_1.length = n1 at *
    clear ha0_1 ha1_1 hfw
    go_enter Try.func8, Try.ntmps8
    go_wp2_with fail
    ((with_reducible refine (HF.out _).mono ?_); rintro e w1 ⟨rfl, h1⟩)
    replace B := Lib.hid (B.out.below h1)
    clear h1
    go_wp2_with fail
    ((with_reducible refine (HL.out _).mono ?_); rintro e w2 ⟨rfl, h2⟩)
    go_wp2_with fail
    go_ret
    exact ⟨rfl, (B.out.below h2).bel⟩
  · rw [hfw] at HF
    simp only [Bool.and_eq_true, decide_eq_true_iff] at hfw
    obtain ⟨l0, l1⟩ := hfw
    have H1 := Lib.hid fun (U : World) (hU : Below w.heap.size w U) => diff_c ⟨#[103]⟩ a0_0 a1_0 _ _ la0_1 la1_1 U (by omega) (by omega) (ha0_1.below hU) (ha1_1.below hU)
    have H2 := Lib.hid fun (U : World) (hU : Below w.heap.size w U) => norm_c a0_0 _ la0_1 U (by omega) (ha0_1.below hU)
    have H3 := Lib.hid fun (U : World) (hU : Below w.heap.size w U) => norm_c a1_0 _ la1_1 U (by omega) (ha1_1.below hU)
    have HA := Lib.hid fun (fe : Bool) (kd : Int) (gr : ByteArray) (vf vs : Value) (lf ls : List ByteArray) (U : World) h1 h2 h3 h4 => after_c fe kd gr vf vs lf ls U h1 h2 h3 h4
    have hlen := diff_len ⟨#[103]⟩ ⟨a0_0, la0_1⟩ ⟨a1_0, la1_1⟩
    have HSR := Lib.hid (diff_srcs ⟨#[103]⟩ ⟨a0_0, la0_1⟩ ⟨a1_0, la1_1⟩ 100 l0 l1)
    have HLD := Lib.hid (leads ⟨#[103]⟩ ⟨a0_0, la0_1⟩ ⟨a1_0, la1_1⟩)
    have HN0 : (normF ⟨a0_0, la0_1⟩).src.length ≤ 100 := Nat.le_trans (ris_len la0_1) l0
    have HN1 : (normF ⟨a1_0, la1_1⟩).src.length ≤ 100 := Nat.le_trans (ris_len la1_1) l1
    have HS := Lib.hid fun v1 v2 (U : World) h1 h2 => samef_c (normF ⟨a1_0, la1_1⟩).ex v1 v2 (normF ⟨a1_0, la1_1⟩).src U (by omega) h1 h2
    unfold DiPost at H1
    unfold FPost at H2 H3
    unfold APost at HA
    generalize diffF ⟨#[103]⟩ ⟨a0_0, la0_1⟩ ⟨a1_0, la1_1⟩ = L at H1 hlen HSR HLD
    generalize normF ⟨a0_0, la0_1⟩ = f0 at H2 HLD HN0
    generalize normF ⟨a1_0, la1_1⟩ = f1 at H3 HLD HS HN1
    replace HN0 := Lib.hid HN0
    replace HN1 := Lib.hid HN1
    generalize la0_1.length = n0 at *
    generalize la1_1.length = n1 at *
    clear ha0_1 ha1_1 l0 l1
    have d2 : decide ((2 : Int) < (L.length : Int)) = false := decide_eq_false (by omega)
    have d2n : decide (2 < L.length) = false := decide_eq_false (by omega)
    have k2 : ¬ ((2 : Int) < (L.length : Int)) := by omega
    go_enter Try.func8, Try.ntmps8
    go_wp2_with fail
    ((with_reducible refine (HF.out _).mono ?_); rintro e w1 ⟨rfl, h1⟩)
    replace B := Lib.hid (B.out.below h1)
    clear h1
    have x0 := cell_of_block (j := 0) B.out.1 rfl
    have x1 := cell_of_block (j := 1) B.out.1 rfl
    have y0 := cell_of_block (j := 0) B.out.2.1 rfl
    have y1 := cell_of_block (j := 1) B.out.2.1 rfl
    go_wp2_with fail
    ((with_reducible refine (H1.out _ B.out.bel).mono ?_); rintro e w2 ⟨vL, rfl, rL, h2⟩)
    replace B := Lib.hid (B.out.below h2)
    obtain ⟨pL, cL, bL, oL, rfl, hpL, hcL⟩ := rL
    have HPL := Lib.hid hpL
    have RL := Lib.hid (show RecsAt w2 (.slice pL L.length cL) L from ⟨pL, cL, bL, oL, rfl, hpL, hcL⟩)
    clear h2 hpL hcL x0 x1 y0 y1
    have x0 := cell_of_block (j := 0) B.out.1 rfl
    have x1 := cell_of_block (j := 1) B.out.1 rfl
    go_wp2_with fail
    ((with_reducible refine (H2.out _ B.out.bel).mono ?_); rintro e w3 ⟨v3, rfl, a3, h3⟩)
    replace B := Lib.hid (B.out.below h3)
    replace RL := Lib.hid (RL.out.below h3)
    have A3 := Lib.hid a3.at
    obtain ⟨p3, c3, rfl⟩ := a3.slice
    clear h3 a3 x0 x1
    go_wp2_with fail
    have hb := lt_of_block B.out.2.1
    have BA := Lib.hid (B.out.below ((Below.refl w3.heap.size w3).alloc (Nat.le_refl _) (.cells #[.bool f0.ex, .slice p3 f0.src.length c3] 24)))
    have AA := Lib.hid (A3.out.below ((Below.refl w3.heap.size w3).alloc (Nat.le_refl _) (.cells #[.bool f0.ex, .slice p3 f0.src.length c3] 24)))
    go_loopw [7] (fun i wr => ∃ (k : Nat) (v : Value), k ≤ L.length ∧ i = .int .i64 k ∧ Hid (K2 w wr #[.bool a0_0, .slice p0 n0 c0] #[.bool a1_0, .slice p1 n1 c1]) ∧ Hid (HB w3.heap.size wr #[.bool ((L.take k).foldl afterF f0).ex, v]) ∧ Hid (AddrsAt wr v ((L.take k).foldl afterF f0).src) ∧ Hid (((L.take k).foldl afterF f0).src.length ≤ 100 + 100 * k) ∧ Hid (Below w3.heap.size w3 wr)) (fun i _ => L.length - (intOf i).toNat)
    case atStart => exact ⟨0, _, Nat.zero_le _, rfl, BA, Lib.hid (heap_new _ _), AA, HN0, Lib.hid ((Below.refl w3.heap.size w3).alloc (Nat.le_refl _) _)⟩
    case round =>
      clear B BA AA A3
      obtain ⟨k, v, hk, rfl, B, HX, AV, LV, K⟩ := hrel
      by_cases hlt : k < L.length
      · have hne : L ≠ [] := by rintro rfl; simp at hlt
        obtain ⟨_, _, bR, oR, hv, hp, hc⟩ := RL.out.below K.out
        cases hv
        obtain ⟨rfl, -⟩ := hp hne
        obtain ⟨y0, y1, vq, y2, aq⟩ := hc k _ (List.getElem?_eq_getElem hlt)
        have HT := Lib.hid (after_fold L f0 k _ (List.getElem?_eq_getElem hlt))
        have hq := HSR.out _ (List.getElem_mem hlt)
        generalize L[k] = r at y0 y1 y2 aq HT hq
        generalize hfk : (L.take k).foldl afterF f0 = fk at HX AV LV HT
        clear hfk
        obtain ⟨fe, fs⟩ := fk
        obtain ⟨rk, rg, rs⟩ := r
        simp only at HX AV LV HT y0 y1 aq hq
        obtain ⟨pv, cv, rfl⟩ := AV.out.slice
        obtain ⟨pq, cq, rfl⟩ := aq.slice
        have hal := after_len ⟨fe, fs⟩ ⟨rk, rg, rs⟩
        have LV2 := Lib.hid (show (afterF ⟨fe, fs⟩ ⟨rk, rg, rs⟩).src.length ≤ 100 + 100 * (k + 1) by have := LV.out; simp only at hal; omega)
        have HAk := Lib.hid (HA.out fe rk rg (.slice pv fs.length cv) (.slice pq rs.length cq) fs rs wr.drew (by have := LV.out; omega) (by omega) (show AddrsAt wr.drew _ fs from AV.out) (show AddrsAt wr.drew _ rs from aq))
        generalize afterF ⟨fe, fs⟩ ⟨rk, rg, rs⟩ = fn at HAk HT LV2
        have h0 := cell_of_block (j := 0) HX.out rfl
        have h1 := cell_of_block (j := 1) HX.out rfl
        have hlt' : (k : Int) < (L.length : Int) := by omega
        have hk2 : k < 3 := by omega
        clear hne hp hc hal hq HA HSR aq
        go_wp2_with fail
        go_still_tail 5, (by kernel_rfl)
        change wpList _ _ _ _ _ wr.drew
        go_wp2_with fail
        ((with_reducible refine HAk.out.mono ?_); rintro e w5 ⟨v5, rfl, a5, h5⟩)
        replace h5 : Below wr.heap.size wr w5 := (Below.refl wr.heap.size wr).drew.trans h5
        clear h0 h1 y0 y1 y2
        replace B := Lib.hid (B.out.below h5)
        replace HX := Lib.hid (HX.out.below h5)
        replace K := Lib.hid (K.out.trans (h5.mono K.out.size))
        have A5 := Lib.hid a5
        obtain ⟨p5, c5, rfl⟩ := a5.slice
        clear h5 a5 AV HAk
        have h0 := cell_of_block (j := 0) HX.out rfl
        have h1 := cell_of_block (j := 1) HX.out rfl
        have fr := (fun j : Nat => free_of_block (j := j) HX.out)
        have X1 := Lib.hid (show HB w3.heap.size (w5.setCell ⟨w3.heap.size, 0, none⟩ (.bool fn.ex)) #[.bool fn.ex, .slice pv fs.length cv] from heap_store HX.out)
        have X2 := Lib.hid (show HB w3.heap.size ((w5.setCell ⟨w3.heap.size, 0, none⟩ (.bool fn.ex)).setCell ⟨w3.heap.size, 1, none⟩ (.slice p5 fn.src.length c5)) #[.bool fn.ex, .slice p5 fn.src.length c5] from heap_store X1.out)
        have A6 := Lib.hid (addr_store_box (addr_store_box A5.out HX.out (j := 0) (u := .bool fn.ex)) X1.out (j := 1) (u := .slice p5 fn.src.length c5))
        have B6 := Lib.hid (k2_set (k2_set B.out w3.heap.size 0 (.bool fn.ex) hb) w3.heap.size 1 (.slice p5 fn.src.length c5) hb)
        have K6 := Lib.hid ((K.out.setCell (p := ⟨w3.heap.size, 0, none⟩) (Nat.le_refl _) (.bool fn.ex)).setCell (p := ⟨w3.heap.size, 1, none⟩) (Nat.le_refl _) (.slice p5 fn.src.length c5))
        go_wp2_with fail
        go_roundw
        case rel => exact ⟨k + 1, _, by omega, by go_num, B6, by rw [HT.out]; exact X2, by rw [HT.out]; exact A6, by rw [HT.out]; exact LV2, K6⟩
        case measure => simp [intOf]; omega
      · obtain rfl : k = L.length := by omega
        have HE := HLD.out
        have ek : (L.take L.length).foldl afterF f0 = f1 := by rw [List.take_length]; exact HE
        rw [ek] at HX AV
        clear ek HE LV hlt hk HA HLD HSR
        obtain ⟨pv, cv, rfl⟩ := AV.out.slice
        obtain ⟨fe, fs⟩ := f1
        simp only at HX AV HS H3
        have H3b := Lib.hid (H3.out _ B.out.bel.drew)
        have KF := Lib.hid fun (U : World) (k1 : K2 w U #[.bool a0_0, .slice p0 n0 c0] #[.bool a1_0, .slice p1 n1 c1]) (k2 : HB w3.heap.size U #[.bool fe, .slice pv fs.length cv]) => (⟨cell_of_block k1.2.1 rfl, cell_of_block k1.2.1 rfl, cell_of_block k2 rfl, cell_of_block k2 rfl⟩ : U.cell? ⟨w.heap.size + 1, 0, none⟩ = some (.bool a1_0) ∧ U.cell? ⟨w.heap.size + 1, 1, none⟩ = some (.slice p1 n1 c1) ∧ U.cell? ⟨w3.heap.size, 0, none⟩ = some (.bool fe) ∧ U.cell? ⟨w3.heap.size, 1, none⟩ = some (.slice pv fs.length cv))
        have k0 := B.out
        have m0 := HX.out
        have k0d : K2 w wr.drew #[.bool a0_0, .slice p0 n0 c0] #[.bool a1_0, .slice p1 n1 c1] := k0.drew
        have m0d : HB w3.heap.size wr.drew #[.bool fe, .slice pv fs.length cv] := HX.out
        have a0d : AddrsAt wr.drew (.slice pv fs.length cv) fs := AV.out
        obtain ⟨f0, f1, f2, f3⟩ := KF.out wr k0 m0
        clear H3
        go_wp2_with fail
        go_region_held3 (fun U => U.cell? ⟨w.heap.size + 1, 0, none⟩ = some (.bool a1_0) ∧ U.cell? ⟨w.heap.size + 1, 1, none⟩ = some (.slice p1 n1 c1) ∧ U.cell? ⟨w3.heap.size, 0, none⟩ = some (.bool fe) ∧ U.cell? ⟨w3.heap.size, 1, none⟩ = some (.slice pv fs.length cv))
          (first
            | with_reducible exact KF.out _ k5 m5
            | with_reducible exact KF.out _ k4 m4
            | with_reducible exact KF.out _ k3 m3
            | with_reducible exact KF.out _ k0 m0
            | with_reducible exact KF.out _ k0d m0d)
          (first
            | (go_at_call 12; (with_reducible refine H3b.out.mono ?_); rintro e u3 ⟨v3, rfl, a3, h3⟩; have k3 := (K2.below k0d h3); have m3 := (HB.below m0d h3); have HSb := Lib.hid (HS.out (.slice pv fs.length cv) v3 u3 (a0d.below h3) a3.at); obtain ⟨q3, d3, rfl⟩ := a3.slice; clear a3 h3)
            | (go_at_call 15; (with_reducible refine HSb.out.mono ?_); rintro e u4 ⟨rfl, h4⟩; have k4 := (K2.below k3 h4); have m4 := (HB.below m3 h4); have HLb := Lib.hid (HL.out u4); clear h4)
            | (go_at_call 10; (with_reducible refine HLb.out.mono ?_); rintro e u5 ⟨rfl, h5⟩; have k5 := (K2.below k4 h5); have m5 := (HB.below m4 h5); clear h5))
        all_goals
          clear f0 f1 f2 f3
          go_wp2_with fail
          go_ret
          exact ⟨rfl, k5.bel⟩

theorem own : ownKnob Try.prog.godebug = none := by kernel_rfl
theorem laidOut : laidOutB Try.prog = true := by kernel_rfl

set_option maxHeartbeats 1000000 in
set_option maxRecDepth 100000 in
theorem lifted (os : Os) (started : os.Started) (H : Type) (enc : TypeId × Value → H) :
    ReturnsInHanded {} Try.checked os 8 .any (Rows.filterLeadsSpec.pre6 enc Try.prog Try.f8 Rows.filterLeadsRow.domain false) (Rows.filterLeadsSpec.post enc Try.prog Try.f8 false true false false) := by
  refine returnsInHanded_of_change_sized (C := Try.checked) own started (by kernel_rfl) Try.func8
    (ChangeSpec.witness6 (enc := enc) (C := Try.checked) false ⟨#[], #[.agg #[.bool false, .slice none 0 0], .agg #[.bool false, .slice none 0 0]], []⟩ 8 (by kernel_rfl) (by kernel_rfl) (by kernel_rfl) (by kernel_rfl)) ?_
  intro W base args ds gs before hval0 hW hcnd hsz0 hholds
  have hval : ∀ (j : Nat) t v, Try.f8.params[j]? = some t → args[j]? = some v → Value.okWide Try.prog W .any base t v := hval0
  have hsz : (DataW.weightsEach Try.prog (Try.f8.params.toList ++ Rows.filterLeadsSpec.plain.varTypes Try.prog) (ds ++ gs)).all (· ≤ reachBytes) = true := hsz0
  have hW' := hW
  obtain ⟨p, q, hA0, hV, rfl, hfz, hnd⟩ := hW
  have hA : DataW.TrodAll enc Try.prog W 0 (fun _ => true) true Try.f8.params.toList args.toList ds p := hA0
  rw [Try.params8] at hA hval hsz
  obtain ⟨v0, vs0, d0, ds0, p0, q0, hargs, rfl, rfl, h0, r0⟩ := trodAll_cons hA
  obtain ⟨v1, vs1, d1, ds1, p1, q1, rfl, rfl, rfl, h1, r1⟩ := trodAll_cons r0
  obtain ⟨rfl, rfl, rfl⟩ := trodAll_nil r1
  obtain rfl : args = #[v0, v1] := by cases args; simp_all
  obtain ⟨rfl, rfl⟩ := trodVars_none hV
  have k0 := h0
  have lt0 : ∀ x ∈ p0, x.block < W.heap.size := by obtain ⟨m, hm⟩ := k0; exact DataW.trod_lt m _ _ _ hm
  have k1 := h1
  have lt1 : ∀ x ∈ p1, x.block < W.heap.size := by obtain ⟨m, hm⟩ := k1; exact DataW.trod_lt m _ _ _ hm
  obtain ⟨cs0, rfl, hz0⟩ := okWide_struct Try.underlying24 (hval 0 24 v0 rfl rfl)
  obtain ⟨l0⟩ := cs0
  obtain ⟨c0_0, c0_1, rfl⟩ := list2 l0 (hz0.trans (by kernel_rfl))
  obtain ⟨fu0, hf0⟩ := h0
  obtain ⟨xs0, m0, -, hx0, -, hn0, hg0⟩ := DataW.trod_struct Try.underlying24 hf0
  obtain ⟨y0_0, y0_1, rfl⟩ := list2 xs0 hn0
  simp only [Prod.mk.injEq] at hx0
  obtain ⟨rfl, rfl⟩ := hx0
  have g0_0 : DataW.trod enc Try.prog W 0 (fun _ => true) true m0 4 (List.take (Try.prog.cellsOf 4) (List.drop 0 [c0_0, c0_1])) = some y0_0 := hg0 0 _ rfl
  rw [show Try.prog.cellsOf 4 = 1 from by kernel_rfl] at g0_0
  replace g0_0 : DataW.trod enc Try.prog W 0 (fun _ => true) true m0 4 [c0_0] = some y0_0 := g0_0
  have g0_1 : DataW.trod enc Try.prog W 0 (fun _ => true) true m0 22 (List.take (Try.prog.cellsOf 22) (List.drop 1 [c0_0, c0_1])) = some y0_1 := hg0 1 _ rfl
  rw [show Try.prog.cellsOf 22 = 1 from by kernel_rfl] at g0_1
  replace g0_1 : DataW.trod enc Try.prog W 0 (fun _ => true) true m0 22 [c0_1] = some y0_1 := g0_1
  clear hg0
  obtain ⟨a0_0, e0_0, rfl⟩ := DataW.trod_bool Try.underlying4 g0_0
  simp at e0_0
  subst e0_0
  obtain ⟨v0_1, L0_1, e0_1, hh0_1, qq0_1⟩ := addrs_open g0_1
  simp at e0_1
  subst e0_1
  obtain ⟨cs1, rfl, hz1⟩ := okWide_struct Try.underlying24 (hval 1 24 v1 rfl rfl)
  obtain ⟨l1⟩ := cs1
  obtain ⟨c1_0, c1_1, rfl⟩ := list2 l1 (hz1.trans (by kernel_rfl))
  obtain ⟨fu1, hf1⟩ := h1
  obtain ⟨xs1, m1, -, hx1, -, hn1, hg1⟩ := DataW.trod_struct Try.underlying24 hf1
  obtain ⟨y1_0, y1_1, rfl⟩ := list2 xs1 hn1
  simp only [Prod.mk.injEq] at hx1
  obtain ⟨rfl, rfl⟩ := hx1
  have g1_0 : DataW.trod enc Try.prog W 0 (fun _ => true) true m1 4 (List.take (Try.prog.cellsOf 4) (List.drop 0 [c1_0, c1_1])) = some y1_0 := hg1 0 _ rfl
  rw [show Try.prog.cellsOf 4 = 1 from by kernel_rfl] at g1_0
  replace g1_0 : DataW.trod enc Try.prog W 0 (fun _ => true) true m1 4 [c1_0] = some y1_0 := g1_0
  have g1_1 : DataW.trod enc Try.prog W 0 (fun _ => true) true m1 22 (List.take (Try.prog.cellsOf 22) (List.drop 1 [c1_0, c1_1])) = some y1_1 := hg1 1 _ rfl
  rw [show Try.prog.cellsOf 22 = 1 from by kernel_rfl] at g1_1
  replace g1_1 : DataW.trod enc Try.prog W 0 (fun _ => true) true m1 22 [c1_1] = some y1_1 := g1_1
  clear hg1
  obtain ⟨a1_0, e1_0, rfl⟩ := DataW.trod_bool Try.underlying4 g1_0
  simp at e1_0
  subst e1_0
  obtain ⟨v1_1, L1_1, e1_1, hh1_1, qq1_1⟩ := addrs_open g1_1
  simp at e1_1
  subst e1_1
  clear hA0 hval0
  refine (walk a0_0 c0_1 L0_1 a1_0 c1_1 L1_1 W hh0_1 qq0_1 hh1_1 qq1_1).mono fun e W' ⟨he, bel⟩ => ?_
  subst he
  exact ⟨_, rfl, _, _, _, [], _, [], hW', trodAll_mk1 (shut_bool Try.underlying4 _), (trodAll_cons_mk (Below.trod laidOut (by kernel_rfl) (of_decide_eq_true (by kernel_rfl)) k0 bel lt0) (trodAll_cons_mk (Below.trod laidOut (by kernel_rfl) (of_decide_eq_true (by kernel_rfl)) k1 bel lt1) trodAll_mk0)), rfl, bel.frame _, fun h => by cases h⟩

theorem over : Rows.filterLeadsRow.holds Try.pinned (OpenSpec.ofChange Rows.filterLeadsSpec) :=
  OpenClaim.holds_of_wide 8 Try.f8 rfl rfl rfl rfl rfl rfl rfl ⟨rfl, rfl, rfl, rfl, rfl⟩ rfl rfl rfl rfl rfl (by kernel_rfl) Try.func8 (by kernel_rfl)
    (of_decide_eq_true (by kernel_rfl)) (by unfold Func.isWrapper; first | (rw [if_pos (by decide +kernel)]; kernel_rfl) | (rw [if_neg (by decide +kernel)]; exact ⟨rfl, rfl⟩))
    (fun os started H enc _ => lifted os started H enc)

/-- The statement. -/
theorem proved : Rows.FilterLeadsSaid := over
#print axioms proved
end Go.Proofs.Ytkjkndpglbcgfaa.filterLeadsLaw
