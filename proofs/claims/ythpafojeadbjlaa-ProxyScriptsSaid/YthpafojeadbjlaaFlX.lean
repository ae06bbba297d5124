/-
  Filters, the document's answer: siphonref11.Less, Diff. Contracts over the translated program.
-/
import Derived.Test.YthpafojeadbjlaaFlN
import Derived.Test.YthpafojeadbjlaaFlU
import Derived.Test.YthpafojeadbjlaaFlQ0
namespace Go.Proofs.Ythpafojeadbjlaa
open Go.RowKit
set_option linter.unusedVariables false
set_option linter.unusedSimpArgs false

set_option maxHeartbeats 4000000 in
set_option maxRecDepth 100000 in
theorem rless_c (va vb : Value) (A B : List ByteArray) (w : World) (hA : A.length ≤ 1000000) (hB : B.length ≤ 1000000) (ha : AddrsAt w va A) (hb : AddrsAt w vb B) :
    Calls Try.prog 63 #[va, vb] w (MPost (lessF A B) w) := by
  obtain ⟨i0, hi, hz0, hz1, hz2⟩ := info_parts infoAd
  have HR := Lib.hid (rris_c va A w hA ha)
  have HH := Lib.hid fun s U (hU : Below w.heap.size w U) => rhas_c vb B s U (by omega) (hb.below hU)
  have HL0 := Nat.le_trans (ris_len A) hA
  obtain ⟨pa, ca, rfl⟩ := ha.slice
  obtain ⟨pb, cb, rfl⟩ := hb.slice
  have hsr : lessF A B = (ris A).filter fun s => !hasS B s := rfl
  rw [hsr]
  clear hsr
  generalize hP : (fun s => !hasS B s) = P
  have HP := Lib.hid (show ∀ s, P s = !hasS B s from fun s => by rw [← hP])
  clear hP
  generalize ris A = L at HR HL0 ⊢
  unfold MPost at HR ⊢
  generalize hasS B = hs at HH HP
  generalize A.length = na at *
  generalize B.length = nb at *
  clear ha hb
  go_enter Try.func63, Try.ntmps63
  go_wp2_with fail
  ((with_reducible refine HR.out.mono ?_); rintro e w1 ⟨vL, rfl, aL, h1⟩)
  have B1 := Lib.hid h1
  obtain ⟨pL, cL, bL, oL, rfl, hpL, hcL⟩ := aL
  have HPL := Lib.hid hpL
  have RW := Lib.hid (show RowL bL oL L w1 from hcL)
  clear h1 hpL hcL HR
  go_wp2_with fail
  go_loopw [5, 7] (fun o i wr => ∃ (k : Nat) (acc : List ByteArray) (po : Option Addr) (na co : Nat), k ≤ L.length ∧ o = .slice po na co ∧ i = .int .i64 k ∧ Hid (na = acc.length ∧ acc.length ≤ k) ∧ Hid (acc = (L.take k).filter P) ∧ Hid (wr.ownsRow w1.heap.size 35 1 (.slice po na co) na (acc.map Value.string)) ∧ Hid (Below w1.heap.size w1 wr)) (fun _ i _ => L.length - (intOf i).toNat)
  case atStart => exact ⟨0, [], none, 0, 0, Nat.zero_le _, rfl, rfl, Lib.hid ⟨rfl, Nat.zero_le _⟩, Lib.hid rfl, Lib.hid (World.ownsRow_nil _ _ _ _), Lib.hid (Below.refl _ _)⟩
  case round =>
    obtain ⟨k, acc, po, no, co, hk, rfl, rfl, HN, HA, OW, K⟩ := hrel
    by_cases hlt : k < L.length
    · have hne : L ≠ [] := by rintro rfl; simp at hlt
      obtain ⟨rfl, -⟩ := HPL.out hne
      have hlk := Lib.hid (List.getElem?_eq_getElem hlt)
      generalize L[k] = x at hlk
      have hlt' : (k : Int) < (L.length : Int) := by omega
      have HF := Lib.hid (filter_take_succ L P k x hlk.out)
      have HPx := Lib.hid (HP.out x)
      have x1 := (RW.out.below K.out) k x hlk.out
      have HHx := Lib.hid (HH.out x wr (B1.out.trans (K.out.mono B1.out.size)))
      generalize hs x = r at HHx HPx
      have hkb : k < 1000000 := by omega
      clear hne hlt
      rcases r with _ | _
      · have HA2 := Lib.hid (show acc ++ [x] = (L.take (k + 1)).filter P by rw [HF.out, HPx.out, HA.out]; rfl)
        have hno : no ≤ 1000000 := by have := HN.out; omega
        go_wp2_with fail
        ((with_reducible refine HHx.out.mono ?_); rintro e w3 ⟨rfl, h3⟩)
        obtain rfl : wr = w3 := h3.symm
        have OA := Lib.hid (OW.out.alloc (.cells #[.string x] 35))
        have CA := Lib.hid (cells1a wr (.string x) 35)
        have oc := Lib.hid (show ∀ u ∈ [Value.string x], u.oneCell' = true from fun u hu => by simp at hu; subst hu; rfl)
        have sz := Lib.hid (show w1.heap.size ≤ (wr.alloc (.cells #[.string x] 35)).heap.size by have := K.out.size; first | (simp; done) | (simp; omega))
        have n1 := Lib.hid (show no + 1 ≤ maxLen by unfold maxLen; omega)
        have n2 := Lib.hid (show (no + 1) * 16 ≤ 140737488355328 by omega)
        go_wp2_with (at_builtin; refine wpList_append_own _ rfl _ _ 26 rfl w1.heap.size 35 i0 (.string ⟨#[]⟩) 1 16 Try.underlying26 hi hz0 hz1 hz2 rfl (by decide) _ _ _ rfl OA.out ⟨wr.heap.size, 0, none⟩ 1 1 [.string x] rfl rfl CA.out oc.out n1.out n2.out sz.out ?_)
        intro v9 w7 hown7 hg7 _
        obtain ⟨p9, c9, rfl⟩ := fl_owns_slice hown7
        have O9 := Lib.hid (show w7.ownsRow w1.heap.size 35 1 (.slice p9 (no + 1) c9) (no + 1) ((acc ++ [x]).map Value.string) by rw [List.map_append]; exact hown7)
        have K9 := Lib.hid ((K.out.alloc K.out.size _).grown hg7 sz.out (fun j hj => (OA.out.lt j hj).1))
        clear hown7 hg7
        go_wp2_with fail
        go_roundw
        case rel => exact ⟨k + 1, acc ++ [x], p9, no + 1, c9, by omega, rfl, by go_num, Lib.hid ⟨by rw [List.length_append, ← HN.out.1]; rfl, by rw [List.length_append, List.length_singleton]; have := HN.out.2; omega⟩, HA2, O9, K9⟩
        case measure => simp [intOf]; omega
      · have HA2 := Lib.hid (show acc = (L.take (k + 1)).filter P by rw [HF.out, HPx.out, HA.out]; simp)
        go_wp2_with fail
        ((with_reducible refine HHx.out.mono ?_); rintro e w3 ⟨rfl, h3⟩)
        obtain rfl : wr = w3 := h3.symm
        go_wp2_with fail
        go_roundw
        case rel => exact ⟨k + 1, acc, po, no, co, by omega, rfl, by go_num, Lib.hid ⟨HN.out.1, by have := HN.out.2; omega⟩, HA2, OW, K⟩
        case measure => simp [intOf]; omega
    · obtain rfl : k = L.length := by omega
      have HE := Lib.hid (show acc = L.filter P by rw [HA.out, List.take_length])
      have AO := Lib.hid (AddrsG.of_owns (l := acc) (n := no) OW.out)
      have d1 : ¬ ((L.length : Int) < (L.length : Int)) := by omega
      clear hlt hk
      go_wp2_with fail
      go_ret
      exact ⟨_, rfl, by rw [← HE.out]; exact AO.out.mono B1.out.size id, B1.out.trans (K.out.mono B1.out.size)⟩

theorem rless_n (va vb : Value) (A B : List ByteArray) (n : Nat) (hn : n = (lessF A B).length) (w : World) (hA : A.length ≤ 1000000) (hB : B.length ≤ 1000000) (ha : AddrsAt w va A) (hb : AddrsAt w vb B) :
    Calls Try.prog 63 #[va, vb] w fun e w' => ∃ p d, e = .returned (.slice p n d) ∧ AddrsG 0 true w' (.slice p n d) (lessF A B) ∧ Below w.heap.size w w' := by
  refine (rless_c va vb A B w hA hB ha hb).mono ?_
  rintro e w' ⟨v, rfl, h1, h2⟩
  obtain ⟨p, d, rfl⟩ := h1.slice
  subst hn
  exact ⟨p, d, rfl, h1.mono (Nat.zero_le _) id, h2⟩

set_option maxHeartbeats 8000000 in
set_option maxRecDepth 100000 in
theorem rdiff1_c (gr : ByteArray) (ge : Bool) (vf vg : Value) (lf lg : List ByteArray) (w : World) (hf : lf.length ≤ 1000000) (hg : lg.length ≤ 1000000) (haf : AddrsAt w vf lf) (hag : AddrsAt w vg lg) :
    Calls Try.prog 43 #[.string gr, .agg #[.bool (!ge), vf], .agg #[.bool ge, vg]] w (DiPost [⟨if ge then 4 else 3, gr, ris lg⟩] w) := by
  have HAG := Lib.hid hag
  obtain ⟨pf, cf, rfl⟩ := haf.slice
  obtain ⟨pg, cg, rfl⟩ := hag.slice
  have HR := Lib.hid fun U (hU : Below w.heap.size w U) => rris_c _ lg U hg (HAG.out.below hU)
  unfold MPost at HR
  unfold DiPost
  generalize ris lg = rg at HR ⊢
  generalize lf.length = nf at *
  generalize lg.length = ng at *
  clear haf hag hf hg HAG
  cases ge
  · simp only [Bool.not_false, Bool.not_true, if_true, Bool.false_eq_true, if_false]
    have B := Lib.hid (K2.start w #[.bool true, .slice pf nf cf] #[.bool false, .slice pg ng cg])
    go_enter Try.func43, Try.ntmps43
    go_wp2_with fail
    ((with_reducible refine (HR.out _ B.out.bel).mono ?_); rintro e w3 ⟨v3, rfl, a3, h3⟩)
    replace B := Lib.hid (B.out.below h3)
    have A3 := Lib.hid a3.at
    obtain ⟨p3, c3, rfl⟩ := a3.slice
    clear a3 h3
    go_wp2_with fail
    go_ret
    exact ⟨_, rfl, rec1_at (heap_new _ _) (A3.out.below (boxed_below _ _)), B.out.bel.alloc B.out.bel.size _⟩
  · simp only [Bool.not_false, Bool.not_true, if_true, Bool.false_eq_true, if_false]
    have B := Lib.hid (K2.start w #[.bool false, .slice pf nf cf] #[.bool true, .slice pg ng cg])
    go_enter Try.func43, Try.ntmps43
    go_wp2_with fail
    ((with_reducible refine (HR.out _ B.out.bel).mono ?_); rintro e w3 ⟨v3, rfl, a3, h3⟩)
    replace B := Lib.hid (B.out.below h3)
    have A3 := Lib.hid a3.at
    obtain ⟨p3, c3, rfl⟩ := a3.slice
    clear a3 h3
    go_wp2_with fail
    go_ret
    exact ⟨_, rfl, rec1_at (heap_new _ _) (A3.out.below (boxed_below _ _)), B.out.bel.alloc B.out.bel.size _⟩

set_option maxHeartbeats 16000000 in
set_option maxRecDepth 100000 in
theorem rdiff2_c (gr : ByteArray) (ge : Bool) (vf vg : Value) (lf lg : List ByteArray) (w : World) (hf : lf.length ≤ 1000000) (hg : lg.length ≤ 1000000) (haf : AddrsAt w vf lf) (hag : AddrsAt w vg lg) :
    Calls Try.prog 43 #[.string gr, .agg #[.bool ge, vf], .agg #[.bool ge, vg]] w (DiPost (if ge then changeF gr (lessF lf lg) (lessF lg lf) else changeF gr (lessF lg lf) (lessF lf lg)) w) := by
  obtain ⟨i0, hi, hz0, hz1, hz2⟩ := infoR
  have HAF := Lib.hid haf
  have HAG := Lib.hid hag
  obtain ⟨pf, cf, rfl⟩ := haf.slice
  obtain ⟨pg, cg, rfl⟩ := hag.slice
  obtain ⟨n1, hn1⟩ : ∃ n, n = (lessF lg lf).length := ⟨_, rfl⟩
  obtain ⟨n2, hn2⟩ : ∃ n, n = (lessF lf lg).length := ⟨_, rfl⟩
  have H1 := Lib.hid fun U (hU : Below w.heap.size w U) => rless_n (.slice pg lg.length cg) (.slice pf lf.length cf) lg lf n1 hn1 U hg hf (HAG.out.below hU) (HAF.out.below hU)
  have H2 := Lib.hid fun U (hU : Below w.heap.size w U) => rless_n (.slice pf lf.length cf) (.slice pg lg.length cg) lf lg n2 hn2 U hf hg (HAF.out.below hU) (HAG.out.below hU)
  unfold DiPost
  generalize lessF lg lf = l1 at *
  generalize lessF lf lg = l2 at *
  generalize lf.length = nf at *
  generalize lg.length = ng at *
  replace hn1 := Lib.hid hn1
  replace hn2 := Lib.hid hn2
  clear haf hag hf hg HAF HAG
  cases ge
  · simp only [Bool.not_false, Bool.not_true, if_true, Bool.false_eq_true, if_false]
    have B := Lib.hid (K2.start w #[.bool false, .slice pf nf cf] #[.bool false, .slice pg ng cg])
    by_cases zA : 0 < n1
    · have dA : decide ((0 : Int) < (n1 : Int)) = true := decide_eq_true (by omega)
      have kA : (0 : Int) < (n1 : Int) := by omega
      have eA := Lib.hid (show ¬ l1 = [] from fun e => by have := hn1.out; rw [e] at this; simp at this; omega)
      clear zA
      by_cases zB : 0 < n2
      · have dB : decide ((0 : Int) < (n2 : Int)) = true := decide_eq_true (by omega)
        have kB : (0 : Int) < (n2 : Int) := by omega
        have eB := Lib.hid (show ¬ l2 = [] from fun e => by have := hn2.out; rw [e] at this; simp at this; omega)
        clear zB
        go_enter Try.func43, Try.ntmps43
        go_wp2_with fail
        ((with_reducible refine (H1.out _ B.out.bel).mono ?_); rintro e w3 ⟨pa, ca, rfl, a3, h3⟩)
        replace B := Lib.hid (B.out.below h3)
        have HA := Lib.hid a3
        clear a3 h3
        have x1 := cell_of_block (j := 1) B.out.1 rfl
        have y1 := cell_of_block (j := 1) B.out.2.1 rfl
        go_wp2_with fail
        ((with_reducible refine (H2.out _ B.out.bel).mono ?_); rintro e wc ⟨pb, cb, rfl, a4, h4⟩)
        replace B := Lib.hid (B.out.below h4)
        replace HA := Lib.hid (HA.out.below h4)
        have HB := Lib.hid a4
        clear a4 h4 x1 y1
        have BK := Lib.hid B.out.bel
        have x0 := cell_of_block (j := 0) B.out.1 rfl
        have O0 := Lib.hid (World.ownsRow_nil wc w.heap.size 57 3)
        have OA1 := Lib.hid (O0.out.alloc (.cells #[.int .i64 5, .string gr, .slice pa n1 ca] 57))
        have CA1 := Lib.hid (cells3a wc (.int .i64 5) (.string gr) (.slice pa n1 ca) 57)
        have oc1 := Lib.hid (show ∀ u ∈ [Value.int .i64 5, .string gr, .slice pa n1 ca], u.oneCell' = true from fun u hu => by simp at hu; rcases hu with rfl | rfl | rfl <;> rfl)
        have sz1 := Lib.hid (show w.heap.size ≤ (wc.alloc (.cells #[.int .i64 5, .string gr, .slice pa n1 ca] 57)).heap.size by have := BK.out.size; first | (simp; done) | (simp; omega))
        have nA1 := Lib.hid (show 0 + 1 ≤ maxLen by unfold maxLen; omega)
        have nB1 := Lib.hid (show (0 + 1) * 48 ≤ 140737488355328 by omega)
        go_wp2_with (at_builtin; refine wpList_append_own _ rfl _ _ 50 rfl w.heap.size 57 i0 (.agg #[.int .i64 0, .string ⟨#[]⟩, .slice none 0 0]) 3 48 Try.underlying50 hi hz0 hz1 hz2 rfl (by decide) _ _ _ rfl OA1.out ⟨wc.heap.size, 0, none⟩ 1 1 [.int .i64 5, .string gr, .slice pa n1 ca] rfl rfl CA1.out oc1.out nA1.out nB1.out sz1.out ?_)
        intro v1 w1 hown1 hg1 _
        obtain ⟨p1, c1, rfl⟩ := fu_owns_slice hown1
        have OT1 := owned_ty OA1.out addr_ne_rec
        replace BK := Lib.hid ((BK.out.alloc BK.out.size (.cells #[.int .i64 5, .string gr, .slice pa n1 ca] 57)).grown hg1 sz1.out (fun j hj => (OA1.out.lt j hj).1))
        replace HA := Lib.hid ((HA.out.tmp (.cells #[.int .i64 5, .string gr, .slice pa n1 ca] 57)).grown hg1 OT1)
        replace HB := Lib.hid ((HB.out.tmp (.cells #[.int .i64 5, .string gr, .slice pa n1 ca] 57)).grown hg1 OT1)
        have O1 := Lib.hid hown1
        clear hown1 hg1 OT1
        have OA2 := Lib.hid (O1.out.alloc (.cells #[.int .i64 6, .string gr, .slice pb n2 cb] 57))
        have CA2 := Lib.hid (cells3a w1 (.int .i64 6) (.string gr) (.slice pb n2 cb) 57)
        have oc2 := Lib.hid (show ∀ u ∈ [Value.int .i64 6, .string gr, .slice pb n2 cb], u.oneCell' = true from fun u hu => by simp at hu; rcases hu with rfl | rfl | rfl <;> rfl)
        have sz2 := Lib.hid (show w.heap.size ≤ (w1.alloc (.cells #[.int .i64 6, .string gr, .slice pb n2 cb] 57)).heap.size by have := BK.out.size; first | (simp; done) | (simp; omega))
        have nA2 := Lib.hid (show (0 + 1) + 1 ≤ maxLen by unfold maxLen; omega)
        have nB2 := Lib.hid (show ((0 + 1) + 1) * 48 ≤ 140737488355328 by omega)
        go_wp2_with (at_builtin; refine wpList_append_own _ rfl _ _ 50 rfl w.heap.size 57 i0 (.agg #[.int .i64 0, .string ⟨#[]⟩, .slice none 0 0]) 3 48 Try.underlying50 hi hz0 hz1 hz2 rfl (by decide) _ _ _ rfl OA2.out ⟨w1.heap.size, 0, none⟩ 1 1 [.int .i64 6, .string gr, .slice pb n2 cb] rfl rfl CA2.out oc2.out nA2.out nB2.out sz2.out ?_)
        intro v2 w2 hown2 hg2 _
        obtain ⟨p2, c2, rfl⟩ := fu_owns_slice hown2
        have OT2 := owned_ty OA2.out addr_ne_rec
        replace BK := Lib.hid ((BK.out.alloc BK.out.size (.cells #[.int .i64 6, .string gr, .slice pb n2 cb] 57)).grown hg2 sz2.out (fun j hj => (OA2.out.lt j hj).1))
        replace HA := Lib.hid ((HA.out.tmp (.cells #[.int .i64 6, .string gr, .slice pb n2 cb] 57)).grown hg2 OT2)
        replace HB := Lib.hid ((HB.out.tmp (.cells #[.int .i64 6, .string gr, .slice pb n2 cb] 57)).grown hg2 OT2)
        have RE := Lib.hid (show RecsAt w2 (.slice p2 (0 + 1 + 1) c2) (changeF gr l1 l2) from by rw [show changeF gr l1 l2 = [⟨5, gr, l1⟩, ⟨6, gr, l2⟩] by unfold changeF; rw [if_neg eA.out, if_neg eB.out]; rfl]; exact recs_of_owns0 hown2 ⟨rfl, rfl, HA.out, rfl, rfl, HB.out, trivial⟩)
        clear hown2 hg2 OT2
        go_wp2_with fail
        go_ret
        exact ⟨_, rfl, RE.out, BK.out⟩
      · obtain rfl : n2 = 0 := by have := hn2.out; omega
        have eB := Lib.hid (show l2 = [] from List.eq_nil_of_length_eq_zero hn2.out.symm)
        clear zB
        go_enter Try.func43, Try.ntmps43
        go_wp2_with fail
        ((with_reducible refine (H1.out _ B.out.bel).mono ?_); rintro e w3 ⟨pa, ca, rfl, a3, h3⟩)
        replace B := Lib.hid (B.out.below h3)
        have HA := Lib.hid a3
        clear a3 h3
        have x1 := cell_of_block (j := 1) B.out.1 rfl
        have y1 := cell_of_block (j := 1) B.out.2.1 rfl
        go_wp2_with fail
        ((with_reducible refine (H2.out _ B.out.bel).mono ?_); rintro e wc ⟨pb, cb, rfl, a4, h4⟩)
        replace B := Lib.hid (B.out.below h4)
        replace HA := Lib.hid (HA.out.below h4)
        have HB := Lib.hid a4
        clear a4 h4 x1 y1
        have BK := Lib.hid B.out.bel
        have x0 := cell_of_block (j := 0) B.out.1 rfl
        have O0 := Lib.hid (World.ownsRow_nil wc w.heap.size 57 3)
        have OA1 := Lib.hid (O0.out.alloc (.cells #[.int .i64 5, .string gr, .slice pa n1 ca] 57))
        have CA1 := Lib.hid (cells3a wc (.int .i64 5) (.string gr) (.slice pa n1 ca) 57)
        have oc1 := Lib.hid (show ∀ u ∈ [Value.int .i64 5, .string gr, .slice pa n1 ca], u.oneCell' = true from fun u hu => by simp at hu; rcases hu with rfl | rfl | rfl <;> rfl)
        have sz1 := Lib.hid (show w.heap.size ≤ (wc.alloc (.cells #[.int .i64 5, .string gr, .slice pa n1 ca] 57)).heap.size by have := BK.out.size; first | (simp; done) | (simp; omega))
        have nA1 := Lib.hid (show 0 + 1 ≤ maxLen by unfold maxLen; omega)
        have nB1 := Lib.hid (show (0 + 1) * 48 ≤ 140737488355328 by omega)
        go_wp2_with (at_builtin; refine wpList_append_own _ rfl _ _ 50 rfl w.heap.size 57 i0 (.agg #[.int .i64 0, .string ⟨#[]⟩, .slice none 0 0]) 3 48 Try.underlying50 hi hz0 hz1 hz2 rfl (by decide) _ _ _ rfl OA1.out ⟨wc.heap.size, 0, none⟩ 1 1 [.int .i64 5, .string gr, .slice pa n1 ca] rfl rfl CA1.out oc1.out nA1.out nB1.out sz1.out ?_)
        intro v1 w1 hown1 hg1 _
        obtain ⟨p1, c1, rfl⟩ := fu_owns_slice hown1
        have OT1 := owned_ty OA1.out addr_ne_rec
        replace BK := Lib.hid ((BK.out.alloc BK.out.size (.cells #[.int .i64 5, .string gr, .slice pa n1 ca] 57)).grown hg1 sz1.out (fun j hj => (OA1.out.lt j hj).1))
        replace HA := Lib.hid ((HA.out.tmp (.cells #[.int .i64 5, .string gr, .slice pa n1 ca] 57)).grown hg1 OT1)
        replace HB := Lib.hid ((HB.out.tmp (.cells #[.int .i64 5, .string gr, .slice pa n1 ca] 57)).grown hg1 OT1)
        have RE := Lib.hid (show RecsAt w1 (.slice p1 (0 + 1) c1) (changeF gr l1 l2) from by rw [show changeF gr l1 l2 = [⟨5, gr, l1⟩] by unfold changeF; rw [if_neg eA.out, if_pos eB.out]; rfl]; exact recs_of_owns0 hown1 ⟨rfl, rfl, HA.out, trivial⟩)
        clear hown1 hg1 OT1
        go_wp2_with fail
        go_ret
        exact ⟨_, rfl, RE.out, BK.out⟩
    · obtain rfl : n1 = 0 := by have := hn1.out; omega
      have eA := Lib.hid (show l1 = [] from List.eq_nil_of_length_eq_zero hn1.out.symm)
      clear zA
      by_cases zB : 0 < n2
      · have dB : decide ((0 : Int) < (n2 : Int)) = true := decide_eq_true (by omega)
        have kB : (0 : Int) < (n2 : Int) := by omega
        have eB := Lib.hid (show ¬ l2 = [] from fun e => by have := hn2.out; rw [e] at this; simp at this; omega)
        clear zB
        go_enter Try.func43, Try.ntmps43
        go_wp2_with fail
        ((with_reducible refine (H1.out _ B.out.bel).mono ?_); rintro e w3 ⟨pa, ca, rfl, a3, h3⟩)
        replace B := Lib.hid (B.out.below h3)
        have HA := Lib.hid a3
        clear a3 h3
        have x1 := cell_of_block (j := 1) B.out.1 rfl
        have y1 := cell_of_block (j := 1) B.out.2.1 rfl
        go_wp2_with fail
        ((with_reducible refine (H2.out _ B.out.bel).mono ?_); rintro e wc ⟨pb, cb, rfl, a4, h4⟩)
        replace B := Lib.hid (B.out.below h4)
        replace HA := Lib.hid (HA.out.below h4)
        have HB := Lib.hid a4
        clear a4 h4 x1 y1
        have BK := Lib.hid B.out.bel
        have x0 := cell_of_block (j := 0) B.out.1 rfl
        have O0 := Lib.hid (World.ownsRow_nil wc w.heap.size 57 3)
        have OA1 := Lib.hid (O0.out.alloc (.cells #[.int .i64 6, .string gr, .slice pb n2 cb] 57))
        have CA1 := Lib.hid (cells3a wc (.int .i64 6) (.string gr) (.slice pb n2 cb) 57)
        have oc1 := Lib.hid (show ∀ u ∈ [Value.int .i64 6, .string gr, .slice pb n2 cb], u.oneCell' = true from fun u hu => by simp at hu; rcases hu with rfl | rfl | rfl <;> rfl)
        have sz1 := Lib.hid (show w.heap.size ≤ (wc.alloc (.cells #[.int .i64 6, .string gr, .slice pb n2 cb] 57)).heap.size by have := BK.out.size; first | (simp; done) | (simp; omega))
        have nA1 := Lib.hid (show 0 + 1 ≤ maxLen by unfold maxLen; omega)
        have nB1 := Lib.hid (show (0 + 1) * 48 ≤ 140737488355328 by omega)
        go_wp2_with (at_builtin; refine wpList_append_own _ rfl _ _ 50 rfl w.heap.size 57 i0 (.agg #[.int .i64 0, .string ⟨#[]⟩, .slice none 0 0]) 3 48 Try.underlying50 hi hz0 hz1 hz2 rfl (by decide) _ _ _ rfl OA1.out ⟨wc.heap.size, 0, none⟩ 1 1 [.int .i64 6, .string gr, .slice pb n2 cb] rfl rfl CA1.out oc1.out nA1.out nB1.out sz1.out ?_)
        intro v1 w1 hown1 hg1 _
        obtain ⟨p1, c1, rfl⟩ := fu_owns_slice hown1
        have OT1 := owned_ty OA1.out addr_ne_rec
        replace BK := Lib.hid ((BK.out.alloc BK.out.size (.cells #[.int .i64 6, .string gr, .slice pb n2 cb] 57)).grown hg1 sz1.out (fun j hj => (OA1.out.lt j hj).1))
        replace HA := Lib.hid ((HA.out.tmp (.cells #[.int .i64 6, .string gr, .slice pb n2 cb] 57)).grown hg1 OT1)
        replace HB := Lib.hid ((HB.out.tmp (.cells #[.int .i64 6, .string gr, .slice pb n2 cb] 57)).grown hg1 OT1)
        have RE := Lib.hid (show RecsAt w1 (.slice p1 (0 + 1) c1) (changeF gr l1 l2) from by rw [show changeF gr l1 l2 = [⟨6, gr, l2⟩] by unfold changeF; rw [if_pos eA.out, if_neg eB.out]; rfl]; exact recs_of_owns0 hown1 ⟨rfl, rfl, HB.out, trivial⟩)
        clear hown1 hg1 OT1
        go_wp2_with fail
        go_ret
        exact ⟨_, rfl, RE.out, BK.out⟩
      · obtain rfl : n2 = 0 := by have := hn2.out; omega
        have eB := Lib.hid (show l2 = [] from List.eq_nil_of_length_eq_zero hn2.out.symm)
        clear zB
        go_enter Try.func43, Try.ntmps43
        go_wp2_with fail
        ((with_reducible refine (H1.out _ B.out.bel).mono ?_); rintro e w3 ⟨pa, ca, rfl, a3, h3⟩)
        replace B := Lib.hid (B.out.below h3)
        have HA := Lib.hid a3
        clear a3 h3
        have x1 := cell_of_block (j := 1) B.out.1 rfl
        have y1 := cell_of_block (j := 1) B.out.2.1 rfl
        go_wp2_with fail
        ((with_reducible refine (H2.out _ B.out.bel).mono ?_); rintro e wc ⟨pb, cb, rfl, a4, h4⟩)
        replace B := Lib.hid (B.out.below h4)
        replace HA := Lib.hid (HA.out.below h4)
        have HB := Lib.hid a4
        clear a4 h4 x1 y1
        have BK := Lib.hid B.out.bel
        have x0 := cell_of_block (j := 0) B.out.1 rfl
        have O0 := Lib.hid (World.ownsRow_nil wc w.heap.size 57 3)
        have RE := Lib.hid (show RecsAt wc (.slice none 0 0) (changeF gr l1 l2) from by rw [show changeF gr l1 l2 = [] by unfold changeF; rw [if_pos eA.out, if_pos eB.out]; rfl]; exact RecsG.nil _ _ _)
        go_wp2_with fail
        go_ret
        exact ⟨_, rfl, RE.out, BK.out⟩
  · simp only [Bool.not_false, Bool.not_true, if_true, Bool.false_eq_true, if_false]
    have B := Lib.hid (K2.start w #[.bool true, .slice pf nf cf] #[.bool true, .slice pg ng cg])
    by_cases zA : 0 < n2
    · have dA : decide ((0 : Int) < (n2 : Int)) = true := decide_eq_true (by omega)
      have kA : (0 : Int) < (n2 : Int) := by omega
      have eA := Lib.hid (show ¬ l2 = [] from fun e => by have := hn2.out; rw [e] at this; simp at this; omega)
      clear zA
      by_cases zB : 0 < n1
      · have dB : decide ((0 : Int) < (n1 : Int)) = true := decide_eq_true (by omega)
        have kB : (0 : Int) < (n1 : Int) := by omega
        have eB := Lib.hid (show ¬ l1 = [] from fun e => by have := hn1.out; rw [e] at this; simp at this; omega)
        clear zB
        go_enter Try.func43, Try.ntmps43
        go_wp2_with fail
        ((with_reducible refine (H1.out _ B.out.bel).mono ?_); rintro e w3 ⟨pb, cb, rfl, a3, h3⟩)
        replace B := Lib.hid (B.out.below h3)
        have HB := Lib.hid a3
        clear a3 h3
        have x1 := cell_of_block (j := 1) B.out.1 rfl
        have y1 := cell_of_block (j := 1) B.out.2.1 rfl
        go_wp2_with fail
        ((with_reducible refine (H2.out _ B.out.bel).mono ?_); rintro e wc ⟨pa, ca, rfl, a4, h4⟩)
        replace B := Lib.hid (B.out.below h4)
        replace HB := Lib.hid (HB.out.below h4)
        have HA := Lib.hid a4
        clear a4 h4 x1 y1
        have BK := Lib.hid B.out.bel
        have x0 := cell_of_block (j := 0) B.out.1 rfl
        have O0 := Lib.hid (World.ownsRow_nil wc w.heap.size 57 3)
        have OA1 := Lib.hid (O0.out.alloc (.cells #[.int .i64 5, .string gr, .slice pa n2 ca] 57))
        have CA1 := Lib.hid (cells3a wc (.int .i64 5) (.string gr) (.slice pa n2 ca) 57)
        have oc1 := Lib.hid (show ∀ u ∈ [Value.int .i64 5, .string gr, .slice pa n2 ca], u.oneCell' = true from fun u hu => by simp at hu; rcases hu with rfl | rfl | rfl <;> rfl)
        have sz1 := Lib.hid (show w.heap.size ≤ (wc.alloc (.cells #[.int .i64 5, .string gr, .slice pa n2 ca] 57)).heap.size by have := BK.out.size; first | (simp; done) | (simp; omega))
        have nA1 := Lib.hid (show 0 + 1 ≤ maxLen by unfold maxLen; omega)
        have nB1 := Lib.hid (show (0 + 1) * 48 ≤ 140737488355328 by omega)
        go_wp2_with (at_builtin; refine wpList_append_own _ rfl _ _ 50 rfl w.heap.size 57 i0 (.agg #[.int .i64 0, .string ⟨#[]⟩, .slice none 0 0]) 3 48 Try.underlying50 hi hz0 hz1 hz2 rfl (by decide) _ _ _ rfl OA1.out ⟨wc.heap.size, 0, none⟩ 1 1 [.int .i64 5, .string gr, .slice pa n2 ca] rfl rfl CA1.out oc1.out nA1.out nB1.out sz1.out ?_)
        intro v1 w1 hown1 hg1 _
        obtain ⟨p1, c1, rfl⟩ := fu_owns_slice hown1
        have OT1 := owned_ty OA1.out addr_ne_rec
        replace BK := Lib.hid ((BK.out.alloc BK.out.size (.cells #[.int .i64 5, .string gr, .slice pa n2 ca] 57)).grown hg1 sz1.out (fun j hj => (OA1.out.lt j hj).1))
        replace HA := Lib.hid ((HA.out.tmp (.cells #[.int .i64 5, .string gr, .slice pa n2 ca] 57)).grown hg1 OT1)
        replace HB := Lib.hid ((HB.out.tmp (.cells #[.int .i64 5, .string gr, .slice pa n2 ca] 57)).grown hg1 OT1)
        have O1 := Lib.hid hown1
        clear hown1 hg1 OT1
        have OA2 := Lib.hid (O1.out.alloc (.cells #[.int .i64 6, .string gr, .slice pb n1 cb] 57))
        have CA2 := Lib.hid (cells3a w1 (.int .i64 6) (.string gr) (.slice pb n1 cb) 57)
        have oc2 := Lib.hid (show ∀ u ∈ [Value.int .i64 6, .string gr, .slice pb n1 cb], u.oneCell' = true from fun u hu => by simp at hu; rcases hu with rfl | rfl | rfl <;> rfl)
        have sz2 := Lib.hid (show w.heap.size ≤ (w1.alloc (.cells #[.int .i64 6, .string gr, .slice pb n1 cb] 57)).heap.size by have := BK.out.size; first | (simp; done) | (simp; omega))
        have nA2 := Lib.hid (show (0 + 1) + 1 ≤ maxLen by unfold maxLen; omega)
        have nB2 := Lib.hid (show ((0 + 1) + 1) * 48 ≤ 140737488355328 by omega)
        go_wp2_with (at_builtin; refine wpList_append_own _ rfl _ _ 50 rfl w.heap.size 57 i0 (.agg #[.int .i64 0, .string ⟨#[]⟩, .slice none 0 0]) 3 48 Try.underlying50 hi hz0 hz1 hz2 rfl (by decide) _ _ _ rfl OA2.out ⟨w1.heap.size, 0, none⟩ 1 1 [.int .i64 6, .string gr, .slice pb n1 cb] rfl rfl CA2.out oc2.out nA2.out nB2.out sz2.out ?_)
        intro v2 w2 hown2 hg2 _
        obtain ⟨p2, c2, rfl⟩ := fu_owns_slice hown2
        have OT2 := owned_ty OA2.out addr_ne_rec
        replace BK := Lib.hid ((BK.out.alloc BK.out.size (.cells #[.int .i64 6, .string gr, .slice pb n1 cb] 57)).grown hg2 sz2.out (fun j hj => (OA2.out.lt j hj).1))
        replace HA := Lib.hid ((HA.out.tmp (.cells #[.int .i64 6, .string gr, .slice pb n1 cb] 57)).grown hg2 OT2)
        replace HB := Lib.hid ((HB.out.tmp (.cells #[.int .i64 6, .string gr, .slice pb n1 cb] 57)).grown hg2 OT2)
        have RE := Lib.hid (show RecsAt w2 (.slice p2 (0 + 1 + 1) c2) (changeF gr l2 l1) from by rw [show changeF gr l2 l1 = [⟨5, gr, l2⟩, ⟨6, gr, l1⟩] by unfold changeF; rw [if_neg eA.out, if_neg eB.out]; rfl]; exact recs_of_owns0 hown2 ⟨rfl, rfl, HA.out, rfl, rfl, HB.out, trivial⟩)
        clear hown2 hg2 OT2
        go_wp2_with fail
        go_ret
        exact ⟨_, rfl, RE.out, BK.out⟩
      · obtain rfl : n1 = 0 := by have := hn1.out; omega
        have eB := Lib.hid (show l1 = [] from List.eq_nil_of_length_eq_zero hn1.out.symm)
        clear zB
        go_enter Try.func43, Try.ntmps43
        go_wp2_with fail
        ((with_reducible refine (H1.out _ B.out.bel).mono ?_); rintro e w3 ⟨pb, cb, rfl, a3, h3⟩)
        replace B := Lib.hid (B.out.below h3)
        have HB := Lib.hid a3
        clear a3 h3
        have x1 := cell_of_block (j := 1) B.out.1 rfl
        have y1 := cell_of_block (j := 1) B.out.2.1 rfl
        go_wp2_with fail
        ((with_reducible refine (H2.out _ B.out.bel).mono ?_); rintro e wc ⟨pa, ca, rfl, a4, h4⟩)
        replace B := Lib.hid (B.out.below h4)
        replace HB := Lib.hid (HB.out.below h4)
        have HA := Lib.hid a4
        clear a4 h4 x1 y1
        have BK := Lib.hid B.out.bel
        have x0 := cell_of_block (j := 0) B.out.1 rfl
        have O0 := Lib.hid (World.ownsRow_nil wc w.heap.size 57 3)
        have OA1 := Lib.hid (O0.out.alloc (.cells #[.int .i64 5, .string gr, .slice pa n2 ca] 57))
        have CA1 := Lib.hid (cells3a wc (.int .i64 5) (.string gr) (.slice pa n2 ca) 57)
        have oc1 := Lib.hid (show ∀ u ∈ [Value.int .i64 5, .string gr, .slice pa n2 ca], u.oneCell' = true from fun u hu => by simp at hu; rcases hu with rfl | rfl | rfl <;> rfl)
        have sz1 := Lib.hid (show w.heap.size ≤ (wc.alloc (.cells #[.int .i64 5, .string gr, .slice pa n2 ca] 57)).heap.size by have := BK.out.size; first | (simp; done) | (simp; omega))
        have nA1 := Lib.hid (show 0 + 1 ≤ maxLen by unfold maxLen; omega)
        have nB1 := Lib.hid (show (0 + 1) * 48 ≤ 140737488355328 by omega)
        go_wp2_with (at_builtin; refine wpList_append_own _ rfl _ _ 50 rfl w.heap.size 57 i0 (.agg #[.int .i64 0, .string ⟨#[]⟩, .slice none 0 0]) 3 48 Try.underlying50 hi hz0 hz1 hz2 rfl (by decide) _ _ _ rfl OA1.out ⟨wc.heap.size, 0, none⟩ 1 1 [.int .i64 5, .string gr, .slice pa n2 ca] rfl rfl CA1.out oc1.out nA1.out nB1.out sz1.out ?_)
        intro v1 w1 hown1 hg1 _
        obtain ⟨p1, c1, rfl⟩ := fu_owns_slice hown1
        have OT1 := owned_ty OA1.out addr_ne_rec
        replace BK := Lib.hid ((BK.out.alloc BK.out.size (.cells #[.int .i64 5, .string gr, .slice pa n2 ca] 57)).grown hg1 sz1.out (fun j hj => (OA1.out.lt j hj).1))
        replace HA := Lib.hid ((HA.out.tmp (.cells #[.int .i64 5, .string gr, .slice pa n2 ca] 57)).grown hg1 OT1)
        replace HB := Lib.hid ((HB.out.tmp (.cells #[.int .i64 5, .string gr, .slice pa n2 ca] 57)).grown hg1 OT1)
        have RE := Lib.hid (show RecsAt w1 (.slice p1 (0 + 1) c1) (changeF gr l2 l1) from by rw [show changeF gr l2 l1 = [⟨5, gr, l2⟩] by unfold changeF; rw [if_neg eA.out, if_pos eB.out]; rfl]; exact recs_of_owns0 hown1 ⟨rfl, rfl, HA.out, trivial⟩)
        clear hown1 hg1 OT1
        go_wp2_with fail
        go_ret
        exact ⟨_, rfl, RE.out, BK.out⟩
    · obtain rfl : n2 = 0 := by have := hn2.out; omega
      have eA := Lib.hid (show l2 = [] from List.eq_nil_of_length_eq_zero hn2.out.symm)
      clear zA
      by_cases zB : 0 < n1
      · have dB : decide ((0 : Int) < (n1 : Int)) = true := decide_eq_true (by omega)
        have kB : (0 : Int) < (n1 : Int) := by omega
        have eB := Lib.hid (show ¬ l1 = [] from fun e => by have := hn1.out; rw [e] at this; simp at this; omega)
        clear zB
        go_enter Try.func43, Try.ntmps43
        go_wp2_with fail
        ((with_reducible refine (H1.out _ B.out.bel).mono ?_); rintro e w3 ⟨pb, cb, rfl, a3, h3⟩)
        replace B := Lib.hid (B.out.below h3)
        have HB := Lib.hid a3
        clear a3 h3
        have x1 := cell_of_block (j := 1) B.out.1 rfl
        have y1 := cell_of_block (j := 1) B.out.2.1 rfl
        go_wp2_with fail
        ((with_reducible refine (H2.out _ B.out.bel).mono ?_); rintro e wc ⟨pa, ca, rfl, a4, h4⟩)
        replace B := Lib.hid (B.out.below h4)
        replace HB := Lib.hid (HB.out.below h4)
        have HA := Lib.hid a4
        clear a4 h4 x1 y1
        have BK := Lib.hid B.out.bel
        have x0 := cell_of_block (j := 0) B.out.1 rfl
        have O0 := Lib.hid (World.ownsRow_nil wc w.heap.size 57 3)
        have OA1 := Lib.hid (O0.out.alloc (.cells #[.int .i64 6, .string gr, .slice pb n1 cb] 57))
        have CA1 := Lib.hid (cells3a wc (.int .i64 6) (.string gr) (.slice pb n1 cb) 57)
        have oc1 := Lib.hid (show ∀ u ∈ [Value.int .i64 6, .string gr, .slice pb n1 cb], u.oneCell' = true from fun u hu => by simp at hu; rcases hu with rfl | rfl | rfl <;> rfl)
        have sz1 := Lib.hid (show w.heap.size ≤ (wc.alloc (.cells #[.int .i64 6, .string gr, .slice pb n1 cb] 57)).heap.size by have := BK.out.size; first | (simp; done) | (simp; omega))
        have nA1 := Lib.hid (show 0 + 1 ≤ maxLen by unfold maxLen; omega)
        have nB1 := Lib.hid (show (0 + 1) * 48 ≤ 140737488355328 by omega)
        go_wp2_with (at_builtin; refine wpList_append_own _ rfl _ _ 50 rfl w.heap.size 57 i0 (.agg #[.int .i64 0, .string ⟨#[]⟩, .slice none 0 0]) 3 48 Try.underlying50 hi hz0 hz1 hz2 rfl (by decide) _ _ _ rfl OA1.out ⟨wc.heap.size, 0, none⟩ 1 1 [.int .i64 6, .string gr, .slice pb n1 cb] rfl rfl CA1.out oc1.out nA1.out nB1.out sz1.out ?_)
        intro v1 w1 hown1 hg1 _
        obtain ⟨p1, c1, rfl⟩ := fu_owns_slice hown1
        have OT1 := owned_ty OA1.out addr_ne_rec
        replace BK := Lib.hid ((BK.out.alloc BK.out.size (.cells #[.int .i64 6, .string gr, .slice pb n1 cb] 57)).grown hg1 sz1.out (fun j hj => (OA1.out.lt j hj).1))
        replace HA := Lib.hid ((HA.out.tmp (.cells #[.int .i64 6, .string gr, .slice pb n1 cb] 57)).grown hg1 OT1)
        replace HB := Lib.hid ((HB.out.tmp (.cells #[.int .i64 6, .string gr, .slice pb n1 cb] 57)).grown hg1 OT1)
        have RE := Lib.hid (show RecsAt w1 (.slice p1 (0 + 1) c1) (changeF gr l2 l1) from by rw [show changeF gr l2 l1 = [⟨6, gr, l1⟩] by unfold changeF; rw [if_pos eA.out, if_neg eB.out]; rfl]; exact recs_of_owns0 hown1 ⟨rfl, rfl, HB.out, trivial⟩)
        clear hown1 hg1 OT1
        go_wp2_with fail
        go_ret
        exact ⟨_, rfl, RE.out, BK.out⟩
      · obtain rfl : n1 = 0 := by have := hn1.out; omega
        have eB := Lib.hid (show l1 = [] from List.eq_nil_of_length_eq_zero hn1.out.symm)
        clear zB
        go_enter Try.func43, Try.ntmps43
        go_wp2_with fail
        ((with_reducible refine (H1.out _ B.out.bel).mono ?_); rintro e w3 ⟨pb, cb, rfl, a3, h3⟩)
        replace B := Lib.hid (B.out.below h3)
        have HB := Lib.hid a3
        clear a3 h3
        have x1 := cell_of_block (j := 1) B.out.1 rfl
        have y1 := cell_of_block (j := 1) B.out.2.1 rfl
        go_wp2_with fail
        ((with_reducible refine (H2.out _ B.out.bel).mono ?_); rintro e wc ⟨pa, ca, rfl, a4, h4⟩)
        replace B := Lib.hid (B.out.below h4)
        replace HB := Lib.hid (HB.out.below h4)
        have HA := Lib.hid a4
        clear a4 h4 x1 y1
        have BK := Lib.hid B.out.bel
        have x0 := cell_of_block (j := 0) B.out.1 rfl
        have O0 := Lib.hid (World.ownsRow_nil wc w.heap.size 57 3)
        have RE := Lib.hid (show RecsAt wc (.slice none 0 0) (changeF gr l2 l1) from by rw [show changeF gr l2 l1 = [] by unfold changeF; rw [if_pos eA.out, if_pos eB.out]; rfl]; exact RecsG.nil _ _ _)
        go_wp2_with fail
        go_ret
        exact ⟨_, rfl, RE.out, BK.out⟩

/-- Diff, the document's answer, of every two filters. -/
theorem rdiff_c (gr : ByteArray) (fe ge : Bool) (vf vg : Value) (lf lg : List ByteArray) (w : World) (hf : lf.length ≤ 1000000) (hg : lg.length ≤ 1000000) (haf : AddrsAt w vf lf) (hag : AddrsAt w vg lg) :
    Calls Try.prog 43 #[.string gr, .agg #[.bool fe, vf], .agg #[.bool ge, vg]] w (DiPost (diffF gr ⟨fe, lf⟩ ⟨ge, lg⟩) w) := by
  by_cases h : fe = ge
  · subst h
    have e : diffF gr ⟨fe, lf⟩ ⟨fe, lg⟩ = if fe then changeF gr (lessF lf lg) (lessF lg lf) else changeF gr (lessF lg lf) (lessF lf lg) := by unfold diffF; rw [if_neg (by simp)]
    rw [e]
    exact rdiff2_c gr fe vf vg lf lg w hf hg haf hag
  · obtain rfl : fe = !ge := by revert h; cases fe <;> cases ge <;> simp
    have e : diffF gr ⟨!ge, lf⟩ ⟨ge, lg⟩ = [⟨if ge then 4 else 3, gr, ris lg⟩] := by unfold diffF; rw [if_pos (by cases ge <;> simp)]
    rw [e]
    exact rdiff1_c gr ge vf vg lf lg w hf hg haf hag

end Go.Proofs.Ythpafojeadbjlaa
