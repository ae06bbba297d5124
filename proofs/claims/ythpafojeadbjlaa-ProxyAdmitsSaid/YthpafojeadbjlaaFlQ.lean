/-
  Filters, the document's answer: siphonref11.Or. Contracts over the translated program.
-/
import Derived.Test.YthpafojeadbjlaaFlQ0
import Derived.Test.YthpafojeadbjlaaFlH
import Derived.StillTailTactics
import Derived.Lib.QuietBelow
import Derived.Deep.AppendLies
import Derived.Deep.RegionLaw
import Derived.Deep.Cut
import Derived.BigQuiet
namespace Go.Proofs.Ythpafojeadbjlaa
open Go.RowKit
set_option linter.unusedVariables false
set_option linter.unusedSimpArgs false

set_option maxHeartbeats 16000000 in
set_option maxRecDepth 100000 in
theorem ror_c (fe ge : Bool) (vf vg : Value) (lf lg : List ByteArray) (w : World) (hf : lf.length ≤ 1000) (hg : lg.length ≤ 1000) (haf : AddrsAt w vf lf) (hag : AddrsAt w vg lg) :
    Calls Try.prog 33 #[.agg #[.bool fe, vf], .agg #[.bool ge, vg]] w (FPost (orF ⟨fe, lf⟩ ⟨ge, lg⟩) w) := by
  obtain ⟨i0, hi, hz0, hz1, hz2⟩ := info_parts infoAd
  have HAF := Lib.hid haf
  have HAG := Lib.hid hag
  obtain ⟨pf, cf, rfl⟩ := haf.slice
  obtain ⟨pg, cg, rfl⟩ := hag.slice
  have HB := Lib.hid fun U (hU : Below w.heap.size w U) => rboth_c fe ge (.slice pf lf.length cf) (.slice pg lg.length cg) lf lg U hf hg (HAF.out.below hU) (HAG.out.below hU)
  have H1 := Lib.hid fun s U (hU : Below w.heap.size w U) => radm_c fe (.slice pf lf.length cf) lf s U (by omega) (HAF.out.below hU)
  have H2 := Lib.hid fun s U (hU : Below w.heap.size w U) => radm_c ge (.slice pg lg.length cg) lg s U (by omega) (HAG.out.below hU)
  have HL0 := Lib.hid (show (ris (lf ++ lg)).length ≤ 2000 from by have h := ris_len (lf ++ lg); rw [List.length_append] at h; omega)
  have hex : (orF ⟨fe, lf⟩ ⟨ge, lg⟩).ex = (fe || ge) := rfl
  have hsr : (orF ⟨fe, lf⟩ ⟨ge, lg⟩).src = (ris (lf ++ lg)).filter (fun s => (admB ⟨fe, lf⟩ s || admB ⟨ge, lg⟩ s) != (fe || ge)) := rfl
  unfold FPost
  rw [hex, hsr]
  clear hex hsr
  generalize hP : (fun s => (admB ⟨fe, lf⟩ s || admB ⟨ge, lg⟩ s) != (fe || ge)) = P
  have HP := Lib.hid (show ∀ s, P s = ((admB ⟨fe, lf⟩ s || admB ⟨ge, lg⟩ s) != (fe || ge)) from fun s => by rw [← hP])
  clear hP
  generalize ris (lf ++ lg) = L at HB HL0 ⊢
  unfold MPost at HB
  generalize (admB ⟨fe, lf⟩) = af at H1 HP
  generalize (admB ⟨ge, lg⟩) = ag at H2 HP
  generalize lf.length = nf at *
  generalize lg.length = ng at *
  clear haf hag HAF HAG hf hg
  cases fe <;> cases ge
  · simp only [Bool.or_self, Bool.or_true, Bool.true_or, Bool.or_false, Bool.false_or, Bool.and_self, Bool.and_true, Bool.true_and, Bool.and_false, Bool.false_and] at HP ⊢
    have B := Lib.hid (Q4.start w #[.bool false, .slice pf nf cf] #[.bool false, .slice pg ng cg] #[.bool false, .slice none 0 0] #[.bool false, .slice none 0 0])
    go_enter Try.func33, Try.ntmps33
    go_wp2_with fail
    ((with_reducible refine (HB.out _ B.out.bel).mono ?_); rintro e w2 ⟨vL, rfl, aL, h2⟩)
    replace B := Lib.hid (B.out.below h2)
    obtain ⟨pL, cL, bL, oL, rfl, hpL, hcL⟩ := aL
    have RW := Lib.hid (show RowL bL oL L w2 from hcL)
    have HPL := Lib.hid (show L ≠ [] → pL = some ⟨bL, oL, none⟩ ∧ w.heap.size + 1 + 1 + 1 < bL ∧ bL < w2.heap.size from fun hne => by
      obtain ⟨h1, h3, -⟩ := hpL hne
      refine ⟨h1, by simp at h3; omega, ?_⟩
      rcases L with _ | ⟨q, t⟩
      · exact absurd rfl hne
      · exact cell_lt' (hcL 0 q rfl))
    clear h2 hpL hcL
    generalize hM : w2.heap.size = M at HPL
    have HM := Lib.hid (show M ≤ w2.heap.size by omega)
    have HM2 := Lib.hid (show w.heap.size + 1 + 1 + 1 < M by have := B.out.lt; omega)
    clear hM
    go_wp2_with fail
    go_loopw [7, 8] (fun i _ wr => ∃ (k : Nat) (acc : List ByteArray) (po : Option Addr) (co na : Nat), k ≤ L.length ∧ i = .int .i64 k ∧ Hid (na = acc.length ∧ acc.length ≤ 2000) ∧ Hid (acc = (L.take k).filter P) ∧ Hid (Q4 w wr #[.bool false, .slice pf nf cf] #[.bool false, .slice pg ng cg] #[.bool false, .slice none 0 0] #[.bool false, .slice po na co]) ∧ Hid (RowL bL oL L wr) ∧ Hid (wr.ownsRow M 35 1 (.slice po na co) na (acc.map Value.string)) ∧ Hid (M ≤ wr.heap.size)) (fun i _ _ => L.length - (intOf i).toNat)
    case atStart => exact ⟨0, [], none, 0, 0, Nat.zero_le _, rfl, Lib.hid ⟨rfl, Nat.zero_le _⟩, Lib.hid rfl, B, RW, Lib.hid (World.ownsRow_nil _ _ _ _), HM⟩
    case round =>
      clear B RW HM
      obtain ⟨k, acc, po, co, na, hk, rfl, HN, HA, B, RW, OW, HM⟩ := hrel
      by_cases hlt : k < L.length
      · have hne : L ≠ [] := by rintro rfl; simp at hlt
        obtain ⟨rfl, hb1, hb2⟩ := HPL.out hne
        have hlk := Lib.hid (List.getElem?_eq_getElem hlt)
        generalize L[k] = x at hlk
        have hlt' : (k : Int) < (L.length : Int) := by omega
        have hL2 := HL0.out
        have HF := Lib.hid (filter_take_succ L P k x hlk.out)
        have H1x := Lib.hid fun U (hU : Below w.heap.size w U) => H1.out x U hU
        have H2x := Lib.hid fun U (hU : Below w.heap.size w U) => H2.out x U hU
        have HPx := Lib.hid (HP.out x)
        generalize af x = ra at H1x HPx
        generalize ag x = rb at H2x HPx
        have KF := Lib.hid fun (U : World) (k1 : Q4 w U #[.bool false, .slice pf nf cf] #[.bool false, .slice pg ng cg] #[.bool false, .slice none 0 0] #[.bool false, .slice po na co]) (k2 : RowL bL oL L U) => (⟨cell_of_block k1.1 rfl, cell_of_block k1.1 rfl, cell_of_block k1.2.1 rfl, cell_of_block k1.2.1 rfl, k2 k x hlk.out⟩ : U.cell? ⟨w.heap.size, 0, none⟩ = some (.bool false) ∧ U.cell? ⟨w.heap.size, 1, none⟩ = some (.slice pf nf cf) ∧ U.cell? ⟨w.heap.size + 1, 0, none⟩ = some (.bool false) ∧ U.cell? ⟨w.heap.size + 1, 1, none⟩ = some (.slice pg ng cg) ∧ U.cell? ⟨bL, oL + k, none⟩ = some (.string x))
        have OWD := Lib.hid (show wr.drew.ownsRow M 35 1 (.slice po na co) na (acc.map Value.string) from OW.out)
        have r0d : RowL bL oL L wr.drew := RW.out
        have k0 := B.out
        have r0 := RW.out
        clear hne hlt H1 H2 HP HPL
        rcases ra with _ | _
        · rcases rb with _ | _
          · obtain ⟨f0, f1, f2, f3, f4⟩ := KF.out _ k0 r0
            have q0 := cell_regrown f0
            have q1 := cell_regrown f1
            have q2 := cell_regrown f2
            have q3 := cell_regrown f3
            have q4 := cell_regrown f4
            have C1 := fun d os => Calls.regrown_of (H1x.out _ (k0.bel.trans ((below_regrown wr d os).mono k0.bel.size)))
            have C2 := fun d os => Calls.regrown_of (H2x.out _ (k0.bel.trans ((below_regrown wr d os).mono k0.bel.size)))
            clear H1x H2x
            go_wp2_with fail
            refine wp_region_quiet_below (by kernel_rfl) (by kernel_rfl) ?_
            repeat (quiet_step (first | with_reducible exact C1 _ _ | with_reducible exact C2 _ _))
            refine wpQuiet_nil ?_
            intro _ hw
            obtain ⟨⟨dq, osq⟩, hw2⟩ := hw
            subst hw2
            have G := below_regrown wr dq osq
            clear f0 f1 f2 f3 f4 q0 q1 q2 q3 q4 C1 C2 r0 k0 KF r0d OWD
            generalize Go.Sort.grow (redrawn wr dq) osq = W at G ⊢
            replace B := Lib.hid (B.out.below G)
            replace RW := Lib.hid (RW.out.below G)
            replace HM := Lib.hid (Nat.le_trans HM.out G.size)
            replace OW := Lib.hid (owns_below OW.out G)
            clear G
            have o0 := cell_of_block (j := 0) B.out.2.2.2.1 rfl
            have HA2 := Lib.hid (show acc = (L.take (k + 1)).filter P by rw [HF.out, HPx.out, HA.out]; simp)
            go_wp2_with fail
            go_roundw
            case rel => exact ⟨k + 1, acc, po, co, na, by omega, by go_num, HN, HA2, B, RW, OW, HM⟩
            case measure => simp [intOf]; omega
          · obtain ⟨f0, f1, f2, f3, f4⟩ := KF.out _ k0 r0
            have q0 := cell_regrown f0
            have q1 := cell_regrown f1
            have q2 := cell_regrown f2
            have q3 := cell_regrown f3
            have q4 := cell_regrown f4
            have C1 := fun d os => Calls.regrown_of (H1x.out _ (k0.bel.trans ((below_regrown wr d os).mono k0.bel.size)))
            have C2 := fun d os => Calls.regrown_of (H2x.out _ (k0.bel.trans ((below_regrown wr d os).mono k0.bel.size)))
            clear H1x H2x
            go_wp2_with fail
            refine wp_region_quiet_below (by kernel_rfl) (by kernel_rfl) ?_
            repeat (quiet_step (first | with_reducible exact C1 _ _ | with_reducible exact C2 _ _))
            refine wpQuiet_nil ?_
            intro _ hw
            obtain ⟨⟨dq, osq⟩, hw2⟩ := hw
            subst hw2
            have G := below_regrown wr dq osq
            clear f0 f1 f2 f3 f4 q0 q1 q2 q3 q4 C1 C2 r0 k0 KF r0d OWD
            generalize Go.Sort.grow (redrawn wr dq) osq = W at G ⊢
            replace B := Lib.hid (B.out.below G)
            replace RW := Lib.hid (RW.out.below G)
            replace HM := Lib.hid (Nat.le_trans HM.out G.size)
            replace OW := Lib.hid (owns_below OW.out G)
            clear G
            have HA2 := Lib.hid (show acc ++ [x] = (L.take (k + 1)).filter P by rw [HF.out, HPx.out, HA.out]; simp)
            have hal := Lib.hid (show acc.length + 1 ≤ 2000 by
              have h1 := congrArg List.length HA2.out
              have h2 := List.length_filter_le P (L.take (k + 1))
              have h3 := List.length_take_le (k + 1) L
              have h4 := HL0.out
              rw [List.length_append, List.length_singleton] at h1
              have h5 : (L.take (k + 1)).length ≤ L.length := by rw [List.length_take]; omega
              omega)
            have o0 := cell_of_block (j := 0) B.out.2.2.2.1 rfl
            have o1 := cell_of_block (j := 1) B.out.2.2.2.1 rfl
            have x1 := RW.out k x hlk.out
            go_wp2_with fail
            have BA := Lib.hid (B.out.below ((Below.refl W.heap.size W).alloc (Nat.le_refl _) (.cells #[.string x] 35)))
            have RA := Lib.hid (RW.out.below ((Below.refl W.heap.size W).alloc (Nat.le_refl _) (.cells #[.string x] 35)))
            have OA := Lib.hid (show ((W.alloc (.cells #[.string x] 35)).drew).ownsRow M 35 1 (.slice po na co) na (acc.map Value.string) from OW.out.alloc _)
            have CA := Lib.hid (show ∀ j u, [Value.string x][j]? = some u → ((W.alloc (.cells #[.string x] 35)).drew).cell? ((⟨W.heap.size, 0, none⟩ : Addr).add j) = some u from cells1a W (.string x) 35)
            have hna := Lib.hid (show na + 1 ≤ 2000 by have := HN.out.1; have := hal.out; omega)
            have hsz1 := Lib.hid (show M ≤ ((W.alloc (.cells #[.string x] 35)).drew).heap.size by have := HM.out; show M ≤ (W.alloc _).heap.size; simp; omega)
            have n1 := Lib.hid (show na + 1 ≤ maxLen by unfold maxLen; have := hna.out; omega)
            have n2 := Lib.hid (show (na + 1) * 16 ≤ 140737488355328 by have := hna.out; omega)
            have hz := B.out.lt
            have hzL : bL < W.heap.size := cell_lt' x1
            have oc := Lib.hid (show ∀ u ∈ [Value.string x], u.oneCell' = true from fun u hu => by simp at hu; subst hu; rfl)
            go_region_law (first
              | (refine step_append_lies _ rfl _ _ 26 rfl M 35 i0 (.string ⟨#[]⟩) 1 16 Try.underlying26 hi hz0 hz1 hz2 rfl (by decide) (.slice po na co) na (acc.map Value.string) rfl OA.out ⟨W.heap.size, 0, none⟩ 1 1 [.string x] rfl rfl CA.out oc.out (by decide) n1.out n2.out hsz1.out _ rfl ?_; intro g7 c7 w7 hown7 hg7 hat7 hlt7; have B7 := Lib.hid (BA.out.drew.grown hg7 (fun q hq => by have := (OA.out.lt q hq).1; have := HM2.out; omega)); have RW7 := Lib.hid (RowL.grown (w := (W.alloc (.cells #[.string x] 35)).drew) RA.out hg7 (fun _ e => by have := (OA.out.lt _ e.symm).1; omega)); have OW7 := Lib.hid hown7; have HM7 := Lib.hid (Nat.le_trans hsz1.out hg7.size); have z1 := cell_of_block (j := 1) B7.out.2.2.2.1 rfl; have fr := (fun j : Nat => free_of_block (j := j) B7.out.2.2.2.1); clear hown7 hg7 hat7 hlt7))
            all_goals
              replace OW7 := Lib.hid (owns_store (c := w.heap.size + 1 + 1 + 1) (j := 1) (u := .slice (some ⟨g7, 0, none⟩) (na + 1) c7) OW7.out (by have := HM2.out; omega))
              replace RW7 := Lib.hid (RW7.out.store (c := w.heap.size + 1 + 1 + 1) (j := 1) (u := .slice (some ⟨g7, 0, none⟩) (na + 1) c7) (fun _ => by omega))
              have B8 := Lib.hid (B7.out.set3 1 (.slice (some ⟨g7, 0, none⟩) (na + 1) c7))
              have HM8 := Lib.hid (show M ≤ (w7.setCell ⟨w.heap.size + 1 + 1 + 1, 1, none⟩ (.slice (some ⟨g7, 0, none⟩) (na + 1) c7)).heap.size by have := HM7.out; simpa [World.setCell] using this)
              clear z1 fr o0 o1 x1 hz hzL
              go_wp2_with fail
              go_roundw
              case rel => exact ⟨k + 1, acc ++ [x], some ⟨g7, 0, none⟩, c7, na + 1, by omega, by go_num, Lib.hid ⟨by rw [List.length_append, ← HN.out.1]; rfl, by rw [List.length_append]; exact hal.out⟩, HA2, B8, RW7, Lib.hid (by rw [List.map_append]; exact OW7.out), HM8⟩
              case measure => simp [intOf]; omega
        · obtain ⟨f0, f1, f2, f3, f4⟩ := KF.out _ k0 r0
          have q0 := cell_regrown f0
          have q1 := cell_regrown f1
          have q2 := cell_regrown f2
          have q3 := cell_regrown f3
          have q4 := cell_regrown f4
          have C1 := fun d os => Calls.regrown_of (H1x.out _ (k0.bel.trans ((below_regrown wr d os).mono k0.bel.size)))
          clear H1x H2x
          go_wp2_with fail
          refine wp_region_quiet_below (by kernel_rfl) (by kernel_rfl) ?_
          repeat (quiet_step (first | with_reducible exact C1 _ _))
          refine wpQuiet_nil ?_
          intro _ hw
          obtain ⟨⟨dq, osq⟩, hw2⟩ := hw
          subst hw2
          have G := below_regrown wr dq osq
          clear f0 f1 f2 f3 f4 q0 q1 q2 q3 q4 C1 r0 k0 KF r0d OWD
          generalize Go.Sort.grow (redrawn wr dq) osq = W at G ⊢
          replace B := Lib.hid (B.out.below G)
          replace RW := Lib.hid (RW.out.below G)
          replace HM := Lib.hid (Nat.le_trans HM.out G.size)
          replace OW := Lib.hid (owns_below OW.out G)
          clear G
          have HA2 := Lib.hid (show acc ++ [x] = (L.take (k + 1)).filter P by rw [HF.out, HPx.out, HA.out]; simp)
          have hal := Lib.hid (show acc.length + 1 ≤ 2000 by
            have h1 := congrArg List.length HA2.out
            have h2 := List.length_filter_le P (L.take (k + 1))
            have h3 := List.length_take_le (k + 1) L
            have h4 := HL0.out
            rw [List.length_append, List.length_singleton] at h1
            have h5 : (L.take (k + 1)).length ≤ L.length := by rw [List.length_take]; omega
            omega)
          have o0 := cell_of_block (j := 0) B.out.2.2.2.1 rfl
          have o1 := cell_of_block (j := 1) B.out.2.2.2.1 rfl
          have x1 := RW.out k x hlk.out
          go_wp2_with fail
          have BA := Lib.hid (B.out.below ((Below.refl W.heap.size W).alloc (Nat.le_refl _) (.cells #[.string x] 35)))
          have RA := Lib.hid (RW.out.below ((Below.refl W.heap.size W).alloc (Nat.le_refl _) (.cells #[.string x] 35)))
          have OA := Lib.hid (show ((W.alloc (.cells #[.string x] 35)).drew).ownsRow M 35 1 (.slice po na co) na (acc.map Value.string) from OW.out.alloc _)
          have CA := Lib.hid (show ∀ j u, [Value.string x][j]? = some u → ((W.alloc (.cells #[.string x] 35)).drew).cell? ((⟨W.heap.size, 0, none⟩ : Addr).add j) = some u from cells1a W (.string x) 35)
          have hna := Lib.hid (show na + 1 ≤ 2000 by have := HN.out.1; have := hal.out; omega)
          have hsz1 := Lib.hid (show M ≤ ((W.alloc (.cells #[.string x] 35)).drew).heap.size by have := HM.out; show M ≤ (W.alloc _).heap.size; simp; omega)
          have n1 := Lib.hid (show na + 1 ≤ maxLen by unfold maxLen; have := hna.out; omega)
          have n2 := Lib.hid (show (na + 1) * 16 ≤ 140737488355328 by have := hna.out; omega)
          have hz := B.out.lt
          have hzL : bL < W.heap.size := cell_lt' x1
          have oc := Lib.hid (show ∀ u ∈ [Value.string x], u.oneCell' = true from fun u hu => by simp at hu; subst hu; rfl)
          go_region_law (first
            | (refine step_append_lies _ rfl _ _ 26 rfl M 35 i0 (.string ⟨#[]⟩) 1 16 Try.underlying26 hi hz0 hz1 hz2 rfl (by decide) (.slice po na co) na (acc.map Value.string) rfl OA.out ⟨W.heap.size, 0, none⟩ 1 1 [.string x] rfl rfl CA.out oc.out (by decide) n1.out n2.out hsz1.out _ rfl ?_; intro g7 c7 w7 hown7 hg7 hat7 hlt7; have B7 := Lib.hid (BA.out.drew.grown hg7 (fun q hq => by have := (OA.out.lt q hq).1; have := HM2.out; omega)); have RW7 := Lib.hid (RowL.grown (w := (W.alloc (.cells #[.string x] 35)).drew) RA.out hg7 (fun _ e => by have := (OA.out.lt _ e.symm).1; omega)); have OW7 := Lib.hid hown7; have HM7 := Lib.hid (Nat.le_trans hsz1.out hg7.size); have z1 := cell_of_block (j := 1) B7.out.2.2.2.1 rfl; have fr := (fun j : Nat => free_of_block (j := j) B7.out.2.2.2.1); clear hown7 hg7 hat7 hlt7))
          all_goals
            replace OW7 := Lib.hid (owns_store (c := w.heap.size + 1 + 1 + 1) (j := 1) (u := .slice (some ⟨g7, 0, none⟩) (na + 1) c7) OW7.out (by have := HM2.out; omega))
            replace RW7 := Lib.hid (RW7.out.store (c := w.heap.size + 1 + 1 + 1) (j := 1) (u := .slice (some ⟨g7, 0, none⟩) (na + 1) c7) (fun _ => by omega))
            have B8 := Lib.hid (B7.out.set3 1 (.slice (some ⟨g7, 0, none⟩) (na + 1) c7))
            have HM8 := Lib.hid (show M ≤ (w7.setCell ⟨w.heap.size + 1 + 1 + 1, 1, none⟩ (.slice (some ⟨g7, 0, none⟩) (na + 1) c7)).heap.size by have := HM7.out; simpa [World.setCell] using this)
            clear z1 fr o0 o1 x1 hz hzL
            go_wp2_with fail
            go_roundw
            case rel => exact ⟨k + 1, acc ++ [x], some ⟨g7, 0, none⟩, c7, na + 1, by omega, by go_num, Lib.hid ⟨by rw [List.length_append, ← HN.out.1]; rfl, by rw [List.length_append]; exact hal.out⟩, HA2, B8, RW7, Lib.hid (by rw [List.map_append]; exact OW7.out), HM8⟩
            case measure => simp [intOf]; omega
      · obtain rfl : k = L.length := by omega
        have HE := Lib.hid (show acc = L.filter P by rw [HA.out, List.take_length])
        have hlt2 : ¬ ((L.length : Int) < (L.length : Int)) := by omega
        have AO := Lib.hid (AddrsG.of_owns (l := acc) (n := na) (by have h := OW.out; exact h))
        have hnn := HN.out.1
        subst hnn
        clear hlt hk
        have o0 := cell_of_block (j := 0) B.out.2.2.2.1 rfl
        have o1 := cell_of_block (j := 1) B.out.2.2.2.1 rfl
        have u0 := cell_of_block (j := 0) B.out.2.2.1 rfl
        have u1 := cell_of_block (j := 1) B.out.2.2.1 rfl
        have fr2 := (fun j : Nat => free_of_block (j := j) B.out.2.2.1)
        go_wp2_with fail
        refine bodyPost_ret (v := .agg #[.bool false, .slice po acc.length co]) (by simp [results, Try.results33, go_sem, u0, u1]) rfl ⟨_, rfl, ?_, ?_⟩
        · rw [← HE.out]
          refine AddrsG.mono (B := M) ?_ (by have := HM2.out; omega) id
          iterate 2 (refine AddrsG.store ?_ (by have := HM2.out; omega))
          exact AO.out
        · iterate 2 (refine Below.setCell ?_ (by show _ ≤ w.heap.size + 1 + 1; omega) _)
          exact B.out.bel
  · simp only [Bool.or_self, Bool.or_true, Bool.true_or, Bool.or_false, Bool.false_or, Bool.and_self, Bool.and_true, Bool.true_and, Bool.and_false, Bool.false_and] at HP ⊢
    have B := Lib.hid (Q4.start w #[.bool false, .slice pf nf cf] #[.bool true, .slice pg ng cg] #[.bool false, .slice none 0 0] #[.bool true, .slice none 0 0])
    go_enter Try.func33, Try.ntmps33
    go_wp2_with fail
    ((with_reducible refine (HB.out _ B.out.bel).mono ?_); rintro e w2 ⟨vL, rfl, aL, h2⟩)
    replace B := Lib.hid (B.out.below h2)
    obtain ⟨pL, cL, bL, oL, rfl, hpL, hcL⟩ := aL
    have RW := Lib.hid (show RowL bL oL L w2 from hcL)
    have HPL := Lib.hid (show L ≠ [] → pL = some ⟨bL, oL, none⟩ ∧ w.heap.size + 1 + 1 + 1 < bL ∧ bL < w2.heap.size from fun hne => by
      obtain ⟨h1, h3, -⟩ := hpL hne
      refine ⟨h1, by simp at h3; omega, ?_⟩
      rcases L with _ | ⟨q, t⟩
      · exact absurd rfl hne
      · exact cell_lt' (hcL 0 q rfl))
    clear h2 hpL hcL
    generalize hM : w2.heap.size = M at HPL
    have HM := Lib.hid (show M ≤ w2.heap.size by omega)
    have HM2 := Lib.hid (show w.heap.size + 1 + 1 + 1 < M by have := B.out.lt; omega)
    clear hM
    go_wp2_with fail
    go_loopw [7, 8] (fun i _ wr => ∃ (k : Nat) (acc : List ByteArray) (po : Option Addr) (co na : Nat), k ≤ L.length ∧ i = .int .i64 k ∧ Hid (na = acc.length ∧ acc.length ≤ 2000) ∧ Hid (acc = (L.take k).filter P) ∧ Hid (Q4 w wr #[.bool false, .slice pf nf cf] #[.bool true, .slice pg ng cg] #[.bool false, .slice none 0 0] #[.bool true, .slice po na co]) ∧ Hid (RowL bL oL L wr) ∧ Hid (wr.ownsRow M 35 1 (.slice po na co) na (acc.map Value.string)) ∧ Hid (M ≤ wr.heap.size)) (fun i _ _ => L.length - (intOf i).toNat)
    case atStart => exact ⟨0, [], none, 0, 0, Nat.zero_le _, rfl, Lib.hid ⟨rfl, Nat.zero_le _⟩, Lib.hid rfl, B, RW, Lib.hid (World.ownsRow_nil _ _ _ _), HM⟩
    case round =>
      clear B RW HM
      obtain ⟨k, acc, po, co, na, hk, rfl, HN, HA, B, RW, OW, HM⟩ := hrel
      by_cases hlt : k < L.length
      · have hne : L ≠ [] := by rintro rfl; simp at hlt
        obtain ⟨rfl, hb1, hb2⟩ := HPL.out hne
        have hlk := Lib.hid (List.getElem?_eq_getElem hlt)
        generalize L[k] = x at hlk
        have hlt' : (k : Int) < (L.length : Int) := by omega
        have hL2 := HL0.out
        have HF := Lib.hid (filter_take_succ L P k x hlk.out)
        have H1x := Lib.hid fun U (hU : Below w.heap.size w U) => H1.out x U hU
        have H2x := Lib.hid fun U (hU : Below w.heap.size w U) => H2.out x U hU
        have HPx := Lib.hid (HP.out x)
        generalize af x = ra at H1x HPx
        generalize ag x = rb at H2x HPx
        have KF := Lib.hid fun (U : World) (k1 : Q4 w U #[.bool false, .slice pf nf cf] #[.bool true, .slice pg ng cg] #[.bool false, .slice none 0 0] #[.bool true, .slice po na co]) (k2 : RowL bL oL L U) => (⟨cell_of_block k1.1 rfl, cell_of_block k1.1 rfl, cell_of_block k1.2.1 rfl, cell_of_block k1.2.1 rfl, k2 k x hlk.out⟩ : U.cell? ⟨w.heap.size, 0, none⟩ = some (.bool false) ∧ U.cell? ⟨w.heap.size, 1, none⟩ = some (.slice pf nf cf) ∧ U.cell? ⟨w.heap.size + 1, 0, none⟩ = some (.bool true) ∧ U.cell? ⟨w.heap.size + 1, 1, none⟩ = some (.slice pg ng cg) ∧ U.cell? ⟨bL, oL + k, none⟩ = some (.string x))
        have OWD := Lib.hid (show wr.drew.ownsRow M 35 1 (.slice po na co) na (acc.map Value.string) from OW.out)
        have r0d : RowL bL oL L wr.drew := RW.out
        have k0 := B.out
        have r0 := RW.out
        clear hne hlt H1 H2 HP HPL
        rcases ra with _ | _
        · rcases rb with _ | _
          · obtain ⟨f0, f1, f2, f3, f4⟩ := KF.out _ k0 r0
            have q0 := cell_regrown f0
            have q1 := cell_regrown f1
            have q2 := cell_regrown f2
            have q3 := cell_regrown f3
            have q4 := cell_regrown f4
            have C1 := fun d os => Calls.regrown_of (H1x.out _ (k0.bel.trans ((below_regrown wr d os).mono k0.bel.size)))
            have C2 := fun d os => Calls.regrown_of (H2x.out _ (k0.bel.trans ((below_regrown wr d os).mono k0.bel.size)))
            clear H1x H2x
            go_wp2_with fail
            refine wp_region_quiet_below (by kernel_rfl) (by kernel_rfl) ?_
            repeat (quiet_step (first | with_reducible exact C1 _ _ | with_reducible exact C2 _ _))
            refine wpQuiet_nil ?_
            intro _ hw
            obtain ⟨⟨dq, osq⟩, hw2⟩ := hw
            subst hw2
            have G := below_regrown wr dq osq
            clear f0 f1 f2 f3 f4 q0 q1 q2 q3 q4 C1 C2 r0 k0 KF r0d OWD
            generalize Go.Sort.grow (redrawn wr dq) osq = W at G ⊢
            replace B := Lib.hid (B.out.below G)
            replace RW := Lib.hid (RW.out.below G)
            replace HM := Lib.hid (Nat.le_trans HM.out G.size)
            replace OW := Lib.hid (owns_below OW.out G)
            clear G
            have HA2 := Lib.hid (show acc ++ [x] = (L.take (k + 1)).filter P by rw [HF.out, HPx.out, HA.out]; simp)
            have hal := Lib.hid (show acc.length + 1 ≤ 2000 by
              have h1 := congrArg List.length HA2.out
              have h2 := List.length_filter_le P (L.take (k + 1))
              have h3 := List.length_take_le (k + 1) L
              have h4 := HL0.out
              rw [List.length_append, List.length_singleton] at h1
              have h5 : (L.take (k + 1)).length ≤ L.length := by rw [List.length_take]; omega
              omega)
            have o0 := cell_of_block (j := 0) B.out.2.2.2.1 rfl
            have o1 := cell_of_block (j := 1) B.out.2.2.2.1 rfl
            have x1 := RW.out k x hlk.out
            go_wp2_with fail
            have BA := Lib.hid (B.out.below ((Below.refl W.heap.size W).alloc (Nat.le_refl _) (.cells #[.string x] 35)))
            have RA := Lib.hid (RW.out.below ((Below.refl W.heap.size W).alloc (Nat.le_refl _) (.cells #[.string x] 35)))
            have OA := Lib.hid (show ((W.alloc (.cells #[.string x] 35)).drew).ownsRow M 35 1 (.slice po na co) na (acc.map Value.string) from OW.out.alloc _)
            have CA := Lib.hid (show ∀ j u, [Value.string x][j]? = some u → ((W.alloc (.cells #[.string x] 35)).drew).cell? ((⟨W.heap.size, 0, none⟩ : Addr).add j) = some u from cells1a W (.string x) 35)
            have hna := Lib.hid (show na + 1 ≤ 2000 by have := HN.out.1; have := hal.out; omega)
            have hsz1 := Lib.hid (show M ≤ ((W.alloc (.cells #[.string x] 35)).drew).heap.size by have := HM.out; show M ≤ (W.alloc _).heap.size; simp; omega)
            have n1 := Lib.hid (show na + 1 ≤ maxLen by unfold maxLen; have := hna.out; omega)
            have n2 := Lib.hid (show (na + 1) * 16 ≤ 140737488355328 by have := hna.out; omega)
            have hz := B.out.lt
            have hzL : bL < W.heap.size := cell_lt' x1
            have oc := Lib.hid (show ∀ u ∈ [Value.string x], u.oneCell' = true from fun u hu => by simp at hu; subst hu; rfl)
            go_region_law (first
              | (refine step_append_lies _ rfl _ _ 26 rfl M 35 i0 (.string ⟨#[]⟩) 1 16 Try.underlying26 hi hz0 hz1 hz2 rfl (by decide) (.slice po na co) na (acc.map Value.string) rfl OA.out ⟨W.heap.size, 0, none⟩ 1 1 [.string x] rfl rfl CA.out oc.out (by decide) n1.out n2.out hsz1.out _ rfl ?_; intro g7 c7 w7 hown7 hg7 hat7 hlt7; have B7 := Lib.hid (BA.out.drew.grown hg7 (fun q hq => by have := (OA.out.lt q hq).1; have := HM2.out; omega)); have RW7 := Lib.hid (RowL.grown (w := (W.alloc (.cells #[.string x] 35)).drew) RA.out hg7 (fun _ e => by have := (OA.out.lt _ e.symm).1; omega)); have OW7 := Lib.hid hown7; have HM7 := Lib.hid (Nat.le_trans hsz1.out hg7.size); have z1 := cell_of_block (j := 1) B7.out.2.2.2.1 rfl; have fr := (fun j : Nat => free_of_block (j := j) B7.out.2.2.2.1); clear hown7 hg7 hat7 hlt7))
            all_goals
              replace OW7 := Lib.hid (owns_store (c := w.heap.size + 1 + 1 + 1) (j := 1) (u := .slice (some ⟨g7, 0, none⟩) (na + 1) c7) OW7.out (by have := HM2.out; omega))
              replace RW7 := Lib.hid (RW7.out.store (c := w.heap.size + 1 + 1 + 1) (j := 1) (u := .slice (some ⟨g7, 0, none⟩) (na + 1) c7) (fun _ => by omega))
              have B8 := Lib.hid (B7.out.set3 1 (.slice (some ⟨g7, 0, none⟩) (na + 1) c7))
              have HM8 := Lib.hid (show M ≤ (w7.setCell ⟨w.heap.size + 1 + 1 + 1, 1, none⟩ (.slice (some ⟨g7, 0, none⟩) (na + 1) c7)).heap.size by have := HM7.out; simpa [World.setCell] using this)
              clear z1 fr o0 o1 x1 hz hzL
              go_wp2_with fail
              go_roundw
              case rel => exact ⟨k + 1, acc ++ [x], some ⟨g7, 0, none⟩, c7, na + 1, by omega, by go_num, Lib.hid ⟨by rw [List.length_append, ← HN.out.1]; rfl, by rw [List.length_append]; exact hal.out⟩, HA2, B8, RW7, Lib.hid (by rw [List.map_append]; exact OW7.out), HM8⟩
              case measure => simp [intOf]; omega
          · obtain ⟨f0, f1, f2, f3, f4⟩ := KF.out _ k0 r0
            have q0 := cell_regrown f0
            have q1 := cell_regrown f1
            have q2 := cell_regrown f2
            have q3 := cell_regrown f3
            have q4 := cell_regrown f4
            have C1 := fun d os => Calls.regrown_of (H1x.out _ (k0.bel.trans ((below_regrown wr d os).mono k0.bel.size)))
            have C2 := fun d os => Calls.regrown_of (H2x.out _ (k0.bel.trans ((below_regrown wr d os).mono k0.bel.size)))
            clear H1x H2x
            go_wp2_with fail
            refine wp_region_quiet_below (by kernel_rfl) (by kernel_rfl) ?_
            repeat (quiet_step (first | with_reducible exact C1 _ _ | with_reducible exact C2 _ _))
            refine wpQuiet_nil ?_
            intro _ hw
            obtain ⟨⟨dq, osq⟩, hw2⟩ := hw
            subst hw2
            have G := below_regrown wr dq osq
            clear f0 f1 f2 f3 f4 q0 q1 q2 q3 q4 C1 C2 r0 k0 KF r0d OWD
            generalize Go.Sort.grow (redrawn wr dq) osq = W at G ⊢
            replace B := Lib.hid (B.out.below G)
            replace RW := Lib.hid (RW.out.below G)
            replace HM := Lib.hid (Nat.le_trans HM.out G.size)
            replace OW := Lib.hid (owns_below OW.out G)
            clear G
            have o0 := cell_of_block (j := 0) B.out.2.2.2.1 rfl
            have HA2 := Lib.hid (show acc = (L.take (k + 1)).filter P by rw [HF.out, HPx.out, HA.out]; simp)
            go_wp2_with fail
            go_roundw
            case rel => exact ⟨k + 1, acc, po, co, na, by omega, by go_num, HN, HA2, B, RW, OW, HM⟩
            case measure => simp [intOf]; omega
        · obtain ⟨f0, f1, f2, f3, f4⟩ := KF.out _ k0 r0
          have q0 := cell_regrown f0
          have q1 := cell_regrown f1
          have q2 := cell_regrown f2
          have q3 := cell_regrown f3
          have q4 := cell_regrown f4
          have C1 := fun d os => Calls.regrown_of (H1x.out _ (k0.bel.trans ((below_regrown wr d os).mono k0.bel.size)))
          clear H1x H2x
          go_wp2_with fail
          refine wp_region_quiet_below (by kernel_rfl) (by kernel_rfl) ?_
          repeat (quiet_step (first | with_reducible exact C1 _ _))
          refine wpQuiet_nil ?_
          intro _ hw
          obtain ⟨⟨dq, osq⟩, hw2⟩ := hw
          subst hw2
          have G := below_regrown wr dq osq
          clear f0 f1 f2 f3 f4 q0 q1 q2 q3 q4 C1 r0 k0 KF r0d OWD
          generalize Go.Sort.grow (redrawn wr dq) osq = W at G ⊢
          replace B := Lib.hid (B.out.below G)
          replace RW := Lib.hid (RW.out.below G)
          replace HM := Lib.hid (Nat.le_trans HM.out G.size)
          replace OW := Lib.hid (owns_below OW.out G)
          clear G
          have o0 := cell_of_block (j := 0) B.out.2.2.2.1 rfl
          have HA2 := Lib.hid (show acc = (L.take (k + 1)).filter P by rw [HF.out, HPx.out, HA.out]; simp)
          go_wp2_with fail
          go_roundw
          case rel => exact ⟨k + 1, acc, po, co, na, by omega, by go_num, HN, HA2, B, RW, OW, HM⟩
          case measure => simp [intOf]; omega
      · obtain rfl : k = L.length := by omega
        have HE := Lib.hid (show acc = L.filter P by rw [HA.out, List.take_length])
        have hlt2 : ¬ ((L.length : Int) < (L.length : Int)) := by omega
        have AO := Lib.hid (AddrsG.of_owns (l := acc) (n := na) (by have h := OW.out; exact h))
        have hnn := HN.out.1
        subst hnn
        clear hlt hk
        have o0 := cell_of_block (j := 0) B.out.2.2.2.1 rfl
        have o1 := cell_of_block (j := 1) B.out.2.2.2.1 rfl
        have u0 := cell_of_block (j := 0) B.out.2.2.1 rfl
        have u1 := cell_of_block (j := 1) B.out.2.2.1 rfl
        have fr2 := (fun j : Nat => free_of_block (j := j) B.out.2.2.1)
        go_wp2_with fail
        refine bodyPost_ret (v := .agg #[.bool true, .slice po acc.length co]) (by simp [results, Try.results33, go_sem, u0, u1]) rfl ⟨_, rfl, ?_, ?_⟩
        · rw [← HE.out]
          refine AddrsG.mono (B := M) ?_ (by have := HM2.out; omega) id
          iterate 2 (refine AddrsG.store ?_ (by have := HM2.out; omega))
          exact AO.out
        · iterate 2 (refine Below.setCell ?_ (by show _ ≤ w.heap.size + 1 + 1; omega) _)
          exact B.out.bel
  · simp only [Bool.or_self, Bool.or_true, Bool.true_or, Bool.or_false, Bool.false_or, Bool.and_self, Bool.and_true, Bool.true_and, Bool.and_false, Bool.false_and] at HP ⊢
    have B := Lib.hid (Q4.start w #[.bool true, .slice pf nf cf] #[.bool false, .slice pg ng cg] #[.bool false, .slice none 0 0] #[.bool true, .slice none 0 0])
    go_enter Try.func33, Try.ntmps33
    go_wp2_with fail
    ((with_reducible refine (HB.out _ B.out.bel).mono ?_); rintro e w2 ⟨vL, rfl, aL, h2⟩)
    replace B := Lib.hid (B.out.below h2)
    obtain ⟨pL, cL, bL, oL, rfl, hpL, hcL⟩ := aL
    have RW := Lib.hid (show RowL bL oL L w2 from hcL)
    have HPL := Lib.hid (show L ≠ [] → pL = some ⟨bL, oL, none⟩ ∧ w.heap.size + 1 + 1 + 1 < bL ∧ bL < w2.heap.size from fun hne => by
      obtain ⟨h1, h3, -⟩ := hpL hne
      refine ⟨h1, by simp at h3; omega, ?_⟩
      rcases L with _ | ⟨q, t⟩
      · exact absurd rfl hne
      · exact cell_lt' (hcL 0 q rfl))
    clear h2 hpL hcL
    generalize hM : w2.heap.size = M at HPL
    have HM := Lib.hid (show M ≤ w2.heap.size by omega)
    have HM2 := Lib.hid (show w.heap.size + 1 + 1 + 1 < M by have := B.out.lt; omega)
    clear hM
    go_wp2_with fail
    go_loopw [7, 8] (fun i _ wr => ∃ (k : Nat) (acc : List ByteArray) (po : Option Addr) (co na : Nat), k ≤ L.length ∧ i = .int .i64 k ∧ Hid (na = acc.length ∧ acc.length ≤ 2000) ∧ Hid (acc = (L.take k).filter P) ∧ Hid (Q4 w wr #[.bool true, .slice pf nf cf] #[.bool false, .slice pg ng cg] #[.bool false, .slice none 0 0] #[.bool true, .slice po na co]) ∧ Hid (RowL bL oL L wr) ∧ Hid (wr.ownsRow M 35 1 (.slice po na co) na (acc.map Value.string)) ∧ Hid (M ≤ wr.heap.size)) (fun i _ _ => L.length - (intOf i).toNat)
    case atStart => exact ⟨0, [], none, 0, 0, Nat.zero_le _, rfl, Lib.hid ⟨rfl, Nat.zero_le _⟩, Lib.hid rfl, B, RW, Lib.hid (World.ownsRow_nil _ _ _ _), HM⟩
    case round =>
      clear B RW HM
      obtain ⟨k, acc, po, co, na, hk, rfl, HN, HA, B, RW, OW, HM⟩ := hrel
      by_cases hlt : k < L.length
      · have hne : L ≠ [] := by rintro rfl; simp at hlt
        obtain ⟨rfl, hb1, hb2⟩ := HPL.out hne
        have hlk := Lib.hid (List.getElem?_eq_getElem hlt)
        generalize L[k] = x at hlk
        have hlt' : (k : Int) < (L.length : Int) := by omega
        have hL2 := HL0.out
        have HF := Lib.hid (filter_take_succ L P k x hlk.out)
        have H1x := Lib.hid fun U (hU : Below w.heap.size w U) => H1.out x U hU
        have H2x := Lib.hid fun U (hU : Below w.heap.size w U) => H2.out x U hU
        have HPx := Lib.hid (HP.out x)
        generalize af x = ra at H1x HPx
        generalize ag x = rb at H2x HPx
        have KF := Lib.hid fun (U : World) (k1 : Q4 w U #[.bool true, .slice pf nf cf] #[.bool false, .slice pg ng cg] #[.bool false, .slice none 0 0] #[.bool true, .slice po na co]) (k2 : RowL bL oL L U) => (⟨cell_of_block k1.1 rfl, cell_of_block k1.1 rfl, cell_of_block k1.2.1 rfl, cell_of_block k1.2.1 rfl, k2 k x hlk.out⟩ : U.cell? ⟨w.heap.size, 0, none⟩ = some (.bool true) ∧ U.cell? ⟨w.heap.size, 1, none⟩ = some (.slice pf nf cf) ∧ U.cell? ⟨w.heap.size + 1, 0, none⟩ = some (.bool false) ∧ U.cell? ⟨w.heap.size + 1, 1, none⟩ = some (.slice pg ng cg) ∧ U.cell? ⟨bL, oL + k, none⟩ = some (.string x))
        have OWD := Lib.hid (show wr.drew.ownsRow M 35 1 (.slice po na co) na (acc.map Value.string) from OW.out)
        have r0d : RowL bL oL L wr.drew := RW.out
        have k0 := B.out
        have r0 := RW.out
        clear hne hlt H1 H2 HP HPL
        rcases ra with _ | _
        · rcases rb with _ | _
          · obtain ⟨f0, f1, f2, f3, f4⟩ := KF.out _ k0 r0
            have q0 := cell_regrown f0
            have q1 := cell_regrown f1
            have q2 := cell_regrown f2
            have q3 := cell_regrown f3
            have q4 := cell_regrown f4
            have C1 := fun d os => Calls.regrown_of (H1x.out _ (k0.bel.trans ((below_regrown wr d os).mono k0.bel.size)))
            have C2 := fun d os => Calls.regrown_of (H2x.out _ (k0.bel.trans ((below_regrown wr d os).mono k0.bel.size)))
            clear H1x H2x
            go_wp2_with fail
            refine wp_region_quiet_below (by kernel_rfl) (by kernel_rfl) ?_
            repeat (quiet_step (first | with_reducible exact C1 _ _ | with_reducible exact C2 _ _))
            refine wpQuiet_nil ?_
            intro _ hw
            obtain ⟨⟨dq, osq⟩, hw2⟩ := hw
            subst hw2
            have G := below_regrown wr dq osq
            clear f0 f1 f2 f3 f4 q0 q1 q2 q3 q4 C1 C2 r0 k0 KF r0d OWD
            generalize Go.Sort.grow (redrawn wr dq) osq = W at G ⊢
            replace B := Lib.hid (B.out.below G)
            replace RW := Lib.hid (RW.out.below G)
            replace HM := Lib.hid (Nat.le_trans HM.out G.size)
            replace OW := Lib.hid (owns_below OW.out G)
            clear G
            have HA2 := Lib.hid (show acc ++ [x] = (L.take (k + 1)).filter P by rw [HF.out, HPx.out, HA.out]; simp)
            have hal := Lib.hid (show acc.length + 1 ≤ 2000 by
              have h1 := congrArg List.length HA2.out
              have h2 := List.length_filter_le P (L.take (k + 1))
              have h3 := List.length_take_le (k + 1) L
              have h4 := HL0.out
              rw [List.length_append, List.length_singleton] at h1
              have h5 : (L.take (k + 1)).length ≤ L.length := by rw [List.length_take]; omega
              omega)
            have o0 := cell_of_block (j := 0) B.out.2.2.2.1 rfl
            have o1 := cell_of_block (j := 1) B.out.2.2.2.1 rfl
            have x1 := RW.out k x hlk.out
            go_wp2_with fail
            have BA := Lib.hid (B.out.below ((Below.refl W.heap.size W).alloc (Nat.le_refl _) (.cells #[.string x] 35)))
            have RA := Lib.hid (RW.out.below ((Below.refl W.heap.size W).alloc (Nat.le_refl _) (.cells #[.string x] 35)))
            have OA := Lib.hid (show ((W.alloc (.cells #[.string x] 35)).drew).ownsRow M 35 1 (.slice po na co) na (acc.map Value.string) from OW.out.alloc _)
            have CA := Lib.hid (show ∀ j u, [Value.string x][j]? = some u → ((W.alloc (.cells #[.string x] 35)).drew).cell? ((⟨W.heap.size, 0, none⟩ : Addr).add j) = some u from cells1a W (.string x) 35)
            have hna := Lib.hid (show na + 1 ≤ 2000 by have := HN.out.1; have := hal.out; omega)
            have hsz1 := Lib.hid (show M ≤ ((W.alloc (.cells #[.string x] 35)).drew).heap.size by have := HM.out; show M ≤ (W.alloc _).heap.size; simp; omega)
            have n1 := Lib.hid (show na + 1 ≤ maxLen by unfold maxLen; have := hna.out; omega)
            have n2 := Lib.hid (show (na + 1) * 16 ≤ 140737488355328 by have := hna.out; omega)
            have hz := B.out.lt
            have hzL : bL < W.heap.size := cell_lt' x1
            have oc := Lib.hid (show ∀ u ∈ [Value.string x], u.oneCell' = true from fun u hu => by simp at hu; subst hu; rfl)
            go_region_law (first
              | (refine step_append_lies _ rfl _ _ 26 rfl M 35 i0 (.string ⟨#[]⟩) 1 16 Try.underlying26 hi hz0 hz1 hz2 rfl (by decide) (.slice po na co) na (acc.map Value.string) rfl OA.out ⟨W.heap.size, 0, none⟩ 1 1 [.string x] rfl rfl CA.out oc.out (by decide) n1.out n2.out hsz1.out _ rfl ?_; intro g7 c7 w7 hown7 hg7 hat7 hlt7; have B7 := Lib.hid (BA.out.drew.grown hg7 (fun q hq => by have := (OA.out.lt q hq).1; have := HM2.out; omega)); have RW7 := Lib.hid (RowL.grown (w := (W.alloc (.cells #[.string x] 35)).drew) RA.out hg7 (fun _ e => by have := (OA.out.lt _ e.symm).1; omega)); have OW7 := Lib.hid hown7; have HM7 := Lib.hid (Nat.le_trans hsz1.out hg7.size); have z1 := cell_of_block (j := 1) B7.out.2.2.2.1 rfl; have fr := (fun j : Nat => free_of_block (j := j) B7.out.2.2.2.1); clear hown7 hg7 hat7 hlt7))
            all_goals
              replace OW7 := Lib.hid (owns_store (c := w.heap.size + 1 + 1 + 1) (j := 1) (u := .slice (some ⟨g7, 0, none⟩) (na + 1) c7) OW7.out (by have := HM2.out; omega))
              replace RW7 := Lib.hid (RW7.out.store (c := w.heap.size + 1 + 1 + 1) (j := 1) (u := .slice (some ⟨g7, 0, none⟩) (na + 1) c7) (fun _ => by omega))
              have B8 := Lib.hid (B7.out.set3 1 (.slice (some ⟨g7, 0, none⟩) (na + 1) c7))
              have HM8 := Lib.hid (show M ≤ (w7.setCell ⟨w.heap.size + 1 + 1 + 1, 1, none⟩ (.slice (some ⟨g7, 0, none⟩) (na + 1) c7)).heap.size by have := HM7.out; simpa [World.setCell] using this)
              clear z1 fr o0 o1 x1 hz hzL
              go_wp2_with fail
              go_roundw
              case rel => exact ⟨k + 1, acc ++ [x], some ⟨g7, 0, none⟩, c7, na + 1, by omega, by go_num, Lib.hid ⟨by rw [List.length_append, ← HN.out.1]; rfl, by rw [List.length_append]; exact hal.out⟩, HA2, B8, RW7, Lib.hid (by rw [List.map_append]; exact OW7.out), HM8⟩
              case measure => simp [intOf]; omega
          · obtain ⟨f0, f1, f2, f3, f4⟩ := KF.out _ k0 r0
            have q0 := cell_regrown f0
            have q1 := cell_regrown f1
            have q2 := cell_regrown f2
            have q3 := cell_regrown f3
            have q4 := cell_regrown f4
            have C1 := fun d os => Calls.regrown_of (H1x.out _ (k0.bel.trans ((below_regrown wr d os).mono k0.bel.size)))
            have C2 := fun d os => Calls.regrown_of (H2x.out _ (k0.bel.trans ((below_regrown wr d os).mono k0.bel.size)))
            clear H1x H2x
            go_wp2_with fail
            refine wp_region_quiet_below (by kernel_rfl) (by kernel_rfl) ?_
            repeat (quiet_step (first | with_reducible exact C1 _ _ | with_reducible exact C2 _ _))
            refine wpQuiet_nil ?_
            intro _ hw
            obtain ⟨⟨dq, osq⟩, hw2⟩ := hw
            subst hw2
            have G := below_regrown wr dq osq
            clear f0 f1 f2 f3 f4 q0 q1 q2 q3 q4 C1 C2 r0 k0 KF r0d OWD
            generalize Go.Sort.grow (redrawn wr dq) osq = W at G ⊢
            replace B := Lib.hid (B.out.below G)
            replace RW := Lib.hid (RW.out.below G)
            replace HM := Lib.hid (Nat.le_trans HM.out G.size)
            replace OW := Lib.hid (owns_below OW.out G)
            clear G
            have o0 := cell_of_block (j := 0) B.out.2.2.2.1 rfl
            have HA2 := Lib.hid (show acc = (L.take (k + 1)).filter P by rw [HF.out, HPx.out, HA.out]; simp)
            go_wp2_with fail
            go_roundw
            case rel => exact ⟨k + 1, acc, po, co, na, by omega, by go_num, HN, HA2, B, RW, OW, HM⟩
            case measure => simp [intOf]; omega
        · obtain ⟨f0, f1, f2, f3, f4⟩ := KF.out _ k0 r0
          have q0 := cell_regrown f0
          have q1 := cell_regrown f1
          have q2 := cell_regrown f2
          have q3 := cell_regrown f3
          have q4 := cell_regrown f4
          have C1 := fun d os => Calls.regrown_of (H1x.out _ (k0.bel.trans ((below_regrown wr d os).mono k0.bel.size)))
          clear H1x H2x
          go_wp2_with fail
          refine wp_region_quiet_below (by kernel_rfl) (by kernel_rfl) ?_
          repeat (quiet_step (first | with_reducible exact C1 _ _))
          refine wpQuiet_nil ?_
          intro _ hw
          obtain ⟨⟨dq, osq⟩, hw2⟩ := hw
          subst hw2
          have G := below_regrown wr dq osq
          clear f0 f1 f2 f3 f4 q0 q1 q2 q3 q4 C1 r0 k0 KF r0d OWD
          generalize Go.Sort.grow (redrawn wr dq) osq = W at G ⊢
          replace B := Lib.hid (B.out.below G)
          replace RW := Lib.hid (RW.out.below G)
          replace HM := Lib.hid (Nat.le_trans HM.out G.size)
          replace OW := Lib.hid (owns_below OW.out G)
          clear G
          have o0 := cell_of_block (j := 0) B.out.2.2.2.1 rfl
          have HA2 := Lib.hid (show acc = (L.take (k + 1)).filter P by rw [HF.out, HPx.out, HA.out]; simp)
          go_wp2_with fail
          go_roundw
          case rel => exact ⟨k + 1, acc, po, co, na, by omega, by go_num, HN, HA2, B, RW, OW, HM⟩
          case measure => simp [intOf]; omega
      · obtain rfl : k = L.length := by omega
        have HE := Lib.hid (show acc = L.filter P by rw [HA.out, List.take_length])
        have hlt2 : ¬ ((L.length : Int) < (L.length : Int)) := by omega
        have AO := Lib.hid (AddrsG.of_owns (l := acc) (n := na) (by have h := OW.out; exact h))
        have hnn := HN.out.1
        subst hnn
        clear hlt hk
        have o0 := cell_of_block (j := 0) B.out.2.2.2.1 rfl
        have o1 := cell_of_block (j := 1) B.out.2.2.2.1 rfl
        have u0 := cell_of_block (j := 0) B.out.2.2.1 rfl
        have u1 := cell_of_block (j := 1) B.out.2.2.1 rfl
        have fr2 := (fun j : Nat => free_of_block (j := j) B.out.2.2.1)
        go_wp2_with fail
        refine bodyPost_ret (v := .agg #[.bool true, .slice po acc.length co]) (by simp [results, Try.results33, go_sem, u0, u1]) rfl ⟨_, rfl, ?_, ?_⟩
        · rw [← HE.out]
          refine AddrsG.mono (B := M) ?_ (by have := HM2.out; omega) id
          iterate 2 (refine AddrsG.store ?_ (by have := HM2.out; omega))
          exact AO.out
        · iterate 2 (refine Below.setCell ?_ (by show _ ≤ w.heap.size + 1 + 1; omega) _)
          exact B.out.bel
  · simp only [Bool.or_self, Bool.or_true, Bool.true_or, Bool.or_false, Bool.false_or, Bool.and_self, Bool.and_true, Bool.true_and, Bool.and_false, Bool.false_and] at HP ⊢
    have B := Lib.hid (Q4.start w #[.bool true, .slice pf nf cf] #[.bool true, .slice pg ng cg] #[.bool false, .slice none 0 0] #[.bool true, .slice none 0 0])
    go_enter Try.func33, Try.ntmps33
    go_wp2_with fail
    ((with_reducible refine (HB.out _ B.out.bel).mono ?_); rintro e w2 ⟨vL, rfl, aL, h2⟩)
    replace B := Lib.hid (B.out.below h2)
    obtain ⟨pL, cL, bL, oL, rfl, hpL, hcL⟩ := aL
    have RW := Lib.hid (show RowL bL oL L w2 from hcL)
    have HPL := Lib.hid (show L ≠ [] → pL = some ⟨bL, oL, none⟩ ∧ w.heap.size + 1 + 1 + 1 < bL ∧ bL < w2.heap.size from fun hne => by
      obtain ⟨h1, h3, -⟩ := hpL hne
      refine ⟨h1, by simp at h3; omega, ?_⟩
      rcases L with _ | ⟨q, t⟩
      · exact absurd rfl hne
      · exact cell_lt' (hcL 0 q rfl))
    clear h2 hpL hcL
    generalize hM : w2.heap.size = M at HPL
    have HM := Lib.hid (show M ≤ w2.heap.size by omega)
    have HM2 := Lib.hid (show w.heap.size + 1 + 1 + 1 < M by have := B.out.lt; omega)
    clear hM
    go_wp2_with fail
    go_loopw [7, 8] (fun i _ wr => ∃ (k : Nat) (acc : List ByteArray) (po : Option Addr) (co na : Nat), k ≤ L.length ∧ i = .int .i64 k ∧ Hid (na = acc.length ∧ acc.length ≤ 2000) ∧ Hid (acc = (L.take k).filter P) ∧ Hid (Q4 w wr #[.bool true, .slice pf nf cf] #[.bool true, .slice pg ng cg] #[.bool false, .slice none 0 0] #[.bool true, .slice po na co]) ∧ Hid (RowL bL oL L wr) ∧ Hid (wr.ownsRow M 35 1 (.slice po na co) na (acc.map Value.string)) ∧ Hid (M ≤ wr.heap.size)) (fun i _ _ => L.length - (intOf i).toNat)
    case atStart => exact ⟨0, [], none, 0, 0, Nat.zero_le _, rfl, Lib.hid ⟨rfl, Nat.zero_le _⟩, Lib.hid rfl, B, RW, Lib.hid (World.ownsRow_nil _ _ _ _), HM⟩
    case round =>
      clear B RW HM
      obtain ⟨k, acc, po, co, na, hk, rfl, HN, HA, B, RW, OW, HM⟩ := hrel
      by_cases hlt : k < L.length
      · have hne : L ≠ [] := by rintro rfl; simp at hlt
        obtain ⟨rfl, hb1, hb2⟩ := HPL.out hne
        have hlk := Lib.hid (List.getElem?_eq_getElem hlt)
        generalize L[k] = x at hlk
        have hlt' : (k : Int) < (L.length : Int) := by omega
        have hL2 := HL0.out
        have HF := Lib.hid (filter_take_succ L P k x hlk.out)
        have H1x := Lib.hid fun U (hU : Below w.heap.size w U) => H1.out x U hU
        have H2x := Lib.hid fun U (hU : Below w.heap.size w U) => H2.out x U hU
        have HPx := Lib.hid (HP.out x)
        generalize af x = ra at H1x HPx
        generalize ag x = rb at H2x HPx
        have KF := Lib.hid fun (U : World) (k1 : Q4 w U #[.bool true, .slice pf nf cf] #[.bool true, .slice pg ng cg] #[.bool false, .slice none 0 0] #[.bool true, .slice po na co]) (k2 : RowL bL oL L U) => (⟨cell_of_block k1.1 rfl, cell_of_block k1.1 rfl, cell_of_block k1.2.1 rfl, cell_of_block k1.2.1 rfl, k2 k x hlk.out⟩ : U.cell? ⟨w.heap.size, 0, none⟩ = some (.bool true) ∧ U.cell? ⟨w.heap.size, 1, none⟩ = some (.slice pf nf cf) ∧ U.cell? ⟨w.heap.size + 1, 0, none⟩ = some (.bool true) ∧ U.cell? ⟨w.heap.size + 1, 1, none⟩ = some (.slice pg ng cg) ∧ U.cell? ⟨bL, oL + k, none⟩ = some (.string x))
        have OWD := Lib.hid (show wr.drew.ownsRow M 35 1 (.slice po na co) na (acc.map Value.string) from OW.out)
        have r0d : RowL bL oL L wr.drew := RW.out
        have k0 := B.out
        have r0 := RW.out
        clear hne hlt H1 H2 HP HPL
        rcases ra with _ | _
        · rcases rb with _ | _
          · obtain ⟨f0, f1, f2, f3, f4⟩ := KF.out _ k0 r0
            have q0 := cell_regrown f0
            have q1 := cell_regrown f1
            have q2 := cell_regrown f2
            have q3 := cell_regrown f3
            have q4 := cell_regrown f4
            have C1 := fun d os => Calls.regrown_of (H1x.out _ (k0.bel.trans ((below_regrown wr d os).mono k0.bel.size)))
            have C2 := fun d os => Calls.regrown_of (H2x.out _ (k0.bel.trans ((below_regrown wr d os).mono k0.bel.size)))
            clear H1x H2x
            go_wp2_with fail
            refine wp_region_quiet_below (by kernel_rfl) (by kernel_rfl) ?_
            repeat (quiet_step (first | with_reducible exact C1 _ _ | with_reducible exact C2 _ _))
            refine wpQuiet_nil ?_
            intro _ hw
            obtain ⟨⟨dq, osq⟩, hw2⟩ := hw
            subst hw2
            have G := below_regrown wr dq osq
            clear f0 f1 f2 f3 f4 q0 q1 q2 q3 q4 C1 C2 r0 k0 KF r0d OWD
            generalize Go.Sort.grow (redrawn wr dq) osq = W at G ⊢
            replace B := Lib.hid (B.out.below G)
            replace RW := Lib.hid (RW.out.below G)
            replace HM := Lib.hid (Nat.le_trans HM.out G.size)
            replace OW := Lib.hid (owns_below OW.out G)
            clear G
            have HA2 := Lib.hid (show acc ++ [x] = (L.take (k + 1)).filter P by rw [HF.out, HPx.out, HA.out]; simp)
            have hal := Lib.hid (show acc.length + 1 ≤ 2000 by
              have h1 := congrArg List.length HA2.out
              have h2 := List.length_filter_le P (L.take (k + 1))
              have h3 := List.length_take_le (k + 1) L
              have h4 := HL0.out
              rw [List.length_append, List.length_singleton] at h1
              have h5 : (L.take (k + 1)).length ≤ L.length := by rw [List.length_take]; omega
              omega)
            have o0 := cell_of_block (j := 0) B.out.2.2.2.1 rfl
            have o1 := cell_of_block (j := 1) B.out.2.2.2.1 rfl
            have x1 := RW.out k x hlk.out
            go_wp2_with fail
            have BA := Lib.hid (B.out.below ((Below.refl W.heap.size W).alloc (Nat.le_refl _) (.cells #[.string x] 35)))
            have RA := Lib.hid (RW.out.below ((Below.refl W.heap.size W).alloc (Nat.le_refl _) (.cells #[.string x] 35)))
            have OA := Lib.hid (show ((W.alloc (.cells #[.string x] 35)).drew).ownsRow M 35 1 (.slice po na co) na (acc.map Value.string) from OW.out.alloc _)
            have CA := Lib.hid (show ∀ j u, [Value.string x][j]? = some u → ((W.alloc (.cells #[.string x] 35)).drew).cell? ((⟨W.heap.size, 0, none⟩ : Addr).add j) = some u from cells1a W (.string x) 35)
            have hna := Lib.hid (show na + 1 ≤ 2000 by have := HN.out.1; have := hal.out; omega)
            have hsz1 := Lib.hid (show M ≤ ((W.alloc (.cells #[.string x] 35)).drew).heap.size by have := HM.out; show M ≤ (W.alloc _).heap.size; simp; omega)
            have n1 := Lib.hid (show na + 1 ≤ maxLen by unfold maxLen; have := hna.out; omega)
            have n2 := Lib.hid (show (na + 1) * 16 ≤ 140737488355328 by have := hna.out; omega)
            have hz := B.out.lt
            have hzL : bL < W.heap.size := cell_lt' x1
            have oc := Lib.hid (show ∀ u ∈ [Value.string x], u.oneCell' = true from fun u hu => by simp at hu; subst hu; rfl)
            go_region_law (first
              | (refine step_append_lies _ rfl _ _ 26 rfl M 35 i0 (.string ⟨#[]⟩) 1 16 Try.underlying26 hi hz0 hz1 hz2 rfl (by decide) (.slice po na co) na (acc.map Value.string) rfl OA.out ⟨W.heap.size, 0, none⟩ 1 1 [.string x] rfl rfl CA.out oc.out (by decide) n1.out n2.out hsz1.out _ rfl ?_; intro g7 c7 w7 hown7 hg7 hat7 hlt7; have B7 := Lib.hid (BA.out.drew.grown hg7 (fun q hq => by have := (OA.out.lt q hq).1; have := HM2.out; omega)); have RW7 := Lib.hid (RowL.grown (w := (W.alloc (.cells #[.string x] 35)).drew) RA.out hg7 (fun _ e => by have := (OA.out.lt _ e.symm).1; omega)); have OW7 := Lib.hid hown7; have HM7 := Lib.hid (Nat.le_trans hsz1.out hg7.size); have z1 := cell_of_block (j := 1) B7.out.2.2.2.1 rfl; have fr := (fun j : Nat => free_of_block (j := j) B7.out.2.2.2.1); clear hown7 hg7 hat7 hlt7))
            all_goals
              replace OW7 := Lib.hid (owns_store (c := w.heap.size + 1 + 1 + 1) (j := 1) (u := .slice (some ⟨g7, 0, none⟩) (na + 1) c7) OW7.out (by have := HM2.out; omega))
              replace RW7 := Lib.hid (RW7.out.store (c := w.heap.size + 1 + 1 + 1) (j := 1) (u := .slice (some ⟨g7, 0, none⟩) (na + 1) c7) (fun _ => by omega))
              have B8 := Lib.hid (B7.out.set3 1 (.slice (some ⟨g7, 0, none⟩) (na + 1) c7))
              have HM8 := Lib.hid (show M ≤ (w7.setCell ⟨w.heap.size + 1 + 1 + 1, 1, none⟩ (.slice (some ⟨g7, 0, none⟩) (na + 1) c7)).heap.size by have := HM7.out; simpa [World.setCell] using this)
              clear z1 fr o0 o1 x1 hz hzL
              go_wp2_with fail
              go_roundw
              case rel => exact ⟨k + 1, acc ++ [x], some ⟨g7, 0, none⟩, c7, na + 1, by omega, by go_num, Lib.hid ⟨by rw [List.length_append, ← HN.out.1]; rfl, by rw [List.length_append]; exact hal.out⟩, HA2, B8, RW7, Lib.hid (by rw [List.map_append]; exact OW7.out), HM8⟩
              case measure => simp [intOf]; omega
          · obtain ⟨f0, f1, f2, f3, f4⟩ := KF.out _ k0 r0
            have q0 := cell_regrown f0
            have q1 := cell_regrown f1
            have q2 := cell_regrown f2
            have q3 := cell_regrown f3
            have q4 := cell_regrown f4
            have C1 := fun d os => Calls.regrown_of (H1x.out _ (k0.bel.trans ((below_regrown wr d os).mono k0.bel.size)))
            have C2 := fun d os => Calls.regrown_of (H2x.out _ (k0.bel.trans ((below_regrown wr d os).mono k0.bel.size)))
            clear H1x H2x
            go_wp2_with fail
            refine wp_region_quiet_below (by kernel_rfl) (by kernel_rfl) ?_
            repeat (quiet_step (first | with_reducible exact C1 _ _ | with_reducible exact C2 _ _))
            refine wpQuiet_nil ?_
            intro _ hw
            obtain ⟨⟨dq, osq⟩, hw2⟩ := hw
            subst hw2
            have G := below_regrown wr dq osq
            clear f0 f1 f2 f3 f4 q0 q1 q2 q3 q4 C1 C2 r0 k0 KF r0d OWD
            generalize Go.Sort.grow (redrawn wr dq) osq = W at G ⊢
            replace B := Lib.hid (B.out.below G)
            replace RW := Lib.hid (RW.out.below G)
            replace HM := Lib.hid (Nat.le_trans HM.out G.size)
            replace OW := Lib.hid (owns_below OW.out G)
            clear G
            have o0 := cell_of_block (j := 0) B.out.2.2.2.1 rfl
            have HA2 := Lib.hid (show acc = (L.take (k + 1)).filter P by rw [HF.out, HPx.out, HA.out]; simp)
            go_wp2_with fail
            go_roundw
            case rel => exact ⟨k + 1, acc, po, co, na, by omega, by go_num, HN, HA2, B, RW, OW, HM⟩
            case measure => simp [intOf]; omega
        · obtain ⟨f0, f1, f2, f3, f4⟩ := KF.out _ k0 r0
          have q0 := cell_regrown f0
          have q1 := cell_regrown f1
          have q2 := cell_regrown f2
          have q3 := cell_regrown f3
          have q4 := cell_regrown f4
          have C1 := fun d os => Calls.regrown_of (H1x.out _ (k0.bel.trans ((below_regrown wr d os).mono k0.bel.size)))
          clear H1x H2x
          go_wp2_with fail
          refine wp_region_quiet_below (by kernel_rfl) (by kernel_rfl) ?_
          repeat (quiet_step (first | with_reducible exact C1 _ _))
          refine wpQuiet_nil ?_
          intro _ hw
          obtain ⟨⟨dq, osq⟩, hw2⟩ := hw
          subst hw2
          have G := below_regrown wr dq osq
          clear f0 f1 f2 f3 f4 q0 q1 q2 q3 q4 C1 r0 k0 KF r0d OWD
          generalize Go.Sort.grow (redrawn wr dq) osq = W at G ⊢
          replace B := Lib.hid (B.out.below G)
          replace RW := Lib.hid (RW.out.below G)
          replace HM := Lib.hid (Nat.le_trans HM.out G.size)
          replace OW := Lib.hid (owns_below OW.out G)
          clear G
          have o0 := cell_of_block (j := 0) B.out.2.2.2.1 rfl
          have HA2 := Lib.hid (show acc = (L.take (k + 1)).filter P by rw [HF.out, HPx.out, HA.out]; simp)
          go_wp2_with fail
          go_roundw
          case rel => exact ⟨k + 1, acc, po, co, na, by omega, by go_num, HN, HA2, B, RW, OW, HM⟩
          case measure => simp [intOf]; omega
      · obtain rfl : k = L.length := by omega
        have HE := Lib.hid (show acc = L.filter P by rw [HA.out, List.take_length])
        have hlt2 : ¬ ((L.length : Int) < (L.length : Int)) := by omega
        have AO := Lib.hid (AddrsG.of_owns (l := acc) (n := na) (by have h := OW.out; exact h))
        have hnn := HN.out.1
        subst hnn
        clear hlt hk
        have o0 := cell_of_block (j := 0) B.out.2.2.2.1 rfl
        have o1 := cell_of_block (j := 1) B.out.2.2.2.1 rfl
        have u0 := cell_of_block (j := 0) B.out.2.2.1 rfl
        have u1 := cell_of_block (j := 1) B.out.2.2.1 rfl
        have fr2 := (fun j : Nat => free_of_block (j := j) B.out.2.2.1)
        go_wp2_with fail
        refine bodyPost_ret (v := .agg #[.bool true, .slice po acc.length co]) (by simp [results, Try.results33, go_sem, u0, u1]) rfl ⟨_, rfl, ?_, ?_⟩
        · rw [← HE.out]
          refine AddrsG.mono (B := M) ?_ (by have := HM2.out; omega) id
          iterate 2 (refine AddrsG.store ?_ (by have := HM2.out; omega))
          exact AO.out
        · iterate 2 (refine Below.setCell ?_ (by show _ ≤ w.heap.size + 1 + 1; omega) _)
          exact B.out.bel

end Go.Proofs.Ythpafojeadbjlaa
