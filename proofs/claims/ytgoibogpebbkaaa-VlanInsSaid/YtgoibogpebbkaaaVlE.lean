/-
  VLANs: whether ports may be, the document's answer: siphonref12.Check. A contract over the translated program.
-/
import Derived.Test.YtgoibogpebbkaaaVlD
namespace Go.Proofs.Ytgoibogpebbkaaa
open Go.RowKit
set_option linter.unusedVariables false

theorem rises_b (u : Value) (l : List Int) (w : World) (hl : l.length ≤ 9223372036854775807) (ha : IntsAt w u l) :
    Calls Try.prog 22 #[u] w fun e w' => e = .returned (.bool (risB l)) ∧ Below w.heap.size w w' :=
  (rises_c u l w hl ha).mono fun _ _ ⟨he, n, hn⟩ => ⟨he, hn ▸ below_drewN (Below.refl _ _) n⟩

theorem IBox.bel {w0 w : World} {xs : Array Value} {t : TypeId} (h : IBox w0 w xs t) : Below w0.heap.size w0 w := h.2
theorem pt_parts (d : Int) (tg pl : List Int) : ptB ⟨d, tg, pl⟩ = (risB tg && risB pl && !anyB tg pl && (decide (d = 0) || memB ⟨d, tg, pl⟩ d)) := by
  unfold ptB dftB
  rw [anyB_comm tg pl]

set_option maxHeartbeats 4000000 in
set_option maxRecDepth 100000 in
theorem rchk_c (u : Value) (L : List Pt) (w : World) (hl : L.length ≤ 9223372036854775807) (hp : PtsL L) (ha : PtsAt w u L) :
    Calls Try.prog 12 #[u] w fun e w' => e = .returned (.int .i64 (chkI L)) ∧ Below w.heap.size w w' := by
  obtain ⟨p, cap, b, off, rfl, hpp, hc⟩ := ha
  have HP := Lib.hid hpp
  have HC := Lib.hid hc
  have HL := Lib.hid hp
  clear hpp hc hp
  by_cases h0 : L.length < 1
  · have V := Lib.hid (chkB_no L (by omega))
    have d1 : decide ((L.length : Int) < 1) = true := decide_eq_true (by omega)
    go_enter Try.func12, Try.ntmps12
    go_wp2_with fail
    go_ret
    exact ⟨by rw [V.out]; rfl, Below.refl _ _⟩
  · have d1 : decide ((L.length : Int) < 1) = false := decide_eq_false (by omega)
    by_cases h16 : 16 < L.length
    · have V := Lib.hid (chkB_no L (by omega))
      have d2 : decide ((16 : Int) < (L.length : Int)) = true := decide_eq_true (by omega)
      go_enter Try.func12, Try.ntmps12
      go_wp2_with fail
      go_ret
      exact ⟨by rw [V.out]; rfl, Below.refl _ _⟩
    · have d2 : decide ((16 : Int) < (L.length : Int)) = false := decide_eq_false (by omega)
      have V0 := Lib.hid (chkB_at L ⟨by omega, by omega⟩)
      clear h0 h16
      go_enter Try.func12, Try.ntmps12
      go_wp2_with fail
      go_loopw [3, 4, 5] (fun i _ _ wr => ∃ k : Nat, k ≤ L.length ∧ i = .int .i64 k ∧ Hid (allB (L.take k) = true) ∧ Hid (Below w.heap.size w wr)) (fun i _ _ _ => L.length - (intOf i).toNat)
      case atStart => exact ⟨0, Nat.zero_le _, rfl, Lib.hid rfl, Lib.hid (Below.refl _ _)⟩
      case round =>
        obtain ⟨k, hk, rfl, hall, hb⟩ := hrel
        by_cases hlt : k < L.length
        · have hne : L ≠ [] := by rintro rfl; simp at hlt
          obtain rfl := HP.out hne
          obtain ⟨y0, vt, vp, y1, y2, a1, a2⟩ := HC.out k _ (List.getElem?_eq_getElem hlt)
          have hS := Lib.hid (all_step L k hlt hall.out)
          have hM := Lib.hid (HL.out _ (List.getElem_mem hlt))
          generalize L[k] = r at y0 y1 y2 a1 a2 hS hM
          obtain ⟨d, tg, pl⟩ := r
          simp only at y0 hM a1 a2
          have x0 : wr.cell? ⟨b, off + k * 3, none⟩ = some (.int .i64 d) := (icell_below (w := w) hb.out y0)
          have x1 : wr.cell? ⟨b, off + k * 3 + 1, none⟩ = some vt := (icell_below (w := w) hb.out y1)
          have x2 : wr.cell? ⟨b, off + k * 3 + 2, none⟩ = some vp := (icell_below (w := w) hb.out y2)
          have a1' := a1.below hb.out
          have a2' := a2.below hb.out
          have HQ1 := Lib.hid fun (U : World) (hU : Below wr.heap.size wr U) => rises_b vt tg U (by have := hM.out.1; omega) (a1'.below hU)
          have HQ2 := Lib.hid fun (U : World) (hU : Below wr.heap.size wr U) => rises_b vp pl U (by have := hM.out.2; omega) (a2'.below hU)
          have HQ3 := Lib.hid fun (U : World) (hU : Below wr.heap.size wr U) => rmember_c ⟨d, tg, pl⟩ vt vp d U (by have := hM.out.1; simp only; omega) (by have := hM.out.2; simp only; omega) (a1'.below hU) (a2'.below hU)
          have HQ4 := Lib.hid fun (U : World) (hU : Below wr.heap.size wr U) (x : Int) (n : Nat) => (rhas_c vp pl x (U.drewN n) (by have := hM.out.2; omega) ((a2'.below hU).drewN n)).mono fun _ _ h => And.intro h.1 h.2.symm
          simp only at HQ3
          have V1 := Lib.hid (pt_parts d tg pl)
          have htl : tg.length < 4611686018427387904 := hM.out.1
          obtain ⟨p1, c1, b1, o1, rfl, hp1, hc1⟩ := a1'
          obtain ⟨p2, c2, rfl⟩ := a2'.slice
          have HP1 := Lib.hid hp1
          have HC1 := Lib.hid hc1
          have B := Lib.hid (IBox.start wr #[.int .i64 d, .slice p1 tg.length c1, .slice p2 pl.length c2] 38)
          generalize pl.length = n2 at *
          generalize memB ⟨d, tg, pl⟩ d = rm at HQ3 V1
          generalize ptB ⟨d, tg, pl⟩ = rr at hS V1
          generalize risB tg = r1 at HQ1 V1
          generalize risB pl = r2 at HQ2 V1
          have hlt' : (k : Int) < (L.length : Int) := by omega
          clear hne y0 y1 y2 a1 a2 a2' hp1 hc1 hM
          cases r1
          · have V := Lib.hid (show chkI L = 3 by rw [V0.out, hS.out.2 V1.out]; rfl)
            go_wp2_with fail
            ((with_reducible refine (HQ1.out _ B.out.bel).mono ?_); rintro e w1 ⟨rfl, h1⟩)
            go_wp2_with fail
            go_ret
            exact ⟨by rw [V.out]; rfl, hb.out.trans ((B.out.below h1).2.mono hb.out.size)⟩
          · cases r2
            · have V := Lib.hid (show chkI L = 3 by rw [V0.out, hS.out.2 V1.out]; rfl)
              go_wp2_with fail
              ((with_reducible refine (HQ1.out _ B.out.bel).mono ?_); rintro e w1 ⟨rfl, h1⟩)
              replace B := Lib.hid (B.out.below h1)
              have y2 := B.out.cell 2 rfl
              clear h1
              go_wp2_with fail
              ((with_reducible refine (HQ2.out _ B.out.bel).mono ?_); rintro e w2 ⟨rfl, h2⟩)
              go_wp2_with fail
              go_ret
              exact ⟨by rw [V.out]; rfl, hb.out.trans ((B.out.below h2).2.mono hb.out.size)⟩
            · go_wp2_with fail
              ((with_reducible refine (HQ1.out _ B.out.bel).mono ?_); rintro e w1 ⟨rfl, h1⟩)
              replace B := Lib.hid (B.out.below h1)
              have y2 := B.out.cell 2 rfl
              clear h1
              go_wp2_with fail
              ((with_reducible refine (HQ2.out _ B.out.bel).mono ?_); rintro e w2 ⟨rfl, h2⟩)
              replace B := Lib.hid (B.out.below h2)
              clear h2 y2
              have y0 := B.out.cell 0 rfl
              have y1 := B.out.cell 1 rfl
              have y2 := B.out.cell 2 rfl
              by_cases hd : d ≠ 0 ∧ rm = false
              · obtain ⟨q1, q2⟩ := vint hd.1
                have V := Lib.hid (show chkI L = 3 by rw [V0.out, hS.out.2 (by rw [V1.out, hd.2, decide_eq_false hd.1]; simp)]; rfl)
                obtain rfl := hd.2
                clear hd
                go_wp2_with fail
                ((with_reducible refine (HQ3.out _ B.out.bel).mono ?_); rintro e w3 ⟨rfl, h3⟩)
                go_wp2_with fail
                go_ret
                exact ⟨by rw [V.out]; rfl, hb.out.trans ((B.out.below h3).2.mono hb.out.size)⟩
              · have hdm : (decide (d = 0) || rm) = true := by
                  by_cases h : d = 0
                  · rw [decide_eq_true h]; rfl
                  · rcases rm with _ | _
                    · exact absurd ⟨h, rfl⟩ hd
                    · simp
                have V2 := Lib.hid (show rr = !anyB tg pl by rw [V1.out, hdm]; simp)
                clear V1 hdm
                have hdc : (((d != 0) = false) ∧ (d == 0) = true) ∨ ((d != 0) = true ∧ (d == 0) = false ∧ rm = true) := by
                  by_cases h : d = 0
                  · exact .inl ⟨(viet h).2, (viet h).1⟩
                  · rcases rm with _ | _
                    · exact absurd ⟨h, rfl⟩ hd
                    · exact .inr ⟨(vint h).2, (vint h).1, rfl⟩
                clear hd
                rcases hdc with ⟨q1, q2⟩ | ⟨q1, q2, rfl⟩
                · clear HQ3
                  go_wp2_with fail
                  go_loopw [5] (fun kk wz => ∃ j : Nat, j ≤ tg.length ∧ kk = .int .i64 j ∧ Hid (anyB (tg.take j) pl = false) ∧ Hid (IBox wr wz #[.int .i64 d, .slice p1 tg.length c1, .slice p2 n2 c2] 38)) (fun kk _ => tg.length - (intOf kk).toNat)
                  case atStart => exact ⟨0, Nat.zero_le _, rfl, Lib.hid rfl, B⟩
                  case round =>
                    clear B y0 y1 y2
                    rename_i wz
                    obtain ⟨j, hj, rfl, hany, B⟩ := hrel
                    have y1 := B.out.cell 1 rfl
                    have y2 := B.out.cell 2 rfl
                    by_cases hlj : j < tg.length
                    · have hne : tg ≠ [] := by rintro rfl; simp at hlj
                      obtain rfl := HP1.out hne
                      have z1 := (icell_below B.out.2 (HC1.out j _ (List.getElem?_eq_getElem hlj)))
                      have hS2 := Lib.hid (any_take_snoc tg pl j hlj)
                      have hM2 := Lib.hid (any_at tg pl j hlj)
                      generalize tg[j] = x at z1 hS2 hM2
                      have HH := Lib.hid fun n => HQ4.out _ B.out.2 x n
                      have hlj' : (j : Int) < (tg.length : Int) := by omega
                      clear hne
                      rcases hz : hasB pl x with _ | _
                      · have hA2 := Lib.hid (show anyB (tg.take (j + 1)) pl = false by rw [hS2.out, hany.out, hz]; rfl)
                        rw [hz] at HH
                        clear hz
                        go_wp2_with fail
                        go_quiet ((go_at_call 19; exact Calls.quiet_of_same (HH.out _)))
                        go_wp2_with fail
                        go_roundw
                        case rel => exact ⟨j + 1, by omega, by go_num, hA2, Lib.hid (B.out.drewN _)⟩
                        case measure => simp [intOf]; omega
                      · have V := Lib.hid (show chkI L = 3 by rw [V0.out, hS.out.2 (by rw [V2.out, hM2.out hz]; rfl)]; rfl)
                        rw [hz] at HH
                        clear hz
                        go_wp2_with fail
                        go_quiet ((go_at_call 19; exact Calls.quiet_of_same (HH.out _)))
                        go_wp2_with fail
                        go_ret
                        exact ⟨by rw [V.out]; rfl, hb.out.trans ((B.out.drewN _).2.mono hb.out.size)⟩
                    · obtain rfl : j = tg.length := by omega
                      have A2 := Lib.hid (hS.out.1 (by have h := hany.out; rw [List.take_length] at h; rw [V2.out, h]; rfl))
                      have HB := Lib.hid (hb.out.trans (B.out.2.mono hb.out.size))
                      clear hlj
                      go_wp2_with fail
                      go_roundw
                      case rel => exact ⟨k + 1, by omega, by go_num, A2, HB⟩
                      case measure => simp [intOf]; omega
                · go_wp2_with fail
                  ((with_reducible refine (HQ3.out _ B.out.bel).mono ?_); rintro e w3 ⟨rfl, h3⟩)
                  replace B := Lib.hid (B.out.below h3)
                  clear h3 y0 y1 y2 HQ3
                  go_wp2_with fail
                  go_loopw [5] (fun kk wz => ∃ j : Nat, j ≤ tg.length ∧ kk = .int .i64 j ∧ Hid (anyB (tg.take j) pl = false) ∧ Hid (IBox wr wz #[.int .i64 d, .slice p1 tg.length c1, .slice p2 n2 c2] 38)) (fun kk _ => tg.length - (intOf kk).toNat)
                  case atStart => exact ⟨0, Nat.zero_le _, rfl, Lib.hid rfl, B⟩
                  case round =>
                    clear B
                    rename_i wz
                    obtain ⟨j, hj, rfl, hany, B⟩ := hrel
                    have y1 := B.out.cell 1 rfl
                    have y2 := B.out.cell 2 rfl
                    by_cases hlj : j < tg.length
                    · have hne : tg ≠ [] := by rintro rfl; simp at hlj
                      obtain rfl := HP1.out hne
                      have z1 := (icell_below B.out.2 (HC1.out j _ (List.getElem?_eq_getElem hlj)))
                      have hS2 := Lib.hid (any_take_snoc tg pl j hlj)
                      have hM2 := Lib.hid (any_at tg pl j hlj)
                      generalize tg[j] = x at z1 hS2 hM2
                      have HH := Lib.hid fun n => HQ4.out _ B.out.2 x n
                      have hlj' : (j : Int) < (tg.length : Int) := by omega
                      clear hne
                      rcases hz : hasB pl x with _ | _
                      · have hA2 := Lib.hid (show anyB (tg.take (j + 1)) pl = false by rw [hS2.out, hany.out, hz]; rfl)
                        rw [hz] at HH
                        clear hz
                        go_wp2_with fail
                        go_quiet ((go_at_call 19; exact Calls.quiet_of_same (HH.out _)))
                        go_wp2_with fail
                        go_roundw
                        case rel => exact ⟨j + 1, by omega, by go_num, hA2, Lib.hid (B.out.drewN _)⟩
                        case measure => simp [intOf]; omega
                      · have V := Lib.hid (show chkI L = 3 by rw [V0.out, hS.out.2 (by rw [V2.out, hM2.out hz]; rfl)]; rfl)
                        rw [hz] at HH
                        clear hz
                        go_wp2_with fail
                        go_quiet ((go_at_call 19; exact Calls.quiet_of_same (HH.out _)))
                        go_wp2_with fail
                        go_ret
                        exact ⟨by rw [V.out]; rfl, hb.out.trans ((B.out.drewN _).2.mono hb.out.size)⟩
                    · obtain rfl : j = tg.length := by omega
                      have A2 := Lib.hid (hS.out.1 (by have h := hany.out; rw [List.take_length] at h; rw [V2.out, h]; rfl))
                      have HB := Lib.hid (hb.out.trans (B.out.2.mono hb.out.size))
                      clear hlj
                      go_wp2_with fail
                      go_roundw
                      case rel => exact ⟨k + 1, by omega, by go_num, A2, HB⟩
                      case measure => simp [intOf]; omega
        · obtain rfl : k = L.length := by omega
          have V := Lib.hid (show chkI L = 0 by have h := hall.out; rw [List.take_length] at h; rw [V0.out, h]; rfl)
          clear hlt
          go_wp2_with fail
          go_ret
          exact ⟨by rw [V.out]; rfl, hb.out⟩

end Go.Proofs.Ytgoibogpebbkaaa
