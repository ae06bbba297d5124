/-
  rstp: Hear. Contracts over the translated program.
-/
import Derived.Test.YtdjeifbbbpbhoaaRsG
namespace Go.Proofs.Ytdjeifbbbpbhoaa
open Go.RowKit
set_option linter.unusedVariables false
set_option linter.unusedSimpArgs false

theorem gcell_only {w w' : World} {a b o : Nat} {v : Value} (x : Only a w w') (hne : b ≠ a) (h : w.cell? ⟨b, o, none⟩ = some v) : w'.cell? ⟨b, o, none⟩ = some v := by
  have e := x.block b (gcell_lt h) hne
  unfold World.cell? at h ⊢
  simp only at h ⊢
  rw [e]
  exact h
theorem Only.alloc {a : Nat} {w w' : World} (x : Only a w w') (o : Obj) : Only a w (w'.alloc o) := x.trans (Only.ofBelow ((Below.refl _ _).alloc (Nat.le_refl _) _))
theorem Only.drew {a : Nat} {w w' : World} (x : Only a w w') : Only a w w'.drew := x.drewN 1

theorem hear_none {T : Part} {n : Int} (h : T.at? n = none) (b : Tell) (now : Int) : T.hear n b now = T := by unfold Part.hear; rw [h]
theorem hear_off {T : Part} {n : Int} {p : Prt} (h : T.at? n = some p) (b : Tell) {now : Int} (k : p.up = false ∨ timeR now = false) : T.hear n b now = T := by
  unfold Part.hear
  rw [h]
  rcases k with k | k <;> simp [k]
theorem hear_old {T : Part} {n : Int} {p : Prt} (h : T.at? n = some p) {b : Tell} {now : Int} (hu : p.up = true) (ht : timeR now = true) (k : (p.forget (T.goOn now).forget.time).takes b.v = false) : T.hear n b now = (T.goOn now).forget.right := by
  unfold Part.hear
  rw [h]
  simp [hu, ht, k]
theorem hear_new {T : Part} {n : Int} {p : Prt} (h : T.at? n = some p) {b : Tell} {now : Int} (hu : p.up = true) (ht : timeR now = true) (k : (p.forget (T.goOn now).forget.time).takes b.v = true) (hc : (b.chg && b.v.2.2.1 != T.br) = false) : T.hear n b now = ((T.goOn now).forget.put n.toNat { p.forget (T.goOn now).forget.time with kept := some ⟨b.v, b.age, (T.goOn now).forget.time⟩ }).right := by
  unfold Part.hear
  rw [h]
  simp only [hu, ht, k, hc, Bool.and_self, if_true, Bool.false_eq_true, if_false]
theorem hear_news {T : Part} {n : Int} {p : Prt} (h : T.at? n = some p) {b : Tell} {now : Int} (hu : p.up = true) (ht : timeR now = true) (k : (p.forget (T.goOn now).forget.time).takes b.v = true) (hc : (b.chg && b.v.2.2.1 != T.br) = true) : T.hear n b now = ((T.goOn now).forget.put n.toNat { p.forget (T.goOn now).forget.time with kept := some ⟨b.v, b.age, (T.goOn now).forget.time⟩ }).note.right := by
  unfold Part.hear
  rw [h]
  simp only [hu, ht, k, hc, Bool.and_self, if_true]

section
variable {w : World} {B t rb cap : Nat} {A : List Nat} {T : Part}

set_option maxHeartbeats 4000000 in
set_option maxRecDepth 100000 in
theorem hear_c (h : HasS w B t rb cap A T) (n : Int) (r c g q age : Int) (ch le fw : Bool) (now : Int) (ha0 : -9223372036854775808 ≤ age) : Calls Try.prog 15 #[.pointer (some ⟨t, 0, none⟩), .int .i64 n, .agg #[.int .u64 r, .int .i64 c, .int .u64 g, .int .i64 q, .int .i64 age, .bool ch, .bool le, .bool fw], .int .i64 now] w fun e w' => e = .returned (.tuple #[]) ∧ HasS w' B t rb cap A (T.hear n ⟨(r, c, g, q), age, ch, le, fw⟩ now) ∧ Tt isS B w w' := by
  have K0 := Lib.hid (Tt.ofBelow (P := isS) (B := B) ((Below.refl w.heap.size w).alloc (Nat.le_refl _) (.cells #[.int .u64 r, .int .i64 c, .int .u64 g, .int .i64 q, .int .i64 age, .bool ch, .bool le, .bool fw] 38)))
  have hb0 := Lib.hid (heap_new w (.cells #[.int .u64 r, .int .i64 c, .int .u64 g, .int .i64 q, .int .i64 age, .bool ch, .bool le, .bool fw] 38))
  have h0 := h.below ((Below.refl w.heap.size w).alloc (Nat.le_refl _) (.cells #[.int .u64 r, .int .i64 c, .int .u64 g, .int .i64 q, .int .i64 age, .bool ch, .bool le, .bool fw] 38))
  cases hat : T.at? n with
  | none =>
    have HP := Lib.hid (port_no h0 n (by rw [← h.len]; exact at_none hat))
    have H := Lib.hid h0
    have E := Lib.hid (hear_none hat ⟨(r, c, g, q), age, ch, le, fw⟩ now)
    clear h h0 hat
    go_enter Try.func15, Try.ntmps15
    go_upto_region 1 with fail
    generalize w.alloc (.cells #[.int .u64 r, .int .i64 c, .int .u64 g, .int .i64 q, .int .i64 age, .bool ch, .bool le, .bool fw] 38) = W0 at K0 hb0 HP H ⊢
    go_wp2_with fail
    ((with_reducible refine HP.out.mono ?_); rintro e w1 ⟨rfl, rfl⟩)
    go_wp2_with fail
    exact bodyPost_ret (v := .tuple #[]) (by simp [results, Try.results15, go_sem]) rfl ⟨rfl, by rw [E.out]; exact H.out, K0.out⟩
  | some p =>
    obtain ⟨k, rfl, hk, hp⟩ := at_some hat
    obtain ⟨a, p', ha, hp', kv, hb, hkv⟩ := h0.pair (k := k) (by rw [← h.len]; exact (List.getElem?_eq_some_iff.1 hp).1)
    rw [hp] at hp'
    cases hp'
    have x1 := prt_c1 hb
    have HP := Lib.hid (port_yes h0 ha)
    have H := Lib.hid h0
    have HA := Lib.hid ha
    have HQ := Lib.hid hp
    have HGP := Lib.hid (h0.good.ps p (List.mem_of_getElem? hp))
    clear ha hk hp hb hkv
    cases hu : p.up with
    | false =>
      rw [hu] at x1
      have E := Lib.hid (hear_off hat ⟨(r, c, g, q), age, ch, le, fw⟩ (now := now) (Or.inl hu))
      clear hat
      replace hu := Lib.hid hu
      clear h h0
      go_enter Try.func15, Try.ntmps15
      go_upto_region 1 with fail
      generalize w.alloc (.cells #[.int .u64 r, .int .i64 c, .int .u64 g, .int .i64 q, .int .i64 age, .bool ch, .bool le, .bool fw] 38) = W0 at K0 hb0 HP H x1 ⊢
      go_wp2_with fail
      ((with_reducible refine HP.out.mono ?_); rintro e w1 ⟨rfl, rfl⟩)
      go_wp2_with fail
      exact bodyPost_ret (v := .tuple #[]) (by simp [results, Try.results15, go_sem]) rfl ⟨rfl, by rw [E.out]; exact H.out, K0.out⟩
    | true =>
      rw [hu] at x1
      cases ht : timeR now with
      | false =>
        have HN := Lib.hid fun v U => goOn_no U v now ht
        have E := Lib.hid (hear_off hat ⟨(r, c, g, q), age, ch, le, fw⟩ (Or.inr ht))
        replace hu := Lib.hid hu
        clear h h0 ht hat
        go_enter Try.func15, Try.ntmps15
        go_upto_region 1 with fail
        generalize w.alloc (.cells #[.int .u64 r, .int .i64 c, .int .u64 g, .int .i64 q, .int .i64 age, .bool ch, .bool le, .bool fw] 38) = W0 at K0 hb0 HP H x1 ⊢
        go_wp2_with fail
        ((with_reducible refine HP.out.mono ?_); rintro e w1 ⟨rfl, rfl⟩)
        go_wp2_with fail
        ((with_reducible refine (HN.out _ _).mono ?_); rintro e w1 ⟨rfl, rfl⟩)
        go_wp2_with fail
        exact bodyPost_ret (v := .tuple #[]) (by simp [results, Try.results15, go_sem]) rfl ⟨rfl, by rw [E.out]; exact H.out, K0.out⟩
      | true =>
        have HN := Lib.hid (goOn_yes h0 now ht)
        have EO := Lib.hid fun k => hear_old hat (b := ⟨(r, c, g, q), age, ch, le, fw⟩) hu ht k
        have EN := Lib.hid fun k => hear_new hat (b := ⟨(r, c, g, q), age, ch, le, fw⟩) hu ht k
        have EM := Lib.hid fun k => hear_news hat (b := ⟨(r, c, g, q), age, ch, le, fw⟩) hu ht k
        replace hu := Lib.hid hu
        clear h h0 ht hat
        go_enter Try.func15, Try.ntmps15
        go_upto_region 1 with fail
        have HNE := Lib.hid (show ∀ U, Tt isS B (w.alloc (.cells #[.int .u64 r, .int .i64 c, .int .u64 g, .int .i64 q, .int .i64 age, .bool ch, .bool le, .bool fw] 38)) U → U.heap[w.heap.size]? = some (.cells #[.int .u64 r, .int .i64 c, .int .u64 g, .int .i64 q, .int .i64 age, .bool ch, .bool le, .bool fw] 38 (0, 0)) from fun U k => k.cells hb0.out (by decide))
        generalize w.alloc (.cells #[.int .u64 r, .int .i64 c, .int .u64 g, .int .i64 q, .int .i64 age, .bool ch, .bool le, .bool fw] 38) = W0 at K0 hb0 HP H x1 HN HNE ⊢
        generalize w.heap.size = bb at HNE hb0 ⊢
        go_wp2_with fail
        ((with_reducible refine HP.out.mono ?_); rintro e w1 ⟨rfl, rfl⟩)
        go_wp2_with fail
        ((with_reducible refine HN.out.mono ?_); rintro e w1 ⟨rfl, h1, k1⟩)
        have HF := Lib.hid (forget_c h1)
        have K1 := Lib.hid k1
        clear h1 k1 HP HN x1 hb0 H
        go_wp2_with fail
        ((with_reducible refine HF.out.mono ?_); rintro e w2 ⟨rfl, h2, k2⟩)
        have H2 := Lib.hid h2
        have K2 := Lib.hid (K1.out.trans k2)
        clear HF h2 k2 K1
        have hq : (T.goOn now).forget.ps[k]? = some (p.forget (T.goOn now).forget.time) := by
          show (T.ps.map (Prt.forget (T.goOn now).time))[k]? = _
          rw [List.getElem?_map, HQ.out]
          rfl
        have HGQ := Lib.hid (forget_good HGP.out (T.goOn now).forget.time)
        generalize p.forget (T.goOn now).forget.time = p2 at hq HGQ EO EN EM
        obtain ⟨kv2, hb2, hkv2⟩ := H2.out.ports k a p2 HA.out hq
        have HTK := Lib.hid (takes_c (w := w2) (a := a) (p := p2) ⟨kv2, hb2, hkv2⟩ r c g q)
        have hbb := HNE.out w2 K2.out
        have z0 : w2.cell? ⟨bb, 0, none⟩ = some (.int .u64 r) := cell_of_block hbb rfl
        have z1 : w2.cell? ⟨bb, 1, none⟩ = some (.int .i64 c) := cell_of_block hbb rfl
        have z2 : w2.cell? ⟨bb, 2, none⟩ = some (.int .u64 g) := cell_of_block hbb rfl
        have z3 : w2.cell? ⟨bb, 3, none⟩ = some (.int .i64 q) := cell_of_block hbb rfl
        have HB2 := Lib.hid hb2
        have HQ2 := Lib.hid hq
        clear hb2 hkv2 hq hbb
        cases htk : p2.takes (r, c, g, q) with
        | false =>
          rw [htk] at HTK
          replace htk := Lib.hid htk
          go_wp2_with fail
          ((with_reducible refine HTK.out.mono ?_); rintro e w3 ⟨rfl, k3⟩)
          have HR := Lib.hid (right_c (H2.out.below k3))
          have K3 := Lib.hid (K2.out.grow k3)
          clear z0 z1 z2 z3 k3 HTK
          go_wp2_with fail
          ((with_reducible refine HR.out.mono ?_); rintro e w4 ⟨rfl, h4, k4⟩)
          go_wp2_with fail
          go_end0
          exact ⟨rfl, by rw [EO.out htk.out]; exact h4, K0.out.trans (K3.out.trans k4)⟩
        | true =>
          rw [htk] at HTK
          replace htk := Lib.hid htk
          go_wp2_with fail
          ((with_reducible refine HTK.out.mono ?_); rintro e w3 ⟨rfl, k3⟩)
          replace H2 := Lib.hid (H2.out.below k3)
          replace K2 := Lib.hid (K2.out.grow k3)
          replace HB2 := Lib.hid (below_block k3 (lt_of_block HB2.out) HB2.out)
          clear z0 z1 z2 z3 k3 HTK
          have hbb := HNE.out w3 K2.out
          have z0 : w3.cell? ⟨bb, 0, none⟩ = some (.int .u64 r) := cell_of_block hbb rfl
          have z1 : w3.cell? ⟨bb, 1, none⟩ = some (.int .i64 c) := cell_of_block hbb rfl
          have z2 : w3.cell? ⟨bb, 2, none⟩ = some (.int .u64 g) := cell_of_block hbb rfl
          have z3 : w3.cell? ⟨bb, 3, none⟩ = some (.int .i64 q) := cell_of_block hbb rfl
          have z4 : w3.cell? ⟨bb, 4, none⟩ = some (.int .i64 age) := cell_of_block hbb rfl
          have x1 : w3.cell? ⟨t, 1, none⟩ = some (.int .i64 (T.goOn now).forget.time) := H2.out.c1
          have x2 := prt_c2 HB2.out
          have f2 := free_of_block (j := 2) HB2.out
          have t0 := H2.out.good.t0
          have t1 := H2.out.good.t1
          have GM := Lib.hid (goodM (v := (r, c, g, q)) HGQ.out ha0 t0 t1)
          have hlta : a < w3.heap.size := gcell_lt x2
          have hnea : a ≠ w3.heap.size := by omega
          have nb : bb ≠ a := by
            rintro rfl
            have e := hbb.symm.trans HB2.out
            simp at e
          have nt : t ≠ a := by
            rintro rfl
            have e := H2.out.tree.symm.trans HB2.out
            simp at e
          have KF := Lib.hid fun (U : World) (kz : Only a w3 U) => (⟨gcell_only kz nb z0, gcell_only kz nb z1, gcell_only kz nb z2, gcell_only kz nb z3, gcell_only kz nb z4, gcell_only kz nt x1, kz⟩ : U.cell? ⟨bb, 0, none⟩ = some (.int .u64 r) ∧ U.cell? ⟨bb, 1, none⟩ = some (.int .i64 c) ∧ U.cell? ⟨bb, 2, none⟩ = some (.int .u64 g) ∧ U.cell? ⟨bb, 3, none⟩ = some (.int .i64 q) ∧ U.cell? ⟨bb, 4, none⟩ = some (.int .i64 age) ∧ U.cell? ⟨t, 1, none⟩ = some (.int .i64 (T.goOn now).forget.time) ∧ Only a w3 U)
          have k0 := (Only.refl a w3).drew
          have k1 := ((Only.refl a w3).alloc (.cells #[.int .u64 r, .int .i64 c, .int .u64 g, .int .i64 q, .int .i64 age, .int .i64 (T.goOn now).forget.time] 76)).drew
          have k2 := ((Only.setCell w3 a 2 (.pointer (some ⟨w3.heap.size, 0, none⟩))).alloc (.cells #[.int .u64 r, .int .i64 c, .int .u64 g, .int .i64 q, .int .i64 age, .int .i64 (T.goOn now).forget.time] 76)).drew
          go_upto_region 5 with fail
          clear hbb t0 t1 nb nt
          go_region_held3 (fun U => U.cell? ⟨bb, 0, none⟩ = some (.int .u64 r) ∧ U.cell? ⟨bb, 1, none⟩ = some (.int .i64 c) ∧ U.cell? ⟨bb, 2, none⟩ = some (.int .u64 g) ∧ U.cell? ⟨bb, 3, none⟩ = some (.int .i64 q) ∧ U.cell? ⟨bb, 4, none⟩ = some (.int .i64 age) ∧ U.cell? ⟨t, 1, none⟩ = some (.int .i64 (T.goOn now).forget.time) ∧ Only a w3 U)
            (first | with_reducible exact KF.out _ k2 | with_reducible exact KF.out _ k1 | with_reducible exact KF.out _ k0)
            (fail)
          all_goals
            have hm : ((w3.setCell ⟨a, 2, none⟩ (.pointer (some ⟨w3.heap.size, 0, none⟩))).alloc (.cells #[.int .u64 r, .int .i64 c, .int .u64 g, .int .i64 q, .int .i64 age, .int .i64 (T.goOn now).forget.time] 76)).drew.heap[w3.heap.size]? = some (.cells #[.int .u64 r, .int .i64 c, .int .u64 g, .int .i64 q, .int .i64 age, .int .i64 (T.goOn now).forget.time] 76) := by
              have e : (w3.setCell ⟨a, 2, none⟩ (.pointer (some ⟨w3.heap.size, 0, none⟩))).heap.size = w3.heap.size := by simp [World.setCell]
              have h1 := heap_new (w3.setCell ⟨a, 2, none⟩ (.pointer (some ⟨w3.heap.size, 0, none⟩))) (.cells #[.int .u64 r, .int .i64 c, .int .u64 g, .int .i64 q, .int .i64 age, .int .i64 (T.goOn now).forget.time] 76)
              rw [e] at h1
              exact h1
            have hs : ((w3.setCell ⟨a, 2, none⟩ (.pointer (some ⟨w3.heap.size, 0, none⟩))).alloc (.cells #[.int .u64 r, .int .i64 c, .int .u64 g, .int .i64 q, .int .i64 age, .int .i64 (T.goOn now).forget.time] 76)).drew.heap[a]? = some (.cells (prtC { p2 with kept := some ⟨(r, c, g, q), age, (T.goOn now).forget.time⟩ } (.pointer (some ⟨w3.heap.size, 0, none⟩))) 64 (0, 0)) := heap_old (heap_store (j := 2) (v := .pointer (some ⟨w3.heap.size, 0, none⟩)) HB2.out)
            have H5 := Lib.hid (H2.out.port HA.out k2 (p := { p2 with kept := some ⟨(r, c, g, q), age, (T.goOn now).forget.time⟩ }) ⟨_, hs, _, rfl, hm⟩ GM.out)
            have K5 := Lib.hid (K2.out.trans (H2.out.ttP HA.out k2))
            clear hm hs k0 k1 k2 z0 z1 z2 z3 z4 x1 x2 f2 hlta hnea KF GM HGQ HB2 H2 K2
            generalize ((w3.setCell ⟨a, 2, none⟩ (.pointer (some ⟨w3.heap.size, 0, none⟩))).alloc (.cells #[.int .u64 r, .int .i64 c, .int .u64 g, .int .i64 q, .int .i64 age, .int .i64 (T.goOn now).forget.time] 76)).drew = W5 at H5 K5 ⊢
            have hbb := HNE.out W5 K5.out
            have y2 : W5.cell? ⟨bb, 2, none⟩ = some (.int .u64 g) := cell_of_block hbb rfl
            have y5 : W5.cell? ⟨bb, 5, none⟩ = some (.bool ch) := cell_of_block hbb rfl
            have y0 : W5.cell? ⟨t, 0, none⟩ = some (.int .u64 T.br) := H5.out.c0
            clear hbb
            cases ch with
            | false =>
              have E := Lib.hid (EN.out htk.out rfl)
              have HR := Lib.hid fun n => right_c (H5.out.drewN n)
              go_wp2
              go_quiet (fail)
              go_wp2_with fail
              ((with_reducible refine (HR.out _).mono ?_); rintro e w6 ⟨rfl, h6, k6⟩)
              go_wp2_with fail
              go_end0
              exact ⟨rfl, by rw [E.out]; exact h6, K0.out.trans ((K5.out.drewN _).trans k6)⟩
            | true =>
              by_cases hg : g = T.br
              · obtain ⟨g1, g2⟩ := eq_t hg
                have E := Lib.hid (EN.out htk.out (by simp [hg]))
                clear hg
                have HR := Lib.hid fun n => right_c (H5.out.drewN n)
                go_wp2
                go_quiet (fail)
                go_wp2_with fail
                ((with_reducible refine (HR.out _).mono ?_); rintro e w6 ⟨rfl, h6, k6⟩)
                go_wp2_with fail
                go_end0
                exact ⟨rfl, by rw [E.out]; exact h6, K0.out.trans ((K5.out.drewN _).trans k6)⟩
              · obtain ⟨g1, g2⟩ := ne_t hg
                have E := Lib.hid (EM.out htk.out (by simp [hg]))
                clear hg
                have HN := Lib.hid fun n => note_c (H5.out.drewN n)
                go_wp2
                go_quiet (fail)
                go_wp2_with fail
                ((with_reducible refine (HN.out _).mono ?_); rintro e w6 ⟨rfl, h6, k6⟩)
                have HR := Lib.hid (right_c h6)
                have K6 := Lib.hid ((K5.out.drewN _).trans k6)
                clear h6 k6 y0 y2 y5
                go_wp2_with fail
                ((with_reducible refine HR.out.mono ?_); rintro e w7 ⟨rfl, h7, k7⟩)
                go_wp2_with fail
                go_end0
                exact ⟨rfl, by rw [E.out]; exact h7, K0.out.trans (K6.out.trans k7)⟩

end

end Go.Proofs.Ytdjeifbbbpbhoaa
