/-
  rstp: setRight. Contracts over the translated program.
-/
import Derived.Test.YtdjeifbbbpbhoaaRsE
import Derived.Deep.AppendLies
namespace Go.Proofs.Ytdjeifbbbpbhoaa
open Go.RowKit
set_option linter.unusedVariables false
set_option linter.unusedSimpArgs false

theorem owns_only {w w' : World} {base size n t : Nat} {e ty : TypeId} {v : Value} {xs : List Value} {cs : Array Value} {f : Nat × Nat} (h : w.ownsRow base e size v n xs) (x : Only t w w') (ht : w.heap[t]? = some (.cells cs ty f)) (hne : e ≠ ty) : w'.ownsRow base e size v n xs := by
  refine ⟨h.1, ?_⟩
  rcases h.2 with h0 | ⟨g, cap, cur, e1, hb, hg, hr⟩
  · exact Or.inl h0
  · refine Or.inr ⟨g, cap, cur, e1, hb, x.cells hg ?_, hr⟩
    rintro rfl
    have e2 := hg.symm.trans ht
    simp at e2
    exact hne e2.2.1
theorem owns_tt {P : TypeId → Bool} {B : Nat} {w w' : World} {base size n : Nat} {e : TypeId} {v : Value} {xs : List Value} (h : w.ownsRow base e size v n xs) (x : Tt P B w w') (hp : P e = false) : w'.ownsRow base e size v n xs := by
  refine ⟨h.1, ?_⟩
  rcases h.2 with h0 | ⟨g, cap, cur, e1, hb, hg, hr⟩
  · exact Or.inl h0
  · exact Or.inr ⟨g, cap, cur, e1, hb, x.cells hg hp, hr⟩

def mixR (S : Part) (rs : List Int) (k : Nat) : Part :=
  { S with ps := mix (List.zipWith (Prt.play S.time) S.ps rs) S.ps k, chg := if ((List.zipWith (Prt.fresh S.time) S.ps rs).take k).any id then S.time + 1 else S.chg }
theorem zip_at {α β γ : Type} {f : α → β → γ} {l : List α} {m : List β} {k : Nat} {a : α} {b : β} (ha : l[k]? = some a) (hb : m[k]? = some b) : (List.zipWith f l m)[k]? = some (f a b) := by
  rw [List.getElem?_zipWith, ha, hb]
theorem mixR_zero (S : Part) (rs : List Int) : mixR S rs 0 = S := by unfold mixR; rw [mix_zero]; rfl
theorem zlen {α β γ : Type} (f : α → β → γ) {l : List α} {m : List β} (h : m.length = l.length) : (List.zipWith f l m).length = l.length := by rw [List.length_zipWith]; omega
theorem mixR_at {S : Part} {rs : List Int} (hl : rs.length = S.ps.length) {k : Nat} {p : Prt} (h : S.ps[k]? = some p) : (mixR S rs k).ps[k]? = some p := (mix_at (zlen _ hl) (List.getElem?_eq_some_iff.1 h).1).trans h
theorem mixR_no {S : Part} {rs : List Int} (hl : rs.length = S.ps.length) {k : Nat} {p : Prt} {r : Int} (h : S.ps[k]? = some p) (hr : rs[k]? = some r) (e : p.fresh S.time r = false) : (mixR S rs k).put k (p.play S.time r) = mixR S rs (k + 1) := by
  unfold mixR Part.put
  simp only
  rw [mix_set (zlen _ hl) (List.getElem?_eq_some_iff.1 h).1 (zip_at h hr), any_take (zip_at h hr), e, Bool.or_false]
theorem mixR_yes {S : Part} {rs : List Int} (hl : rs.length = S.ps.length) {k : Nat} {p : Prt} {r : Int} (h : S.ps[k]? = some p) (hr : rs[k]? = some r) (e : p.fresh S.time r = true) : ((mixR S rs k).put k (p.play S.time r)).note = mixR S rs (k + 1) := by
  unfold mixR Part.put Part.note
  simp only
  rw [mix_set (zlen _ hl) (List.getElem?_eq_some_iff.1 h).1 (zip_at h hr), any_take (zip_at h hr), e, Bool.or_true]
  rfl
theorem mixR_all (T : Part) : mixR { T.forget with best := (bestL T.br T.forget.hds).2 } (rolesL T.br T.forget.hds) T.ps.length = T.right := by
  have hl : (rolesL T.br T.forget.hds).length = T.forget.ps.length := by unfold rolesL Part.hds; rw [rolesGo_len, List.length_map]
  have e : T.ps.length = T.forget.ps.length := by unfold Part.forget; rw [List.length_map]
  unfold mixR Part.right
  simp only
  rw [e, mix_all _ _ (zlen _ hl), List.take_of_length_le (by rw [zlen _ hl]; exact Nat.le_refl _)]
  rfl

section
variable {w : World} {B t rb cap : Nat} {A : List Nat} {T : Part}

set_option maxHeartbeats 4000000 in
set_option maxRecDepth 100000 in
theorem right_c (h : HasS w B t rb cap A T) : Calls Try.prog 31 #[.pointer (some ⟨t, 0, none⟩)] w fun e w' => e = .returned (.tuple #[]) ∧ HasS w' B t rb cap A T.right ∧ Tt isS B w w' := by
  have HF := Lib.hid (forget_c h)
  have HL := Lib.hid (show T.ps.length = A.length from h.len)
  have hl := h.n16
  have hl1 := h.n1
  clear h
  obtain ⟨i0, hi, hz0, hz1, hz2⟩ := info_parts info_Hd
  go_enter Try.func31, Try.ntmps31
  go_wp2_with fail
  ((with_reducible refine HF.out.mono ?_); rintro e W ⟨rfl, h1, k1⟩)
  have H := Lib.hid h1
  have HT := Lib.hid k1
  have x2 := h1.c2
  have HFL := Lib.hid (show T.forget.ps.length = A.length by unfold Part.forget; rw [List.length_map]; exact HL.out)
  have HHL := Lib.hid (show T.forget.hds.length = A.length by unfold Part.hds; rw [List.length_map]; exact HFL.out)
  clear h1 k1 HF
  go_wp2_with fail
  clear x2
  go_loopw [2, 4, 16] (fun s2 _ i wr => ∃ k : Nat, k ≤ A.length ∧ i = .int .i64 k ∧ Hid (wr.ownsRow W.heap.size 82 6 s2 k ((T.forget.hds.take k).flatMap cellsHd)) ∧ Hid (Below W.heap.size W wr)) (fun _ _ i _ => A.length - (intOf i).toNat)
  case atStart => exact ⟨0, Nat.zero_le _, rfl, Lib.hid (World.ownsRow_nil _ _ _ _), Lib.hid (Below.refl _ _)⟩
  case round =>
    obtain ⟨k, hk, rfl, HO, KB⟩ := hrel
    by_cases hlt : k < A.length
    · have HS := Lib.hid (H.out.below KB.out)
      obtain ⟨a, p, ha, hp, hpt⟩ := HS.out.pair hlt
      have xr := HS.out.rowc ha
      have HH := Lib.hid (heard_c hpt)
      have HTT := Lib.hid (show (T.forget.hds.take (k + 1)).flatMap cellsHd = (T.forget.hds.take k).flatMap cellsHd ++ cellsHd p.hd by
        have e : T.forget.hds[k]? = some p.hd := by unfold Part.hds; rw [List.getElem?_map, hp]; rfl
        obtain ⟨hk', e⟩ := List.getElem?_eq_some_iff.1 e
        rw [List.take_succ_eq_append_getElem hk', List.flatMap_append, e]; simp)
      generalize (T.forget.hds.take k).flatMap cellsHd = acc at HTT HO
      have HON := Lib.hid (hd_one p.hd)
      generalize p.hd = hd at HTT HH HON
      obtain ⟨x, r, c, g, q, kk⟩ := hd
      replace HTT : Hid ((T.forget.hds.take (k + 1)).flatMap cellsHd = acc ++ [.bool x, .int .u64 r, .int .i64 c, .int .u64 g, .int .i64 q, .int .i64 kk]) := HTT
      replace HON : Hid (∀ u ∈ ([.bool x, .int .u64 r, .int .i64 c, .int .u64 g, .int .i64 q, .int .i64 kk] : List Value), u.oneCell' = true) := HON
      replace HH : Hid (Calls Try.prog 42 #[.pointer (some ⟨a, 0, none⟩)] wr fun e w' => e = .returned (.agg #[.bool x, .int .u64 r, .int .i64 c, .int .u64 g, .int .i64 q, .int .i64 kk]) ∧ Below wr.heap.size wr w') := HH
      clear ha hp hpt
      go_wp2_with fail
      ((with_reducible refine HH.out.mono ?_); rintro e w5 ⟨rfl, h5⟩)
      have HO5 := Lib.hid (iowns_below HO.out h5)
      have K5 := Lib.hid (KB.out.trans (h5.mono KB.out.size))
      clear HO h5 xr HS
      have n1 := Lib.hid (show k + 1 ≤ maxLen by unfold maxLen; omega)
      have n2 := Lib.hid (show (k + 1) * 48 ≤ 140737488355328 by omega)
      have n3 := Lib.hid (show W.heap.size ≤ (w5.alloc (.cells #[.bool x, .int .u64 r, .int .i64 c, .int .u64 g, .int .i64 q, .int .i64 kk] 82)).heap.size by have := K5.out.size; simp; omega)
      go_wp2_with (at_builtin; refine wpList_append_own _ rfl _ _ 80 rfl W.heap.size 82 i0 (.agg #[.bool false, .int .u64 0, .int .i64 0, .int .u64 0, .int .i64 0, .int .i64 0]) 6 48 Try.underlying80 hi hz0 hz1 hz2 rfl (by decide) _ _ _ rfl (HO5.out.alloc _) ⟨w5.heap.size, 0, none⟩ 1 1 [.bool x, .int .u64 r, .int .i64 c, .int .u64 g, .int .i64 q, .int .i64 kk] rfl rfl (cells_new _ _ _) HON.out n1.out n2.out n3.out ?_)
      intro v' w6 hown' hgrow _
      have HO6 := Lib.hid hown'
      have K6 := Lib.hid ((K5.out.alloc K5.out.size (.cells #[.bool x, .int .u64 r, .int .i64 c, .int .u64 g, .int .i64 q, .int .i64 kk] 82)).grown hgrow n3.out (fun j hj => (HO5.out.alloc (.cells #[.bool x, .int .u64 r, .int .i64 c, .int .u64 g, .int .i64 q, .int .i64 kk] 82)).lt j hj |>.1))
      clear hown' hgrow HO5 K5
      go_wp2_with fail
      go_roundw
      case rel => exact ⟨k + 1, by omega, by go_num, Lib.hid (by rw [HTT.out]; exact HO6.out), K6⟩
      case measure => simp [intOf]; omega
    · obtain rfl : k = A.length := by omega
      rw [List.take_of_length_le (by rw [HHL.out]; exact Nat.le_refl _)] at HO
      clear hlt
      have HS := Lib.hid (H.out.below KB.out)
      have HT1 := Lib.hid (HT.out.grow KB.out)
      have hrow := rowsAt_own (by decide) hd_len HO.out
      have HBe := Lib.hid (pbest_c T.br _ T.forget.hds wr (by rw [HHL.out]; omega) hrow)
      have x0 : wr.cell? ⟨t, 0, none⟩ = some (.int .u64 T.br) := HS.out.c0
      clear hrow H HT
      go_wp2_with fail
      ((with_reducible refine HBe.out.mono ?_); rintro e w3 ⟨rfl, h3⟩)
      clear x0
      replace HS := Lib.hid (HS.out.below h3)
      have HT2 := Lib.hid (HT1.out.grow h3)
      have HO3 := Lib.hid (iowns_below HO.out h3)
      clear HO HT1 h3 HBe
      have x3 := HS.out.c3
      have x4 := HS.out.c4
      have x5 := HS.out.c5
      have x6 := HS.out.c6
      have f3 := free_of_block (j := 3) HS.out.tree
      have f4 := free_of_block (j := 4) HS.out.tree
      have f5 := free_of_block (j := 5) HS.out.tree
      have f6 := free_of_block (j := 6) HS.out.tree
      go_upto_region 8 with fail
      have hx := Lib.hid ((((Only.setCell w3 t 3 (.int .u64 (bestL T.br T.forget.hds).2.1)).set 4 (.int .i64 (bestL T.br T.forget.hds).2.2.1)).set 5 (.int .u64 (bestL T.br T.forget.hds).2.2.2.1)).set 6 (.int .i64 (bestL T.br T.forget.hds).2.2.2.2))
      have s3 := heap_store (j := 3) (v := .int .u64 (bestL T.br T.forget.hds).2.1) HS.out.tree
      have s4 := heap_store (j := 4) (v := .int .i64 (bestL T.br T.forget.hds).2.2.1) s3
      have s5 := heap_store (j := 5) (v := .int .u64 (bestL T.br T.forget.hds).2.2.2.1) s4
      have s6 := heap_store (j := 6) (v := .int .i64 (bestL T.br T.forget.hds).2.2.2.2) s5
      have HS4 := Lib.hid (HS.out.own (T' := { T.forget with best := (bestL T.br T.forget.hds).2 }) hx.out s6 rfl ⟨HS.out.good.t0, HS.out.good.t1, HS.out.good.c0, HS.out.good.c1, HS.out.good.ps⟩)
      have HT4 := Lib.hid (HT2.out.trans (HS.out.ttT hx.out))
      have HO4 := Lib.hid (owns_only HO3.out hx.out HS.out.tree (by decide))
      clear s3 s4 s5 s6 x3 x4 x5 x6 f3 f4 f5 f6 hx HS HT2 HO3
      generalize (((w3.setCell ⟨t, 3, none⟩ (.int .u64 (bestL T.br T.forget.hds).2.1)).setCell ⟨t, 4, none⟩ (.int .i64 (bestL T.br T.forget.hds).2.2.1)).setCell ⟨t, 5, none⟩ (.int .u64 (bestL T.br T.forget.hds).2.2.2.1)).setCell ⟨t, 6, none⟩ (.int .i64 (bestL T.br T.forget.hds).2.2.2.2) = W4 at HS4 HT4 HO4 ⊢
      have hrow := rowsAt_own (by decide) hd_len HO4.out
      have HRo := Lib.hid (proles_o T.br _ T.forget.hds W4 (by rw [HHL.out]; omega) hrow)
      have x0 : W4.cell? ⟨t, 0, none⟩ = some (.int .u64 T.br) := HS4.out.c0
      have E := Lib.hid (mixR_all T)
      clear hrow HO4
      go_wp2_with fail
      ((with_reducible refine HRo.out.mono ?_); rintro e w5 ⟨ru, rfl, hru, h5⟩)
      clear x0 HRo
      replace HS4 := Lib.hid (HS4.out.below h5)
      replace HT4 := Lib.hid (HT4.out.grow h5)
      rw [HHL.out] at hru
      have HRL := Lib.hid (show (rolesL T.br T.forget.hds).length = ({ T.forget with best := (bestL T.br T.forget.hds).2 } : Part).ps.length by unfold rolesL; rw [rolesGo_len, HHL.out]; exact HFL.out.symm)
      have HRU := Lib.hid hru
      have HTI := Lib.hid (show ({ T.forget with best := (bestL T.br T.forget.hds).2 } : Part).time = T.time from rfl)
      clear hru h5
      generalize rolesL T.br T.forget.hds = rs at HRL HRU E
      generalize ({ T.forget with best := (bestL T.br T.forget.hds).2 } : Part) = S at HS4 HRL E HTI
      have t0 := HS4.out.good.t0
      have t1 := HS4.out.good.t1
      have x2 := HS4.out.c2
      obtain ⟨rg, rcap, rfl⟩ : ∃ rg rcap, ru = .slice (some ⟨rg, 0, none⟩) A.length rcap := by
        rcases HRU.out.2 with ⟨_, h0⟩ | ⟨g, cap, cur, e1, _⟩
        · omega
        · exact ⟨g, cap, e1⟩
      have HP := Lib.hid HS4.out.good.ps
      have HSL := Lib.hid HS4.out.len
      go_wp2_with fail
      clear x2
      go_loopw [6, 7, 8, 49] (fun _ _ _ i wr => ∃ k : Nat, k ≤ A.length ∧ i = .int .i64 k ∧ Hid (HasS wr B t rb cap A (mixR S rs k)) ∧ Hid (wr.ownsRow W4.heap.size 3 1 (.slice (some ⟨rg, 0, none⟩) A.length rcap) A.length (rs.map (Value.int .i64))) ∧ Hid (Tt isS B w wr)) (fun _ _ _ i _ => A.length - (intOf i).toNat)
      case atStart => exact ⟨0, Nat.zero_le _, rfl, Lib.hid (by rw [mixR_zero]; exact HS4.out), HRU, HT4⟩
      case round =>
        clear hk
        obtain ⟨k, hk, rfl, HS, HO, HT⟩ := hrel
        by_cases hlt : k < A.length
        · have hkp : k < S.ps.length := by rw [HSL.out]; exact hlt
          have hp : S.ps[k]? = some S.ps[k] := List.getElem?_eq_getElem hkp
          have hr : rs[k]? = some (rs[k]'(by rw [HRL.out]; exact hkp)) := List.getElem?_eq_getElem _
          have ha : A[k]? = some A[k] := List.getElem?_eq_getElem hlt
          generalize S.ps[k] = p at hp
          generalize rs[k]'(by rw [HRL.out]; exact hkp) = r at hr
          generalize A[k] = a at ha
          have hpt := HS.out.ports k a p ha (mixR_at HRL.out hp)
          have hgp := HP.out p (List.mem_of_getElem? hp)
          have xr := HS.out.rowc ha
          have xq : wr.cell? ⟨rg, k, none⟩ = some (.int .i64 r) := by
            have := HO.out.cells (g := rg) rfl k (.int .i64 r) (by rw [List.getElem?_map, hr]; rfl)
            have e : (⟨rg, 0, none⟩ : Addr).add k = ⟨rg, k, none⟩ := by unfold Addr.add; split <;> simp_all
            rwa [e] at this
          have x1 : wr.cell? ⟨t, 1, none⟩ = some (.int .i64 S.time) := HS.out.c1
          obtain ⟨kv, hb, hkv⟩ := hpt
          have y6 := prt_c6 hb
          have HPL := Lib.hid (play_c (w := wr.drew) ⟨kv, hb, hkv⟩ hgp r S.time t0 t1)
          have HA := Lib.hid ha
          have hN := mixR_no HRL.out hp hr
          have hY := mixR_yes HRL.out hp hr
          have HGP := Lib.hid (play_good hgp t0 t1 r)
          clear hp hr ha hb hkv hgp hkp
          have hkA : decide (A.length ≤ k) = false := decide_eq_false (by omega)
          go_upto_region 13 with fail
          go_still_tail 9, (by kernel_rfl)
          change wpList _ _ _ _ _ wr.drew
          go_wp2_with fail
          ((with_reducible refine HPL.out.mono ?_); rintro e w6 ⟨rfl, h6, o6⟩)
          have HS6 := Lib.hid ((HS.out.drewN 1).port HA.out (o6.drewL 0) h6 HGP.out)
          have HT6 := Lib.hid ((HT.out.drewN 1).trans ((HS.out.drewN 1).ttP HA.out (o6.drewL 0)))
          have HO6 := Lib.hid (owns_tt (P := isS) (B := B) (w := wr.drewN 1) HO.out ((HS.out.drewN 1).ttP HA.out (o6.drewL 0)) (by decide))
          obtain ⟨kv6, hb6, -⟩ := h6
          have z6 := prt_c6 hb6
          clear o6 hb6 xr xq x1 y6 HPL HS HT HO HGP hkA
          cases hf : (p.play S.time r).fwd with
          | false =>
            rw [hf] at z6
            have E1 := Lib.hid (hN (by unfold Prt.fresh; rw [hf]; rfl))
            clear hN hY hf
            go_wp2_with fail
            go_roundw
            case rel => exact ⟨k + 1, by omega, by go_num, Lib.hid (by rw [← E1.out]; exact HS6.out), HO6, HT6⟩
            case measure => simp [intOf]; omega
          | true =>
            rw [hf] at z6
            cases hd : p.fwd with
            | true =>
              have E1 := Lib.hid (hN (by unfold Prt.fresh; rw [hf, hd]; rfl))
              clear hN hY hf hd
              go_wp2_with fail
              go_roundw
              case rel => exact ⟨k + 1, by omega, by go_num, Lib.hid (by rw [← E1.out]; exact HS6.out), HO6, HT6⟩
              case measure => simp [intOf]; omega
            | false =>
              have E1 := Lib.hid (hY (by unfold Prt.fresh; rw [hf, hd]; rfl))
              have HN := Lib.hid (note_c HS6.out)
              clear hN hY hf hd
              go_wp2_with fail
              ((with_reducible refine HN.out.mono ?_); rintro e w7 ⟨rfl, h7, t7⟩)
              have HS7 := Lib.hid h7
              have HT7 := Lib.hid (HT6.out.trans t7)
              have HO7 := Lib.hid (owns_tt HO6.out t7 (by decide))
              clear h7 t7 HN HS6 HT6 HO6 z6
              go_wp2_with fail
              go_roundw
              case rel => exact ⟨k + 1, by omega, by go_num, Lib.hid (by rw [← E1.out]; exact HS7.out), HO7, HT7⟩
              case measure => simp [intOf]; omega
        · obtain rfl : k = A.length := by omega
          clear hlt
          go_wp2_with fail
          go_end0
          exact ⟨rfl, by rw [← E.out, HL.out]; exact HS.out, HT.out⟩
end

end Go.Proofs.Ytdjeifbbbpbhoaa
