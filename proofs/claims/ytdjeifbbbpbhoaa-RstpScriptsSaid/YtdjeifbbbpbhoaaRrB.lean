/-
  The document's part: right. Contracts over the translated program.
-/
import Derived.Test.YtdjeifbbbpbhoaaRrA
namespace Go.Proofs.Ytdjeifbbbpbhoaa
open Go.RowKit
set_option linter.unusedVariables false
set_option linter.unusedSimpArgs false

theorem info_Hr : (Try.prog.info? 89).map (fun i => (i.zero, i.size, i.bytes)) = some (some (.agg #[.bool false, .int .u64 0, .int .i64 0, .int .u64 0, .int .i64 0, .int .i64 0]), 6, 48) := by kernel_rfl
def mixQ (S : RPart) (rs : List Int) (k : Nat) : RPart :=
  { S with ps := mix (List.zipWith (RPrt.play S.now) S.ps rs) S.ps k, chg := if ((List.zipWith (RPrt.fresh S.now) S.ps rs).take k).any id then S.now else S.chg }
theorem mixQ_zero (S : RPart) (rs : List Int) : mixQ S rs 0 = S := by unfold mixQ; rw [mix_zero]; rfl
theorem mixQ_len {S : RPart} {rs : List Int} (hl : rs.length = S.ps.length) (k : Nat) : (mixQ S rs k).ps.length = S.ps.length := mix_len (zlen _ hl) k
theorem mixQ_at {S : RPart} {rs : List Int} (hl : rs.length = S.ps.length) {k : Nat} {p : RPrt} (h : S.ps[k]? = some p) : (mixQ S rs k).ps[k]? = some p := (mix_at (zlen _ hl) (List.getElem?_eq_some_iff.1 h).1).trans h
theorem mixQ_no {S : RPart} {rs : List Int} (hl : rs.length = S.ps.length) {k : Nat} {p : RPrt} {r : Int} (h : S.ps[k]? = some p) (hr : rs[k]? = some r) (e : p.fresh S.now r = false) : (mixQ S rs k).put k (p.play S.now r) = mixQ S rs (k + 1) := by
  unfold mixQ RPart.put
  simp only
  rw [mix_set (zlen _ hl) (List.getElem?_eq_some_iff.1 h).1 (zip_at h hr), any_take (zip_at h hr), e, Bool.or_false]
theorem mixQ_yes {S : RPart} {rs : List Int} (hl : rs.length = S.ps.length) {k : Nat} {p : RPrt} {r : Int} (h : S.ps[k]? = some p) (hr : rs[k]? = some r) (e : p.fresh S.now r = true) : ((mixQ S rs k).put k (p.play S.now r)).note = mixQ S rs (k + 1) := by
  unfold mixQ RPart.put RPart.note
  simp only
  rw [mix_set (zlen _ hl) (List.getElem?_eq_some_iff.1 h).1 (zip_at h hr), any_take (zip_at h hr), e, Bool.or_true]
  rfl
theorem mixQ_all (R : RPart) : mixQ { R.dropAll with root := (bestL R.br R.dropAll.hds).1, best := (bestL R.br R.dropAll.hds).2 } (rolesL R.br R.dropAll.hds) R.ps.length = R.right := by
  have hl : (rolesL R.br R.dropAll.hds).length = R.dropAll.ps.length := by unfold rolesL RPart.hds; rw [rolesGo_len, List.length_map]
  have e : R.ps.length = R.dropAll.ps.length := by unfold RPart.dropAll; rw [List.length_map]
  unfold mixQ RPart.right
  simp only
  rw [e, mix_all _ _ (zlen _ hl), List.take_of_length_le (by rw [zlen _ hl]; exact Nat.le_refl _)]
  rfl
theorem rnote_good {R : RPart} (h : R.Good) : R.note.Good := ⟨h.n0, h.n1, by have := h.n0; show -1 ≤ R.now; omega, h.n1, h.ps⟩
theorem HasR.note {w : World} {B q rb cap : Nat} {R : RPart} (h : HasR w B q rb cap R) : HasR (w.setCell ⟨q, 8, none⟩ (.int .i64 R.now)) B q rb cap R.note :=
  h.own (Only.setCell w q 8 (.int .i64 R.now)) (heap_store h.tree) rfl (rnote_good h.good)

section
variable {w : World} {B q rb cap : Nat} {R : RPart}

set_option maxHeartbeats 8000000 in
set_option maxRecDepth 100000 in
theorem rright_c (h : HasR w B q rb cap R) : Calls Try.prog 38 #[.pointer (some ⟨q, 0, none⟩)] w fun e w' => e = .returned (.tuple #[]) ∧ HasR w' B q rb cap R.right ∧ Tt isR B w w' := by
  have HF := Lib.hid (drop_c h)
  obtain ⟨n, hn⟩ : ∃ n, n = R.ps.length := ⟨_, rfl⟩
  have hl := h.n16
  have hl1 := h.n1
  rw [← hn] at hl hl1
  have HN := Lib.hid hn
  clear h hn
  obtain ⟨i0, hi, hz0, hz1, hz2⟩ := info_parts info_Hr
  go_enter Try.func38, Try.ntmps38
  go_wp2_with fail
  ((with_reducible refine HF.out.mono ?_); rintro e W ⟨rfl, h1, k1⟩)
  have H := Lib.hid h1
  have HT := Lib.hid k1
  have HFL := Lib.hid (show R.dropAll.ps.length = n by unfold RPart.dropAll; rw [List.length_map]; exact HN.out.symm)
  have HHL := Lib.hid (show R.dropAll.hds.length = n by unfold RPart.hds; rw [List.length_map]; exact HFL.out)
  clear h1 k1 HF
  go_wp2_with fail
  go_loopw [2, 3, 4] (fun s2 i _ wr => ∃ k : Nat, k ≤ n ∧ i = .int .i64 k ∧ Hid (wr.ownsRow W.heap.size 89 6 s2 k ((R.dropAll.hds.take k).flatMap cellsHd)) ∧ Hid (Below W.heap.size W wr)) (fun _ i _ _ => n - (intOf i).toNat)
  case atStart => exact ⟨0, Nat.zero_le _, rfl, Lib.hid (World.ownsRow_nil _ _ _ _), Lib.hid (Below.refl _ _)⟩
  case round =>
    obtain ⟨k, hk, rfl, HO, KB⟩ := hrel
    have HS := Lib.hid (H.out.below KB.out)
    have c1 : wr.cell? ⟨q, 1, none⟩ = some (.slice (some ⟨rb, 0, none⟩) n cap) := by have := HS.out.c1; rw [HFL.out] at this; exact this
    by_cases hlt : k < n
    · obtain ⟨p, hp⟩ : ∃ p, R.dropAll.ps[k]? = some p := ⟨_, List.getElem?_eq_getElem (by rw [HFL.out]; exact hlt)⟩
      have y0 := HS.out.p0 hp
      have y1 := HS.out.p1 hp
      have y2 := HS.out.p2 hp
      have y3 := HS.out.p3 hp
      have y4 := HS.out.p4 hp
      have y5 := HS.out.p5 hp
      have y6 := HS.out.p6 hp
      have y7 := HS.out.p7 hp
      have y8 := HS.out.p8 hp
      have y9 := HS.out.p9 hp
      have y10 := HS.out.p10 hp
      have y11 := HS.out.p11 hp
      have hltq := HS.out.ltQ
      have hltb := HS.out.ltB
      have hk1 : decide (n ≤ k) = false := decide_eq_false (by omega)
      have HTT := Lib.hid (show (R.dropAll.hds.take (k + 1)).flatMap cellsHd = (R.dropAll.hds.take k).flatMap cellsHd ++ cellsHd p.hd by
        have e : R.dropAll.hds[k]? = some p.hd := by unfold RPart.hds; rw [List.getElem?_map, hp]; rfl
        obtain ⟨hk', e⟩ := List.getElem?_eq_some_iff.1 e
        rw [List.take_succ_eq_append_getElem hk', List.flatMap_append, e]; simp)
      generalize (R.dropAll.hds.take k).flatMap cellsHd = acc at HTT HO
      obtain ⟨b0, hb0⟩ : ∃ b0, b0 = (p.up && p.keeps) := ⟨_, rfl⟩
      have HON := Lib.hid (hd_one p.hd)
      replace HON : Hid (∀ u ∈ ([.bool (p.up && p.keeps), .int .u64 p.v.1, .int .i64 p.v.2.1, .int .u64 p.v.2.2.1, .int .i64 p.v.2.2.2, .int .i64 p.cost] : List Value), u.oneCell' = true) := HON
      replace HTT : Hid ((R.dropAll.hds.take (k + 1)).flatMap cellsHd = acc ++ [.bool (p.up && p.keeps), .int .u64 p.v.1, .int .i64 p.v.2.1, .int .u64 p.v.2.2.1, .int .i64 p.v.2.2.2, .int .i64 p.cost]) := HTT
      rw [← hb0] at HON HTT
      clear hp
      go_upto_region 6 with fail
      have HB1 := Lib.hid (heap_new wr (.cells #[.int .i64 p.cost, .bool p.up, .bool p.keeps, .int .u64 p.v.1, .int .i64 p.v.2.1, .int .u64 p.v.2.2.1, .int .i64 p.v.2.2.2, .int .i64 p.age, .int .i64 p.on, .int .i64 p.role, .int .i64 p.since, .bool p.fwd] 69))
      have K1 := Lib.hid (KB.out.alloc KB.out.size (.cells #[.int .i64 p.cost, .bool p.up, .bool p.keeps, .int .u64 p.v.1, .int .i64 p.v.2.1, .int .u64 p.v.2.2.1, .int .i64 p.v.2.2.2, .int .i64 p.age, .int .i64 p.on, .int .i64 p.role, .int .i64 p.since, .bool p.fwd] 69))
      have HO1 := Lib.hid (HO.out.alloc (.cells #[.int .i64 p.cost, .bool p.up, .bool p.keeps, .int .u64 p.v.1, .int .i64 p.v.2.1, .int .u64 p.v.2.2.1, .int .i64 p.v.2.2.2, .int .i64 p.age, .int .i64 p.on, .int .i64 p.role, .int .i64 p.since, .bool p.fwd] 69))
      clear y0 y1 y2 y3 y4 y5 y6 y7 y8 y9 y10 y11 hltq hltb hk1 HO KB c1 HS
      generalize wr.alloc (.cells #[.int .i64 p.cost, .bool p.up, .bool p.keeps, .int .u64 p.v.1, .int .i64 p.v.2.1, .int .u64 p.v.2.2.1, .int .i64 p.v.2.2.2, .int .i64 p.age, .int .i64 p.on, .int .i64 p.role, .int .i64 p.since, .bool p.fwd] 69) = W1 at HB1 K1 HO1 ⊢
      generalize wr.heap.size = pb at HB1 ⊢
      have z0 : W1.cell? ⟨pb, 0, none⟩ = some (.int .i64 p.cost) := cell_of_block HB1.out rfl
      have z1 : W1.cell? ⟨pb, 1, none⟩ = some (.bool p.up) := cell_of_block HB1.out rfl
      have z2 : W1.cell? ⟨pb, 2, none⟩ = some (.bool p.keeps) := cell_of_block HB1.out rfl
      have z3 : W1.cell? ⟨pb, 3, none⟩ = some (.int .u64 p.v.1) := cell_of_block HB1.out rfl
      have z4 : W1.cell? ⟨pb, 4, none⟩ = some (.int .i64 p.v.2.1) := cell_of_block HB1.out rfl
      have z5 : W1.cell? ⟨pb, 5, none⟩ = some (.int .u64 p.v.2.2.1) := cell_of_block HB1.out rfl
      have z6 : W1.cell? ⟨pb, 6, none⟩ = some (.int .i64 p.v.2.2.2) := cell_of_block HB1.out rfl
      have n1 := Lib.hid (show k + 1 ≤ maxLen by unfold maxLen; omega)
      have n2 := Lib.hid (show (k + 1) * 48 ≤ 140737488355328 by omega)
      have n3 := Lib.hid (show W.heap.size ≤ (W1.alloc (.cells #[.bool b0, .int .u64 p.v.1, .int .i64 p.v.2.1, .int .u64 p.v.2.2.1, .int .i64 p.v.2.2.2, .int .i64 p.cost] 89)).heap.size by have := K1.out.size; simp; omega)
      have NEW := Lib.hid (cells_new W1 [.bool b0, .int .u64 p.v.1, .int .i64 p.v.2.1, .int .u64 p.v.2.2.1, .int .i64 p.v.2.2.2, .int .i64 p.cost] 89)
      have HO2 := Lib.hid (HO1.out.alloc (.cells #[.bool b0, .int .u64 p.v.1, .int .i64 p.v.2.1, .int .u64 p.v.2.2.1, .int .i64 p.v.2.2.2, .int .i64 p.cost] 89))
      have K2 := Lib.hid (K1.out.alloc K1.out.size (.cells #[.bool b0, .int .u64 p.v.1, .int .i64 p.v.2.1, .int .u64 p.v.2.2.1, .int .i64 p.v.2.2.2, .int .i64 p.cost] 89))
      clear HO1 K1 HB1
      cases hu : p.up with
      | false =>
        rw [hu] at z1
        obtain rfl : b0 = false := by rw [hb0, hu]; rfl
        clear hu hb0
        go_wp2_with (at_builtin; refine wpList_append_own _ rfl _ _ 88 rfl W.heap.size 89 i0 (.agg #[.bool false, .int .u64 0, .int .i64 0, .int .u64 0, .int .i64 0, .int .i64 0]) 6 48 Try.underlying88 hi hz0 hz1 hz2 rfl (by decide) _ _ _ rfl HO2.out ⟨W1.heap.size, 0, none⟩ 1 1 [.bool false, .int .u64 p.v.1, .int .i64 p.v.2.1, .int .u64 p.v.2.2.1, .int .i64 p.v.2.2.2, .int .i64 p.cost] rfl rfl NEW.out HON.out n1.out n2.out n3.out ?_)
        intro v' w6 hown' hgrow _
        have HO6 := Lib.hid hown'
        have K6 := Lib.hid (K2.out.grown hgrow n3.out (fun j hj => (HO2.out.lt j hj).1))
        clear hown' hgrow HO2 K2 NEW z0 z1 z2 z3 z4 z5 z6
        go_wp2_with fail
        go_roundw
        case rel => exact ⟨k + 1, by omega, by go_num, Lib.hid (by rw [HTT.out]; exact HO6.out), K6⟩
        case measure => simp [intOf]; omega
      | true =>
        rw [hu] at z1
        obtain rfl : b0 = p.keeps := by rw [hb0, hu]; rfl
        clear hu hb0
        go_wp2_with (at_builtin; refine wpList_append_own _ rfl _ _ 88 rfl W.heap.size 89 i0 (.agg #[.bool false, .int .u64 0, .int .i64 0, .int .u64 0, .int .i64 0, .int .i64 0]) 6 48 Try.underlying88 hi hz0 hz1 hz2 rfl (by decide) _ _ _ rfl HO2.out ⟨W1.heap.size, 0, none⟩ 1 1 [.bool p.keeps, .int .u64 p.v.1, .int .i64 p.v.2.1, .int .u64 p.v.2.2.1, .int .i64 p.v.2.2.2, .int .i64 p.cost] rfl rfl NEW.out HON.out n1.out n2.out n3.out ?_)
        intro v' w6 hown' hgrow _
        have HO6 := Lib.hid hown'
        have K6 := Lib.hid (K2.out.grown hgrow n3.out (fun j hj => (HO2.out.lt j hj).1))
        clear hown' hgrow HO2 K2 NEW z0 z1 z2 z3 z4 z5 z6
        go_wp2_with fail
        go_roundw
        case rel => exact ⟨k + 1, by omega, by go_num, Lib.hid (by rw [HTT.out]; exact HO6.out), K6⟩
        case measure => simp [intOf]; omega
    · obtain rfl : n = k := by omega
      rw [List.take_of_length_le (by rw [HHL.out]; exact Nat.le_refl _)] at HO
      clear hlt
      have HT1 := Lib.hid (HT.out.grow KB.out)
      have hrow := rowsAt_own (by decide) hd_len HO.out
      have HBe := Lib.hid (rbest_c R.br _ R.dropAll.hds wr (by rw [HHL.out]; omega) hrow)
      have x0 : wr.cell? ⟨q, 0, none⟩ = some (.int .u64 R.br) := HS.out.c0
      clear hrow H HT
      go_wp2_with fail
      ((with_reducible refine HBe.out.mono ?_); rintro e w3 ⟨rfl, h3⟩)
      clear x0 c1
      replace HS := Lib.hid (HS.out.below h3)
      have HT2 := Lib.hid (HT1.out.grow h3)
      have HO3 := Lib.hid (iowns_below HO.out h3)
      clear HO HT1 h3 HBe KB
      have x3 := HS.out.c3
      have x4 := HS.out.c4
      have x5 := HS.out.c5
      have x6 := HS.out.c6
      have x7 := HS.out.c7
      have f3 := free_of_block (j := 3) HS.out.tree
      have f4 := free_of_block (j := 4) HS.out.tree
      have f5 := free_of_block (j := 5) HS.out.tree
      have f6 := free_of_block (j := 6) HS.out.tree
      have f7 := free_of_block (j := 7) HS.out.tree
      go_upto_region 8 with fail
      have hx := Lib.hid (((((Only.setCell w3 q 3 (.int .i64 (bestL R.br R.dropAll.hds).1)).set 4 (.int .u64 (bestL R.br R.dropAll.hds).2.1)).set 5 (.int .i64 (bestL R.br R.dropAll.hds).2.2.1)).set 6 (.int .u64 (bestL R.br R.dropAll.hds).2.2.2.1)).set 7 (.int .i64 (bestL R.br R.dropAll.hds).2.2.2.2))
      have s3 := heap_store (j := 3) (v := .int .i64 (bestL R.br R.dropAll.hds).1) HS.out.tree
      have s4 := heap_store (j := 4) (v := .int .u64 (bestL R.br R.dropAll.hds).2.1) s3
      have s5 := heap_store (j := 5) (v := .int .i64 (bestL R.br R.dropAll.hds).2.2.1) s4
      have s6 := heap_store (j := 6) (v := .int .u64 (bestL R.br R.dropAll.hds).2.2.2.1) s5
      have s7 := heap_store (j := 7) (v := .int .i64 (bestL R.br R.dropAll.hds).2.2.2.2) s6
      have HS4 := Lib.hid (HS.out.own (R' := { R.dropAll with root := (bestL R.br R.dropAll.hds).1, best := (bestL R.br R.dropAll.hds).2 }) hx.out s7 rfl ⟨HS.out.good.n0, HS.out.good.n1, HS.out.good.c0, HS.out.good.c1, HS.out.good.ps⟩)
      have HT4 := Lib.hid (HT2.out.trans (HS.out.ttQ hx.out))
      have HO4 := Lib.hid (owns_only HO3.out hx.out HS.out.tree (by decide))
      clear s3 s4 s5 s6 s7 x3 x4 x5 x6 x7 f3 f4 f5 f6 f7 hx HS HT2 HO3
      generalize ((((w3.setCell ⟨q, 3, none⟩ (.int .i64 (bestL R.br R.dropAll.hds).1)).setCell ⟨q, 4, none⟩ (.int .u64 (bestL R.br R.dropAll.hds).2.1)).setCell ⟨q, 5, none⟩ (.int .i64 (bestL R.br R.dropAll.hds).2.2.1)).setCell ⟨q, 6, none⟩ (.int .u64 (bestL R.br R.dropAll.hds).2.2.2.1)).setCell ⟨q, 7, none⟩ (.int .i64 (bestL R.br R.dropAll.hds).2.2.2.2) = W4 at HS4 HT4 HO4 ⊢
      have hrow := rowsAt_own (by decide) hd_len HO4.out
      have HRo := Lib.hid (rroles_o R.br _ R.dropAll.hds W4 (by rw [HHL.out]; omega) hrow)
      have x0 : W4.cell? ⟨q, 0, none⟩ = some (.int .u64 R.br) := HS4.out.c0
      have E := Lib.hid (mixQ_all R)
      clear hrow HO4
      go_wp2_with fail
      ((with_reducible refine HRo.out.mono ?_); rintro e w5 ⟨ru, rfl, hru, h5⟩)
      clear x0 HRo
      replace HS4 := Lib.hid (HS4.out.below h5)
      replace HT4 := Lib.hid (HT4.out.grow h5)
      rw [HHL.out] at hru
      have HRL := Lib.hid (show (rolesL R.br R.dropAll.hds).length = ({ R.dropAll with root := (bestL R.br R.dropAll.hds).1, best := (bestL R.br R.dropAll.hds).2 } : RPart).ps.length by unfold rolesL; rw [rolesGo_len, HHL.out]; exact HFL.out.symm)
      have HSL := Lib.hid (show ({ R.dropAll with root := (bestL R.br R.dropAll.hds).1, best := (bestL R.br R.dropAll.hds).2 } : RPart).ps.length = n from HFL.out)
      have HRU := Lib.hid hru
      clear hru h5
      generalize rolesL R.br R.dropAll.hds = rs at HRL HRU E
      generalize ({ R.dropAll with root := (bestL R.br R.dropAll.hds).1, best := (bestL R.br R.dropAll.hds).2 } : RPart) = S at HS4 HRL E HSL
      have t0 := HS4.out.good.n0
      have t1 := HS4.out.good.n1
      obtain ⟨rg, rcap, rfl⟩ : ∃ rg rcap, ru = .slice (some ⟨rg, 0, none⟩) n rcap := by
        rcases HRU.out.2 with ⟨_, h0⟩ | ⟨g, cap, cur, e1, _⟩
        · omega
        · exact ⟨g, cap, e1⟩
      have HP := Lib.hid HS4.out.good.ps
      go_wp2_with fail
      go_loopw [6, 7, 8, 9] (fun i _ _ _ wr => ∃ k : Nat, k ≤ n ∧ i = .int .i64 k ∧ Hid (HasR wr B q rb cap (mixQ S rs k)) ∧ Hid (wr.ownsRow W4.heap.size 3 1 (.slice (some ⟨rg, 0, none⟩) n rcap) n (rs.map (Value.int .i64))) ∧ Hid (Tt isR B w wr)) (fun i _ _ _ _ => n - (intOf i).toNat)
      case atStart => exact ⟨0, Nat.zero_le _, rfl, Lib.hid (by rw [mixQ_zero]; exact HS4.out), HRU, HT4⟩
      case round =>
        clear hk
        obtain ⟨k, hk, rfl, HS, HO, HT⟩ := hrel
        have c1 : wr.cell? ⟨q, 1, none⟩ = some (.slice (some ⟨rb, 0, none⟩) n cap) := by have := HS.out.c1; rw [mixQ_len HRL.out, HSL.out] at this; exact this
        by_cases hlt : k < n
        · have hkp : k < S.ps.length := by rw [HSL.out]; exact hlt
          have hp : S.ps[k]? = some S.ps[k] := List.getElem?_eq_getElem hkp
          have hr : rs[k]? = some (rs[k]'(by rw [HRL.out]; exact hkp)) := List.getElem?_eq_getElem _
          generalize S.ps[k] = p at hp
          generalize rs[k]'(by rw [HRL.out]; exact hkp) = r at hr
          have hq := mixQ_at HRL.out hp
          have g := HP.out p (List.mem_of_getElem? hp)
          have g0 := g.s0
          have g1 := g.s1
          have xq : wr.cell? ⟨rg, k, none⟩ = some (.int .i64 r) := by
            have := HO.out.cells (g := rg) rfl k (.int .i64 r) (by rw [List.getElem?_map, hr]; rfl)
            have e : (⟨rg, 0, none⟩ : Addr).add k = ⟨rg, k, none⟩ := by unfold Addr.add; split <;> simp_all
            rwa [e] at this
          have c2 : wr.cell? ⟨q, 2, none⟩ = some (.int .i64 S.now) := HS.out.c2
          have c8 := HS.out.c8
          have fq := free_of_block (j := 8) HS.out.tree
          have y1 := HS.out.p1 hq
          have y9 := HS.out.p9 hq
          have y10 := HS.out.p10 hq
          have y11 := HS.out.p11 hq
          have f9 := HS.out.fz (k * 12 + 9)
          have f10 := HS.out.fz (k * 12 + 10)
          have f11 := HS.out.fz (k * 12 + 11)
          have hne := HS.out.neB
          have hne2 : q ≠ rb := fun e => hne e.symm
          have hnr : rg ≠ rb := by
            rintro rfl
            rcases HO.out.2 with ⟨e1, _⟩ | ⟨g', cap', cur, e1, _, hg', _⟩
            · cases e1
            · cases e1
              obtain ⟨cs, hb⟩ := HS.out.blk
              have e := hg'.symm.trans hb
              simp at e
          have hN := Lib.hid (mixQ_no HRL.out hp hr)
          have hY := Lib.hid (mixQ_yes HRL.out hp hr)
          have HQ := Lib.hid hq
          have GP := Lib.hid g
          have hk1 : decide (n ≤ k) = false := decide_eq_false (by omega)
          clear hp hr hq g hkp
          cases hu : p.up with
          | false =>
            rw [hu] at y1
            have EP := Lib.hid (show p.play S.now r = { p with role := 0, since := -1, fwd := false } by unfold RPrt.play RPrt.rsince; simp [hu, actv]; try omega)
            have E1 := Lib.hid (hN.out (by unfold RPrt.fresh RPrt.play RPrt.rsince; simp [hu, actv]; try omega))
            clear hN hY hu
            go_upto_region 22 with fail
            have h0 := HS.out.set HQ.out 9 (p' := { p with role := r }) (u := .int .i64 r) (by decide) rfl ⟨GP.out.o0, GP.out.o1, GP.out.s0, GP.out.s1, GP.out.a0⟩
            have q0 := put_at (p' := { p with role := r }) HQ.out
            have h1 := h0.set q0 9 (p' := { p with role := 0 }) (u := .int .i64 0) (by decide) rfl ⟨GP.out.o0, GP.out.o1, GP.out.s0, GP.out.s1, GP.out.a0⟩
            have q1 := put_at (p' := { p with role := 0 }) q0
            have h2 := h1.set q1 10 (p' := { p with role := 0, since := -1 }) (u := .int .i64 (-1)) (by decide) rfl ⟨GP.out.o0, GP.out.o1, (by show -1 ≤ (-1 : Int); decide), (by show (-1 : Int) ≤ 1099511627776; decide), GP.out.a0⟩
            have q2 := put_at (p' := { p with role := 0, since := -1 }) q1
            rw [put_put, put_put] at h2
            have HT5 := Lib.hid (HT.out.trans (HS.out.ttB (((Only.setCell wr rb (k * 12 + 9) (.int .i64 r)).set (k * 12 + 9) (.int .i64 0)).set (k * 12 + 10) (.int .i64 (-1)))))
            have HO5 := Lib.hid (owns_tt HO.out (HS.out.ttB (((Only.setCell wr rb (k * 12 + 9) (.int .i64 r)).set (k * 12 + 9) (.int .i64 0)).set (k * 12 + 10) (.int .i64 (-1)))) (by decide))
            have H5 := Lib.hid h2
            have Q5 := Lib.hid (put_at (R := mixQ S rs k) (p' := { p with role := 0, since := -1 }) HQ.out)
            clear xq c1 c2 c8 fq y1 y9 y10 y11 f9 f10 f11 h0 q0 h1 q1 h2 q2 HS HO HT
            generalize (((wr.setCell ⟨rb, k * 12 + 9, none⟩ (.int .i64 r)).setCell ⟨rb, k * 12 + 9, none⟩ (.int .i64 0)).setCell ⟨rb, k * 12 + 10, none⟩ (.int .i64 (-1))) = W5 at HT5 HO5 H5 ⊢
            have c2 : W5.cell? ⟨q, 2, none⟩ = some (.int .i64 S.now) := H5.out.c2
            have y10 := H5.out.p10 Q5.out
            have y11 := H5.out.p11 Q5.out
            have f11 := H5.out.fz (k * 12 + 11)
            try simp only at y10
            try simp only at y11
            refine wp_region_still_tail 16 (by kernel_rfl) (by kernel_rfl) ?_
            simp only [List.take_succ_cons, List.take_zero, List.drop_succ_cons, List.drop_zero]
            repeat (with_reducible refine wpStill_step (fun K hK => ?_); go_simp; with_reducible refine hK _ ?_; clear hK K)
            with_reducible refine wpStill_nil ?_
            change wpList _ _ _ _ _ W5.drew
            go_upto_region 23 with fail
            have h6 := H5.out.set Q5.out 11 (p' := { p with role := 0, since := -1, fwd := false }) (u := .bool false) (by decide) rfl ⟨GP.out.o0, GP.out.o1, (by show -1 ≤ (-1 : Int); decide), (by show (-1 : Int) ≤ 1099511627776; decide), GP.out.a0⟩
            rw [put_put] at h6
            have H6 := Lib.hid (show HasR (W5.setCell ⟨rb, k * 12 + 11, none⟩ (.bool false)).drew B q rb cap _ from h6.drewN 1)
            have HT6 := Lib.hid (show Tt isR B w (W5.setCell ⟨rb, k * 12 + 11, none⟩ (.bool false)).drew from (HT5.out.trans (H5.out.ttB (Only.setCell W5 rb (k * 12 + 11) (.bool false)))).drewN 1)
            have HO6 := Lib.hid (show World.ownsRow (W5.setCell ⟨rb, k * 12 + 11, none⟩ (.bool false)).drew W4.heap.size 3 1 (.slice (some ⟨rg, 0, none⟩) n rcap) n (rs.map (Value.int .i64)) from owns_tt (P := isR) (B := B) (w := W5) HO5.out ((H5.out.ttB (Only.setCell W5 rb (k * 12 + 11) (.bool false))).drewN 1) (by decide))
            clear c2 y10 y11 f11 h6 H5 HT5 HO5 Q5
            generalize (W5.setCell ⟨rb, k * 12 + 11, none⟩ (.bool false)).drew = W6 at H6 HT6 HO6 ⊢
            have Q6 := Lib.hid (put_at (R := mixQ S rs k) (p' := { p with role := 0, since := -1, fwd := false }) HQ.out)
            have y11 : W6.cell? ⟨rb, k * 12 + 11, none⟩ = some (.bool false) := H6.out.p11 Q6.out
            go_wp2_with fail
            go_roundw
            case rel => exact ⟨k + 1, by omega, by go_num, Lib.hid (by rw [← E1.out, EP.out]; exact H6.out), HO6, HT6⟩
            case measure => simp [intOf]; omega
          | true =>
            rw [hu] at y1
            by_cases hact : r = 1 ∨ r = 2
            · have ha : actv r = true := by unfold actv; rcases hact with rfl | rfl <;> rfl
              have hs30 : IntKind.i64.wrap (p.since + 30) = p.since + 30 := IntWalk.i64_in _ (by omega)
              have hn30 : IntKind.i64.wrap (S.now + 30) = S.now + 30 := IntWalk.i64_in _ (by omega)
              have hs30' : wrap64 (p.since + 30) = p.since + 30 := by unfold wrap64; omega
              have hn30' : wrap64 (S.now + 30) = S.now + 30 := by unfold wrap64; omega
              by_cases hsn : p.since < 0
              · have ds : decide (p.since < 0) = true := decide_eq_true hsn
                have dn : decide (S.now + 30 ≤ S.now) = false := decide_eq_false (by omega)
                have EP := Lib.hid (show p.play S.now r = { p with role := r, since := S.now, fwd := false } by unfold RPrt.play RPrt.rsince; simp [hu, ha, hsn]; try omega)
                have E1 := Lib.hid (hN.out (by unfold RPrt.fresh RPrt.play RPrt.rsince; simp [hu, ha, hsn]; try omega))
                clear hN hY hu ha hsn
                rcases hact with hr1 | hr1
                · obtain ⟨r1a, r1b⟩ := eq_t hr1
                  clear hr1
                  go_upto_region 22 with fail
                  have h0 := HS.out.set HQ.out 9 (p' := { p with role := r }) (u := .int .i64 r) (by decide) rfl ⟨GP.out.o0, GP.out.o1, GP.out.s0, GP.out.s1, GP.out.a0⟩
                  have q0 := put_at (p' := { p with role := r }) HQ.out
                  have h1 := h0.set q0 10 (p' := { p with role := r, since := S.now }) (u := .int .i64 S.now) (by decide) rfl ⟨GP.out.o0, GP.out.o1, (by show -1 ≤ S.now; omega), (by show S.now ≤ _; exact t1), GP.out.a0⟩
                  have q1 := put_at (p' := { p with role := r, since := S.now }) q0
                  rw [put_put] at h1
                  have HT5 := Lib.hid (HT.out.trans (HS.out.ttB ((Only.setCell wr rb (k * 12 + 9) (.int .i64 r)).set (k * 12 + 10) (.int .i64 S.now))))
                  have HO5 := Lib.hid (owns_tt HO.out (HS.out.ttB ((Only.setCell wr rb (k * 12 + 9) (.int .i64 r)).set (k * 12 + 10) (.int .i64 S.now))) (by decide))
                  have H5 := Lib.hid h1
                  have Q5 := Lib.hid (put_at (R := mixQ S rs k) (p' := { p with role := r, since := S.now }) HQ.out)
                  clear xq c1 c2 c8 fq y1 y9 y10 y11 f9 f10 f11 h0 q0 h1 q1 HS HO HT
                  generalize ((wr.setCell ⟨rb, k * 12 + 9, none⟩ (.int .i64 r)).setCell ⟨rb, k * 12 + 10, none⟩ (.int .i64 S.now)) = W5 at HT5 HO5 H5 ⊢
                  have c2 : W5.cell? ⟨q, 2, none⟩ = some (.int .i64 S.now) := H5.out.c2
                  have y10 := H5.out.p10 Q5.out
                  have y11 := H5.out.p11 Q5.out
                  have f11 := H5.out.fz (k * 12 + 11)
                  try simp only at y10
                  try simp only at y11
                  refine wp_region_still_tail 16 (by kernel_rfl) (by kernel_rfl) ?_
                  simp only [List.take_succ_cons, List.take_zero, List.drop_succ_cons, List.drop_zero]
                  repeat (with_reducible refine wpStill_step (fun K hK => ?_); go_simp; with_reducible refine hK _ ?_; clear hK K)
                  with_reducible refine wpStill_nil ?_
                  change wpList _ _ _ _ _ W5.drew
                  go_upto_region 23 with fail
                  have h6 := H5.out.set Q5.out 11 (p' := { p with role := r, since := S.now, fwd := false }) (u := .bool false) (by decide) rfl ⟨GP.out.o0, GP.out.o1, (by show -1 ≤ S.now; omega), (by show S.now ≤ _; exact t1), GP.out.a0⟩
                  rw [put_put] at h6
                  have H6 := Lib.hid (show HasR (W5.setCell ⟨rb, k * 12 + 11, none⟩ (.bool false)).drew B q rb cap _ from h6.drewN 1)
                  have HT6 := Lib.hid (show Tt isR B w (W5.setCell ⟨rb, k * 12 + 11, none⟩ (.bool false)).drew from (HT5.out.trans (H5.out.ttB (Only.setCell W5 rb (k * 12 + 11) (.bool false)))).drewN 1)
                  have HO6 := Lib.hid (show World.ownsRow (W5.setCell ⟨rb, k * 12 + 11, none⟩ (.bool false)).drew W4.heap.size 3 1 (.slice (some ⟨rg, 0, none⟩) n rcap) n (rs.map (Value.int .i64)) from owns_tt (P := isR) (B := B) (w := W5) HO5.out ((H5.out.ttB (Only.setCell W5 rb (k * 12 + 11) (.bool false))).drewN 1) (by decide))
                  clear c2 y10 y11 f11 h6 H5 HT5 HO5 Q5
                  generalize (W5.setCell ⟨rb, k * 12 + 11, none⟩ (.bool false)).drew = W6 at H6 HT6 HO6 ⊢
                  have Q6 := Lib.hid (put_at (R := mixQ S rs k) (p' := { p with role := r, since := S.now, fwd := false }) HQ.out)
                  have y11 : W6.cell? ⟨rb, k * 12 + 11, none⟩ = some (.bool false) := H6.out.p11 Q6.out
                  go_wp2_with fail
                  go_roundw
                  case rel => exact ⟨k + 1, by omega, by go_num, Lib.hid (by rw [← E1.out, EP.out]; exact H6.out), HO6, HT6⟩
                  case measure => simp [intOf]; omega
                · obtain ⟨r2a, r2b⟩ := eq_t hr1
                  obtain ⟨r1a, r1b⟩ := ne_t (show r ≠ 1 by omega)
                  clear hr1
                  go_upto_region 22 with fail
                  have h0 := HS.out.set HQ.out 9 (p' := { p with role := r }) (u := .int .i64 r) (by decide) rfl ⟨GP.out.o0, GP.out.o1, GP.out.s0, GP.out.s1, GP.out.a0⟩
                  have q0 := put_at (p' := { p with role := r }) HQ.out
                  have h1 := h0.set q0 10 (p' := { p with role := r, since := S.now }) (u := .int .i64 S.now) (by decide) rfl ⟨GP.out.o0, GP.out.o1, (by show -1 ≤ S.now; omega), (by show S.now ≤ _; exact t1), GP.out.a0⟩
                  have q1 := put_at (p' := { p with role := r, since := S.now }) q0
                  rw [put_put] at h1
                  have HT5 := Lib.hid (HT.out.trans (HS.out.ttB ((Only.setCell wr rb (k * 12 + 9) (.int .i64 r)).set (k * 12 + 10) (.int .i64 S.now))))
                  have HO5 := Lib.hid (owns_tt HO.out (HS.out.ttB ((Only.setCell wr rb (k * 12 + 9) (.int .i64 r)).set (k * 12 + 10) (.int .i64 S.now))) (by decide))
                  have H5 := Lib.hid h1
                  have Q5 := Lib.hid (put_at (R := mixQ S rs k) (p' := { p with role := r, since := S.now }) HQ.out)
                  clear xq c1 c2 c8 fq y1 y9 y10 y11 f9 f10 f11 h0 q0 h1 q1 HS HO HT
                  generalize ((wr.setCell ⟨rb, k * 12 + 9, none⟩ (.int .i64 r)).setCell ⟨rb, k * 12 + 10, none⟩ (.int .i64 S.now)) = W5 at HT5 HO5 H5 ⊢
                  have c2 : W5.cell? ⟨q, 2, none⟩ = some (.int .i64 S.now) := H5.out.c2
                  have y10 := H5.out.p10 Q5.out
                  have y11 := H5.out.p11 Q5.out
                  have f11 := H5.out.fz (k * 12 + 11)
                  try simp only at y10
                  try simp only at y11
                  refine wp_region_still_tail 16 (by kernel_rfl) (by kernel_rfl) ?_
                  simp only [List.take_succ_cons, List.take_zero, List.drop_succ_cons, List.drop_zero]
                  repeat (with_reducible refine wpStill_step (fun K hK => ?_); go_simp; with_reducible refine hK _ ?_; clear hK K)
                  with_reducible refine wpStill_nil ?_
                  change wpList _ _ _ _ _ W5.drew
                  go_upto_region 23 with fail
                  have h6 := H5.out.set Q5.out 11 (p' := { p with role := r, since := S.now, fwd := false }) (u := .bool false) (by decide) rfl ⟨GP.out.o0, GP.out.o1, (by show -1 ≤ S.now; omega), (by show S.now ≤ _; exact t1), GP.out.a0⟩
                  rw [put_put] at h6
                  have H6 := Lib.hid (show HasR (W5.setCell ⟨rb, k * 12 + 11, none⟩ (.bool false)).drew B q rb cap _ from h6.drewN 1)
                  have HT6 := Lib.hid (show Tt isR B w (W5.setCell ⟨rb, k * 12 + 11, none⟩ (.bool false)).drew from (HT5.out.trans (H5.out.ttB (Only.setCell W5 rb (k * 12 + 11) (.bool false)))).drewN 1)
                  have HO6 := Lib.hid (show World.ownsRow (W5.setCell ⟨rb, k * 12 + 11, none⟩ (.bool false)).drew W4.heap.size 3 1 (.slice (some ⟨rg, 0, none⟩) n rcap) n (rs.map (Value.int .i64)) from owns_tt (P := isR) (B := B) (w := W5) HO5.out ((H5.out.ttB (Only.setCell W5 rb (k * 12 + 11) (.bool false))).drewN 1) (by decide))
                  clear c2 y10 y11 f11 h6 H5 HT5 HO5 Q5
                  generalize (W5.setCell ⟨rb, k * 12 + 11, none⟩ (.bool false)).drew = W6 at H6 HT6 HO6 ⊢
                  have Q6 := Lib.hid (put_at (R := mixQ S rs k) (p' := { p with role := r, since := S.now, fwd := false }) HQ.out)
                  have y11 : W6.cell? ⟨rb, k * 12 + 11, none⟩ = some (.bool false) := H6.out.p11 Q6.out
                  go_wp2_with fail
                  go_roundw
                  case rel => exact ⟨k + 1, by omega, by go_num, Lib.hid (by rw [← E1.out, EP.out]; exact H6.out), HO6, HT6⟩
                  case measure => simp [intOf]; omega
              · have ds : decide (p.since < 0) = false := decide_eq_false hsn
                cases dn : decide (p.since + 30 ≤ S.now) with
                | false =>
                  have dn0 := of_decide_eq_false dn
                  have EP := Lib.hid (show p.play S.now r = { p with role := r, fwd := false } by unfold RPrt.play RPrt.rsince; simp [hu, ha, hsn, dn0]; try omega)
                  have E1 := Lib.hid (hN.out (by unfold RPrt.fresh RPrt.play RPrt.rsince; simp [hu, ha, hsn, dn0]; try omega))
                  clear hN hY hu ha hsn dn0
                  rcases hact with hr1 | hr1
                  · obtain ⟨r1a, r1b⟩ := eq_t hr1
                    clear hr1
                    go_upto_region 22 with fail
                    have h0 := HS.out.set HQ.out 9 (p' := { p with role := r }) (u := .int .i64 r) (by decide) rfl ⟨GP.out.o0, GP.out.o1, GP.out.s0, GP.out.s1, GP.out.a0⟩
                    have q0 := put_at (p' := { p with role := r }) HQ.out
                    have HT5 := Lib.hid (HT.out.trans (HS.out.ttB (Only.setCell wr rb (k * 12 + 9) (.int .i64 r))))
                    have HO5 := Lib.hid (owns_tt HO.out (HS.out.ttB (Only.setCell wr rb (k * 12 + 9) (.int .i64 r))) (by decide))
                    have H5 := Lib.hid h0
                    have Q5 := Lib.hid q0
                    clear xq c1 c2 c8 fq y1 y9 y10 y11 f9 f10 f11 h0 q0 HS HO HT
                    generalize (wr.setCell ⟨rb, k * 12 + 9, none⟩ (.int .i64 r)) = W5 at HT5 HO5 H5 ⊢
                    have c2 : W5.cell? ⟨q, 2, none⟩ = some (.int .i64 S.now) := H5.out.c2
                    have y10 := H5.out.p10 Q5.out
                    have y11 := H5.out.p11 Q5.out
                    have f11 := H5.out.fz (k * 12 + 11)
                    try simp only at y10
                    try simp only at y11
                    refine wp_region_still_tail 16 (by kernel_rfl) (by kernel_rfl) ?_
                    simp only [List.take_succ_cons, List.take_zero, List.drop_succ_cons, List.drop_zero]
                    repeat (with_reducible refine wpStill_step (fun K hK => ?_); go_simp; with_reducible refine hK _ ?_; clear hK K)
                    with_reducible refine wpStill_nil ?_
                    change wpList _ _ _ _ _ W5.drew
                    go_upto_region 23 with fail
                    have h6 := H5.out.set Q5.out 11 (p' := { p with role := r, fwd := false }) (u := .bool false) (by decide) rfl ⟨GP.out.o0, GP.out.o1, GP.out.s0, GP.out.s1, GP.out.a0⟩
                    rw [put_put] at h6
                    have H6 := Lib.hid (show HasR (W5.setCell ⟨rb, k * 12 + 11, none⟩ (.bool false)).drew B q rb cap _ from h6.drewN 1)
                    have HT6 := Lib.hid (show Tt isR B w (W5.setCell ⟨rb, k * 12 + 11, none⟩ (.bool false)).drew from (HT5.out.trans (H5.out.ttB (Only.setCell W5 rb (k * 12 + 11) (.bool false)))).drewN 1)
                    have HO6 := Lib.hid (show World.ownsRow (W5.setCell ⟨rb, k * 12 + 11, none⟩ (.bool false)).drew W4.heap.size 3 1 (.slice (some ⟨rg, 0, none⟩) n rcap) n (rs.map (Value.int .i64)) from owns_tt (P := isR) (B := B) (w := W5) HO5.out ((H5.out.ttB (Only.setCell W5 rb (k * 12 + 11) (.bool false))).drewN 1) (by decide))
                    clear c2 y10 y11 f11 h6 H5 HT5 HO5 Q5
                    generalize (W5.setCell ⟨rb, k * 12 + 11, none⟩ (.bool false)).drew = W6 at H6 HT6 HO6 ⊢
                    have Q6 := Lib.hid (put_at (R := mixQ S rs k) (p' := { p with role := r, fwd := false }) HQ.out)
                    have y11 : W6.cell? ⟨rb, k * 12 + 11, none⟩ = some (.bool false) := H6.out.p11 Q6.out
                    go_wp2_with fail
                    go_roundw
                    case rel => exact ⟨k + 1, by omega, by go_num, Lib.hid (by rw [← E1.out, EP.out]; exact H6.out), HO6, HT6⟩
                    case measure => simp [intOf]; omega
                  · obtain ⟨r2a, r2b⟩ := eq_t hr1
                    obtain ⟨r1a, r1b⟩ := ne_t (show r ≠ 1 by omega)
                    clear hr1
                    go_upto_region 22 with fail
                    have h0 := HS.out.set HQ.out 9 (p' := { p with role := r }) (u := .int .i64 r) (by decide) rfl ⟨GP.out.o0, GP.out.o1, GP.out.s0, GP.out.s1, GP.out.a0⟩
                    have q0 := put_at (p' := { p with role := r }) HQ.out
                    have HT5 := Lib.hid (HT.out.trans (HS.out.ttB (Only.setCell wr rb (k * 12 + 9) (.int .i64 r))))
                    have HO5 := Lib.hid (owns_tt HO.out (HS.out.ttB (Only.setCell wr rb (k * 12 + 9) (.int .i64 r))) (by decide))
                    have H5 := Lib.hid h0
                    have Q5 := Lib.hid q0
                    clear xq c1 c2 c8 fq y1 y9 y10 y11 f9 f10 f11 h0 q0 HS HO HT
                    generalize (wr.setCell ⟨rb, k * 12 + 9, none⟩ (.int .i64 r)) = W5 at HT5 HO5 H5 ⊢
                    have c2 : W5.cell? ⟨q, 2, none⟩ = some (.int .i64 S.now) := H5.out.c2
                    have y10 := H5.out.p10 Q5.out
                    have y11 := H5.out.p11 Q5.out
                    have f11 := H5.out.fz (k * 12 + 11)
                    try simp only at y10
                    try simp only at y11
                    refine wp_region_still_tail 16 (by kernel_rfl) (by kernel_rfl) ?_
                    simp only [List.take_succ_cons, List.take_zero, List.drop_succ_cons, List.drop_zero]
                    repeat (with_reducible refine wpStill_step (fun K hK => ?_); go_simp; with_reducible refine hK _ ?_; clear hK K)
                    with_reducible refine wpStill_nil ?_
                    change wpList _ _ _ _ _ W5.drew
                    go_upto_region 23 with fail
                    have h6 := H5.out.set Q5.out 11 (p' := { p with role := r, fwd := false }) (u := .bool false) (by decide) rfl ⟨GP.out.o0, GP.out.o1, GP.out.s0, GP.out.s1, GP.out.a0⟩
                    rw [put_put] at h6
                    have H6 := Lib.hid (show HasR (W5.setCell ⟨rb, k * 12 + 11, none⟩ (.bool false)).drew B q rb cap _ from h6.drewN 1)
                    have HT6 := Lib.hid (show Tt isR B w (W5.setCell ⟨rb, k * 12 + 11, none⟩ (.bool false)).drew from (HT5.out.trans (H5.out.ttB (Only.setCell W5 rb (k * 12 + 11) (.bool false)))).drewN 1)
                    have HO6 := Lib.hid (show World.ownsRow (W5.setCell ⟨rb, k * 12 + 11, none⟩ (.bool false)).drew W4.heap.size 3 1 (.slice (some ⟨rg, 0, none⟩) n rcap) n (rs.map (Value.int .i64)) from owns_tt (P := isR) (B := B) (w := W5) HO5.out ((H5.out.ttB (Only.setCell W5 rb (k * 12 + 11) (.bool false))).drewN 1) (by decide))
                    clear c2 y10 y11 f11 h6 H5 HT5 HO5 Q5
                    generalize (W5.setCell ⟨rb, k * 12 + 11, none⟩ (.bool false)).drew = W6 at H6 HT6 HO6 ⊢
                    have Q6 := Lib.hid (put_at (R := mixQ S rs k) (p' := { p with role := r, fwd := false }) HQ.out)
                    have y11 : W6.cell? ⟨rb, k * 12 + 11, none⟩ = some (.bool false) := H6.out.p11 Q6.out
                    go_wp2_with fail
                    go_roundw
                    case rel => exact ⟨k + 1, by omega, by go_num, Lib.hid (by rw [← E1.out, EP.out]; exact H6.out), HO6, HT6⟩
                    case measure => simp [intOf]; omega
                | true =>
                  have dn0 := of_decide_eq_true dn
                  cases hfw : p.fwd with
                  | true =>
                    rw [hfw] at y11
                    have EP := Lib.hid (show p.play S.now r = { p with role := r, fwd := true } by unfold RPrt.play RPrt.rsince; simp [hu, ha, hsn, dn0, hfw]; try omega)
                    have E1 := Lib.hid (hN.out (by unfold RPrt.fresh RPrt.play RPrt.rsince; simp [hu, ha, hsn, dn0, hfw]; try omega))
                    clear hN hY hu ha hsn dn0 hfw
                    rcases hact with hr1 | hr1
                    · obtain ⟨r1a, r1b⟩ := eq_t hr1
                      clear hr1
                      go_upto_region 22 with fail
                      have h0 := HS.out.set HQ.out 9 (p' := { p with role := r }) (u := .int .i64 r) (by decide) rfl ⟨GP.out.o0, GP.out.o1, GP.out.s0, GP.out.s1, GP.out.a0⟩
                      have q0 := put_at (p' := { p with role := r }) HQ.out
                      have HT5 := Lib.hid (HT.out.trans (HS.out.ttB (Only.setCell wr rb (k * 12 + 9) (.int .i64 r))))
                      have HO5 := Lib.hid (owns_tt HO.out (HS.out.ttB (Only.setCell wr rb (k * 12 + 9) (.int .i64 r))) (by decide))
                      have H5 := Lib.hid h0
                      have Q5 := Lib.hid q0
                      clear xq c1 c2 c8 fq y1 y9 y10 y11 f9 f10 f11 h0 q0 HS HO HT
                      generalize (wr.setCell ⟨rb, k * 12 + 9, none⟩ (.int .i64 r)) = W5 at HT5 HO5 H5 ⊢
                      have c2 : W5.cell? ⟨q, 2, none⟩ = some (.int .i64 S.now) := H5.out.c2
                      have y10 := H5.out.p10 Q5.out
                      have y11 := H5.out.p11 Q5.out
                      have f11 := H5.out.fz (k * 12 + 11)
                      try simp only at y10
                      try simp only at y11
                      refine wp_region_still_tail 16 (by kernel_rfl) (by kernel_rfl) ?_
                      simp only [List.take_succ_cons, List.take_zero, List.drop_succ_cons, List.drop_zero]
                      repeat (with_reducible refine wpStill_step (fun K hK => ?_); go_simp; with_reducible refine hK _ ?_; clear hK K)
                      with_reducible refine wpStill_nil ?_
                      change wpList _ _ _ _ _ W5.drew
                      go_upto_region 23 with fail
                      have h6 := H5.out.set Q5.out 11 (p' := { p with role := r, fwd := true }) (u := .bool true) (by decide) rfl ⟨GP.out.o0, GP.out.o1, GP.out.s0, GP.out.s1, GP.out.a0⟩
                      rw [put_put] at h6
                      have H6 := Lib.hid (show HasR (W5.setCell ⟨rb, k * 12 + 11, none⟩ (.bool true)).drew B q rb cap _ from h6.drewN 1)
                      have HT6 := Lib.hid (show Tt isR B w (W5.setCell ⟨rb, k * 12 + 11, none⟩ (.bool true)).drew from (HT5.out.trans (H5.out.ttB (Only.setCell W5 rb (k * 12 + 11) (.bool true)))).drewN 1)
                      have HO6 := Lib.hid (show World.ownsRow (W5.setCell ⟨rb, k * 12 + 11, none⟩ (.bool true)).drew W4.heap.size 3 1 (.slice (some ⟨rg, 0, none⟩) n rcap) n (rs.map (Value.int .i64)) from owns_tt (P := isR) (B := B) (w := W5) HO5.out ((H5.out.ttB (Only.setCell W5 rb (k * 12 + 11) (.bool true))).drewN 1) (by decide))
                      clear c2 y10 y11 f11 h6 H5 HT5 HO5 Q5
                      generalize (W5.setCell ⟨rb, k * 12 + 11, none⟩ (.bool true)).drew = W6 at H6 HT6 HO6 ⊢
                      have Q6 := Lib.hid (put_at (R := mixQ S rs k) (p' := { p with role := r, fwd := true }) HQ.out)
                      have y11 : W6.cell? ⟨rb, k * 12 + 11, none⟩ = some (.bool true) := H6.out.p11 Q6.out
                      go_wp2_with fail
                      go_roundw
                      case rel => exact ⟨k + 1, by omega, by go_num, Lib.hid (by rw [← E1.out, EP.out]; exact H6.out), HO6, HT6⟩
                      case measure => simp [intOf]; omega
                    · obtain ⟨r2a, r2b⟩ := eq_t hr1
                      obtain ⟨r1a, r1b⟩ := ne_t (show r ≠ 1 by omega)
                      clear hr1
                      go_upto_region 22 with fail
                      have h0 := HS.out.set HQ.out 9 (p' := { p with role := r }) (u := .int .i64 r) (by decide) rfl ⟨GP.out.o0, GP.out.o1, GP.out.s0, GP.out.s1, GP.out.a0⟩
                      have q0 := put_at (p' := { p with role := r }) HQ.out
                      have HT5 := Lib.hid (HT.out.trans (HS.out.ttB (Only.setCell wr rb (k * 12 + 9) (.int .i64 r))))
                      have HO5 := Lib.hid (owns_tt HO.out (HS.out.ttB (Only.setCell wr rb (k * 12 + 9) (.int .i64 r))) (by decide))
                      have H5 := Lib.hid h0
                      have Q5 := Lib.hid q0
                      clear xq c1 c2 c8 fq y1 y9 y10 y11 f9 f10 f11 h0 q0 HS HO HT
                      generalize (wr.setCell ⟨rb, k * 12 + 9, none⟩ (.int .i64 r)) = W5 at HT5 HO5 H5 ⊢
                      have c2 : W5.cell? ⟨q, 2, none⟩ = some (.int .i64 S.now) := H5.out.c2
                      have y10 := H5.out.p10 Q5.out
                      have y11 := H5.out.p11 Q5.out
                      have f11 := H5.out.fz (k * 12 + 11)
                      try simp only at y10
                      try simp only at y11
                      refine wp_region_still_tail 16 (by kernel_rfl) (by kernel_rfl) ?_
                      simp only [List.take_succ_cons, List.take_zero, List.drop_succ_cons, List.drop_zero]
                      repeat (with_reducible refine wpStill_step (fun K hK => ?_); go_simp; with_reducible refine hK _ ?_; clear hK K)
                      with_reducible refine wpStill_nil ?_
                      change wpList _ _ _ _ _ W5.drew
                      go_upto_region 23 with fail
                      have h6 := H5.out.set Q5.out 11 (p' := { p with role := r, fwd := true }) (u := .bool true) (by decide) rfl ⟨GP.out.o0, GP.out.o1, GP.out.s0, GP.out.s1, GP.out.a0⟩
                      rw [put_put] at h6
                      have H6 := Lib.hid (show HasR (W5.setCell ⟨rb, k * 12 + 11, none⟩ (.bool true)).drew B q rb cap _ from h6.drewN 1)
                      have HT6 := Lib.hid (show Tt isR B w (W5.setCell ⟨rb, k * 12 + 11, none⟩ (.bool true)).drew from (HT5.out.trans (H5.out.ttB (Only.setCell W5 rb (k * 12 + 11) (.bool true)))).drewN 1)
                      have HO6 := Lib.hid (show World.ownsRow (W5.setCell ⟨rb, k * 12 + 11, none⟩ (.bool true)).drew W4.heap.size 3 1 (.slice (some ⟨rg, 0, none⟩) n rcap) n (rs.map (Value.int .i64)) from owns_tt (P := isR) (B := B) (w := W5) HO5.out ((H5.out.ttB (Only.setCell W5 rb (k * 12 + 11) (.bool true))).drewN 1) (by decide))
                      clear c2 y10 y11 f11 h6 H5 HT5 HO5 Q5
                      generalize (W5.setCell ⟨rb, k * 12 + 11, none⟩ (.bool true)).drew = W6 at H6 HT6 HO6 ⊢
                      have Q6 := Lib.hid (put_at (R := mixQ S rs k) (p' := { p with role := r, fwd := true }) HQ.out)
                      have y11 : W6.cell? ⟨rb, k * 12 + 11, none⟩ = some (.bool true) := H6.out.p11 Q6.out
                      go_wp2_with fail
                      go_roundw
                      case rel => exact ⟨k + 1, by omega, by go_num, Lib.hid (by rw [← E1.out, EP.out]; exact H6.out), HO6, HT6⟩
                      case measure => simp [intOf]; omega
                  | false =>
                    rw [hfw] at y11
                    have EP := Lib.hid (show p.play S.now r = { p with role := r, fwd := true } by unfold RPrt.play RPrt.rsince; simp [hu, ha, hsn, dn0, hfw]; try omega)
                    have E1 := Lib.hid (hY.out (by unfold RPrt.fresh RPrt.play RPrt.rsince; simp [hu, ha, hsn, dn0, hfw]; try omega))
                    clear hN hY hu ha hsn dn0 hfw
                    rcases hact with hr1 | hr1
                    · obtain ⟨r1a, r1b⟩ := eq_t hr1
                      clear hr1
                      go_upto_region 22 with fail
                      have h0 := HS.out.set HQ.out 9 (p' := { p with role := r }) (u := .int .i64 r) (by decide) rfl ⟨GP.out.o0, GP.out.o1, GP.out.s0, GP.out.s1, GP.out.a0⟩
                      have q0 := put_at (p' := { p with role := r }) HQ.out
                      have HT5 := Lib.hid (HT.out.trans (HS.out.ttB (Only.setCell wr rb (k * 12 + 9) (.int .i64 r))))
                      have HO5 := Lib.hid (owns_tt HO.out (HS.out.ttB (Only.setCell wr rb (k * 12 + 9) (.int .i64 r))) (by decide))
                      have H5 := Lib.hid h0
                      have Q5 := Lib.hid q0
                      clear xq c1 c2 c8 fq y1 y9 y10 y11 f9 f10 f11 h0 q0 HS HO HT
                      generalize (wr.setCell ⟨rb, k * 12 + 9, none⟩ (.int .i64 r)) = W5 at HT5 HO5 H5 ⊢
                      have c2 : W5.cell? ⟨q, 2, none⟩ = some (.int .i64 S.now) := H5.out.c2
                      have y10 := H5.out.p10 Q5.out
                      have y11 := H5.out.p11 Q5.out
                      have f11 := H5.out.fz (k * 12 + 11)
                      try simp only at y10
                      try simp only at y11
                      refine wp_region_still_tail 16 (by kernel_rfl) (by kernel_rfl) ?_
                      simp only [List.take_succ_cons, List.take_zero, List.drop_succ_cons, List.drop_zero]
                      repeat (with_reducible refine wpStill_step (fun K hK => ?_); go_simp; with_reducible refine hK _ ?_; clear hK K)
                      with_reducible refine wpStill_nil ?_
                      change wpList _ _ _ _ _ W5.drew
                      go_upto_region 23 with fail
                      have h6 := H5.out.set Q5.out 11 (p' := { p with role := r, fwd := true }) (u := .bool true) (by decide) rfl ⟨GP.out.o0, GP.out.o1, GP.out.s0, GP.out.s1, GP.out.a0⟩
                      rw [put_put] at h6
                      have H6 := Lib.hid (show HasR (W5.setCell ⟨rb, k * 12 + 11, none⟩ (.bool true)).drew B q rb cap _ from h6.drewN 1)
                      have HT6 := Lib.hid (show Tt isR B w (W5.setCell ⟨rb, k * 12 + 11, none⟩ (.bool true)).drew from (HT5.out.trans (H5.out.ttB (Only.setCell W5 rb (k * 12 + 11) (.bool true)))).drewN 1)
                      have HO6 := Lib.hid (show World.ownsRow (W5.setCell ⟨rb, k * 12 + 11, none⟩ (.bool true)).drew W4.heap.size 3 1 (.slice (some ⟨rg, 0, none⟩) n rcap) n (rs.map (Value.int .i64)) from owns_tt (P := isR) (B := B) (w := W5) HO5.out ((H5.out.ttB (Only.setCell W5 rb (k * 12 + 11) (.bool true))).drewN 1) (by decide))
                      clear c2 y10 y11 f11 h6 H5 HT5 HO5 Q5
                      generalize (W5.setCell ⟨rb, k * 12 + 11, none⟩ (.bool true)).drew = W6 at H6 HT6 HO6 ⊢
                      have Q6 := Lib.hid (put_at (R := mixQ S rs k) (p' := { p with role := r, fwd := true }) HQ.out)
                      have y11 : W6.cell? ⟨rb, k * 12 + 11, none⟩ = some (.bool true) := H6.out.p11 Q6.out
                      have c2 : W6.cell? ⟨q, 2, none⟩ = some (.int .i64 S.now) := H6.out.c2
                      have c8 := H6.out.c8
                      have fq := free_of_block (j := 8) H6.out.tree
                      go_wp2_with fail
                      have H7 := Lib.hid (show HasR (W6.setCell ⟨q, 8, none⟩ (.int .i64 S.now)) B q rb cap _ from H6.out.note)
                      have HT7 := Lib.hid (HT6.out.trans (H6.out.ttQ (Only.setCell W6 q 8 (.int .i64 S.now))))
                      have HO7 := Lib.hid (owns_tt HO6.out (H6.out.ttQ (Only.setCell W6 q 8 (.int .i64 S.now))) (by decide))
                      go_roundw
                      case rel => exact ⟨k + 1, by omega, by go_num, Lib.hid (by rw [← E1.out, EP.out]; exact H7.out), HO7, HT7⟩
                      case measure => simp [intOf]; omega
                    · obtain ⟨r2a, r2b⟩ := eq_t hr1
                      obtain ⟨r1a, r1b⟩ := ne_t (show r ≠ 1 by omega)
                      clear hr1
                      go_upto_region 22 with fail
                      have h0 := HS.out.set HQ.out 9 (p' := { p with role := r }) (u := .int .i64 r) (by decide) rfl ⟨GP.out.o0, GP.out.o1, GP.out.s0, GP.out.s1, GP.out.a0⟩
                      have q0 := put_at (p' := { p with role := r }) HQ.out
                      have HT5 := Lib.hid (HT.out.trans (HS.out.ttB (Only.setCell wr rb (k * 12 + 9) (.int .i64 r))))
                      have HO5 := Lib.hid (owns_tt HO.out (HS.out.ttB (Only.setCell wr rb (k * 12 + 9) (.int .i64 r))) (by decide))
                      have H5 := Lib.hid h0
                      have Q5 := Lib.hid q0
                      clear xq c1 c2 c8 fq y1 y9 y10 y11 f9 f10 f11 h0 q0 HS HO HT
                      generalize (wr.setCell ⟨rb, k * 12 + 9, none⟩ (.int .i64 r)) = W5 at HT5 HO5 H5 ⊢
                      have c2 : W5.cell? ⟨q, 2, none⟩ = some (.int .i64 S.now) := H5.out.c2
                      have y10 := H5.out.p10 Q5.out
                      have y11 := H5.out.p11 Q5.out
                      have f11 := H5.out.fz (k * 12 + 11)
                      try simp only at y10
                      try simp only at y11
                      refine wp_region_still_tail 16 (by kernel_rfl) (by kernel_rfl) ?_
                      simp only [List.take_succ_cons, List.take_zero, List.drop_succ_cons, List.drop_zero]
                      repeat (with_reducible refine wpStill_step (fun K hK => ?_); go_simp; with_reducible refine hK _ ?_; clear hK K)
                      with_reducible refine wpStill_nil ?_
                      change wpList _ _ _ _ _ W5.drew
                      go_upto_region 23 with fail
                      have h6 := H5.out.set Q5.out 11 (p' := { p with role := r, fwd := true }) (u := .bool true) (by decide) rfl ⟨GP.out.o0, GP.out.o1, GP.out.s0, GP.out.s1, GP.out.a0⟩
                      rw [put_put] at h6
                      have H6 := Lib.hid (show HasR (W5.setCell ⟨rb, k * 12 + 11, none⟩ (.bool true)).drew B q rb cap _ from h6.drewN 1)
                      have HT6 := Lib.hid (show Tt isR B w (W5.setCell ⟨rb, k * 12 + 11, none⟩ (.bool true)).drew from (HT5.out.trans (H5.out.ttB (Only.setCell W5 rb (k * 12 + 11) (.bool true)))).drewN 1)
                      have HO6 := Lib.hid (show World.ownsRow (W5.setCell ⟨rb, k * 12 + 11, none⟩ (.bool true)).drew W4.heap.size 3 1 (.slice (some ⟨rg, 0, none⟩) n rcap) n (rs.map (Value.int .i64)) from owns_tt (P := isR) (B := B) (w := W5) HO5.out ((H5.out.ttB (Only.setCell W5 rb (k * 12 + 11) (.bool true))).drewN 1) (by decide))
                      clear c2 y10 y11 f11 h6 H5 HT5 HO5 Q5
                      generalize (W5.setCell ⟨rb, k * 12 + 11, none⟩ (.bool true)).drew = W6 at H6 HT6 HO6 ⊢
                      have Q6 := Lib.hid (put_at (R := mixQ S rs k) (p' := { p with role := r, fwd := true }) HQ.out)
                      have y11 : W6.cell? ⟨rb, k * 12 + 11, none⟩ = some (.bool true) := H6.out.p11 Q6.out
                      have c2 : W6.cell? ⟨q, 2, none⟩ = some (.int .i64 S.now) := H6.out.c2
                      have c8 := H6.out.c8
                      have fq := free_of_block (j := 8) H6.out.tree
                      go_wp2_with fail
                      have H7 := Lib.hid (show HasR (W6.setCell ⟨q, 8, none⟩ (.int .i64 S.now)) B q rb cap _ from H6.out.note)
                      have HT7 := Lib.hid (HT6.out.trans (H6.out.ttQ (Only.setCell W6 q 8 (.int .i64 S.now))))
                      have HO7 := Lib.hid (owns_tt HO6.out (H6.out.ttQ (Only.setCell W6 q 8 (.int .i64 S.now))) (by decide))
                      go_roundw
                      case rel => exact ⟨k + 1, by omega, by go_num, Lib.hid (by rw [← E1.out, EP.out]; exact H7.out), HO7, HT7⟩
                      case measure => simp [intOf]; omega
            · obtain ⟨r1a, r1b⟩ := ne_t (show r ≠ 1 by omega)
              obtain ⟨r2a, r2b⟩ := ne_t (show r ≠ 2 by omega)
              have ha : actv r = false := by unfold actv; rw [r1a, r2a]; rfl
              have EP := Lib.hid (show p.play S.now r = { p with role := r, since := -1, fwd := false } by unfold RPrt.play RPrt.rsince; simp [hu, ha]; try omega)
              have E1 := Lib.hid (hN.out (by unfold RPrt.fresh RPrt.play RPrt.rsince; simp [hu, ha]; try omega))
              clear hN hY hu ha hact
              go_upto_region 22 with fail
              have h0 := HS.out.set HQ.out 9 (p' := { p with role := r }) (u := .int .i64 r) (by decide) rfl ⟨GP.out.o0, GP.out.o1, GP.out.s0, GP.out.s1, GP.out.a0⟩
              have q0 := put_at (p' := { p with role := r }) HQ.out
              have h1 := h0.set q0 10 (p' := { p with role := r, since := -1 }) (u := .int .i64 (-1)) (by decide) rfl ⟨GP.out.o0, GP.out.o1, (by show -1 ≤ (-1 : Int); decide), (by show (-1 : Int) ≤ 1099511627776; decide), GP.out.a0⟩
              have q1 := put_at (p' := { p with role := r, since := -1 }) q0
              rw [put_put] at h1
              have HT5 := Lib.hid (HT.out.trans (HS.out.ttB ((Only.setCell wr rb (k * 12 + 9) (.int .i64 r)).set (k * 12 + 10) (.int .i64 (-1)))))
              have HO5 := Lib.hid (owns_tt HO.out (HS.out.ttB ((Only.setCell wr rb (k * 12 + 9) (.int .i64 r)).set (k * 12 + 10) (.int .i64 (-1)))) (by decide))
              have H5 := Lib.hid h1
              have Q5 := Lib.hid (put_at (R := mixQ S rs k) (p' := { p with role := r, since := -1 }) HQ.out)
              clear xq c1 c2 c8 fq y1 y9 y10 y11 f9 f10 f11 h0 q0 h1 q1 HS HO HT
              generalize ((wr.setCell ⟨rb, k * 12 + 9, none⟩ (.int .i64 r)).setCell ⟨rb, k * 12 + 10, none⟩ (.int .i64 (-1))) = W5 at HT5 HO5 H5 ⊢
              have c2 : W5.cell? ⟨q, 2, none⟩ = some (.int .i64 S.now) := H5.out.c2
              have y10 := H5.out.p10 Q5.out
              have y11 := H5.out.p11 Q5.out
              have f11 := H5.out.fz (k * 12 + 11)
              try simp only at y10
              try simp only at y11
              refine wp_region_still_tail 16 (by kernel_rfl) (by kernel_rfl) ?_
              simp only [List.take_succ_cons, List.take_zero, List.drop_succ_cons, List.drop_zero]
              repeat (with_reducible refine wpStill_step (fun K hK => ?_); go_simp; with_reducible refine hK _ ?_; clear hK K)
              with_reducible refine wpStill_nil ?_
              change wpList _ _ _ _ _ W5.drew
              go_upto_region 23 with fail
              have h6 := H5.out.set Q5.out 11 (p' := { p with role := r, since := -1, fwd := false }) (u := .bool false) (by decide) rfl ⟨GP.out.o0, GP.out.o1, (by show -1 ≤ (-1 : Int); decide), (by show (-1 : Int) ≤ 1099511627776; decide), GP.out.a0⟩
              rw [put_put] at h6
              have H6 := Lib.hid (show HasR (W5.setCell ⟨rb, k * 12 + 11, none⟩ (.bool false)).drew B q rb cap _ from h6.drewN 1)
              have HT6 := Lib.hid (show Tt isR B w (W5.setCell ⟨rb, k * 12 + 11, none⟩ (.bool false)).drew from (HT5.out.trans (H5.out.ttB (Only.setCell W5 rb (k * 12 + 11) (.bool false)))).drewN 1)
              have HO6 := Lib.hid (show World.ownsRow (W5.setCell ⟨rb, k * 12 + 11, none⟩ (.bool false)).drew W4.heap.size 3 1 (.slice (some ⟨rg, 0, none⟩) n rcap) n (rs.map (Value.int .i64)) from owns_tt (P := isR) (B := B) (w := W5) HO5.out ((H5.out.ttB (Only.setCell W5 rb (k * 12 + 11) (.bool false))).drewN 1) (by decide))
              clear c2 y10 y11 f11 h6 H5 HT5 HO5 Q5
              generalize (W5.setCell ⟨rb, k * 12 + 11, none⟩ (.bool false)).drew = W6 at H6 HT6 HO6 ⊢
              have Q6 := Lib.hid (put_at (R := mixQ S rs k) (p' := { p with role := r, since := -1, fwd := false }) HQ.out)
              have y11 : W6.cell? ⟨rb, k * 12 + 11, none⟩ = some (.bool false) := H6.out.p11 Q6.out
              go_wp2_with fail
              go_roundw
              case rel => exact ⟨k + 1, by omega, by go_num, Lib.hid (by rw [← E1.out, EP.out]; exact H6.out), HO6, HT6⟩
              case measure => simp [intOf]; omega
        · obtain rfl : k = n := by omega
          clear hlt
          go_wp2_with fail
          go_end0
          exact ⟨rfl, by rw [← E.out, ← HN.out]; exact HS.out, HT.out⟩
end

end Go.Proofs.Ytdjeifbbbpbhoaa
