/-
  The document's part: Tick. Contracts over the translated program.
-/
import Derived.Test.YtdjeifbbbpbhoaaRrC
namespace Go.Proofs.Ytdjeifbbbpbhoaa
open Go.RowKit
set_option linter.unusedVariables false
set_option linter.unusedSimpArgs false

theorem info_Ro : (Try.prog.info? 72).map (fun i => (i.zero, i.size, i.bytes)) = some (some (.agg #[.int .i64 0, .int .u64 0, .int .i64 0, .int .u64 0, .int .i64 0, .int .i64 0, .bool false, .bool false, .bool false]), 9, 56) := by kernel_rfl
theorem routGo_snoc (R : RPart) (p : RPrt) : ∀ (L : List RPrt) (i : Nat), routGo R i (L ++ [p]) = routGo R i L ++ (if p.role == 2 then [(((i + L.length : Nat) : Int), (⟨(R.best.1, R.best.2.1, R.br, ((i + L.length : Nat) : Int)), R.age, R.news, p.learns R.now, p.fwd⟩ : Tell))] else [])
  | [], i => by simp [routGo]
  | x :: r, i => by
    show _ ++ routGo R (i + 1) (r ++ [p]) = _
    rw [routGo_snoc R p r (i + 1), ← List.append_assoc]
    have e : i + 1 + r.length = i + (x :: r).length := by simp; omega
    rw [e]
    rfl
theorem routGo_take {R : RPart} {k : Nat} {p : RPrt} (h : R.ps[k]? = some p) : routGo R 0 (R.ps.take (k + 1)) = routGo R 0 (R.ps.take k) ++ (if p.role == 2 then [((k : Int), (⟨(R.best.1, R.best.2.1, R.br, (k : Int)), R.age, R.news, p.learns R.now, p.fwd⟩ : Tell))] else []) := by
  obtain ⟨hk, e⟩ := List.getElem?_eq_some_iff.1 h
  rw [List.take_succ_eq_append_getElem hk, e, routGo_snoc, List.length_take, Nat.min_eq_left (by omega), Nat.zero_add]
theorem rright_at {R : RPart} {k : Nat} {q : RPrt} (h : R.right.ps[k]? = some q) : ∃ p r, R.ps[k]? = some p ∧ q = (p.drop R.now).play R.now r := by
  have h' : (List.zipWith (RPrt.play R.now) R.dropAll.ps (rolesL R.br R.dropAll.hds))[k]? = some q := h
  rw [List.getElem?_zipWith] at h'
  cases hp : R.ps[k]? with
  | none =>
    have e : R.dropAll.ps[k]? = none := by show (R.ps.map _)[k]? = none; rw [List.getElem?_map, hp]; rfl
    rw [e] at h'
    simp at h'
  | some p =>
    have e : R.dropAll.ps[k]? = some (p.drop R.now) := by show (R.ps.map _)[k]? = _; rw [List.getElem?_map, hp]; rfl
    rw [e] at h'
    cases hr : (rolesL R.br R.dropAll.hds)[k]? with
    | none => rw [hr] at h'; simp at h'
    | some r =>
      rw [hr] at h'
      exact ⟨p, r, rfl, by simpa using h'.symm⟩
/-- Behind being set right, the Root's port keeps what is not old. -/
theorem rroot_keeps {R : RPart} (hg : R.Good) (h0 : 0 ≤ R.right.root) : ∃ (k : Nat) (p : RPrt), R.right.root = k ∧ R.right.ps[k]? = some p ∧ p.age < 20 ∧ -9223372036854775808 ≤ p.age ∧ R.right.age = p.age + 1 := by
  have hl : (rolesL R.br R.dropAll.hds).length = R.ps.length := by unfold rolesL RPart.hds RPart.dropAll; rw [rolesGo_len, List.length_map, List.length_map]
  have hroot : R.right.root = (bestL R.br R.dropAll.hds).1 := rfl
  rcases bestL_one R.br R.dropAll.hds with h | ⟨k, x, h1, h2, h3⟩
  · rw [hroot, h] at h0
    simp only at h0
    omega
  · have hk : R.right.root = k := by rw [hroot, h3]
    unfold RPart.hds at h1
    rw [List.getElem?_map] at h1
    have hps : R.dropAll.ps = R.ps.map (RPrt.drop R.now) := rfl
    rw [hps, List.getElem?_map] at h1
    cases hp : R.ps[k]? with
    | none => rw [hp] at h1; simp at h1
    | some p =>
      rw [hp] at h1
      simp at h1
      have hx : x.1 = true := by
        unfold leadB at h2
        simp at h2
        exact h2.1.1
      rw [← h1] at hx
      have hkeep : (p.drop R.now).keeps = true := by
        unfold RPrt.hd at hx
        simp at hx
        exact hx.2
      have hage : (p.drop R.now).age = p.age := by unfold RPrt.drop; split <;> rfl
      have h20 : p.age < 20 := by
        unfold RPrt.drop at hkeep
        split at hkeep
        · cases hkeep
        · next hc =>
          rw [hkeep] at hc
          unfold RPrt.isOld at hc
          simp at hc
          omega
      obtain ⟨hkl, -⟩ := List.getElem?_eq_some_iff.1 hp
      have hr : (rolesL R.br R.dropAll.hds)[k]? = some ((rolesL R.br R.dropAll.hds)[k]'(by omega)) := List.getElem?_eq_getElem _
      have hq : R.right.ps[k]? = some ((p.drop R.now).play R.now ((rolesL R.br R.dropAll.hds)[k]'(by omega))) := by
        show (List.zipWith (RPrt.play R.now) R.dropAll.ps (rolesL R.br R.dropAll.hds))[k]? = _
        rw [List.getElem?_zipWith, hr, hps, List.getElem?_map, hp]
        rfl
      refine ⟨k, _, hk, hq, ?_, ?_, ?_⟩
      · show (p.drop R.now).age < 20
        omega
      · show -9223372036854775808 ≤ (p.drop R.now).age
        rw [hage]
        exact (hg.ps p (List.mem_of_getElem? hp)).a0
      · unfold RPart.age
        rw [if_pos h0, hk, Int.toNat_natCast, hq]
        rfl
theorem rroot_none {R : RPart} (h0 : ¬ 0 ≤ R.right.root) : R.right.age = 0 := by unfold RPart.age; rw [if_neg h0]

section
variable {w : World} {B q rb cap : Nat} {R : RPart}

set_option maxHeartbeats 40000000 in
set_option maxRecDepth 100000 in
theorem rtick_c (h : HasR w B q rb cap R) (now : Int) : Calls Try.prog 28 #[.pointer (some ⟨q, 0, none⟩), .int .i64 now] w fun e w' => ∃ u, e = .returned u ∧ w'.ownsRow w.heap.size 72 9 u (R.told now).length ((R.told now).flatMap cellsO) ∧ HasR w' B q rb cap (R.tick now) ∧ Tt isR B w w' := by
  cases ht : timeR now with
  | false =>
    have HG := Lib.hid (goes_no h 0 now (Or.inl ht))
    have E1 := Lib.hid (show R.told now = [] by unfold RPart.told; rw [ht]; rfl)
    have E2 := Lib.hid (show R.tick now = R by unfold RPart.tick; rw [ht]; rfl)
    have H := Lib.hid h
    clear h ht
    go_enter Try.func28, Try.ntmps28
    go_wp2_with fail
    ((with_reducible refine HG.out.mono ?_); rintro e w1 ⟨rfl, rfl⟩)
    go_wp2_with fail
    go_ret
    rw [E1.out, E2.out]
    exact ⟨_, rfl, World.ownsRow_nil _ _ _ _, H.out, Tt.refl _ _ _⟩
  | true =>
    have HG := Lib.hid (goes_yes h 0 now ht (by decide) (by have := h.n1; omega))
    have hnow : 0 ≤ now ∧ now ≤ 1099511627776 := by unfold timeR at ht; simp at ht; omega
    obtain ⟨n0, n1⟩ := hnow
    have E1 := Lib.hid (show R.told now = (R.goes now).right.outs now by unfold RPart.told; rw [ht]; rfl)
    have E2 := Lib.hid (show R.tick now = (R.goes now).right by unfold RPart.tick; rw [ht]; rfl)
    have HK := Lib.hid (fun e => rroot_keeps (goes_good h.good ht) e)
    have HK0 := Lib.hid (fun e => rroot_none (R := R.goes now) e)
    have hl := h.n16
    have hl1 := h.n1
    have HLL := Lib.hid (show (R.goes now).right.ps.length = R.ps.length by
      show (List.zipWith (RPrt.play (R.goes now).now) (R.goes now).dropAll.ps (rolesL (R.goes now).br (R.goes now).dropAll.hds)).length = _
      rw [List.length_zipWith]
      unfold rolesL RPart.hds RPart.dropAll
      rw [rolesGo_len, List.length_map, List.length_map]
      show min (R.goes now).ps.length (List.map (RPrt.drop (R.goes now).now) (R.goes now).ps).length = R.ps.length
      rw [List.length_map]
      exact Nat.min_self _)
    clear h ht
    obtain ⟨i0, hi, hz0, hz1, hz2⟩ := info_parts info_Ro
    go_enter Try.func28, Try.ntmps28
    go_wp2_with fail
    ((with_reducible refine HG.out.mono ?_); rintro e w1 ⟨rfl, h1, k1⟩)
    have HR := Lib.hid (rright_c h1)
    have K1 := Lib.hid k1
    clear h1 k1 HG
    go_wp2_with fail
    ((with_reducible refine HR.out.mono ?_); rintro e W ⟨rfl, h2, k2⟩)
    have H := Lib.hid h2
    have K := Lib.hid (K1.out.trans k2)
    clear h2 k2 HR K1
    generalize (R.goes now).right = S at H E1 E2 HK HK0 HLL
    generalize R.ps.length = n at HLL hl hl1
    have c3 : W.cell? ⟨q, 3, none⟩ = some (.int .i64 S.root) := H.out.c3
    by_cases hr : 0 ≤ S.root
    · obtain ⟨k0, p0, e0, hp0, a20, a00, hA⟩ := HK.out hr
      have d0 : decide (0 ≤ S.root) = true := decide_eq_true hr
      have c1 : W.cell? ⟨q, 1, none⟩ = some (.slice (some ⟨rb, 0, none⟩) n cap) := by have := H.out.c1; rwa [HLL.out] at this
      have y7 := H.out.p7 hp0
      have hk0 : k0 < n := by rw [← HLL.out]; exact (List.getElem?_eq_some_iff.1 hp0).1
      have d3 : decide (k0 < n) = true := decide_eq_true hk0
      have d4 : decide (n ≤ k0) = false := decide_eq_false (by omega)
      have hs : IntKind.i64.wrap (p0.age + 1) = p0.age + 1 := IntWalk.i64_in _ (by omega)
      have hs' : wrap64 (p0.age + 1) = p0.age + 1 := by unfold wrap64; omega
      have HAB := Lib.hid (show -9223372036854775808 ≤ p0.age + 1 ∧ p0.age + 1 ≤ 20 by omega)
      have HA := Lib.hid hA
      rw [e0] at c3 d0
      clear hr HK HK0 hp0 a20 a00 hA
      replace e0 := Lib.hid e0
      go_wp2
      go_quiet (fail)
      replace H := Lib.hid (H.out.drewN nq)
      replace K := Lib.hid (K.out.drewN nq)
      clear c1 c3 y7 d0 d3 d4 hs hs' hk0
      generalize W.drewN nq = V at H K ⊢
      generalize p0.age + 1 = A at HA HAB ⊢
      have HW := Lib.hid K.out.size
      by_cases hpar : now % 2 = 1
      · obtain ⟨d1, d2⟩ := eq_t hpar
        have hpar' : now.tmod 2 = 1 := by rw [Int.tmod_eq_emod_of_nonneg n0]; exact hpar
        have E3 := Lib.hid (show S.outs now = [] by unfold RPart.outs; rw [d1, Bool.true_or]; rfl)
        go_wp2_with fail
        go_ret
        rw [E1.out, E2.out, E3.out]
        exact ⟨_, rfl, World.ownsRow_nil _ _ _ _, H.out, K.out⟩
      · obtain ⟨d1, d2⟩ := ne_t hpar
        have hpar' : now.tmod 2 = 0 := by rw [Int.tmod_eq_emod_of_nonneg n0]; omega
        have hpar0 : now % 2 = 0 := by omega
        by_cases hage : 20 ≤ A
        · have d3 : decide (20 ≤ A) = true := decide_eq_true hage
          have E3 := Lib.hid (show S.outs now = [] by unfold RPart.outs; rw [HA.out, d3, Bool.or_true]; rfl)
          clear hage
          go_wp2_with fail
          go_ret
          rw [E1.out, E2.out, E3.out]
          exact ⟨_, rfl, World.ownsRow_nil _ _ _ _, H.out, K.out⟩
        · have d3 : decide (20 ≤ A) = false := decide_eq_false hage
          have E3 := Lib.hid (show S.outs now = routGo S 0 S.ps by unfold RPart.outs; rw [d1, HA.out, d3]; rfl)
          clear hage
          go_wp2_with fail
          clear d1 d2 d3 hpar hpar' hpar0
          go_loopw [6, 7, 8, 9] (fun s6 i _ _ wr => ∃ k : Nat, k ≤ n ∧ i = .int .i64 k ∧ Hid (wr.ownsRow V.heap.size 72 9 s6 (routGo S 0 (S.ps.take k)).length ((routGo S 0 (S.ps.take k)).flatMap cellsO)) ∧ Hid ((routGo S 0 (S.ps.take k)).length ≤ k) ∧ Hid (Below V.heap.size V wr)) (fun _ i _ _ _ => n - (intOf i).toNat)
          case atStart => exact ⟨0, Nat.zero_le _, rfl, Lib.hid (World.ownsRow_nil _ _ _ _), Lib.hid (Nat.le_refl _), Lib.hid (Below.refl _ _)⟩
          case round =>
            obtain ⟨k, hk, rfl, HO, HC, KB⟩ := hrel
            have HS := Lib.hid (H.out.below KB.out)
            have c1 : wr.cell? ⟨q, 1, none⟩ = some (.slice (some ⟨rb, 0, none⟩) n cap) := by have := HS.out.c1; rwa [HLL.out] at this
            by_cases hlt : k < n
            · obtain ⟨p, hp⟩ : ∃ p, S.ps[k]? = some p := ⟨_, List.getElem?_eq_getElem (by rw [HLL.out]; exact hlt)⟩
              have HT := Lib.hid (routGo_take hp)
              have y0 := HS.out.p0 hp
              have y1 := HS.out.p1 hp
              have y2 := HS.out.p2 hp
              have y3 := HS.out.p3 hp
              have y4 := HS.out.p4 hp
              have y5 := HS.out.p5 hp
              have y6 := HS.out.p6 hp
              have y7 := HS.out.p7 hp
              have y8 := HS.out.p8 hp
              have y9 := HS.out.p9 hp
              have y10 := HS.out.p10 hp
              have y11 := HS.out.p11 hp
              have hltq := HS.out.ltQ
              have hltb := HS.out.ltB
              have hk1 : decide (n ≤ k) = false := decide_eq_false (by omega)
              have HQ := Lib.hid hp
              generalize routGo S 0 (S.ps.take k) = acc at HT HO HC
              clear hp
              go_upto_region 14 with fail
              have hB1 := (Below.refl wr.heap.size wr).alloc (Nat.le_refl _) (.cells #[.int .i64 p.cost, .bool p.up, .bool p.keeps, .int .u64 p.v.1, .int .i64 p.v.2.1, .int .u64 p.v.2.2.1, .int .i64 p.v.2.2.2, .int .i64 p.age, .int .i64 p.on, .int .i64 p.role, .int .i64 p.since, .bool p.fwd] 69)
              have HB1 := Lib.hid (heap_new wr (.cells #[.int .i64 p.cost, .bool p.up, .bool p.keeps, .int .u64 p.v.1, .int .i64 p.v.2.1, .int .u64 p.v.2.2.1, .int .i64 p.v.2.2.2, .int .i64 p.age, .int .i64 p.on, .int .i64 p.role, .int .i64 p.since, .bool p.fwd] 69))
              have K1 := Lib.hid (KB.out.trans (hB1.mono KB.out.size))
              have HO1 := Lib.hid (iowns_below HO.out hB1)
              have HS1 := Lib.hid (HS.out.below hB1)
              clear y0 y1 y2 y3 y4 y5 y6 y7 y8 y9 y10 y11 hltq hltb hk1 HO KB c1 HS hB1
              generalize wr.alloc (.cells #[.int .i64 p.cost, .bool p.up, .bool p.keeps, .int .u64 p.v.1, .int .i64 p.v.2.1, .int .u64 p.v.2.2.1, .int .i64 p.v.2.2.2, .int .i64 p.age, .int .i64 p.on, .int .i64 p.role, .int .i64 p.since, .bool p.fwd] 69) = W1 at HB1 K1 HO1 HS1 ⊢
              generalize wr.heap.size = pb at HB1 ⊢
              have z9 : W1.cell? ⟨pb, 9, none⟩ = some (.int .i64 p.role) := cell_of_block HB1.out rfl
              have z11 : W1.cell? ⟨pb, 11, none⟩ = some (.bool p.fwd) := cell_of_block HB1.out rfl
              by_cases hrole : p.role = 2
              · obtain ⟨r1, r2⟩ := eq_t hrole
                have HTT := Lib.hid (show routGo S 0 (S.ps.take (k + 1)) = acc ++ [((k : Int), (⟨(S.best.1, S.best.2.1, S.br, (k : Int)), A, S.news, p.learns S.now, p.fwd⟩ : Tell))] by rw [HT.out, r1, HA.out]; rfl)
                clear hrole HT
                go_upto_region 15 with fail
                have x0 : W1.cell? ⟨q, 0, none⟩ = some (.int .u64 S.br) := HS1.out.c0
                have x2 : W1.cell? ⟨q, 2, none⟩ = some (.int .i64 S.now) := HS1.out.c2
                have x4 : W1.cell? ⟨q, 4, none⟩ = some (.int .u64 S.best.1) := HS1.out.c4
                have x5 : W1.cell? ⟨q, 5, none⟩ = some (.int .i64 S.best.2.1) := HS1.out.c5
                have x6 : W1.cell? ⟨q, 6, none⟩ = some (.int .u64 S.best.2.2.1) := HS1.out.c6
                have x7 : W1.cell? ⟨q, 7, none⟩ = some (.int .i64 S.best.2.2.2) := HS1.out.c7
                have x8 : W1.cell? ⟨q, 8, none⟩ = some (.int .i64 S.chg) := HS1.out.c8
                have KF := Lib.hid fun (U : World) (kz : Below W1.heap.size W1 U) => (⟨gcell_below kz x0, gcell_below kz x2, gcell_below kz x4, gcell_below kz x5, gcell_below kz x6, gcell_below kz x7, gcell_below kz x8, gcell_below kz z11, kz⟩ : U.cell? ⟨q, 0, none⟩ = some (.int .u64 S.br) ∧ U.cell? ⟨q, 2, none⟩ = some (.int .i64 S.now) ∧ U.cell? ⟨q, 4, none⟩ = some (.int .u64 S.best.1) ∧ U.cell? ⟨q, 5, none⟩ = some (.int .i64 S.best.2.1) ∧ U.cell? ⟨q, 6, none⟩ = some (.int .u64 S.best.2.2.1) ∧ U.cell? ⟨q, 7, none⟩ = some (.int .i64 S.best.2.2.2) ∧ U.cell? ⟨q, 8, none⟩ = some (.int .i64 S.chg) ∧ U.cell? ⟨pb, 11, none⟩ = some (.bool p.fwd) ∧ Below W1.heap.size W1 U)
                have TE := Lib.hid fun (U : World) => rtells_c S.br S.best.1 S.best.2.1 S.best.2.2.1 S.best.2.2.2 k U
                have LE := Lib.hid fun (U : World) (kz : Below W1.heap.size W1 U) => rlearns_yes (HS1.out.below kz) HQ.out
                have NW := Lib.hid (show S.news = (decide (0 ≤ S.chg) && decide (S.now < S.chg + 4)) from rfl)
                have g0 := HS1.out.good.c0
                have g1 := HS1.out.good.c1
                have hs : IntKind.i64.wrap (S.chg + 4) = S.chg + 4 := IntWalk.i64_in _ (by omega)
                have hs' : wrap64 (S.chg + 4) = S.chg + 4 := by unfold wrap64; omega
                have k0 := (Below.refl W1.heap.size W1).drew
                have k1 := ((Below.refl W1.heap.size W1).alloc (Nat.le_refl _) (.cells #[.int .u64 0, .int .i64 0, .int .u64 0, .int .i64 0, .int .i64 0, .bool false, .bool false, .bool false] 38)).drew
                have n1' := Lib.hid (show acc.length + 1 ≤ maxLen by have := HC.out; unfold maxLen; omega)
                have n2' := Lib.hid (show (acc.length + 1) * 56 ≤ 140737488355328 by have := HC.out; omega)
                clear r1 r2 z9
                generalize hnw : S.news = nw at HTT NW
                generalize p.learns S.now = lr at HTT LE
                cases e1 : decide (0 ≤ S.chg) with
                | false =>
                  obtain rfl : nw = false := by rw [NW.out, e1]; rfl
                  clear hs hs' NW
                  refine wp_region_held_drew (S := fun U => U.cell? ⟨q, 0, none⟩ = some (.int .u64 S.br) ∧ U.cell? ⟨q, 2, none⟩ = some (.int .i64 S.now) ∧ U.cell? ⟨q, 4, none⟩ = some (.int .u64 S.best.1) ∧ U.cell? ⟨q, 5, none⟩ = some (.int .i64 S.best.2.1) ∧ U.cell? ⟨q, 6, none⟩ = some (.int .u64 S.best.2.2.1) ∧ U.cell? ⟨q, 7, none⟩ = some (.int .i64 S.best.2.2.2) ∧ U.cell? ⟨q, 8, none⟩ = some (.int .i64 S.chg) ∧ U.cell? ⟨pb, 11, none⟩ = some (.bool p.fwd) ∧ Below W1.heap.size W1 U) (by kernel_rfl) (KF.out _ k0) (fun hH => ?_)
                  refine wpAnyH_take (i := 0) (oi := { dst := some 59, op := Op.move (Operand.tmp 0), type := 31, pos := "ref.go:165", after := #[], guard := none }) (v := .pointer (some ⟨q, 0, none⟩)) rfl (by kernel_rfl) (by kernel_rfl) (by kernel_rfl) (fun _ _ _ h => h) (Or.inl ⟨by kernel_rfl, ?_⟩) hH ?_
                  · intro w hSw; (try dsimp only at hSw); go_simp
                  try simp only [Act.put, List.setIfInBounds_toArray, List.set_cons_zero, List.set_cons_succ]
                  refine wpAnyH_take (i := 1) (oi := { dst := some 60, op := Op.nilCheck (Operand.tmp 59), type := 0, pos := "ref.go:165", after := #[{ on := 0, ground := Ground.data }], guard := none }) (v := .pointer (some ⟨q, 0, none⟩)) rfl (by kernel_rfl) (by kernel_rfl) (by kernel_rfl) (fun _ _ _ h => h) (Or.inl ⟨by kernel_rfl, ?_⟩) hH ?_
                  · intro w hSw; (try dsimp only at hSw); go_simp
                  try simp only [Act.put, List.setIfInBounds_toArray, List.set_cons_zero, List.set_cons_succ]
                  refine wpAnyH_take (i := 2) (oi := { dst := some 61, op := Op.fieldAddr 67 (Operand.tmp 60) 0, type := 0, pos := "ref.go:165", after := #[{ on := 1, ground := Ground.data }], guard := none }) (v := .pointer (some ⟨q, 0, none⟩)) rfl (by kernel_rfl) (by kernel_rfl) (by kernel_rfl) (fun _ _ _ h => h) (Or.inl ⟨by kernel_rfl, ?_⟩) hH ?_
                  · intro w hSw; (try dsimp only at hSw); go_simp
                  try simp only [Act.put, List.setIfInBounds_toArray, List.set_cons_zero, List.set_cons_succ]
                  refine wpAnyH_take (i := 3) (oi := { dst := some 62, op := Op.load 22 (Operand.tmp 61), type := 22, pos := "ref.go:165", after := #[{ on := 2, ground := Ground.data }], guard := none }) (v := .int .u64 S.br) rfl (by kernel_rfl) (by kernel_rfl) (by kernel_rfl) (fun _ _ _ h => h) (Or.inl ⟨by kernel_rfl, ?_⟩) hH ?_
                  · intro w hSw; (try dsimp only at hSw); go_simp
                  try simp only [Act.put, List.setIfInBounds_toArray, List.set_cons_zero, List.set_cons_succ]
                  refine wpAnyH_take (i := 4) (oi := { dst := some 63, op := Op.move (Operand.tmp 0), type := 31, pos := "ref.go:165", after := #[], guard := none }) (v := .pointer (some ⟨q, 0, none⟩)) rfl (by kernel_rfl) (by kernel_rfl) (by kernel_rfl) (fun _ _ _ h => h) (Or.inl ⟨by kernel_rfl, ?_⟩) hH ?_
                  · intro w hSw; (try dsimp only at hSw); go_simp
                  try simp only [Act.put, List.setIfInBounds_toArray, List.set_cons_zero, List.set_cons_succ]
                  refine wpAnyH_take (i := 5) (oi := { dst := some 64, op := Op.nilCheck (Operand.tmp 63), type := 0, pos := "ref.go:165", after := #[{ on := 4, ground := Ground.data }], guard := none }) (v := .pointer (some ⟨q, 0, none⟩)) rfl (by kernel_rfl) (by kernel_rfl) (by kernel_rfl) (fun _ _ _ h => h) (Or.inl ⟨by kernel_rfl, ?_⟩) hH ?_
                  · intro w hSw; (try dsimp only at hSw); go_simp
                  try simp only [Act.put, List.setIfInBounds_toArray, List.set_cons_zero, List.set_cons_succ]
                  refine wpAnyH_take (i := 6) (oi := { dst := some 65, op := Op.fieldAddr 67 (Operand.tmp 64) 4, type := 0, pos := "ref.go:165", after := #[{ on := 5, ground := Ground.data }], guard := none }) (v := .pointer (some ⟨q, 4, none⟩)) rfl (by kernel_rfl) (by kernel_rfl) (by kernel_rfl) (fun _ _ _ h => h) (Or.inl ⟨by kernel_rfl, ?_⟩) hH ?_
                  · intro w hSw; (try dsimp only at hSw); go_simp
                  try simp only [Act.put, List.setIfInBounds_toArray, List.set_cons_zero, List.set_cons_succ]
                  refine wpAnyH_take (i := 7) (oi := { dst := some 66, op := Op.load 36 (Operand.tmp 65), type := 36, pos := "ref.go:165", after := #[{ on := 6, ground := Ground.data }], guard := none }) (v := .agg #[.int .u64 S.best.1, .int .i64 S.best.2.1, .int .u64 S.best.2.2.1, .int .i64 S.best.2.2.2]) rfl (by kernel_rfl) (by kernel_rfl) (by kernel_rfl) (fun _ _ _ h => h) (Or.inl ⟨by kernel_rfl, ?_⟩) hH ?_
                  · intro w hSw; (try dsimp only at hSw); go_simp
                  try simp only [Act.put, List.setIfInBounds_toArray, List.set_cons_zero, List.set_cons_succ]
                  refine wpAnyH_take (i := 8) (oi := { dst := some 67, op := Op.move (Operand.tmp 7), type := 3, pos := "ref.go:165", after := #[], guard := none }) (v := .int .i64 (k : Int)) rfl (by kernel_rfl) (by kernel_rfl) (by kernel_rfl) (fun _ _ _ h => h) (Or.inl ⟨by kernel_rfl, ?_⟩) hH ?_
                  · intro w hSw; (try dsimp only at hSw); go_simp
                  try simp only [Act.put, List.setIfInBounds_toArray, List.set_cons_zero, List.set_cons_succ]
                  refine wpAnyH_take (i := 10) (oi := { dst := some 69, op := Op.move (Operand.tmp 5), type := 3, pos := "ref.go:165", after := #[], guard := none }) (v := .int .i64 A) rfl (by kernel_rfl) (by kernel_rfl) (by kernel_rfl) (fun _ _ _ h => h) (Or.inl ⟨by kernel_rfl, ?_⟩) hH ?_
                  · intro w hSw; (try dsimp only at hSw); go_simp
                  try simp only [Act.put, List.setIfInBounds_toArray, List.set_cons_zero, List.set_cons_succ]
                  refine wpAnyH_take (i := 11) (oi := { dst := some 70, op := Op.move (Operand.tmp 0), type := 31, pos := "ref.go:165", after := #[], guard := none }) (v := .pointer (some ⟨q, 0, none⟩)) rfl (by kernel_rfl) (by kernel_rfl) (by kernel_rfl) (fun _ _ _ h => h) (Or.inl ⟨by kernel_rfl, ?_⟩) hH ?_
                  · intro w hSw; (try dsimp only at hSw); go_simp
                  try simp only [Act.put, List.setIfInBounds_toArray, List.set_cons_zero, List.set_cons_succ]
                  refine wpAnyH_take (i := 12) (oi := { dst := some 71, op := Op.nilCheck (Operand.tmp 70), type := 0, pos := "ref.go:165", after := #[{ on := 11, ground := Ground.data }], guard := none }) (v := .pointer (some ⟨q, 0, none⟩)) rfl (by kernel_rfl) (by kernel_rfl) (by kernel_rfl) (fun _ _ _ h => h) (Or.inl ⟨by kernel_rfl, ?_⟩) hH ?_
                  · intro w hSw; (try dsimp only at hSw); go_simp
                  try simp only [Act.put, List.setIfInBounds_toArray, List.set_cons_zero, List.set_cons_succ]
                  refine wpAnyH_take (i := 13) (oi := { dst := some 72, op := Op.fieldAddr 67 (Operand.tmp 71) 5, type := 0, pos := "ref.go:165", after := #[{ on := 12, ground := Ground.data }], guard := none }) (v := .pointer (some ⟨q, 8, none⟩)) rfl (by kernel_rfl) (by kernel_rfl) (by kernel_rfl) (fun _ _ _ h => h) (Or.inl ⟨by kernel_rfl, ?_⟩) hH ?_
                  · intro w hSw; (try dsimp only at hSw); go_simp
                  try simp only [Act.put, List.setIfInBounds_toArray, List.set_cons_zero, List.set_cons_succ]
                  refine wpAnyH_take (i := 14) (oi := { dst := some 73, op := Op.load 3 (Operand.tmp 72), type := 3, pos := "ref.go:165", after := #[{ on := 13, ground := Ground.data }], guard := none }) (v := .int .i64 S.chg) rfl (by kernel_rfl) (by kernel_rfl) (by kernel_rfl) (fun _ _ _ h => h) (Or.inl ⟨by kernel_rfl, ?_⟩) hH ?_
                  · intro w hSw; (try dsimp only at hSw); go_simp
                  try simp only [Act.put, List.setIfInBounds_toArray, List.set_cons_zero, List.set_cons_succ]
                  refine wpAnyH_take (i := 15) (oi := { dst := some 74, op := Op.binOp BinOp.geq 3 (Operand.tmp 73) (Operand.const (Value.int IntKind.i64 0)) 3, type := 4, pos := "ref.go:165", after := #[{ on := 14, ground := Ground.data }], guard := none }) (v := .bool false) rfl (by kernel_rfl) (by kernel_rfl) (by kernel_rfl) (fun _ _ _ h => h) (Or.inl ⟨by kernel_rfl, ?_⟩) hH ?_
                  · intro w hSw; (try dsimp only at hSw); go_simp
                  try simp only [Act.put, List.setIfInBounds_toArray, List.set_cons_zero, List.set_cons_succ]
                  refine wpAnyH_take (i := 28) (oi := { dst := some 87, op := Op.move (Operand.tmp 0), type := 31, pos := "ref.go:165", after := #[], guard := none }) (v := .pointer (some ⟨q, 0, none⟩)) rfl (by kernel_rfl) (by kernel_rfl) (by kernel_rfl) (fun _ _ _ h => h) (Or.inl ⟨by kernel_rfl, ?_⟩) hH ?_
                  · intro w hSw; (try dsimp only at hSw); go_simp
                  try simp only [Act.put, List.setIfInBounds_toArray, List.set_cons_zero, List.set_cons_succ]
                  refine wpAnyH_take (i := 29) (oi := { dst := some 88, op := Op.move (Operand.tmp 7), type := 3, pos := "ref.go:165", after := #[], guard := none }) (v := .int .i64 (k : Int)) rfl (by kernel_rfl) (by kernel_rfl) (by kernel_rfl) (fun _ _ _ h => h) (Or.inl ⟨by kernel_rfl, ?_⟩) hH ?_
                  · intro w hSw; (try dsimp only at hSw); go_simp
                  try simp only [Act.put, List.setIfInBounds_toArray, List.set_cons_zero, List.set_cons_succ]
                  refine wpAnyH_take (i := 31) (oi := { dst := some 90, op := Op.fieldAddr 69 (Operand.tmp 8) 8, type := 0, pos := "ref.go:165", after := #[], guard := none }) (v := .pointer (some ⟨pb, 11, none⟩)) rfl (by kernel_rfl) (by kernel_rfl) (by kernel_rfl) (fun _ _ _ h => h) (Or.inl ⟨by kernel_rfl, ?_⟩) hH ?_
                  · intro w hSw; (try dsimp only at hSw); go_simp
                  try simp only [Act.put, List.setIfInBounds_toArray, List.set_cons_zero, List.set_cons_succ]
                  refine wpAnyH_take (i := 32) (oi := { dst := some 91, op := Op.load 4 (Operand.tmp 90), type := 4, pos := "ref.go:165", after := #[{ on := 31, ground := Ground.data }], guard := none }) (v := .bool p.fwd) rfl (by kernel_rfl) (by kernel_rfl) (by kernel_rfl) (fun _ _ _ h => h) (Or.inl ⟨by kernel_rfl, ?_⟩) hH ?_
                  · intro w hSw; (try dsimp only at hSw); go_simp
                  try simp only [Act.put, List.setIfInBounds_toArray, List.set_cons_zero, List.set_cons_succ]
                  refine wpAnyH_ready (rs := [9, 34]) (by kernel_rfl) (by simp) ?_
                  refine AllReadyH.cons rfl (fun K hK => ?_) ?_
                  · go_simp
                    with_reducible refine (TE.out _).mono ?_
                    rintro e w8 ⟨rfl, hb8⟩
                    try go_wp2_with fail
                    have k8 := k0.trans (hb8.mono k0.size)
                    refine hK.out _ _ (KF.out _ k8) (fun hH => ?_)
                    clear hK K
                    try simp only [Act.put, List.setIfInBounds_toArray, List.set_cons_zero, List.set_cons_succ]
                    refine wpAnyH_take (i := 16) (oi := { dst := some 75, op := Op.move (Operand.tmp 74), type := 4, pos := "ref.go:165", after := #[{ on := 15, ground := Ground.data }, { on := 9, ground := Ground.chain }], guard := none }) (v := .bool false) rfl (by kernel_rfl) (by kernel_rfl) (by kernel_rfl) (fun _ _ _ h => h) (Or.inl ⟨by kernel_rfl, ?_⟩) hH ?_
                    · intro w hSw; (try dsimp only at hSw); go_simp
                    try simp only [Act.put, List.setIfInBounds_toArray, List.set_cons_zero, List.set_cons_succ]
                    refine wpAnyH_take (i := 17) (oi := { dst := some 76, op := Op.move (Operand.tmp 0), type := 31, pos := "ref.go:165", after := #[{ on := 16, ground := Ground.guard }], guard := some (16, true) }) (v := undef) rfl (by kernel_rfl) (by kernel_rfl) (by kernel_rfl) (fun _ _ _ h => h) (Or.inr ⟨by kernel_rfl, rfl⟩) hH ?_
                    try simp only [Act.put, List.setIfInBounds_toArray, List.set_cons_zero, List.set_cons_succ]
                    refine wpAnyH_take (i := 18) (oi := { dst := some 77, op := Op.nilCheck (Operand.tmp 76), type := 0, pos := "ref.go:165", after := #[{ on := 17, ground := Ground.data }, { on := 16, ground := Ground.guard }], guard := some (16, true) }) (v := undef) rfl (by kernel_rfl) (by kernel_rfl) (by kernel_rfl) (fun _ _ _ h => h) (Or.inr ⟨by kernel_rfl, rfl⟩) hH ?_
                    try simp only [Act.put, List.setIfInBounds_toArray, List.set_cons_zero, List.set_cons_succ]
                    refine wpAnyH_take (i := 19) (oi := { dst := some 78, op := Op.fieldAddr 67 (Operand.tmp 77) 2, type := 0, pos := "ref.go:165", after := #[{ on := 18, ground := Ground.data }, { on := 16, ground := Ground.guard }], guard := some (16, true) }) (v := undef) rfl (by kernel_rfl) (by kernel_rfl) (by kernel_rfl) (fun _ _ _ h => h) (Or.inr ⟨by kernel_rfl, rfl⟩) hH ?_
                    try simp only [Act.put, List.setIfInBounds_toArray, List.set_cons_zero, List.set_cons_succ]
                    refine wpAnyH_take (i := 20) (oi := { dst := some 79, op := Op.load 3 (Operand.tmp 78), type := 3, pos := "ref.go:165", after := #[{ on := 19, ground := Ground.data }, { on := 16, ground := Ground.guard }], guard := some (16, true) }) (v := undef) rfl (by kernel_rfl) (by kernel_rfl) (by kernel_rfl) (fun _ _ _ h => h) (Or.inr ⟨by kernel_rfl, rfl⟩) hH ?_
                    try simp only [Act.put, List.setIfInBounds_toArray, List.set_cons_zero, List.set_cons_succ]
                    refine wpAnyH_take (i := 21) (oi := { dst := some 80, op := Op.move (Operand.tmp 0), type := 31, pos := "ref.go:165", after := #[{ on := 16, ground := Ground.guard }], guard := some (16, true) }) (v := undef) rfl (by kernel_rfl) (by kernel_rfl) (by kernel_rfl) (fun _ _ _ h => h) (Or.inr ⟨by kernel_rfl, rfl⟩) hH ?_
                    try simp only [Act.put, List.setIfInBounds_toArray, List.set_cons_zero, List.set_cons_succ]
                    refine wpAnyH_take (i := 22) (oi := { dst := some 81, op := Op.nilCheck (Operand.tmp 80), type := 0, pos := "ref.go:165", after := #[{ on := 21, ground := Ground.data }, { on := 16, ground := Ground.guard }], guard := some (16, true) }) (v := undef) rfl (by kernel_rfl) (by kernel_rfl) (by kernel_rfl) (fun _ _ _ h => h) (Or.inr ⟨by kernel_rfl, rfl⟩) hH ?_
                    try simp only [Act.put, List.setIfInBounds_toArray, List.set_cons_zero, List.set_cons_succ]
                    refine wpAnyH_take (i := 23) (oi := { dst := some 82, op := Op.fieldAddr 67 (Operand.tmp 81) 5, type := 0, pos := "ref.go:165", after := #[{ on := 22, ground := Ground.data }, { on := 16, ground := Ground.guard }], guard := some (16, true) }) (v := undef) rfl (by kernel_rfl) (by kernel_rfl) (by kernel_rfl) (fun _ _ _ h => h) (Or.inr ⟨by kernel_rfl, rfl⟩) hH ?_
                    try simp only [Act.put, List.setIfInBounds_toArray, List.set_cons_zero, List.set_cons_succ]
                    refine wpAnyH_take (i := 24) (oi := { dst := some 83, op := Op.load 3 (Operand.tmp 82), type := 3, pos := "ref.go:165", after := #[{ on := 23, ground := Ground.data }, { on := 16, ground := Ground.guard }], guard := some (16, true) }) (v := undef) rfl (by kernel_rfl) (by kernel_rfl) (by kernel_rfl) (fun _ _ _ h => h) (Or.inr ⟨by kernel_rfl, rfl⟩) hH ?_
                    try simp only [Act.put, List.setIfInBounds_toArray, List.set_cons_zero, List.set_cons_succ]
                    refine wpAnyH_take (i := 25) (oi := { dst := some 84, op := Op.binOp BinOp.add 3 (Operand.tmp 83) (Operand.const (Value.int IntKind.i64 4)) 3, type := 3, pos := "ref.go:165", after := #[{ on := 24, ground := Ground.data }, { on := 16, ground := Ground.guard }], guard := some (16, true) }) (v := undef) rfl (by kernel_rfl) (by kernel_rfl) (by kernel_rfl) (fun _ _ _ h => h) (Or.inr ⟨by kernel_rfl, rfl⟩) hH ?_
                    try simp only [Act.put, List.setIfInBounds_toArray, List.set_cons_zero, List.set_cons_succ]
                    refine wpAnyH_take (i := 26) (oi := { dst := some 85, op := Op.binOp BinOp.lss 3 (Operand.tmp 79) (Operand.tmp 84) 3, type := 4, pos := "ref.go:165", after := #[{ on := 20, ground := Ground.data }, { on := 25, ground := Ground.data }, { on := 16, ground := Ground.guard }], guard := some (16, true) }) (v := undef) rfl (by kernel_rfl) (by kernel_rfl) (by kernel_rfl) (fun _ _ _ h => h) (Or.inr ⟨by kernel_rfl, rfl⟩) hH ?_
                    try simp only [Act.put, List.setIfInBounds_toArray, List.set_cons_zero, List.set_cons_succ]
                    refine wpAnyH_take (i := 27) (oi := { dst := some 86, op := Op.pick (Operand.tmp 75) (Operand.tmp 85) (Operand.const (Value.bool false)), type := 4, pos := "ref.go:165", after := #[{ on := 16, ground := Ground.data }, { on := 26, ground := Ground.data }], guard := none }) (v := .bool false) rfl (by kernel_rfl) (by kernel_rfl) (by kernel_rfl) (fun _ _ _ h => h) (Or.inl ⟨by kernel_rfl, ?_⟩) hH ?_
                    · intro w hSw; (try dsimp only at hSw); go_simp
                    try simp only [Act.put, List.setIfInBounds_toArray, List.set_cons_zero, List.set_cons_succ]
                    refine wpAnyH_ready (rs := [30, 34]) (by kernel_rfl) (by simp) ?_
                    refine AllReadyH.cons rfl (fun K hK => ?_) ?_
                    · go_simp
                      with_reducible refine (LE.out _ k8).mono ?_
                      rintro e w9 ⟨rfl, m9, hw9⟩
                      replace hw9 := Lib.hid hw9
                      try go_wp2_with fail
                      have k9 : Below W1.heap.size W1 w9 := by rw [hw9.out]; exact below_drewN k8 m9
                      refine hK.out _ _ (KF.out _ k9) (fun hH => ?_)
                      clear hK K
                      try simp only [Act.put, List.setIfInBounds_toArray, List.set_cons_zero, List.set_cons_succ]
                      refine wpAnyH_take (i := 33) (oi := { dst := some 92, op := Op.build 38 #[(0, Operand.tmp 68), (1, Operand.tmp 69), (2, Operand.tmp 86), (3, Operand.tmp 89), (4, Operand.tmp 91)], type := 38, pos := "ref.go:165", after := #[{ on := 9, ground := Ground.data }, { on := 10, ground := Ground.data }, { on := 27, ground := Ground.data }, { on := 30, ground := Ground.data }, { on := 32, ground := Ground.data }], guard := none }) (v := .agg #[.int .u64 S.best.1, .int .i64 S.best.2.1, .int .u64 S.br, .int .i64 (k : Int), .int .i64 A, .bool false, .bool lr, .bool p.fwd]) rfl (by kernel_rfl) (by kernel_rfl) (by kernel_rfl) (fun _ _ _ h => h) (Or.inl ⟨by kernel_rfl, ?_⟩) hH ?_
                      · intro w hSw; (try dsimp only at hSw); go_simp
                      try simp only [Act.put, List.setIfInBounds_toArray, List.set_cons_zero, List.set_cons_succ]
                      refine wpAnyH_ready (rs := [34]) (by kernel_rfl) (by simp) ?_
                      refine AllReadyH.cons rfl (fun K hK => ?_) AllReadyH.nil
                      go_simp
                      refine hK.out _ _ (KF.out _ (k9.alloc k9.size _)) (fun hH => ?_)
                      clear hK K
                      try simp only [Act.put, List.setIfInBounds_toArray, List.set_cons_zero, List.set_cons_succ]
                      refine wpAnyH_ready (rs := [35]) (by kernel_rfl) (by simp) ?_
                      refine AllReadyH.cons rfl (fun K hK => ?_) AllReadyH.nil
                      go_simp
                      refine hK.out _ _ (KF.out _ (k9.alloc k9.size _)) (fun hH => ?_)
                      clear hK K
                      try simp only [Act.put, List.setIfInBounds_toArray, List.set_cons_zero, List.set_cons_succ]
                      refine wpAnyH_done (by kernel_rfl) ?_ _
                      have KX := Lib.hid (k9.alloc k9.size (.cells #[.int .u64 S.best.1, .int .i64 S.best.2.1, .int .u64 S.br, .int .i64 (k : Int), .int .i64 A, .bool false, .bool lr, .bool p.fwd] 38))
                      have BX := Lib.hid (heap_new w9 (.cells #[.int .u64 S.best.1, .int .i64 S.best.2.1, .int .u64 S.br, .int .i64 (k : Int), .int .i64 A, .bool false, .bool lr, .bool p.fwd] 38))
                      have GX := Lib.hid k9.size
                      clear hw9 k9 k8 hb8
                      generalize w9.alloc (.cells #[.int .u64 S.best.1, .int .i64 S.best.2.1, .int .u64 S.br, .int .i64 (k : Int), .int .i64 A, .bool false, .bool lr, .bool p.fwd] 38) = WX at KX BX hH ⊢
                      generalize w9.heap.size = xb at BX GX ⊢
                      have z0 : WX.cell? ⟨xb, 0, none⟩ = some (.int .u64 S.best.1) := cell_of_block BX.out rfl
                      have z1 : WX.cell? ⟨xb, 1, none⟩ = some (.int .i64 S.best.2.1) := cell_of_block BX.out rfl
                      have z2 : WX.cell? ⟨xb, 2, none⟩ = some (.int .u64 S.br) := cell_of_block BX.out rfl
                      have z3 : WX.cell? ⟨xb, 3, none⟩ = some (.int .i64 (k : Int)) := cell_of_block BX.out rfl
                      have z4 : WX.cell? ⟨xb, 4, none⟩ = some (.int .i64 A) := cell_of_block BX.out rfl
                      have z5 : WX.cell? ⟨xb, 5, none⟩ = some (.bool false) := cell_of_block BX.out rfl
                      have z6 : WX.cell? ⟨xb, 6, none⟩ = some (.bool lr) := cell_of_block BX.out rfl
                      have z7 : WX.cell? ⟨xb, 7, none⟩ = some (.bool p.fwd) := cell_of_block BX.out rfl
                      have HO6 := Lib.hid (iowns_below HO1.out KX.out)
                      have K6 := Lib.hid (K1.out.trans (KX.out.mono K1.out.size))
                      have n3 := Lib.hid (show V.heap.size ≤ (WX.alloc (.cells #[.int .i64 (k : Int), .int .u64 S.best.1, .int .i64 S.best.2.1, .int .u64 S.br, .int .i64 (k : Int), .int .i64 A, .bool false, .bool lr, .bool p.fwd] 72)).heap.size by have := K6.out.size; simp; omega)
                      have NEW := Lib.hid (cells_new WX [.int .i64 (k : Int), .int .u64 S.best.1, .int .i64 S.best.2.1, .int .u64 S.br, .int .i64 (k : Int), .int .i64 A, .bool false, .bool lr, .bool p.fwd] 72)
                      have HO7 := Lib.hid (HO6.out.alloc (.cells #[.int .i64 (k : Int), .int .u64 S.best.1, .int .i64 S.best.2.1, .int .u64 S.br, .int .i64 (k : Int), .int .i64 A, .bool false, .bool lr, .bool p.fwd] 72))
                      have K7 := Lib.hid (K6.out.alloc K6.out.size (.cells #[.int .i64 (k : Int), .int .u64 S.best.1, .int .i64 S.best.2.1, .int .u64 S.br, .int .i64 (k : Int), .int .i64 A, .bool false, .bool lr, .bool p.fwd] 72))
                      have HON := Lib.hid (one_O ((k : Int), (⟨(S.best.1, S.best.2.1, S.br, (k : Int)), A, false, lr, p.fwd⟩ : Tell)))
                      replace HON : Hid (∀ u ∈ ([.int .i64 (k : Int), .int .u64 S.best.1, .int .i64 S.best.2.1, .int .u64 S.br, .int .i64 (k : Int), .int .i64 A, .bool false, .bool lr, .bool p.fwd] : List Value), u.oneCell' = true) := HON
                      clear KF TE LE k0 k1 z11 x0 x2 x4 x5 x6 x7 x8 HO6 K6 hH
                      go_wp2_with (at_builtin; refine wpList_append_own _ rfl _ _ 70 rfl V.heap.size 72 i0 (.agg #[.int .i64 0, .int .u64 0, .int .i64 0, .int .u64 0, .int .i64 0, .int .i64 0, .bool false, .bool false, .bool false]) 9 56 Try.underlying70 hi hz0 hz1 hz2 rfl (by decide) _ _ _ rfl HO7.out ⟨WX.heap.size, 0, none⟩ 1 1 [.int .i64 (k : Int), .int .u64 S.best.1, .int .i64 S.best.2.1, .int .u64 S.br, .int .i64 (k : Int), .int .i64 A, .bool false, .bool lr, .bool p.fwd] rfl rfl NEW.out HON.out n1'.out n2'.out n3.out ?_)
                      intro v' w6 hown' hgrow _
                      have HO8 := Lib.hid hown'
                      have K8 := Lib.hid (K7.out.grown hgrow n3.out (fun j hj => (HO7.out.lt j hj).1))
                      clear hown' hgrow HO7 K7 NEW z0 z1 z2 z3 z4 z5 z6 z7
                      go_wp2_with fail
                      go_roundw
                      case rel => exact ⟨k + 1, by omega, by go_num, Lib.hid (by rw [HTT.out, List.length_append, List.flatMap_append]; simpa [cellsO] using HO8.out), Lib.hid (by rw [HTT.out, List.length_append]; have := HC.out; simp; omega), K8⟩
                      case measure => simp [intOf]; omega
                    · refine AllReadyH.cons rfl (fun K hK => ?_) AllReadyH.nil
                      go_simp
                      refine hK.out _ _ (KF.out _ (k8.alloc k8.size _)) (fun hH => ?_)
                      clear hK K
                      try simp only [Act.put, List.setIfInBounds_toArray, List.set_cons_zero, List.set_cons_succ]
                      have k8a := k8.alloc k8.size (.cells #[.int .u64 0, .int .i64 0, .int .u64 0, .int .i64 0, .int .i64 0, .bool false, .bool false, .bool false] 38)
                      have b8 := heap_new w8 (.cells #[.int .u64 0, .int .i64 0, .int .u64 0, .int .i64 0, .int .i64 0, .bool false, .bool false, .bool false] 38)
                      have g9 : W1.heap.size ≤ w8.heap.size := k8.size
                      clear k8 hb8
                      generalize w8.alloc (.cells #[.int .u64 0, .int .i64 0, .int .u64 0, .int .i64 0, .int .i64 0, .bool false, .bool false, .bool false] 38) = U8 at k8a b8 hH ⊢
                      generalize w8.heap.size = xb at b8 g9 ⊢
                      refine wpAnyH_ready (rs := [30]) (by kernel_rfl) (by simp) ?_
                      refine AllReadyH.cons rfl (fun K hK => ?_) AllReadyH.nil
                      go_simp
                      with_reducible refine (LE.out _ k8a).mono ?_
                      rintro e w9 ⟨rfl, m9, hw9⟩
                      replace hw9 := Lib.hid hw9
                      try go_wp2_with fail
                      have k9 : Below W1.heap.size W1 w9 := by rw [hw9.out]; exact below_drewN k8a m9
                      have b9 : w9.heap[xb]? = some (.cells #[.int .u64 0, .int .i64 0, .int .u64 0, .int .i64 0, .int .i64 0, .bool false, .bool false, .bool false] 38 (0, 0)) := by rw [hw9.out]; exact b8
                      refine hK.out _ _ (KF.out _ k9) (fun hH => ?_)
                      clear hK K
                      try simp only [Act.put, List.setIfInBounds_toArray, List.set_cons_zero, List.set_cons_succ]
                      clear hw9 k8a b8
                      have z0 : w9.cell? ⟨xb, 0, none⟩ = some (.int .u64 0) := cell_of_block b9 rfl
                      have f0 := free_of_block (j := 0) b9
                      have z1 : w9.cell? ⟨xb, 1, none⟩ = some (.int .i64 0) := cell_of_block b9 rfl
                      have f1 := free_of_block (j := 1) b9
                      have z2 : w9.cell? ⟨xb, 2, none⟩ = some (.int .u64 0) := cell_of_block b9 rfl
                      have f2 := free_of_block (j := 2) b9
                      have z3 : w9.cell? ⟨xb, 3, none⟩ = some (.int .i64 0) := cell_of_block b9 rfl
                      have f3 := free_of_block (j := 3) b9
                      have z4 : w9.cell? ⟨xb, 4, none⟩ = some (.int .i64 0) := cell_of_block b9 rfl
                      have f4 := free_of_block (j := 4) b9
                      have z5 : w9.cell? ⟨xb, 5, none⟩ = some (.bool false) := cell_of_block b9 rfl
                      have f5 := free_of_block (j := 5) b9
                      have z6 : w9.cell? ⟨xb, 6, none⟩ = some (.bool false) := cell_of_block b9 rfl
                      have f6 := free_of_block (j := 6) b9
                      have z7 : w9.cell? ⟨xb, 7, none⟩ = some (.bool false) := cell_of_block b9 rfl
                      have f7 := free_of_block (j := 7) b9
                      refine wpAnyH_take (i := 33) (oi := { dst := some 92, op := Op.build 38 #[(0, Operand.tmp 68), (1, Operand.tmp 69), (2, Operand.tmp 86), (3, Operand.tmp 89), (4, Operand.tmp 91)], type := 38, pos := "ref.go:165", after := #[{ on := 9, ground := Ground.data }, { on := 10, ground := Ground.data }, { on := 27, ground := Ground.data }, { on := 30, ground := Ground.data }, { on := 32, ground := Ground.data }], guard := none }) (v := .agg #[.int .u64 S.best.1, .int .i64 S.best.2.1, .int .u64 S.br, .int .i64 (k : Int), .int .i64 A, .bool false, .bool lr, .bool p.fwd]) rfl (by kernel_rfl) (by kernel_rfl) (by kernel_rfl) (fun _ _ _ h => h) (Or.inl ⟨by kernel_rfl, ?_⟩) hH ?_
                      · intro w hSw; (try dsimp only at hSw); go_simp
                      try simp only [Act.put, List.setIfInBounds_toArray, List.set_cons_zero, List.set_cons_succ]
                      refine wpAnyH_ready (rs := [35]) (by kernel_rfl) (by simp) ?_
                      refine AllReadyH.cons rfl (fun K hK => ?_) AllReadyH.nil
                      go_simp
                      have KY := ((((((((k9.setCell (p := ⟨xb, 0, none⟩) g9 (.int .u64 S.best.1)).setCell (p := ⟨xb, 1, none⟩) g9 (.int .i64 S.best.2.1)).setCell (p := ⟨xb, 2, none⟩) g9 (.int .u64 S.br)).setCell (p := ⟨xb, 3, none⟩) g9 (.int .i64 (k : Int))).setCell (p := ⟨xb, 4, none⟩) g9 (.int .i64 A)).setCell (p := ⟨xb, 5, none⟩) g9 (.bool false)).setCell (p := ⟨xb, 6, none⟩) g9 (.bool lr)).setCell (p := ⟨xb, 7, none⟩) g9 (.bool p.fwd))
                      refine hK.out _ _ (KF.out _ KY) (fun hH => ?_)
                      clear hK K
                      try simp only [Act.put, List.setIfInBounds_toArray, List.set_cons_zero, List.set_cons_succ]
                      refine wpAnyH_done (by kernel_rfl) ?_ _
                      have KX := Lib.hid KY
                      have BX := Lib.hid (show ((((((((w9.setCell ⟨xb, 0, none⟩ (.int .u64 S.best.1)).setCell ⟨xb, 1, none⟩ (.int .i64 S.best.2.1)).setCell ⟨xb, 2, none⟩ (.int .u64 S.br)).setCell ⟨xb, 3, none⟩ (.int .i64 (k : Int))).setCell ⟨xb, 4, none⟩ (.int .i64 A)).setCell ⟨xb, 5, none⟩ (.bool false)).setCell ⟨xb, 6, none⟩ (.bool lr)).setCell ⟨xb, 7, none⟩ (.bool p.fwd)).heap[xb]? = some (.cells #[.int .u64 S.best.1, .int .i64 S.best.2.1, .int .u64 S.br, .int .i64 (k : Int), .int .i64 A, .bool false, .bool lr, .bool p.fwd] 38 (0, 0)) from (heap_store (j := 7) (v := .bool p.fwd) (heap_store (j := 6) (v := .bool lr) (heap_store (j := 5) (v := .bool false) (heap_store (j := 4) (v := .int .i64 A) (heap_store (j := 3) (v := .int .i64 (k : Int)) (heap_store (j := 2) (v := .int .u64 S.br) (heap_store (j := 1) (v := .int .i64 S.best.2.1) (heap_store (j := 0) (v := .int .u64 S.best.1) b9)))))))))
                      have GX := Lib.hid g9
                      clear z0 f0 z1 f1 z2 f2 z3 f3 z4 f4 z5 f5 z6 f6 z7 f7 KY k9 b9 g9
                      generalize ((((((((w9.setCell ⟨xb, 0, none⟩ (.int .u64 S.best.1)).setCell ⟨xb, 1, none⟩ (.int .i64 S.best.2.1)).setCell ⟨xb, 2, none⟩ (.int .u64 S.br)).setCell ⟨xb, 3, none⟩ (.int .i64 (k : Int))).setCell ⟨xb, 4, none⟩ (.int .i64 A)).setCell ⟨xb, 5, none⟩ (.bool false)).setCell ⟨xb, 6, none⟩ (.bool lr)).setCell ⟨xb, 7, none⟩ (.bool p.fwd)) = WX at KX BX ⊢
                      have z0 : WX.cell? ⟨xb, 0, none⟩ = some (.int .u64 S.best.1) := cell_of_block BX.out rfl
                      have z1 : WX.cell? ⟨xb, 1, none⟩ = some (.int .i64 S.best.2.1) := cell_of_block BX.out rfl
                      have z2 : WX.cell? ⟨xb, 2, none⟩ = some (.int .u64 S.br) := cell_of_block BX.out rfl
                      have z3 : WX.cell? ⟨xb, 3, none⟩ = some (.int .i64 (k : Int)) := cell_of_block BX.out rfl
                      have z4 : WX.cell? ⟨xb, 4, none⟩ = some (.int .i64 A) := cell_of_block BX.out rfl
                      have z5 : WX.cell? ⟨xb, 5, none⟩ = some (.bool false) := cell_of_block BX.out rfl
                      have z6 : WX.cell? ⟨xb, 6, none⟩ = some (.bool lr) := cell_of_block BX.out rfl
                      have z7 : WX.cell? ⟨xb, 7, none⟩ = some (.bool p.fwd) := cell_of_block BX.out rfl
                      have HO6 := Lib.hid (iowns_below HO1.out KX.out)
                      have K6 := Lib.hid (K1.out.trans (KX.out.mono K1.out.size))
                      have n3 := Lib.hid (show V.heap.size ≤ (WX.alloc (.cells #[.int .i64 (k : Int), .int .u64 S.best.1, .int .i64 S.best.2.1, .int .u64 S.br, .int .i64 (k : Int), .int .i64 A, .bool false, .bool lr, .bool p.fwd] 72)).heap.size by have := K6.out.size; simp; omega)
                      have NEW := Lib.hid (cells_new WX [.int .i64 (k : Int), .int .u64 S.best.1, .int .i64 S.best.2.1, .int .u64 S.br, .int .i64 (k : Int), .int .i64 A, .bool false, .bool lr, .bool p.fwd] 72)
                      have HO7 := Lib.hid (HO6.out.alloc (.cells #[.int .i64 (k : Int), .int .u64 S.best.1, .int .i64 S.best.2.1, .int .u64 S.br, .int .i64 (k : Int), .int .i64 A, .bool false, .bool lr, .bool p.fwd] 72))
                      have K7 := Lib.hid (K6.out.alloc K6.out.size (.cells #[.int .i64 (k : Int), .int .u64 S.best.1, .int .i64 S.best.2.1, .int .u64 S.br, .int .i64 (k : Int), .int .i64 A, .bool false, .bool lr, .bool p.fwd] 72))
                      have HON := Lib.hid (one_O ((k : Int), (⟨(S.best.1, S.best.2.1, S.br, (k : Int)), A, false, lr, p.fwd⟩ : Tell)))
                      replace HON : Hid (∀ u ∈ ([.int .i64 (k : Int), .int .u64 S.best.1, .int .i64 S.best.2.1, .int .u64 S.br, .int .i64 (k : Int), .int .i64 A, .bool false, .bool lr, .bool p.fwd] : List Value), u.oneCell' = true) := HON
                      clear KF TE LE k0 k1 z11 x0 x2 x4 x5 x6 x7 x8 HO6 K6 hH
                      go_wp2_with (at_builtin; refine wpList_append_own _ rfl _ _ 70 rfl V.heap.size 72 i0 (.agg #[.int .i64 0, .int .u64 0, .int .i64 0, .int .u64 0, .int .i64 0, .int .i64 0, .bool false, .bool false, .bool false]) 9 56 Try.underlying70 hi hz0 hz1 hz2 rfl (by decide) _ _ _ rfl HO7.out ⟨WX.heap.size, 0, none⟩ 1 1 [.int .i64 (k : Int), .int .u64 S.best.1, .int .i64 S.best.2.1, .int .u64 S.br, .int .i64 (k : Int), .int .i64 A, .bool false, .bool lr, .bool p.fwd] rfl rfl NEW.out HON.out n1'.out n2'.out n3.out ?_)
                      intro v' w6 hown' hgrow _
                      have HO8 := Lib.hid hown'
                      have K8 := Lib.hid (K7.out.grown hgrow n3.out (fun j hj => (HO7.out.lt j hj).1))
                      clear hown' hgrow HO7 K7 NEW z0 z1 z2 z3 z4 z5 z6 z7
                      go_wp2_with fail
                      go_roundw
                      case rel => exact ⟨k + 1, by omega, by go_num, Lib.hid (by rw [HTT.out, List.length_append, List.flatMap_append]; simpa [cellsO] using HO8.out), Lib.hid (by rw [HTT.out, List.length_append]; have := HC.out; simp; omega), K8⟩
                      case measure => simp [intOf]; omega
                  · refine AllReadyH.cons rfl (fun K hK => ?_) AllReadyH.nil
                    go_simp
                    refine hK.out _ _ (KF.out _ k1) (fun hH => ?_)
                    clear hK K
                    try simp only [Act.put, List.setIfInBounds_toArray, List.set_cons_zero, List.set_cons_succ]
                    have b1 : ((W1.alloc (.cells #[.int .u64 0, .int .i64 0, .int .u64 0, .int .i64 0, .int .i64 0, .bool false, .bool false, .bool false] 38)).drew).heap[W1.heap.size]? = some (.cells #[.int .u64 0, .int .i64 0, .int .u64 0, .int .i64 0, .int .i64 0, .bool false, .bool false, .bool false] 38 (0, 0)) := heap_new W1 (.cells #[.int .u64 0, .int .i64 0, .int .u64 0, .int .i64 0, .int .i64 0, .bool false, .bool false, .bool false] 38)
                    generalize (W1.alloc (.cells #[.int .u64 0, .int .i64 0, .int .u64 0, .int .i64 0, .int .i64 0, .bool false, .bool false, .bool false] 38)).drew = U1 at k1 b1 hH ⊢
                    have g9 : W1.heap.size ≤ W1.heap.size := Nat.le_refl _
                    refine wpAnyH_ready (rs := [9]) (by kernel_rfl) (by simp) ?_
                    refine AllReadyH.cons rfl (fun K hK => ?_) AllReadyH.nil
                    go_simp
                    with_reducible refine (TE.out _).mono ?_
                    rintro e w8 ⟨rfl, hb8⟩
                    try go_wp2_with fail
                    have k8 := k1.trans (hb8.mono k1.size)
                    have b8 := below_block hb8 (lt_of_block b1) b1
                    refine hK.out _ _ (KF.out _ k8) (fun hH => ?_)
                    clear hK K
                    try simp only [Act.put, List.setIfInBounds_toArray, List.set_cons_zero, List.set_cons_succ]
                    clear hb8 b1
                    refine wpAnyH_take (i := 16) (oi := { dst := some 75, op := Op.move (Operand.tmp 74), type := 4, pos := "ref.go:165", after := #[{ on := 15, ground := Ground.data }, { on := 9, ground := Ground.chain }], guard := none }) (v := .bool false) rfl (by kernel_rfl) (by kernel_rfl) (by kernel_rfl) (fun _ _ _ h => h) (Or.inl ⟨by kernel_rfl, ?_⟩) hH ?_
                    · intro w hSw; (try dsimp only at hSw); go_simp
                    try simp only [Act.put, List.setIfInBounds_toArray, List.set_cons_zero, List.set_cons_succ]
                    refine wpAnyH_take (i := 17) (oi := { dst := some 76, op := Op.move (Operand.tmp 0), type := 31, pos := "ref.go:165", after := #[{ on := 16, ground := Ground.guard }], guard := some (16, true) }) (v := undef) rfl (by kernel_rfl) (by kernel_rfl) (by kernel_rfl) (fun _ _ _ h => h) (Or.inr ⟨by kernel_rfl, rfl⟩) hH ?_
                    try simp only [Act.put, List.setIfInBounds_toArray, List.set_cons_zero, List.set_cons_succ]
                    refine wpAnyH_take (i := 18) (oi := { dst := some 77, op := Op.nilCheck (Operand.tmp 76), type := 0, pos := "ref.go:165", after := #[{ on := 17, ground := Ground.data }, { on := 16, ground := Ground.guard }], guard := some (16, true) }) (v := undef) rfl (by kernel_rfl) (by kernel_rfl) (by kernel_rfl) (fun _ _ _ h => h) (Or.inr ⟨by kernel_rfl, rfl⟩) hH ?_
                    try simp only [Act.put, List.setIfInBounds_toArray, List.set_cons_zero, List.set_cons_succ]
                    refine wpAnyH_take (i := 19) (oi := { dst := some 78, op := Op.fieldAddr 67 (Operand.tmp 77) 2, type := 0, pos := "ref.go:165", after := #[{ on := 18, ground := Ground.data }, { on := 16, ground := Ground.guard }], guard := some (16, true) }) (v := undef) rfl (by kernel_rfl) (by kernel_rfl) (by kernel_rfl) (fun _ _ _ h => h) (Or.inr ⟨by kernel_rfl, rfl⟩) hH ?_
                    try simp only [Act.put, List.setIfInBounds_toArray, List.set_cons_zero, List.set_cons_succ]
                    refine wpAnyH_take (i := 20) (oi := { dst := some 79, op := Op.load 3 (Operand.tmp 78), type := 3, pos := "ref.go:165", after := #[{ on := 19, ground := Ground.data }, { on := 16, ground := Ground.guard }], guard := some (16, true) }) (v := undef) rfl (by kernel_rfl) (by kernel_rfl) (by kernel_rfl) (fun _ _ _ h => h) (Or.inr ⟨by kernel_rfl, rfl⟩) hH ?_
                    try simp only [Act.put, List.setIfInBounds_toArray, List.set_cons_zero, List.set_cons_succ]
                    refine wpAnyH_take (i := 21) (oi := { dst := some 80, op := Op.move (Operand.tmp 0), type := 31, pos := "ref.go:165", after := #[{ on := 16, ground := Ground.guard }], guard := some (16, true) }) (v := undef) rfl (by kernel_rfl) (by kernel_rfl) (by kernel_rfl) (fun _ _ _ h => h) (Or.inr ⟨by kernel_rfl, rfl⟩) hH ?_
                    try simp only [Act.put, List.setIfInBounds_toArray, List.set_cons_zero, List.set_cons_succ]
                    refine wpAnyH_take (i := 22) (oi := { dst := some 81, op := Op.nilCheck (Operand.tmp 80), type := 0, pos := "ref.go:165", after := #[{ on := 21, ground := Ground.data }, { on := 16, ground := Ground.guard }], guard := some (16, true) }) (v := undef) rfl (by kernel_rfl) (by kernel_rfl) (by kernel_rfl) (fun _ _ _ h => h) (Or.inr ⟨by kernel_rfl, rfl⟩) hH ?_
                    try simp only [Act.put, List.setIfInBounds_toArray, List.set_cons_zero, List.set_cons_succ]
                    refine wpAnyH_take (i := 23) (oi := { dst := some 82, op := Op.fieldAddr 67 (Operand.tmp 81) 5, type := 0, pos := "ref.go:165", after := #[{ on := 22, ground := Ground.data }, { on := 16, ground := Ground.guard }], guard := some (16, true) }) (v := undef) rfl (by kernel_rfl) (by kernel_rfl) (by kernel_rfl) (fun _ _ _ h => h) (Or.inr ⟨by kernel_rfl, rfl⟩) hH ?_
                    try simp only [Act.put, List.setIfInBounds_toArray, List.set_cons_zero, List.set_cons_succ]
                    refine wpAnyH_take (i := 24) (oi := { dst := some 83, op := Op.load 3 (Operand.tmp 82), type := 3, pos := "ref.go:165", after := #[{ on := 23, ground := Ground.data }, { on := 16, ground := Ground.guard }], guard := some (16, true) }) (v := undef) rfl (by kernel_rfl) (by kernel_rfl) (by kernel_rfl) (fun _ _ _ h => h) (Or.inr ⟨by kernel_rfl, rfl⟩) hH ?_
                    try simp only [Act.put, List.setIfInBounds_toArray, List.set_cons_zero, List.set_cons_succ]
                    refine wpAnyH_take (i := 25) (oi := { dst := some 84, op := Op.binOp BinOp.add 3 (Operand.tmp 83) (Operand.const (Value.int IntKind.i64 4)) 3, type := 3, pos := "ref.go:165", after := #[{ on := 24, ground := Ground.data }, { on := 16, ground := Ground.guard }], guard := some (16, true) }) (v := undef) rfl (by kernel_rfl) (by kernel_rfl) (by kernel_rfl) (fun _ _ _ h => h) (Or.inr ⟨by kernel_rfl, rfl⟩) hH ?_
                    try simp only [Act.put, List.setIfInBounds_toArray, List.set_cons_zero, List.set_cons_succ]
                    refine wpAnyH_take (i := 26) (oi := { dst := some 85, op := Op.binOp BinOp.lss 3 (Operand.tmp 79) (Operand.tmp 84) 3, type := 4, pos := "ref.go:165", after := #[{ on := 20, ground := Ground.data }, { on := 25, ground := Ground.data }, { on := 16, ground := Ground.guard }], guard := some (16, true) }) (v := undef) rfl (by kernel_rfl) (by kernel_rfl) (by kernel_rfl) (fun _ _ _ h => h) (Or.inr ⟨by kernel_rfl, rfl⟩) hH ?_
                    try simp only [Act.put, List.setIfInBounds_toArray, List.set_cons_zero, List.set_cons_succ]
                    refine wpAnyH_take (i := 27) (oi := { dst := some 86, op := Op.pick (Operand.tmp 75) (Operand.tmp 85) (Operand.const (Value.bool false)), type := 4, pos := "ref.go:165", after := #[{ on := 16, ground := Ground.data }, { on := 26, ground := Ground.data }], guard := none }) (v := .bool false) rfl (by kernel_rfl) (by kernel_rfl) (by kernel_rfl) (fun _ _ _ h => h) (Or.inl ⟨by kernel_rfl, ?_⟩) hH ?_
                    · intro w hSw; (try dsimp only at hSw); go_simp
                    try simp only [Act.put, List.setIfInBounds_toArray, List.set_cons_zero, List.set_cons_succ]
                    refine wpAnyH_ready (rs := [30]) (by kernel_rfl) (by simp) ?_
                    refine AllReadyH.cons rfl (fun K hK => ?_) AllReadyH.nil
                    go_simp
                    with_reducible refine (LE.out _ k8).mono ?_
                    rintro e w9 ⟨rfl, m9, hw9⟩
                    replace hw9 := Lib.hid hw9
                    try go_wp2_with fail
                    have k9 : Below W1.heap.size W1 w9 := by rw [hw9.out]; exact below_drewN k8 m9
                    have b9 : w9.heap[W1.heap.size]? = some (.cells #[.int .u64 0, .int .i64 0, .int .u64 0, .int .i64 0, .int .i64 0, .bool false, .bool false, .bool false] 38 (0, 0)) := by rw [hw9.out]; exact b8
                    refine hK.out _ _ (KF.out _ k9) (fun hH => ?_)
                    clear hK K
                    try simp only [Act.put, List.setIfInBounds_toArray, List.set_cons_zero, List.set_cons_succ]
                    clear hw9 k8 b8
                    have z0 : w9.cell? ⟨W1.heap.size, 0, none⟩ = some (.int .u64 0) := cell_of_block b9 rfl
                    have f0 := free_of_block (j := 0) b9
                    have z1 : w9.cell? ⟨W1.heap.size, 1, none⟩ = some (.int .i64 0) := cell_of_block b9 rfl
                    have f1 := free_of_block (j := 1) b9
                    have z2 : w9.cell? ⟨W1.heap.size, 2, none⟩ = some (.int .u64 0) := cell_of_block b9 rfl
                    have f2 := free_of_block (j := 2) b9
                    have z3 : w9.cell? ⟨W1.heap.size, 3, none⟩ = some (.int .i64 0) := cell_of_block b9 rfl
                    have f3 := free_of_block (j := 3) b9
                    have z4 : w9.cell? ⟨W1.heap.size, 4, none⟩ = some (.int .i64 0) := cell_of_block b9 rfl
                    have f4 := free_of_block (j := 4) b9
                    have z5 : w9.cell? ⟨W1.heap.size, 5, none⟩ = some (.bool false) := cell_of_block b9 rfl
                    have f5 := free_of_block (j := 5) b9
                    have z6 : w9.cell? ⟨W1.heap.size, 6, none⟩ = some (.bool false) := cell_of_block b9 rfl
                    have f6 := free_of_block (j := 6) b9
                    have z7 : w9.cell? ⟨W1.heap.size, 7, none⟩ = some (.bool false) := cell_of_block b9 rfl
                    have f7 := free_of_block (j := 7) b9
                    refine wpAnyH_take (i := 33) (oi := { dst := some 92, op := Op.build 38 #[(0, Operand.tmp 68), (1, Operand.tmp 69), (2, Operand.tmp 86), (3, Operand.tmp 89), (4, Operand.tmp 91)], type := 38, pos := "ref.go:165", after := #[{ on := 9, ground := Ground.data }, { on := 10, ground := Ground.data }, { on := 27, ground := Ground.data }, { on := 30, ground := Ground.data }, { on := 32, ground := Ground.data }], guard := none }) (v := .agg #[.int .u64 S.best.1, .int .i64 S.best.2.1, .int .u64 S.br, .int .i64 (k : Int), .int .i64 A, .bool false, .bool lr, .bool p.fwd]) rfl (by kernel_rfl) (by kernel_rfl) (by kernel_rfl) (fun _ _ _ h => h) (Or.inl ⟨by kernel_rfl, ?_⟩) hH ?_
                    · intro w hSw; (try dsimp only at hSw); go_simp
                    try simp only [Act.put, List.setIfInBounds_toArray, List.set_cons_zero, List.set_cons_succ]
                    refine wpAnyH_ready (rs := [35]) (by kernel_rfl) (by simp) ?_
                    refine AllReadyH.cons rfl (fun K hK => ?_) AllReadyH.nil
                    go_simp
                    have KY := ((((((((k9.setCell (p := ⟨W1.heap.size, 0, none⟩) g9 (.int .u64 S.best.1)).setCell (p := ⟨W1.heap.size, 1, none⟩) g9 (.int .i64 S.best.2.1)).setCell (p := ⟨W1.heap.size, 2, none⟩) g9 (.int .u64 S.br)).setCell (p := ⟨W1.heap.size, 3, none⟩) g9 (.int .i64 (k : Int))).setCell (p := ⟨W1.heap.size, 4, none⟩) g9 (.int .i64 A)).setCell (p := ⟨W1.heap.size, 5, none⟩) g9 (.bool false)).setCell (p := ⟨W1.heap.size, 6, none⟩) g9 (.bool lr)).setCell (p := ⟨W1.heap.size, 7, none⟩) g9 (.bool p.fwd))
                    refine hK.out _ _ (KF.out _ KY) (fun hH => ?_)
                    clear hK K
                    try simp only [Act.put, List.setIfInBounds_toArray, List.set_cons_zero, List.set_cons_succ]
                    refine wpAnyH_done (by kernel_rfl) ?_ _
                    have KX := Lib.hid KY
                    have BX := Lib.hid (show ((((((((w9.setCell ⟨W1.heap.size, 0, none⟩ (.int .u64 S.best.1)).setCell ⟨W1.heap.size, 1, none⟩ (.int .i64 S.best.2.1)).setCell ⟨W1.heap.size, 2, none⟩ (.int .u64 S.br)).setCell ⟨W1.heap.size, 3, none⟩ (.int .i64 (k : Int))).setCell ⟨W1.heap.size, 4, none⟩ (.int .i64 A)).setCell ⟨W1.heap.size, 5, none⟩ (.bool false)).setCell ⟨W1.heap.size, 6, none⟩ (.bool lr)).setCell ⟨W1.heap.size, 7, none⟩ (.bool p.fwd)).heap[W1.heap.size]? = some (.cells #[.int .u64 S.best.1, .int .i64 S.best.2.1, .int .u64 S.br, .int .i64 (k : Int), .int .i64 A, .bool false, .bool lr, .bool p.fwd] 38 (0, 0)) from (heap_store (j := 7) (v := .bool p.fwd) (heap_store (j := 6) (v := .bool lr) (heap_store (j := 5) (v := .bool false) (heap_store (j := 4) (v := .int .i64 A) (heap_store (j := 3) (v := .int .i64 (k : Int)) (heap_store (j := 2) (v := .int .u64 S.br) (heap_store (j := 1) (v := .int .i64 S.best.2.1) (heap_store (j := 0) (v := .int .u64 S.best.1) b9)))))))))
                    have GX := Lib.hid g9
                    clear z0 f0 z1 f1 z2 f2 z3 f3 z4 f4 z5 f5 z6 f6 z7 f7 KY k9 b9 g9
                    generalize ((((((((w9.setCell ⟨W1.heap.size, 0, none⟩ (.int .u64 S.best.1)).setCell ⟨W1.heap.size, 1, none⟩ (.int .i64 S.best.2.1)).setCell ⟨W1.heap.size, 2, none⟩ (.int .u64 S.br)).setCell ⟨W1.heap.size, 3, none⟩ (.int .i64 (k : Int))).setCell ⟨W1.heap.size, 4, none⟩ (.int .i64 A)).setCell ⟨W1.heap.size, 5, none⟩ (.bool false)).setCell ⟨W1.heap.size, 6, none⟩ (.bool lr)).setCell ⟨W1.heap.size, 7, none⟩ (.bool p.fwd)) = WX at KX BX ⊢
                    have z0 : WX.cell? ⟨W1.heap.size, 0, none⟩ = some (.int .u64 S.best.1) := cell_of_block BX.out rfl
                    have z1 : WX.cell? ⟨W1.heap.size, 1, none⟩ = some (.int .i64 S.best.2.1) := cell_of_block BX.out rfl
                    have z2 : WX.cell? ⟨W1.heap.size, 2, none⟩ = some (.int .u64 S.br) := cell_of_block BX.out rfl
                    have z3 : WX.cell? ⟨W1.heap.size, 3, none⟩ = some (.int .i64 (k : Int)) := cell_of_block BX.out rfl
                    have z4 : WX.cell? ⟨W1.heap.size, 4, none⟩ = some (.int .i64 A) := cell_of_block BX.out rfl
                    have z5 : WX.cell? ⟨W1.heap.size, 5, none⟩ = some (.bool false) := cell_of_block BX.out rfl
                    have z6 : WX.cell? ⟨W1.heap.size, 6, none⟩ = some (.bool lr) := cell_of_block BX.out rfl
                    have z7 : WX.cell? ⟨W1.heap.size, 7, none⟩ = some (.bool p.fwd) := cell_of_block BX.out rfl
                    have HO6 := Lib.hid (iowns_below HO1.out KX.out)
                    have K6 := Lib.hid (K1.out.trans (KX.out.mono K1.out.size))
                    have n3 := Lib.hid (show V.heap.size ≤ (WX.alloc (.cells #[.int .i64 (k : Int), .int .u64 S.best.1, .int .i64 S.best.2.1, .int .u64 S.br, .int .i64 (k : Int), .int .i64 A, .bool false, .bool lr, .bool p.fwd] 72)).heap.size by have := K6.out.size; simp; omega)
                    have NEW := Lib.hid (cells_new WX [.int .i64 (k : Int), .int .u64 S.best.1, .int .i64 S.best.2.1, .int .u64 S.br, .int .i64 (k : Int), .int .i64 A, .bool false, .bool lr, .bool p.fwd] 72)
                    have HO7 := Lib.hid (HO6.out.alloc (.cells #[.int .i64 (k : Int), .int .u64 S.best.1, .int .i64 S.best.2.1, .int .u64 S.br, .int .i64 (k : Int), .int .i64 A, .bool false, .bool lr, .bool p.fwd] 72))
                    have K7 := Lib.hid (K6.out.alloc K6.out.size (.cells #[.int .i64 (k : Int), .int .u64 S.best.1, .int .i64 S.best.2.1, .int .u64 S.br, .int .i64 (k : Int), .int .i64 A, .bool false, .bool lr, .bool p.fwd] 72))
                    have HON := Lib.hid (one_O ((k : Int), (⟨(S.best.1, S.best.2.1, S.br, (k : Int)), A, false, lr, p.fwd⟩ : Tell)))
                    replace HON : Hid (∀ u ∈ ([.int .i64 (k : Int), .int .u64 S.best.1, .int .i64 S.best.2.1, .int .u64 S.br, .int .i64 (k : Int), .int .i64 A, .bool false, .bool lr, .bool p.fwd] : List Value), u.oneCell' = true) := HON
                    clear KF TE LE k0 k1 z11 x0 x2 x4 x5 x6 x7 x8 HO6 K6 hH
                    go_wp2_with (at_builtin; refine wpList_append_own _ rfl _ _ 70 rfl V.heap.size 72 i0 (.agg #[.int .i64 0, .int .u64 0, .int .i64 0, .int .u64 0, .int .i64 0, .int .i64 0, .bool false, .bool false, .bool false]) 9 56 Try.underlying70 hi hz0 hz1 hz2 rfl (by decide) _ _ _ rfl HO7.out ⟨WX.heap.size, 0, none⟩ 1 1 [.int .i64 (k : Int), .int .u64 S.best.1, .int .i64 S.best.2.1, .int .u64 S.br, .int .i64 (k : Int), .int .i64 A, .bool false, .bool lr, .bool p.fwd] rfl rfl NEW.out HON.out n1'.out n2'.out n3.out ?_)
                    intro v' w6 hown' hgrow _
                    have HO8 := Lib.hid hown'
                    have K8 := Lib.hid (K7.out.grown hgrow n3.out (fun j hj => (HO7.out.lt j hj).1))
                    clear hown' hgrow HO7 K7 NEW z0 z1 z2 z3 z4 z5 z6 z7
                    go_wp2_with fail
                    go_roundw
                    case rel => exact ⟨k + 1, by omega, by go_num, Lib.hid (by rw [HTT.out, List.length_append, List.flatMap_append]; simpa [cellsO] using HO8.out), Lib.hid (by rw [HTT.out, List.length_append]; have := HC.out; simp; omega), K8⟩
                    case measure => simp [intOf]; omega
                | true =>
                  obtain rfl : nw = decide (S.now < S.chg + 4) := by rw [NW.out, e1, Bool.true_and]
                  clear NW
                  refine wp_region_held_drew (S := fun U => U.cell? ⟨q, 0, none⟩ = some (.int .u64 S.br) ∧ U.cell? ⟨q, 2, none⟩ = some (.int .i64 S.now) ∧ U.cell? ⟨q, 4, none⟩ = some (.int .u64 S.best.1) ∧ U.cell? ⟨q, 5, none⟩ = some (.int .i64 S.best.2.1) ∧ U.cell? ⟨q, 6, none⟩ = some (.int .u64 S.best.2.2.1) ∧ U.cell? ⟨q, 7, none⟩ = some (.int .i64 S.best.2.2.2) ∧ U.cell? ⟨q, 8, none⟩ = some (.int .i64 S.chg) ∧ U.cell? ⟨pb, 11, none⟩ = some (.bool p.fwd) ∧ Below W1.heap.size W1 U) (by kernel_rfl) (KF.out _ k0) (fun hH => ?_)
                  refine wpAnyH_take (i := 0) (oi := { dst := some 59, op := Op.move (Operand.tmp 0), type := 31, pos := "ref.go:165", after := #[], guard := none }) (v := .pointer (some ⟨q, 0, none⟩)) rfl (by kernel_rfl) (by kernel_rfl) (by kernel_rfl) (fun _ _ _ h => h) (Or.inl ⟨by kernel_rfl, ?_⟩) hH ?_
                  · intro w hSw; (try dsimp only at hSw); go_simp
                  try simp only [Act.put, List.setIfInBounds_toArray, List.set_cons_zero, List.set_cons_succ]
                  refine wpAnyH_take (i := 1) (oi := { dst := some 60, op := Op.nilCheck (Operand.tmp 59), type := 0, pos := "ref.go:165", after := #[{ on := 0, ground := Ground.data }], guard := none }) (v := .pointer (some ⟨q, 0, none⟩)) rfl (by kernel_rfl) (by kernel_rfl) (by kernel_rfl) (fun _ _ _ h => h) (Or.inl ⟨by kernel_rfl, ?_⟩) hH ?_
                  · intro w hSw; (try dsimp only at hSw); go_simp
                  try simp only [Act.put, List.setIfInBounds_toArray, List.set_cons_zero, List.set_cons_succ]
                  refine wpAnyH_take (i := 2) (oi := { dst := some 61, op := Op.fieldAddr 67 (Operand.tmp 60) 0, type := 0, pos := "ref.go:165", after := #[{ on := 1, ground := Ground.data }], guard := none }) (v := .pointer (some ⟨q, 0, none⟩)) rfl (by kernel_rfl) (by kernel_rfl) (by kernel_rfl) (fun _ _ _ h => h) (Or.inl ⟨by kernel_rfl, ?_⟩) hH ?_
                  · intro w hSw; (try dsimp only at hSw); go_simp
                  try simp only [Act.put, List.setIfInBounds_toArray, List.set_cons_zero, List.set_cons_succ]
                  refine wpAnyH_take (i := 3) (oi := { dst := some 62, op := Op.load 22 (Operand.tmp 61), type := 22, pos := "ref.go:165", after := #[{ on := 2, ground := Ground.data }], guard := none }) (v := .int .u64 S.br) rfl (by kernel_rfl) (by kernel_rfl) (by kernel_rfl) (fun _ _ _ h => h) (Or.inl ⟨by kernel_rfl, ?_⟩) hH ?_
                  · intro w hSw; (try dsimp only at hSw); go_simp
                  try simp only [Act.put, List.setIfInBounds_toArray, List.set_cons_zero, List.set_cons_succ]
                  refine wpAnyH_take (i := 4) (oi := { dst := some 63, op := Op.move (Operand.tmp 0), type := 31, pos := "ref.go:165", after := #[], guard := none }) (v := .pointer (some ⟨q, 0, none⟩)) rfl (by kernel_rfl) (by kernel_rfl) (by kernel_rfl) (fun _ _ _ h => h) (Or.inl ⟨by kernel_rfl, ?_⟩) hH ?_
                  · intro w hSw; (try dsimp only at hSw); go_simp
                  try simp only [Act.put, List.setIfInBounds_toArray, List.set_cons_zero, List.set_cons_succ]
                  refine wpAnyH_take (i := 5) (oi := { dst := some 64, op := Op.nilCheck (Operand.tmp 63), type := 0, pos := "ref.go:165", after := #[{ on := 4, ground := Ground.data }], guard := none }) (v := .pointer (some ⟨q, 0, none⟩)) rfl (by kernel_rfl) (by kernel_rfl) (by kernel_rfl) (fun _ _ _ h => h) (Or.inl ⟨by kernel_rfl, ?_⟩) hH ?_
                  · intro w hSw; (try dsimp only at hSw); go_simp
                  try simp only [Act.put, List.setIfInBounds_toArray, List.set_cons_zero, List.set_cons_succ]
                  refine wpAnyH_take (i := 6) (oi := { dst := some 65, op := Op.fieldAddr 67 (Operand.tmp 64) 4, type := 0, pos := "ref.go:165", after := #[{ on := 5, ground := Ground.data }], guard := none }) (v := .pointer (some ⟨q, 4, none⟩)) rfl (by kernel_rfl) (by kernel_rfl) (by kernel_rfl) (fun _ _ _ h => h) (Or.inl ⟨by kernel_rfl, ?_⟩) hH ?_
                  · intro w hSw; (try dsimp only at hSw); go_simp
                  try simp only [Act.put, List.setIfInBounds_toArray, List.set_cons_zero, List.set_cons_succ]
                  refine wpAnyH_take (i := 7) (oi := { dst := some 66, op := Op.load 36 (Operand.tmp 65), type := 36, pos := "ref.go:165", after := #[{ on := 6, ground := Ground.data }], guard := none }) (v := .agg #[.int .u64 S.best.1, .int .i64 S.best.2.1, .int .u64 S.best.2.2.1, .int .i64 S.best.2.2.2]) rfl (by kernel_rfl) (by kernel_rfl) (by kernel_rfl) (fun _ _ _ h => h) (Or.inl ⟨by kernel_rfl, ?_⟩) hH ?_
                  · intro w hSw; (try dsimp only at hSw); go_simp
                  try simp only [Act.put, List.setIfInBounds_toArray, List.set_cons_zero, List.set_cons_succ]
                  refine wpAnyH_take (i := 8) (oi := { dst := some 67, op := Op.move (Operand.tmp 7), type := 3, pos := "ref.go:165", after := #[], guard := none }) (v := .int .i64 (k : Int)) rfl (by kernel_rfl) (by kernel_rfl) (by kernel_rfl) (fun _ _ _ h => h) (Or.inl ⟨by kernel_rfl, ?_⟩) hH ?_
                  · intro w hSw; (try dsimp only at hSw); go_simp
                  try simp only [Act.put, List.setIfInBounds_toArray, List.set_cons_zero, List.set_cons_succ]
                  refine wpAnyH_take (i := 10) (oi := { dst := some 69, op := Op.move (Operand.tmp 5), type := 3, pos := "ref.go:165", after := #[], guard := none }) (v := .int .i64 A) rfl (by kernel_rfl) (by kernel_rfl) (by kernel_rfl) (fun _ _ _ h => h) (Or.inl ⟨by kernel_rfl, ?_⟩) hH ?_
                  · intro w hSw; (try dsimp only at hSw); go_simp
                  try simp only [Act.put, List.setIfInBounds_toArray, List.set_cons_zero, List.set_cons_succ]
                  refine wpAnyH_take (i := 11) (oi := { dst := some 70, op := Op.move (Operand.tmp 0), type := 31, pos := "ref.go:165", after := #[], guard := none }) (v := .pointer (some ⟨q, 0, none⟩)) rfl (by kernel_rfl) (by kernel_rfl) (by kernel_rfl) (fun _ _ _ h => h) (Or.inl ⟨by kernel_rfl, ?_⟩) hH ?_
                  · intro w hSw; (try dsimp only at hSw); go_simp
                  try simp only [Act.put, List.setIfInBounds_toArray, List.set_cons_zero, List.set_cons_succ]
                  refine wpAnyH_take (i := 12) (oi := { dst := some 71, op := Op.nilCheck (Operand.tmp 70), type := 0, pos := "ref.go:165", after := #[{ on := 11, ground := Ground.data }], guard := none }) (v := .pointer (some ⟨q, 0, none⟩)) rfl (by kernel_rfl) (by kernel_rfl) (by kernel_rfl) (fun _ _ _ h => h) (Or.inl ⟨by kernel_rfl, ?_⟩) hH ?_
                  · intro w hSw; (try dsimp only at hSw); go_simp
                  try simp only [Act.put, List.setIfInBounds_toArray, List.set_cons_zero, List.set_cons_succ]
                  refine wpAnyH_take (i := 13) (oi := { dst := some 72, op := Op.fieldAddr 67 (Operand.tmp 71) 5, type := 0, pos := "ref.go:165", after := #[{ on := 12, ground := Ground.data }], guard := none }) (v := .pointer (some ⟨q, 8, none⟩)) rfl (by kernel_rfl) (by kernel_rfl) (by kernel_rfl) (fun _ _ _ h => h) (Or.inl ⟨by kernel_rfl, ?_⟩) hH ?_
                  · intro w hSw; (try dsimp only at hSw); go_simp
                  try simp only [Act.put, List.setIfInBounds_toArray, List.set_cons_zero, List.set_cons_succ]
                  refine wpAnyH_take (i := 14) (oi := { dst := some 73, op := Op.load 3 (Operand.tmp 72), type := 3, pos := "ref.go:165", after := #[{ on := 13, ground := Ground.data }], guard := none }) (v := .int .i64 S.chg) rfl (by kernel_rfl) (by kernel_rfl) (by kernel_rfl) (fun _ _ _ h => h) (Or.inl ⟨by kernel_rfl, ?_⟩) hH ?_
                  · intro w hSw; (try dsimp only at hSw); go_simp
                  try simp only [Act.put, List.setIfInBounds_toArray, List.set_cons_zero, List.set_cons_succ]
                  refine wpAnyH_take (i := 15) (oi := { dst := some 74, op := Op.binOp BinOp.geq 3 (Operand.tmp 73) (Operand.const (Value.int IntKind.i64 0)) 3, type := 4, pos := "ref.go:165", after := #[{ on := 14, ground := Ground.data }], guard := none }) (v := .bool true) rfl (by kernel_rfl) (by kernel_rfl) (by kernel_rfl) (fun _ _ _ h => h) (Or.inl ⟨by kernel_rfl, ?_⟩) hH ?_
                  · intro w hSw; (try dsimp only at hSw); go_simp
                  try simp only [Act.put, List.setIfInBounds_toArray, List.set_cons_zero, List.set_cons_succ]
                  refine wpAnyH_take (i := 28) (oi := { dst := some 87, op := Op.move (Operand.tmp 0), type := 31, pos := "ref.go:165", after := #[], guard := none }) (v := .pointer (some ⟨q, 0, none⟩)) rfl (by kernel_rfl) (by kernel_rfl) (by kernel_rfl) (fun _ _ _ h => h) (Or.inl ⟨by kernel_rfl, ?_⟩) hH ?_
                  · intro w hSw; (try dsimp only at hSw); go_simp
                  try simp only [Act.put, List.setIfInBounds_toArray, List.set_cons_zero, List.set_cons_succ]
                  refine wpAnyH_take (i := 29) (oi := { dst := some 88, op := Op.move (Operand.tmp 7), type := 3, pos := "ref.go:165", after := #[], guard := none }) (v := .int .i64 (k : Int)) rfl (by kernel_rfl) (by kernel_rfl) (by kernel_rfl) (fun _ _ _ h => h) (Or.inl ⟨by kernel_rfl, ?_⟩) hH ?_
                  · intro w hSw; (try dsimp only at hSw); go_simp
                  try simp only [Act.put, List.setIfInBounds_toArray, List.set_cons_zero, List.set_cons_succ]
                  refine wpAnyH_take (i := 31) (oi := { dst := some 90, op := Op.fieldAddr 69 (Operand.tmp 8) 8, type := 0, pos := "ref.go:165", after := #[], guard := none }) (v := .pointer (some ⟨pb, 11, none⟩)) rfl (by kernel_rfl) (by kernel_rfl) (by kernel_rfl) (fun _ _ _ h => h) (Or.inl ⟨by kernel_rfl, ?_⟩) hH ?_
                  · intro w hSw; (try dsimp only at hSw); go_simp
                  try simp only [Act.put, List.setIfInBounds_toArray, List.set_cons_zero, List.set_cons_succ]
                  refine wpAnyH_take (i := 32) (oi := { dst := some 91, op := Op.load 4 (Operand.tmp 90), type := 4, pos := "ref.go:165", after := #[{ on := 31, ground := Ground.data }], guard := none }) (v := .bool p.fwd) rfl (by kernel_rfl) (by kernel_rfl) (by kernel_rfl) (fun _ _ _ h => h) (Or.inl ⟨by kernel_rfl, ?_⟩) hH ?_
                  · intro w hSw; (try dsimp only at hSw); go_simp
                  try simp only [Act.put, List.setIfInBounds_toArray, List.set_cons_zero, List.set_cons_succ]
                  refine wpAnyH_ready (rs := [9, 34]) (by kernel_rfl) (by simp) ?_
                  refine AllReadyH.cons rfl (fun K hK => ?_) ?_
                  · go_simp
                    with_reducible refine (TE.out _).mono ?_
                    rintro e w8 ⟨rfl, hb8⟩
                    try go_wp2_with fail
                    have k8 := k0.trans (hb8.mono k0.size)
                    refine hK.out _ _ (KF.out _ k8) (fun hH => ?_)
                    clear hK K
                    try simp only [Act.put, List.setIfInBounds_toArray, List.set_cons_zero, List.set_cons_succ]
                    refine wpAnyH_take (i := 16) (oi := { dst := some 75, op := Op.move (Operand.tmp 74), type := 4, pos := "ref.go:165", after := #[{ on := 15, ground := Ground.data }, { on := 9, ground := Ground.chain }], guard := none }) (v := .bool true) rfl (by kernel_rfl) (by kernel_rfl) (by kernel_rfl) (fun _ _ _ h => h) (Or.inl ⟨by kernel_rfl, ?_⟩) hH ?_
                    · intro w hSw; (try dsimp only at hSw); go_simp
                    try simp only [Act.put, List.setIfInBounds_toArray, List.set_cons_zero, List.set_cons_succ]
                    refine wpAnyH_take (i := 17) (oi := { dst := some 76, op := Op.move (Operand.tmp 0), type := 31, pos := "ref.go:165", after := #[{ on := 16, ground := Ground.guard }], guard := some (16, true) }) (v := .pointer (some ⟨q, 0, none⟩)) rfl (by kernel_rfl) (by kernel_rfl) (by kernel_rfl) (fun _ _ _ h => h) (Or.inl ⟨by kernel_rfl, ?_⟩) hH ?_
                    · intro w hSw; (try dsimp only at hSw); go_simp
                    try simp only [Act.put, List.setIfInBounds_toArray, List.set_cons_zero, List.set_cons_succ]
                    refine wpAnyH_take (i := 18) (oi := { dst := some 77, op := Op.nilCheck (Operand.tmp 76), type := 0, pos := "ref.go:165", after := #[{ on := 17, ground := Ground.data }, { on := 16, ground := Ground.guard }], guard := some (16, true) }) (v := .pointer (some ⟨q, 0, none⟩)) rfl (by kernel_rfl) (by kernel_rfl) (by kernel_rfl) (fun _ _ _ h => h) (Or.inl ⟨by kernel_rfl, ?_⟩) hH ?_
                    · intro w hSw; (try dsimp only at hSw); go_simp
                    try simp only [Act.put, List.setIfInBounds_toArray, List.set_cons_zero, List.set_cons_succ]
                    refine wpAnyH_take (i := 19) (oi := { dst := some 78, op := Op.fieldAddr 67 (Operand.tmp 77) 2, type := 0, pos := "ref.go:165", after := #[{ on := 18, ground := Ground.data }, { on := 16, ground := Ground.guard }], guard := some (16, true) }) (v := .pointer (some ⟨q, 2, none⟩)) rfl (by kernel_rfl) (by kernel_rfl) (by kernel_rfl) (fun _ _ _ h => h) (Or.inl ⟨by kernel_rfl, ?_⟩) hH ?_
                    · intro w hSw; (try dsimp only at hSw); go_simp
                    try simp only [Act.put, List.setIfInBounds_toArray, List.set_cons_zero, List.set_cons_succ]
                    refine wpAnyH_take (i := 20) (oi := { dst := some 79, op := Op.load 3 (Operand.tmp 78), type := 3, pos := "ref.go:165", after := #[{ on := 19, ground := Ground.data }, { on := 16, ground := Ground.guard }], guard := some (16, true) }) (v := .int .i64 S.now) rfl (by kernel_rfl) (by kernel_rfl) (by kernel_rfl) (fun _ _ _ h => h) (Or.inl ⟨by kernel_rfl, ?_⟩) hH ?_
                    · intro w hSw; (try dsimp only at hSw); go_simp
                    try simp only [Act.put, List.setIfInBounds_toArray, List.set_cons_zero, List.set_cons_succ]
                    refine wpAnyH_take (i := 21) (oi := { dst := some 80, op := Op.move (Operand.tmp 0), type := 31, pos := "ref.go:165", after := #[{ on := 16, ground := Ground.guard }], guard := some (16, true) }) (v := .pointer (some ⟨q, 0, none⟩)) rfl (by kernel_rfl) (by kernel_rfl) (by kernel_rfl) (fun _ _ _ h => h) (Or.inl ⟨by kernel_rfl, ?_⟩) hH ?_
                    · intro w hSw; (try dsimp only at hSw); go_simp
                    try simp only [Act.put, List.setIfInBounds_toArray, List.set_cons_zero, List.set_cons_succ]
                    refine wpAnyH_take (i := 22) (oi := { dst := some 81, op := Op.nilCheck (Operand.tmp 80), type := 0, pos := "ref.go:165", after := #[{ on := 21, ground := Ground.data }, { on := 16, ground := Ground.guard }], guard := some (16, true) }) (v := .pointer (some ⟨q, 0, none⟩)) rfl (by kernel_rfl) (by kernel_rfl) (by kernel_rfl) (fun _ _ _ h => h) (Or.inl ⟨by kernel_rfl, ?_⟩) hH ?_
                    · intro w hSw; (try dsimp only at hSw); go_simp
                    try simp only [Act.put, List.setIfInBounds_toArray, List.set_cons_zero, List.set_cons_succ]
                    refine wpAnyH_take (i := 23) (oi := { dst := some 82, op := Op.fieldAddr 67 (Operand.tmp 81) 5, type := 0, pos := "ref.go:165", after := #[{ on := 22, ground := Ground.data }, { on := 16, ground := Ground.guard }], guard := some (16, true) }) (v := .pointer (some ⟨q, 8, none⟩)) rfl (by kernel_rfl) (by kernel_rfl) (by kernel_rfl) (fun _ _ _ h => h) (Or.inl ⟨by kernel_rfl, ?_⟩) hH ?_
                    · intro w hSw; (try dsimp only at hSw); go_simp
                    try simp only [Act.put, List.setIfInBounds_toArray, List.set_cons_zero, List.set_cons_succ]
                    refine wpAnyH_take (i := 24) (oi := { dst := some 83, op := Op.load 3 (Operand.tmp 82), type := 3, pos := "ref.go:165", after := #[{ on := 23, ground := Ground.data }, { on := 16, ground := Ground.guard }], guard := some (16, true) }) (v := .int .i64 S.chg) rfl (by kernel_rfl) (by kernel_rfl) (by kernel_rfl) (fun _ _ _ h => h) (Or.inl ⟨by kernel_rfl, ?_⟩) hH ?_
                    · intro w hSw; (try dsimp only at hSw); go_simp
                    try simp only [Act.put, List.setIfInBounds_toArray, List.set_cons_zero, List.set_cons_succ]
                    refine wpAnyH_take (i := 25) (oi := { dst := some 84, op := Op.binOp BinOp.add 3 (Operand.tmp 83) (Operand.const (Value.int IntKind.i64 4)) 3, type := 3, pos := "ref.go:165", after := #[{ on := 24, ground := Ground.data }, { on := 16, ground := Ground.guard }], guard := some (16, true) }) (v := .int .i64 (S.chg + 4)) rfl (by kernel_rfl) (by kernel_rfl) (by kernel_rfl) (fun _ _ _ h => h) (Or.inl ⟨by kernel_rfl, ?_⟩) hH ?_
                    · intro w hSw; (try dsimp only at hSw); go_simp
                    try simp only [Act.put, List.setIfInBounds_toArray, List.set_cons_zero, List.set_cons_succ]
                    refine wpAnyH_take (i := 26) (oi := { dst := some 85, op := Op.binOp BinOp.lss 3 (Operand.tmp 79) (Operand.tmp 84) 3, type := 4, pos := "ref.go:165", after := #[{ on := 20, ground := Ground.data }, { on := 25, ground := Ground.data }, { on := 16, ground := Ground.guard }], guard := some (16, true) }) (v := .bool (decide (S.now < S.chg + 4))) rfl (by kernel_rfl) (by kernel_rfl) (by kernel_rfl) (fun _ _ _ h => h) (Or.inl ⟨by kernel_rfl, ?_⟩) hH ?_
                    · intro w hSw; (try dsimp only at hSw); go_simp
                    try simp only [Act.put, List.setIfInBounds_toArray, List.set_cons_zero, List.set_cons_succ]
                    refine wpAnyH_take (i := 27) (oi := { dst := some 86, op := Op.pick (Operand.tmp 75) (Operand.tmp 85) (Operand.const (Value.bool false)), type := 4, pos := "ref.go:165", after := #[{ on := 16, ground := Ground.data }, { on := 26, ground := Ground.data }], guard := none }) (v := .bool (decide (S.now < S.chg + 4))) rfl (by kernel_rfl) (by kernel_rfl) (by kernel_rfl) (fun _ _ _ h => h) (Or.inl ⟨by kernel_rfl, ?_⟩) hH ?_
                    · intro w hSw; (try dsimp only at hSw); go_simp
                    try simp only [Act.put, List.setIfInBounds_toArray, List.set_cons_zero, List.set_cons_succ]
                    refine wpAnyH_ready (rs := [30, 34]) (by kernel_rfl) (by simp) ?_
                    refine AllReadyH.cons rfl (fun K hK => ?_) ?_
                    · go_simp
                      with_reducible refine (LE.out _ k8).mono ?_
                      rintro e w9 ⟨rfl, m9, hw9⟩
                      replace hw9 := Lib.hid hw9
                      try go_wp2_with fail
                      have k9 : Below W1.heap.size W1 w9 := by rw [hw9.out]; exact below_drewN k8 m9
                      refine hK.out _ _ (KF.out _ k9) (fun hH => ?_)
                      clear hK K
                      try simp only [Act.put, List.setIfInBounds_toArray, List.set_cons_zero, List.set_cons_succ]
                      refine wpAnyH_take (i := 33) (oi := { dst := some 92, op := Op.build 38 #[(0, Operand.tmp 68), (1, Operand.tmp 69), (2, Operand.tmp 86), (3, Operand.tmp 89), (4, Operand.tmp 91)], type := 38, pos := "ref.go:165", after := #[{ on := 9, ground := Ground.data }, { on := 10, ground := Ground.data }, { on := 27, ground := Ground.data }, { on := 30, ground := Ground.data }, { on := 32, ground := Ground.data }], guard := none }) (v := .agg #[.int .u64 S.best.1, .int .i64 S.best.2.1, .int .u64 S.br, .int .i64 (k : Int), .int .i64 A, .bool (decide (S.now < S.chg + 4)), .bool lr, .bool p.fwd]) rfl (by kernel_rfl) (by kernel_rfl) (by kernel_rfl) (fun _ _ _ h => h) (Or.inl ⟨by kernel_rfl, ?_⟩) hH ?_
                      · intro w hSw; (try dsimp only at hSw); go_simp
                      try simp only [Act.put, List.setIfInBounds_toArray, List.set_cons_zero, List.set_cons_succ]
                      refine wpAnyH_ready (rs := [34]) (by kernel_rfl) (by simp) ?_
                      refine AllReadyH.cons rfl (fun K hK => ?_) AllReadyH.nil
                      go_simp
                      refine hK.out _ _ (KF.out _ (k9.alloc k9.size _)) (fun hH => ?_)
                      clear hK K
                      try simp only [Act.put, List.setIfInBounds_toArray, List.set_cons_zero, List.set_cons_succ]
                      refine wpAnyH_ready (rs := [35]) (by kernel_rfl) (by simp) ?_
                      refine AllReadyH.cons rfl (fun K hK => ?_) AllReadyH.nil
                      go_simp
                      refine hK.out _ _ (KF.out _ (k9.alloc k9.size _)) (fun hH => ?_)
                      clear hK K
                      try simp only [Act.put, List.setIfInBounds_toArray, List.set_cons_zero, List.set_cons_succ]
                      refine wpAnyH_done (by kernel_rfl) ?_ _
                      have KX := Lib.hid (k9.alloc k9.size (.cells #[.int .u64 S.best.1, .int .i64 S.best.2.1, .int .u64 S.br, .int .i64 (k : Int), .int .i64 A, .bool (decide (S.now < S.chg + 4)), .bool lr, .bool p.fwd] 38))
                      have BX := Lib.hid (heap_new w9 (.cells #[.int .u64 S.best.1, .int .i64 S.best.2.1, .int .u64 S.br, .int .i64 (k : Int), .int .i64 A, .bool (decide (S.now < S.chg + 4)), .bool lr, .bool p.fwd] 38))
                      have GX := Lib.hid k9.size
                      clear hw9 k9 k8 hb8
                      generalize w9.alloc (.cells #[.int .u64 S.best.1, .int .i64 S.best.2.1, .int .u64 S.br, .int .i64 (k : Int), .int .i64 A, .bool (decide (S.now < S.chg + 4)), .bool lr, .bool p.fwd] 38) = WX at KX BX hH ⊢
                      generalize w9.heap.size = xb at BX GX ⊢
                      have z0 : WX.cell? ⟨xb, 0, none⟩ = some (.int .u64 S.best.1) := cell_of_block BX.out rfl
                      have z1 : WX.cell? ⟨xb, 1, none⟩ = some (.int .i64 S.best.2.1) := cell_of_block BX.out rfl
                      have z2 : WX.cell? ⟨xb, 2, none⟩ = some (.int .u64 S.br) := cell_of_block BX.out rfl
                      have z3 : WX.cell? ⟨xb, 3, none⟩ = some (.int .i64 (k : Int)) := cell_of_block BX.out rfl
                      have z4 : WX.cell? ⟨xb, 4, none⟩ = some (.int .i64 A) := cell_of_block BX.out rfl
                      have z5 : WX.cell? ⟨xb, 5, none⟩ = some (.bool (decide (S.now < S.chg + 4))) := cell_of_block BX.out rfl
                      have z6 : WX.cell? ⟨xb, 6, none⟩ = some (.bool lr) := cell_of_block BX.out rfl
                      have z7 : WX.cell? ⟨xb, 7, none⟩ = some (.bool p.fwd) := cell_of_block BX.out rfl
                      have HO6 := Lib.hid (iowns_below HO1.out KX.out)
                      have K6 := Lib.hid (K1.out.trans (KX.out.mono K1.out.size))
                      have n3 := Lib.hid (show V.heap.size ≤ (WX.alloc (.cells #[.int .i64 (k : Int), .int .u64 S.best.1, .int .i64 S.best.2.1, .int .u64 S.br, .int .i64 (k : Int), .int .i64 A, .bool (decide (S.now < S.chg + 4)), .bool lr, .bool p.fwd] 72)).heap.size by have := K6.out.size; simp; omega)
                      have NEW := Lib.hid (cells_new WX [.int .i64 (k : Int), .int .u64 S.best.1, .int .i64 S.best.2.1, .int .u64 S.br, .int .i64 (k : Int), .int .i64 A, .bool (decide (S.now < S.chg + 4)), .bool lr, .bool p.fwd] 72)
                      have HO7 := Lib.hid (HO6.out.alloc (.cells #[.int .i64 (k : Int), .int .u64 S.best.1, .int .i64 S.best.2.1, .int .u64 S.br, .int .i64 (k : Int), .int .i64 A, .bool (decide (S.now < S.chg + 4)), .bool lr, .bool p.fwd] 72))
                      have K7 := Lib.hid (K6.out.alloc K6.out.size (.cells #[.int .i64 (k : Int), .int .u64 S.best.1, .int .i64 S.best.2.1, .int .u64 S.br, .int .i64 (k : Int), .int .i64 A, .bool (decide (S.now < S.chg + 4)), .bool lr, .bool p.fwd] 72))
                      have HON := Lib.hid (one_O ((k : Int), (⟨(S.best.1, S.best.2.1, S.br, (k : Int)), A, (decide (S.now < S.chg + 4)), lr, p.fwd⟩ : Tell)))
                      replace HON : Hid (∀ u ∈ ([.int .i64 (k : Int), .int .u64 S.best.1, .int .i64 S.best.2.1, .int .u64 S.br, .int .i64 (k : Int), .int .i64 A, .bool (decide (S.now < S.chg + 4)), .bool lr, .bool p.fwd] : List Value), u.oneCell' = true) := HON
                      clear KF TE LE k0 k1 z11 x0 x2 x4 x5 x6 x7 x8 HO6 K6 hH
                      go_wp2_with (at_builtin; refine wpList_append_own _ rfl _ _ 70 rfl V.heap.size 72 i0 (.agg #[.int .i64 0, .int .u64 0, .int .i64 0, .int .u64 0, .int .i64 0, .int .i64 0, .bool false, .bool false, .bool false]) 9 56 Try.underlying70 hi hz0 hz1 hz2 rfl (by decide) _ _ _ rfl HO7.out ⟨WX.heap.size, 0, none⟩ 1 1 [.int .i64 (k : Int), .int .u64 S.best.1, .int .i64 S.best.2.1, .int .u64 S.br, .int .i64 (k : Int), .int .i64 A, .bool (decide (S.now < S.chg + 4)), .bool lr, .bool p.fwd] rfl rfl NEW.out HON.out n1'.out n2'.out n3.out ?_)
                      intro v' w6 hown' hgrow _
                      have HO8 := Lib.hid hown'
                      have K8 := Lib.hid (K7.out.grown hgrow n3.out (fun j hj => (HO7.out.lt j hj).1))
                      clear hown' hgrow HO7 K7 NEW z0 z1 z2 z3 z4 z5 z6 z7
                      go_wp2_with fail
                      go_roundw
                      case rel => exact ⟨k + 1, by omega, by go_num, Lib.hid (by rw [HTT.out, List.length_append, List.flatMap_append]; simpa [cellsO] using HO8.out), Lib.hid (by rw [HTT.out, List.length_append]; have := HC.out; simp; omega), K8⟩
                      case measure => simp [intOf]; omega
                    · refine AllReadyH.cons rfl (fun K hK => ?_) AllReadyH.nil
                      go_simp
                      refine hK.out _ _ (KF.out _ (k8.alloc k8.size _)) (fun hH => ?_)
                      clear hK K
                      try simp only [Act.put, List.setIfInBounds_toArray, List.set_cons_zero, List.set_cons_succ]
                      have k8a := k8.alloc k8.size (.cells #[.int .u64 0, .int .i64 0, .int .u64 0, .int .i64 0, .int .i64 0, .bool false, .bool false, .bool false] 38)
                      have b8 := heap_new w8 (.cells #[.int .u64 0, .int .i64 0, .int .u64 0, .int .i64 0, .int .i64 0, .bool false, .bool false, .bool false] 38)
                      have g9 : W1.heap.size ≤ w8.heap.size := k8.size
                      clear k8 hb8
                      generalize w8.alloc (.cells #[.int .u64 0, .int .i64 0, .int .u64 0, .int .i64 0, .int .i64 0, .bool false, .bool false, .bool false] 38) = U8 at k8a b8 hH ⊢
                      generalize w8.heap.size = xb at b8 g9 ⊢
                      refine wpAnyH_ready (rs := [30]) (by kernel_rfl) (by simp) ?_
                      refine AllReadyH.cons rfl (fun K hK => ?_) AllReadyH.nil
                      go_simp
                      with_reducible refine (LE.out _ k8a).mono ?_
                      rintro e w9 ⟨rfl, m9, hw9⟩
                      replace hw9 := Lib.hid hw9
                      try go_wp2_with fail
                      have k9 : Below W1.heap.size W1 w9 := by rw [hw9.out]; exact below_drewN k8a m9
                      have b9 : w9.heap[xb]? = some (.cells #[.int .u64 0, .int .i64 0, .int .u64 0, .int .i64 0, .int .i64 0, .bool false, .bool false, .bool false] 38 (0, 0)) := by rw [hw9.out]; exact b8
                      refine hK.out _ _ (KF.out _ k9) (fun hH => ?_)
                      clear hK K
                      try simp only [Act.put, List.setIfInBounds_toArray, List.set_cons_zero, List.set_cons_succ]
                      clear hw9 k8a b8
                      have z0 : w9.cell? ⟨xb, 0, none⟩ = some (.int .u64 0) := cell_of_block b9 rfl
                      have f0 := free_of_block (j := 0) b9
                      have z1 : w9.cell? ⟨xb, 1, none⟩ = some (.int .i64 0) := cell_of_block b9 rfl
                      have f1 := free_of_block (j := 1) b9
                      have z2 : w9.cell? ⟨xb, 2, none⟩ = some (.int .u64 0) := cell_of_block b9 rfl
                      have f2 := free_of_block (j := 2) b9
                      have z3 : w9.cell? ⟨xb, 3, none⟩ = some (.int .i64 0) := cell_of_block b9 rfl
                      have f3 := free_of_block (j := 3) b9
                      have z4 : w9.cell? ⟨xb, 4, none⟩ = some (.int .i64 0) := cell_of_block b9 rfl
                      have f4 := free_of_block (j := 4) b9
                      have z5 : w9.cell? ⟨xb, 5, none⟩ = some (.bool false) := cell_of_block b9 rfl
                      have f5 := free_of_block (j := 5) b9
                      have z6 : w9.cell? ⟨xb, 6, none⟩ = some (.bool false) := cell_of_block b9 rfl
                      have f6 := free_of_block (j := 6) b9
                      have z7 : w9.cell? ⟨xb, 7, none⟩ = some (.bool false) := cell_of_block b9 rfl
                      have f7 := free_of_block (j := 7) b9
                      refine wpAnyH_take (i := 33) (oi := { dst := some 92, op := Op.build 38 #[(0, Operand.tmp 68), (1, Operand.tmp 69), (2, Operand.tmp 86), (3, Operand.tmp 89), (4, Operand.tmp 91)], type := 38, pos := "ref.go:165", after := #[{ on := 9, ground := Ground.data }, { on := 10, ground := Ground.data }, { on := 27, ground := Ground.data }, { on := 30, ground := Ground.data }, { on := 32, ground := Ground.data }], guard := none }) (v := .agg #[.int .u64 S.best.1, .int .i64 S.best.2.1, .int .u64 S.br, .int .i64 (k : Int), .int .i64 A, .bool (decide (S.now < S.chg + 4)), .bool lr, .bool p.fwd]) rfl (by kernel_rfl) (by kernel_rfl) (by kernel_rfl) (fun _ _ _ h => h) (Or.inl ⟨by kernel_rfl, ?_⟩) hH ?_
                      · intro w hSw; (try dsimp only at hSw); go_simp
                      try simp only [Act.put, List.setIfInBounds_toArray, List.set_cons_zero, List.set_cons_succ]
                      refine wpAnyH_ready (rs := [35]) (by kernel_rfl) (by simp) ?_
                      refine AllReadyH.cons rfl (fun K hK => ?_) AllReadyH.nil
                      go_simp
                      have KY := ((((((((k9.setCell (p := ⟨xb, 0, none⟩) g9 (.int .u64 S.best.1)).setCell (p := ⟨xb, 1, none⟩) g9 (.int .i64 S.best.2.1)).setCell (p := ⟨xb, 2, none⟩) g9 (.int .u64 S.br)).setCell (p := ⟨xb, 3, none⟩) g9 (.int .i64 (k : Int))).setCell (p := ⟨xb, 4, none⟩) g9 (.int .i64 A)).setCell (p := ⟨xb, 5, none⟩) g9 (.bool (decide (S.now < S.chg + 4)))).setCell (p := ⟨xb, 6, none⟩) g9 (.bool lr)).setCell (p := ⟨xb, 7, none⟩) g9 (.bool p.fwd))
                      refine hK.out _ _ (KF.out _ KY) (fun hH => ?_)
                      clear hK K
                      try simp only [Act.put, List.setIfInBounds_toArray, List.set_cons_zero, List.set_cons_succ]
                      refine wpAnyH_done (by kernel_rfl) ?_ _
                      have KX := Lib.hid KY
                      have BX := Lib.hid (show ((((((((w9.setCell ⟨xb, 0, none⟩ (.int .u64 S.best.1)).setCell ⟨xb, 1, none⟩ (.int .i64 S.best.2.1)).setCell ⟨xb, 2, none⟩ (.int .u64 S.br)).setCell ⟨xb, 3, none⟩ (.int .i64 (k : Int))).setCell ⟨xb, 4, none⟩ (.int .i64 A)).setCell ⟨xb, 5, none⟩ (.bool (decide (S.now < S.chg + 4)))).setCell ⟨xb, 6, none⟩ (.bool lr)).setCell ⟨xb, 7, none⟩ (.bool p.fwd)).heap[xb]? = some (.cells #[.int .u64 S.best.1, .int .i64 S.best.2.1, .int .u64 S.br, .int .i64 (k : Int), .int .i64 A, .bool (decide (S.now < S.chg + 4)), .bool lr, .bool p.fwd] 38 (0, 0)) from (heap_store (j := 7) (v := .bool p.fwd) (heap_store (j := 6) (v := .bool lr) (heap_store (j := 5) (v := .bool (decide (S.now < S.chg + 4))) (heap_store (j := 4) (v := .int .i64 A) (heap_store (j := 3) (v := .int .i64 (k : Int)) (heap_store (j := 2) (v := .int .u64 S.br) (heap_store (j := 1) (v := .int .i64 S.best.2.1) (heap_store (j := 0) (v := .int .u64 S.best.1) b9)))))))))
                      have GX := Lib.hid g9
                      clear z0 f0 z1 f1 z2 f2 z3 f3 z4 f4 z5 f5 z6 f6 z7 f7 KY k9 b9 g9
                      generalize ((((((((w9.setCell ⟨xb, 0, none⟩ (.int .u64 S.best.1)).setCell ⟨xb, 1, none⟩ (.int .i64 S.best.2.1)).setCell ⟨xb, 2, none⟩ (.int .u64 S.br)).setCell ⟨xb, 3, none⟩ (.int .i64 (k : Int))).setCell ⟨xb, 4, none⟩ (.int .i64 A)).setCell ⟨xb, 5, none⟩ (.bool (decide (S.now < S.chg + 4)))).setCell ⟨xb, 6, none⟩ (.bool lr)).setCell ⟨xb, 7, none⟩ (.bool p.fwd)) = WX at KX BX ⊢
                      have z0 : WX.cell? ⟨xb, 0, none⟩ = some (.int .u64 S.best.1) := cell_of_block BX.out rfl
                      have z1 : WX.cell? ⟨xb, 1, none⟩ = some (.int .i64 S.best.2.1) := cell_of_block BX.out rfl
                      have z2 : WX.cell? ⟨xb, 2, none⟩ = some (.int .u64 S.br) := cell_of_block BX.out rfl
                      have z3 : WX.cell? ⟨xb, 3, none⟩ = some (.int .i64 (k : Int)) := cell_of_block BX.out rfl
                      have z4 : WX.cell? ⟨xb, 4, none⟩ = some (.int .i64 A) := cell_of_block BX.out rfl
                      have z5 : WX.cell? ⟨xb, 5, none⟩ = some (.bool (decide (S.now < S.chg + 4))) := cell_of_block BX.out rfl
                      have z6 : WX.cell? ⟨xb, 6, none⟩ = some (.bool lr) := cell_of_block BX.out rfl
                      have z7 : WX.cell? ⟨xb, 7, none⟩ = some (.bool p.fwd) := cell_of_block BX.out rfl
                      have HO6 := Lib.hid (iowns_below HO1.out KX.out)
                      have K6 := Lib.hid (K1.out.trans (KX.out.mono K1.out.size))
                      have n3 := Lib.hid (show V.heap.size ≤ (WX.alloc (.cells #[.int .i64 (k : Int), .int .u64 S.best.1, .int .i64 S.best.2.1, .int .u64 S.br, .int .i64 (k : Int), .int .i64 A, .bool (decide (S.now < S.chg + 4)), .bool lr, .bool p.fwd] 72)).heap.size by have := K6.out.size; simp; omega)
                      have NEW := Lib.hid (cells_new WX [.int .i64 (k : Int), .int .u64 S.best.1, .int .i64 S.best.2.1, .int .u64 S.br, .int .i64 (k : Int), .int .i64 A, .bool (decide (S.now < S.chg + 4)), .bool lr, .bool p.fwd] 72)
                      have HO7 := Lib.hid (HO6.out.alloc (.cells #[.int .i64 (k : Int), .int .u64 S.best.1, .int .i64 S.best.2.1, .int .u64 S.br, .int .i64 (k : Int), .int .i64 A, .bool (decide (S.now < S.chg + 4)), .bool lr, .bool p.fwd] 72))
                      have K7 := Lib.hid (K6.out.alloc K6.out.size (.cells #[.int .i64 (k : Int), .int .u64 S.best.1, .int .i64 S.best.2.1, .int .u64 S.br, .int .i64 (k : Int), .int .i64 A, .bool (decide (S.now < S.chg + 4)), .bool lr, .bool p.fwd] 72))
                      have HON := Lib.hid (one_O ((k : Int), (⟨(S.best.1, S.best.2.1, S.br, (k : Int)), A, (decide (S.now < S.chg + 4)), lr, p.fwd⟩ : Tell)))
                      replace HON : Hid (∀ u ∈ ([.int .i64 (k : Int), .int .u64 S.best.1, .int .i64 S.best.2.1, .int .u64 S.br, .int .i64 (k : Int), .int .i64 A, .bool (decide (S.now < S.chg + 4)), .bool lr, .bool p.fwd] : List Value), u.oneCell' = true) := HON
                      clear KF TE LE k0 k1 z11 x0 x2 x4 x5 x6 x7 x8 HO6 K6 hH
                      go_wp2_with (at_builtin; refine wpList_append_own _ rfl _ _ 70 rfl V.heap.size 72 i0 (.agg #[.int .i64 0, .int .u64 0, .int .i64 0, .int .u64 0, .int .i64 0, .int .i64 0, .bool false, .bool false, .bool false]) 9 56 Try.underlying70 hi hz0 hz1 hz2 rfl (by decide) _ _ _ rfl HO7.out ⟨WX.heap.size, 0, none⟩ 1 1 [.int .i64 (k : Int), .int .u64 S.best.1, .int .i64 S.best.2.1, .int .u64 S.br, .int .i64 (k : Int), .int .i64 A, .bool (decide (S.now < S.chg + 4)), .bool lr, .bool p.fwd] rfl rfl NEW.out HON.out n1'.out n2'.out n3.out ?_)
                      intro v' w6 hown' hgrow _
                      have HO8 := Lib.hid hown'
                      have K8 := Lib.hid (K7.out.grown hgrow n3.out (fun j hj => (HO7.out.lt j hj).1))
                      clear hown' hgrow HO7 K7 NEW z0 z1 z2 z3 z4 z5 z6 z7
                      go_wp2_with fail
                      go_roundw
                      case rel => exact ⟨k + 1, by omega, by go_num, Lib.hid (by rw [HTT.out, List.length_append, List.flatMap_append]; simpa [cellsO] using HO8.out), Lib.hid (by rw [HTT.out, List.length_append]; have := HC.out; simp; omega), K8⟩
                      case measure => simp [intOf]; omega
                  · refine AllReadyH.cons rfl (fun K hK => ?_) AllReadyH.nil
                    go_simp
                    refine hK.out _ _ (KF.out _ k1) (fun hH => ?_)
                    clear hK K
                    try simp only [Act.put, List.setIfInBounds_toArray, List.set_cons_zero, List.set_cons_succ]
                    have b1 : ((W1.alloc (.cells #[.int .u64 0, .int .i64 0, .int .u64 0, .int .i64 0, .int .i64 0, .bool false, .bool false, .bool false] 38)).drew).heap[W1.heap.size]? = some (.cells #[.int .u64 0, .int .i64 0, .int .u64 0, .int .i64 0, .int .i64 0, .bool false, .bool false, .bool false] 38 (0, 0)) := heap_new W1 (.cells #[.int .u64 0, .int .i64 0, .int .u64 0, .int .i64 0, .int .i64 0, .bool false, .bool false, .bool false] 38)
                    generalize (W1.alloc (.cells #[.int .u64 0, .int .i64 0, .int .u64 0, .int .i64 0, .int .i64 0, .bool false, .bool false, .bool false] 38)).drew = U1 at k1 b1 hH ⊢
                    have g9 : W1.heap.size ≤ W1.heap.size := Nat.le_refl _
                    refine wpAnyH_ready (rs := [9]) (by kernel_rfl) (by simp) ?_
                    refine AllReadyH.cons rfl (fun K hK => ?_) AllReadyH.nil
                    go_simp
                    with_reducible refine (TE.out _).mono ?_
                    rintro e w8 ⟨rfl, hb8⟩
                    try go_wp2_with fail
                    have k8 := k1.trans (hb8.mono k1.size)
                    have b8 := below_block hb8 (lt_of_block b1) b1
                    refine hK.out _ _ (KF.out _ k8) (fun hH => ?_)
                    clear hK K
                    try simp only [Act.put, List.setIfInBounds_toArray, List.set_cons_zero, List.set_cons_succ]
                    clear hb8 b1
                    refine wpAnyH_take (i := 16) (oi := { dst := some 75, op := Op.move (Operand.tmp 74), type := 4, pos := "ref.go:165", after := #[{ on := 15, ground := Ground.data }, { on := 9, ground := Ground.chain }], guard := none }) (v := .bool true) rfl (by kernel_rfl) (by kernel_rfl) (by kernel_rfl) (fun _ _ _ h => h) (Or.inl ⟨by kernel_rfl, ?_⟩) hH ?_
                    · intro w hSw; (try dsimp only at hSw); go_simp
                    try simp only [Act.put, List.setIfInBounds_toArray, List.set_cons_zero, List.set_cons_succ]
                    refine wpAnyH_take (i := 17) (oi := { dst := some 76, op := Op.move (Operand.tmp 0), type := 31, pos := "ref.go:165", after := #[{ on := 16, ground := Ground.guard }], guard := some (16, true) }) (v := .pointer (some ⟨q, 0, none⟩)) rfl (by kernel_rfl) (by kernel_rfl) (by kernel_rfl) (fun _ _ _ h => h) (Or.inl ⟨by kernel_rfl, ?_⟩) hH ?_
                    · intro w hSw; (try dsimp only at hSw); go_simp
                    try simp only [Act.put, List.setIfInBounds_toArray, List.set_cons_zero, List.set_cons_succ]
                    refine wpAnyH_take (i := 18) (oi := { dst := some 77, op := Op.nilCheck (Operand.tmp 76), type := 0, pos := "ref.go:165", after := #[{ on := 17, ground := Ground.data }, { on := 16, ground := Ground.guard }], guard := some (16, true) }) (v := .pointer (some ⟨q, 0, none⟩)) rfl (by kernel_rfl) (by kernel_rfl) (by kernel_rfl) (fun _ _ _ h => h) (Or.inl ⟨by kernel_rfl, ?_⟩) hH ?_
                    · intro w hSw; (try dsimp only at hSw); go_simp
                    try simp only [Act.put, List.setIfInBounds_toArray, List.set_cons_zero, List.set_cons_succ]
                    refine wpAnyH_take (i := 19) (oi := { dst := some 78, op := Op.fieldAddr 67 (Operand.tmp 77) 2, type := 0, pos := "ref.go:165", after := #[{ on := 18, ground := Ground.data }, { on := 16, ground := Ground.guard }], guard := some (16, true) }) (v := .pointer (some ⟨q, 2, none⟩)) rfl (by kernel_rfl) (by kernel_rfl) (by kernel_rfl) (fun _ _ _ h => h) (Or.inl ⟨by kernel_rfl, ?_⟩) hH ?_
                    · intro w hSw; (try dsimp only at hSw); go_simp
                    try simp only [Act.put, List.setIfInBounds_toArray, List.set_cons_zero, List.set_cons_succ]
                    refine wpAnyH_take (i := 20) (oi := { dst := some 79, op := Op.load 3 (Operand.tmp 78), type := 3, pos := "ref.go:165", after := #[{ on := 19, ground := Ground.data }, { on := 16, ground := Ground.guard }], guard := some (16, true) }) (v := .int .i64 S.now) rfl (by kernel_rfl) (by kernel_rfl) (by kernel_rfl) (fun _ _ _ h => h) (Or.inl ⟨by kernel_rfl, ?_⟩) hH ?_
                    · intro w hSw; (try dsimp only at hSw); go_simp
                    try simp only [Act.put, List.setIfInBounds_toArray, List.set_cons_zero, List.set_cons_succ]
                    refine wpAnyH_take (i := 21) (oi := { dst := some 80, op := Op.move (Operand.tmp 0), type := 31, pos := "ref.go:165", after := #[{ on := 16, ground := Ground.guard }], guard := some (16, true) }) (v := .pointer (some ⟨q, 0, none⟩)) rfl (by kernel_rfl) (by kernel_rfl) (by kernel_rfl) (fun _ _ _ h => h) (Or.inl ⟨by kernel_rfl, ?_⟩) hH ?_
                    · intro w hSw; (try dsimp only at hSw); go_simp
                    try simp only [Act.put, List.setIfInBounds_toArray, List.set_cons_zero, List.set_cons_succ]
                    refine wpAnyH_take (i := 22) (oi := { dst := some 81, op := Op.nilCheck (Operand.tmp 80), type := 0, pos := "ref.go:165", after := #[{ on := 21, ground := Ground.data }, { on := 16, ground := Ground.guard }], guard := some (16, true) }) (v := .pointer (some ⟨q, 0, none⟩)) rfl (by kernel_rfl) (by kernel_rfl) (by kernel_rfl) (fun _ _ _ h => h) (Or.inl ⟨by kernel_rfl, ?_⟩) hH ?_
                    · intro w hSw; (try dsimp only at hSw); go_simp
                    try simp only [Act.put, List.setIfInBounds_toArray, List.set_cons_zero, List.set_cons_succ]
                    refine wpAnyH_take (i := 23) (oi := { dst := some 82, op := Op.fieldAddr 67 (Operand.tmp 81) 5, type := 0, pos := "ref.go:165", after := #[{ on := 22, ground := Ground.data }, { on := 16, ground := Ground.guard }], guard := some (16, true) }) (v := .pointer (some ⟨q, 8, none⟩)) rfl (by kernel_rfl) (by kernel_rfl) (by kernel_rfl) (fun _ _ _ h => h) (Or.inl ⟨by kernel_rfl, ?_⟩) hH ?_
                    · intro w hSw; (try dsimp only at hSw); go_simp
                    try simp only [Act.put, List.setIfInBounds_toArray, List.set_cons_zero, List.set_cons_succ]
                    refine wpAnyH_take (i := 24) (oi := { dst := some 83, op := Op.load 3 (Operand.tmp 82), type := 3, pos := "ref.go:165", after := #[{ on := 23, ground := Ground.data }, { on := 16, ground := Ground.guard }], guard := some (16, true) }) (v := .int .i64 S.chg) rfl (by kernel_rfl) (by kernel_rfl) (by kernel_rfl) (fun _ _ _ h => h) (Or.inl ⟨by kernel_rfl, ?_⟩) hH ?_
                    · intro w hSw; (try dsimp only at hSw); go_simp
                    try simp only [Act.put, List.setIfInBounds_toArray, List.set_cons_zero, List.set_cons_succ]
                    refine wpAnyH_take (i := 25) (oi := { dst := some 84, op := Op.binOp BinOp.add 3 (Operand.tmp 83) (Operand.const (Value.int IntKind.i64 4)) 3, type := 3, pos := "ref.go:165", after := #[{ on := 24, ground := Ground.data }, { on := 16, ground := Ground.guard }], guard := some (16, true) }) (v := .int .i64 (S.chg + 4)) rfl (by kernel_rfl) (by kernel_rfl) (by kernel_rfl) (fun _ _ _ h => h) (Or.inl ⟨by kernel_rfl, ?_⟩) hH ?_
                    · intro w hSw; (try dsimp only at hSw); go_simp
                    try simp only [Act.put, List.setIfInBounds_toArray, List.set_cons_zero, List.set_cons_succ]
                    refine wpAnyH_take (i := 26) (oi := { dst := some 85, op := Op.binOp BinOp.lss 3 (Operand.tmp 79) (Operand.tmp 84) 3, type := 4, pos := "ref.go:165", after := #[{ on := 20, ground := Ground.data }, { on := 25, ground := Ground.data }, { on := 16, ground := Ground.guard }], guard := some (16, true) }) (v := .bool (decide (S.now < S.chg + 4))) rfl (by kernel_rfl) (by kernel_rfl) (by kernel_rfl) (fun _ _ _ h => h) (Or.inl ⟨by kernel_rfl, ?_⟩) hH ?_
                    · intro w hSw; (try dsimp only at hSw); go_simp
                    try simp only [Act.put, List.setIfInBounds_toArray, List.set_cons_zero, List.set_cons_succ]
                    refine wpAnyH_take (i := 27) (oi := { dst := some 86, op := Op.pick (Operand.tmp 75) (Operand.tmp 85) (Operand.const (Value.bool false)), type := 4, pos := "ref.go:165", after := #[{ on := 16, ground := Ground.data }, { on := 26, ground := Ground.data }], guard := none }) (v := .bool (decide (S.now < S.chg + 4))) rfl (by kernel_rfl) (by kernel_rfl) (by kernel_rfl) (fun _ _ _ h => h) (Or.inl ⟨by kernel_rfl, ?_⟩) hH ?_
                    · intro w hSw; (try dsimp only at hSw); go_simp
                    try simp only [Act.put, List.setIfInBounds_toArray, List.set_cons_zero, List.set_cons_succ]
                    refine wpAnyH_ready (rs := [30]) (by kernel_rfl) (by simp) ?_
                    refine AllReadyH.cons rfl (fun K hK => ?_) AllReadyH.nil
                    go_simp
                    with_reducible refine (LE.out _ k8).mono ?_
                    rintro e w9 ⟨rfl, m9, hw9⟩
                    replace hw9 := Lib.hid hw9
                    try go_wp2_with fail
                    have k9 : Below W1.heap.size W1 w9 := by rw [hw9.out]; exact below_drewN k8 m9
                    have b9 : w9.heap[W1.heap.size]? = some (.cells #[.int .u64 0, .int .i64 0, .int .u64 0, .int .i64 0, .int .i64 0, .bool false, .bool false, .bool false] 38 (0, 0)) := by rw [hw9.out]; exact b8
                    refine hK.out _ _ (KF.out _ k9) (fun hH => ?_)
                    clear hK K
                    try simp only [Act.put, List.setIfInBounds_toArray, List.set_cons_zero, List.set_cons_succ]
                    clear hw9 k8 b8
                    have z0 : w9.cell? ⟨W1.heap.size, 0, none⟩ = some (.int .u64 0) := cell_of_block b9 rfl
                    have f0 := free_of_block (j := 0) b9
                    have z1 : w9.cell? ⟨W1.heap.size, 1, none⟩ = some (.int .i64 0) := cell_of_block b9 rfl
                    have f1 := free_of_block (j := 1) b9
                    have z2 : w9.cell? ⟨W1.heap.size, 2, none⟩ = some (.int .u64 0) := cell_of_block b9 rfl
                    have f2 := free_of_block (j := 2) b9
                    have z3 : w9.cell? ⟨W1.heap.size, 3, none⟩ = some (.int .i64 0) := cell_of_block b9 rfl
                    have f3 := free_of_block (j := 3) b9
                    have z4 : w9.cell? ⟨W1.heap.size, 4, none⟩ = some (.int .i64 0) := cell_of_block b9 rfl
                    have f4 := free_of_block (j := 4) b9
                    have z5 : w9.cell? ⟨W1.heap.size, 5, none⟩ = some (.bool false) := cell_of_block b9 rfl
                    have f5 := free_of_block (j := 5) b9
                    have z6 : w9.cell? ⟨W1.heap.size, 6, none⟩ = some (.bool false) := cell_of_block b9 rfl
                    have f6 := free_of_block (j := 6) b9
                    have z7 : w9.cell? ⟨W1.heap.size, 7, none⟩ = some (.bool false) := cell_of_block b9 rfl
                    have f7 := free_of_block (j := 7) b9
                    refine wpAnyH_take (i := 33) (oi := { dst := some 92, op := Op.build 38 #[(0, Operand.tmp 68), (1, Operand.tmp 69), (2, Operand.tmp 86), (3, Operand.tmp 89), (4, Operand.tmp 91)], type := 38, pos := "ref.go:165", after := #[{ on := 9, ground := Ground.data }, { on := 10, ground := Ground.data }, { on := 27, ground := Ground.data }, { on := 30, ground := Ground.data }, { on := 32, ground := Ground.data }], guard := none }) (v := .agg #[.int .u64 S.best.1, .int .i64 S.best.2.1, .int .u64 S.br, .int .i64 (k : Int), .int .i64 A, .bool (decide (S.now < S.chg + 4)), .bool lr, .bool p.fwd]) rfl (by kernel_rfl) (by kernel_rfl) (by kernel_rfl) (fun _ _ _ h => h) (Or.inl ⟨by kernel_rfl, ?_⟩) hH ?_
                    · intro w hSw; (try dsimp only at hSw); go_simp
                    try simp only [Act.put, List.setIfInBounds_toArray, List.set_cons_zero, List.set_cons_succ]
                    refine wpAnyH_ready (rs := [35]) (by kernel_rfl) (by simp) ?_
                    refine AllReadyH.cons rfl (fun K hK => ?_) AllReadyH.nil
                    go_simp
                    have KY := ((((((((k9.setCell (p := ⟨W1.heap.size, 0, none⟩) g9 (.int .u64 S.best.1)).setCell (p := ⟨W1.heap.size, 1, none⟩) g9 (.int .i64 S.best.2.1)).setCell (p := ⟨W1.heap.size, 2, none⟩) g9 (.int .u64 S.br)).setCell (p := ⟨W1.heap.size, 3, none⟩) g9 (.int .i64 (k : Int))).setCell (p := ⟨W1.heap.size, 4, none⟩) g9 (.int .i64 A)).setCell (p := ⟨W1.heap.size, 5, none⟩) g9 (.bool (decide (S.now < S.chg + 4)))).setCell (p := ⟨W1.heap.size, 6, none⟩) g9 (.bool lr)).setCell (p := ⟨W1.heap.size, 7, none⟩) g9 (.bool p.fwd))
                    refine hK.out _ _ (KF.out _ KY) (fun hH => ?_)
                    clear hK K
                    try simp only [Act.put, List.setIfInBounds_toArray, List.set_cons_zero, List.set_cons_succ]
                    refine wpAnyH_done (by kernel_rfl) ?_ _
                    have KX := Lib.hid KY
                    have BX := Lib.hid (show ((((((((w9.setCell ⟨W1.heap.size, 0, none⟩ (.int .u64 S.best.1)).setCell ⟨W1.heap.size, 1, none⟩ (.int .i64 S.best.2.1)).setCell ⟨W1.heap.size, 2, none⟩ (.int .u64 S.br)).setCell ⟨W1.heap.size, 3, none⟩ (.int .i64 (k : Int))).setCell ⟨W1.heap.size, 4, none⟩ (.int .i64 A)).setCell ⟨W1.heap.size, 5, none⟩ (.bool (decide (S.now < S.chg + 4)))).setCell ⟨W1.heap.size, 6, none⟩ (.bool lr)).setCell ⟨W1.heap.size, 7, none⟩ (.bool p.fwd)).heap[W1.heap.size]? = some (.cells #[.int .u64 S.best.1, .int .i64 S.best.2.1, .int .u64 S.br, .int .i64 (k : Int), .int .i64 A, .bool (decide (S.now < S.chg + 4)), .bool lr, .bool p.fwd] 38 (0, 0)) from (heap_store (j := 7) (v := .bool p.fwd) (heap_store (j := 6) (v := .bool lr) (heap_store (j := 5) (v := .bool (decide (S.now < S.chg + 4))) (heap_store (j := 4) (v := .int .i64 A) (heap_store (j := 3) (v := .int .i64 (k : Int)) (heap_store (j := 2) (v := .int .u64 S.br) (heap_store (j := 1) (v := .int .i64 S.best.2.1) (heap_store (j := 0) (v := .int .u64 S.best.1) b9)))))))))
                    have GX := Lib.hid g9
                    clear z0 f0 z1 f1 z2 f2 z3 f3 z4 f4 z5 f5 z6 f6 z7 f7 KY k9 b9 g9
                    generalize ((((((((w9.setCell ⟨W1.heap.size, 0, none⟩ (.int .u64 S.best.1)).setCell ⟨W1.heap.size, 1, none⟩ (.int .i64 S.best.2.1)).setCell ⟨W1.heap.size, 2, none⟩ (.int .u64 S.br)).setCell ⟨W1.heap.size, 3, none⟩ (.int .i64 (k : Int))).setCell ⟨W1.heap.size, 4, none⟩ (.int .i64 A)).setCell ⟨W1.heap.size, 5, none⟩ (.bool (decide (S.now < S.chg + 4)))).setCell ⟨W1.heap.size, 6, none⟩ (.bool lr)).setCell ⟨W1.heap.size, 7, none⟩ (.bool p.fwd)) = WX at KX BX ⊢
                    have z0 : WX.cell? ⟨W1.heap.size, 0, none⟩ = some (.int .u64 S.best.1) := cell_of_block BX.out rfl
                    have z1 : WX.cell? ⟨W1.heap.size, 1, none⟩ = some (.int .i64 S.best.2.1) := cell_of_block BX.out rfl
                    have z2 : WX.cell? ⟨W1.heap.size, 2, none⟩ = some (.int .u64 S.br) := cell_of_block BX.out rfl
                    have z3 : WX.cell? ⟨W1.heap.size, 3, none⟩ = some (.int .i64 (k : Int)) := cell_of_block BX.out rfl
                    have z4 : WX.cell? ⟨W1.heap.size, 4, none⟩ = some (.int .i64 A) := cell_of_block BX.out rfl
                    have z5 : WX.cell? ⟨W1.heap.size, 5, none⟩ = some (.bool (decide (S.now < S.chg + 4))) := cell_of_block BX.out rfl
                    have z6 : WX.cell? ⟨W1.heap.size, 6, none⟩ = some (.bool lr) := cell_of_block BX.out rfl
                    have z7 : WX.cell? ⟨W1.heap.size, 7, none⟩ = some (.bool p.fwd) := cell_of_block BX.out rfl
                    have HO6 := Lib.hid (iowns_below HO1.out KX.out)
                    have K6 := Lib.hid (K1.out.trans (KX.out.mono K1.out.size))
                    have n3 := Lib.hid (show V.heap.size ≤ (WX.alloc (.cells #[.int .i64 (k : Int), .int .u64 S.best.1, .int .i64 S.best.2.1, .int .u64 S.br, .int .i64 (k : Int), .int .i64 A, .bool (decide (S.now < S.chg + 4)), .bool lr, .bool p.fwd] 72)).heap.size by have := K6.out.size; simp; omega)
                    have NEW := Lib.hid (cells_new WX [.int .i64 (k : Int), .int .u64 S.best.1, .int .i64 S.best.2.1, .int .u64 S.br, .int .i64 (k : Int), .int .i64 A, .bool (decide (S.now < S.chg + 4)), .bool lr, .bool p.fwd] 72)
                    have HO7 := Lib.hid (HO6.out.alloc (.cells #[.int .i64 (k : Int), .int .u64 S.best.1, .int .i64 S.best.2.1, .int .u64 S.br, .int .i64 (k : Int), .int .i64 A, .bool (decide (S.now < S.chg + 4)), .bool lr, .bool p.fwd] 72))
                    have K7 := Lib.hid (K6.out.alloc K6.out.size (.cells #[.int .i64 (k : Int), .int .u64 S.best.1, .int .i64 S.best.2.1, .int .u64 S.br, .int .i64 (k : Int), .int .i64 A, .bool (decide (S.now < S.chg + 4)), .bool lr, .bool p.fwd] 72))
                    have HON := Lib.hid (one_O ((k : Int), (⟨(S.best.1, S.best.2.1, S.br, (k : Int)), A, (decide (S.now < S.chg + 4)), lr, p.fwd⟩ : Tell)))
                    replace HON : Hid (∀ u ∈ ([.int .i64 (k : Int), .int .u64 S.best.1, .int .i64 S.best.2.1, .int .u64 S.br, .int .i64 (k : Int), .int .i64 A, .bool (decide (S.now < S.chg + 4)), .bool lr, .bool p.fwd] : List Value), u.oneCell' = true) := HON
                    clear KF TE LE k0 k1 z11 x0 x2 x4 x5 x6 x7 x8 HO6 K6 hH
                    go_wp2_with (at_builtin; refine wpList_append_own _ rfl _ _ 70 rfl V.heap.size 72 i0 (.agg #[.int .i64 0, .int .u64 0, .int .i64 0, .int .u64 0, .int .i64 0, .int .i64 0, .bool false, .bool false, .bool false]) 9 56 Try.underlying70 hi hz0 hz1 hz2 rfl (by decide) _ _ _ rfl HO7.out ⟨WX.heap.size, 0, none⟩ 1 1 [.int .i64 (k : Int), .int .u64 S.best.1, .int .i64 S.best.2.1, .int .u64 S.br, .int .i64 (k : Int), .int .i64 A, .bool (decide (S.now < S.chg + 4)), .bool lr, .bool p.fwd] rfl rfl NEW.out HON.out n1'.out n2'.out n3.out ?_)
                    intro v' w6 hown' hgrow _
                    have HO8 := Lib.hid hown'
                    have K8 := Lib.hid (K7.out.grown hgrow n3.out (fun j hj => (HO7.out.lt j hj).1))
                    clear hown' hgrow HO7 K7 NEW z0 z1 z2 z3 z4 z5 z6 z7
                    go_wp2_with fail
                    go_roundw
                    case rel => exact ⟨k + 1, by omega, by go_num, Lib.hid (by rw [HTT.out, List.length_append, List.flatMap_append]; simpa [cellsO] using HO8.out), Lib.hid (by rw [HTT.out, List.length_append]; have := HC.out; simp; omega), K8⟩
                    case measure => simp [intOf]; omega
              · obtain ⟨r1, r2⟩ := ne_t hrole
                have HTT := Lib.hid (show routGo S 0 (S.ps.take (k + 1)) = acc by rw [HT.out, r1]; simp)
                clear hrole HT
                go_wp2_with fail
                go_roundw
                case rel => exact ⟨k + 1, by omega, by go_num, Lib.hid (by rw [HTT.out]; exact HO1.out), Lib.hid (by rw [HTT.out]; have := HC.out; omega), K1⟩
                case measure => simp [intOf]; omega
            · obtain rfl : n = k := by omega
              rw [List.take_of_length_le (by rw [HLL.out]; exact Nat.le_refl _)] at HO
              clear hlt
              go_wp2_with fail
              go_ret
              rw [E1.out, E2.out, E3.out]
              exact ⟨_, rfl, HO.out.mono HW.out, HS.out, K.out.grow KB.out⟩
    · have d0 : decide (0 ≤ S.root) = false := decide_eq_false hr
      have HA := Lib.hid (HK0.out (by omega))
      have HAB := Lib.hid (show -9223372036854775808 ≤ (0 : Int) ∧ (0 : Int) ≤ 20 by omega)
      clear hr HK HK0
      obtain ⟨V, rfl⟩ : ∃ V, V = W := ⟨W, rfl⟩
      have HW := Lib.hid K.out.size
      by_cases hpar : now % 2 = 1
      · obtain ⟨d1, d2⟩ := eq_t hpar
        have hpar' : now.tmod 2 = 1 := by rw [Int.tmod_eq_emod_of_nonneg n0]; exact hpar
        have E3 := Lib.hid (show S.outs now = [] by unfold RPart.outs; rw [d1, Bool.true_or]; rfl)
        go_wp2_with fail
        go_ret
        rw [E1.out, E2.out, E3.out]
        exact ⟨_, rfl, World.ownsRow_nil _ _ _ _, H.out, K.out⟩
      · obtain ⟨d1, d2⟩ := ne_t hpar
        have hpar' : now.tmod 2 = 0 := by rw [Int.tmod_eq_emod_of_nonneg n0]; omega
        have hpar0 : now % 2 = 0 := by omega
        by_cases hage : 20 ≤ (0 : Int)
        · exact absurd hage (by decide)
        · have d3 : decide (20 ≤ (0 : Int)) = false := decide_eq_false hage
          have E3 := Lib.hid (show S.outs now = routGo S 0 S.ps by unfold RPart.outs; rw [d1, HA.out, d3]; rfl)
          clear hage
          go_wp2_with fail
          clear d1 d2 d3 hpar hpar' hpar0
          go_loopw [6, 7, 8, 9] (fun s6 i _ _ wr => ∃ k : Nat, k ≤ n ∧ i = .int .i64 k ∧ Hid (wr.ownsRow V.heap.size 72 9 s6 (routGo S 0 (S.ps.take k)).length ((routGo S 0 (S.ps.take k)).flatMap cellsO)) ∧ Hid ((routGo S 0 (S.ps.take k)).length ≤ k) ∧ Hid (Below V.heap.size V wr)) (fun _ i _ _ _ => n - (intOf i).toNat)
          case atStart => exact ⟨0, Nat.zero_le _, rfl, Lib.hid (World.ownsRow_nil _ _ _ _), Lib.hid (Nat.le_refl _), Lib.hid (Below.refl _ _)⟩
          case round =>
            obtain ⟨k, hk, rfl, HO, HC, KB⟩ := hrel
            have HS := Lib.hid (H.out.below KB.out)
            have c1 : wr.cell? ⟨q, 1, none⟩ = some (.slice (some ⟨rb, 0, none⟩) n cap) := by have := HS.out.c1; rwa [HLL.out] at this
            by_cases hlt : k < n
            · obtain ⟨p, hp⟩ : ∃ p, S.ps[k]? = some p := ⟨_, List.getElem?_eq_getElem (by rw [HLL.out]; exact hlt)⟩
              have HT := Lib.hid (routGo_take hp)
              have y0 := HS.out.p0 hp
              have y1 := HS.out.p1 hp
              have y2 := HS.out.p2 hp
              have y3 := HS.out.p3 hp
              have y4 := HS.out.p4 hp
              have y5 := HS.out.p5 hp
              have y6 := HS.out.p6 hp
              have y7 := HS.out.p7 hp
              have y8 := HS.out.p8 hp
              have y9 := HS.out.p9 hp
              have y10 := HS.out.p10 hp
              have y11 := HS.out.p11 hp
              have hltq := HS.out.ltQ
              have hltb := HS.out.ltB
              have hk1 : decide (n ≤ k) = false := decide_eq_false (by omega)
              have HQ := Lib.hid hp
              generalize routGo S 0 (S.ps.take k) = acc at HT HO HC
              clear hp
              go_upto_region 14 with fail
              have hB1 := (Below.refl wr.heap.size wr).alloc (Nat.le_refl _) (.cells #[.int .i64 p.cost, .bool p.up, .bool p.keeps, .int .u64 p.v.1, .int .i64 p.v.2.1, .int .u64 p.v.2.2.1, .int .i64 p.v.2.2.2, .int .i64 p.age, .int .i64 p.on, .int .i64 p.role, .int .i64 p.since, .bool p.fwd] 69)
              have HB1 := Lib.hid (heap_new wr (.cells #[.int .i64 p.cost, .bool p.up, .bool p.keeps, .int .u64 p.v.1, .int .i64 p.v.2.1, .int .u64 p.v.2.2.1, .int .i64 p.v.2.2.2, .int .i64 p.age, .int .i64 p.on, .int .i64 p.role, .int .i64 p.since, .bool p.fwd] 69))
              have K1 := Lib.hid (KB.out.trans (hB1.mono KB.out.size))
              have HO1 := Lib.hid (iowns_below HO.out hB1)
              have HS1 := Lib.hid (HS.out.below hB1)
              clear y0 y1 y2 y3 y4 y5 y6 y7 y8 y9 y10 y11 hltq hltb hk1 HO KB c1 HS hB1
              generalize wr.alloc (.cells #[.int .i64 p.cost, .bool p.up, .bool p.keeps, .int .u64 p.v.1, .int .i64 p.v.2.1, .int .u64 p.v.2.2.1, .int .i64 p.v.2.2.2, .int .i64 p.age, .int .i64 p.on, .int .i64 p.role, .int .i64 p.since, .bool p.fwd] 69) = W1 at HB1 K1 HO1 HS1 ⊢
              generalize wr.heap.size = pb at HB1 ⊢
              have z9 : W1.cell? ⟨pb, 9, none⟩ = some (.int .i64 p.role) := cell_of_block HB1.out rfl
              have z11 : W1.cell? ⟨pb, 11, none⟩ = some (.bool p.fwd) := cell_of_block HB1.out rfl
              by_cases hrole : p.role = 2
              · obtain ⟨r1, r2⟩ := eq_t hrole
                have HTT := Lib.hid (show routGo S 0 (S.ps.take (k + 1)) = acc ++ [((k : Int), (⟨(S.best.1, S.best.2.1, S.br, (k : Int)), 0, S.news, p.learns S.now, p.fwd⟩ : Tell))] by rw [HT.out, r1, HA.out]; rfl)
                clear hrole HT
                go_upto_region 15 with fail
                have x0 : W1.cell? ⟨q, 0, none⟩ = some (.int .u64 S.br) := HS1.out.c0
                have x2 : W1.cell? ⟨q, 2, none⟩ = some (.int .i64 S.now) := HS1.out.c2
                have x4 : W1.cell? ⟨q, 4, none⟩ = some (.int .u64 S.best.1) := HS1.out.c4
                have x5 : W1.cell? ⟨q, 5, none⟩ = some (.int .i64 S.best.2.1) := HS1.out.c5
                have x6 : W1.cell? ⟨q, 6, none⟩ = some (.int .u64 S.best.2.2.1) := HS1.out.c6
                have x7 : W1.cell? ⟨q, 7, none⟩ = some (.int .i64 S.best.2.2.2) := HS1.out.c7
                have x8 : W1.cell? ⟨q, 8, none⟩ = some (.int .i64 S.chg) := HS1.out.c8
                have KF := Lib.hid fun (U : World) (kz : Below W1.heap.size W1 U) => (⟨gcell_below kz x0, gcell_below kz x2, gcell_below kz x4, gcell_below kz x5, gcell_below kz x6, gcell_below kz x7, gcell_below kz x8, gcell_below kz z11, kz⟩ : U.cell? ⟨q, 0, none⟩ = some (.int .u64 S.br) ∧ U.cell? ⟨q, 2, none⟩ = some (.int .i64 S.now) ∧ U.cell? ⟨q, 4, none⟩ = some (.int .u64 S.best.1) ∧ U.cell? ⟨q, 5, none⟩ = some (.int .i64 S.best.2.1) ∧ U.cell? ⟨q, 6, none⟩ = some (.int .u64 S.best.2.2.1) ∧ U.cell? ⟨q, 7, none⟩ = some (.int .i64 S.best.2.2.2) ∧ U.cell? ⟨q, 8, none⟩ = some (.int .i64 S.chg) ∧ U.cell? ⟨pb, 11, none⟩ = some (.bool p.fwd) ∧ Below W1.heap.size W1 U)
                have TE := Lib.hid fun (U : World) => rtells_c S.br S.best.1 S.best.2.1 S.best.2.2.1 S.best.2.2.2 k U
                have LE := Lib.hid fun (U : World) (kz : Below W1.heap.size W1 U) => rlearns_yes (HS1.out.below kz) HQ.out
                have NW := Lib.hid (show S.news = (decide (0 ≤ S.chg) && decide (S.now < S.chg + 4)) from rfl)
                have g0 := HS1.out.good.c0
                have g1 := HS1.out.good.c1
                have hs : IntKind.i64.wrap (S.chg + 4) = S.chg + 4 := IntWalk.i64_in _ (by omega)
                have hs' : wrap64 (S.chg + 4) = S.chg + 4 := by unfold wrap64; omega
                have k0 := (Below.refl W1.heap.size W1).drew
                have k1 := ((Below.refl W1.heap.size W1).alloc (Nat.le_refl _) (.cells #[.int .u64 0, .int .i64 0, .int .u64 0, .int .i64 0, .int .i64 0, .bool false, .bool false, .bool false] 38)).drew
                have n1' := Lib.hid (show acc.length + 1 ≤ maxLen by have := HC.out; unfold maxLen; omega)
                have n2' := Lib.hid (show (acc.length + 1) * 56 ≤ 140737488355328 by have := HC.out; omega)
                clear r1 r2 z9
                generalize hnw : S.news = nw at HTT NW
                generalize p.learns S.now = lr at HTT LE
                cases e1 : decide (0 ≤ S.chg) with
                | false =>
                  obtain rfl : nw = false := by rw [NW.out, e1]; rfl
                  clear hs hs' NW
                  refine wp_region_held_drew (S := fun U => U.cell? ⟨q, 0, none⟩ = some (.int .u64 S.br) ∧ U.cell? ⟨q, 2, none⟩ = some (.int .i64 S.now) ∧ U.cell? ⟨q, 4, none⟩ = some (.int .u64 S.best.1) ∧ U.cell? ⟨q, 5, none⟩ = some (.int .i64 S.best.2.1) ∧ U.cell? ⟨q, 6, none⟩ = some (.int .u64 S.best.2.2.1) ∧ U.cell? ⟨q, 7, none⟩ = some (.int .i64 S.best.2.2.2) ∧ U.cell? ⟨q, 8, none⟩ = some (.int .i64 S.chg) ∧ U.cell? ⟨pb, 11, none⟩ = some (.bool p.fwd) ∧ Below W1.heap.size W1 U) (by kernel_rfl) (KF.out _ k0) (fun hH => ?_)
                  refine wpAnyH_take (i := 0) (oi := { dst := some 59, op := Op.move (Operand.tmp 0), type := 31, pos := "ref.go:165", after := #[], guard := none }) (v := .pointer (some ⟨q, 0, none⟩)) rfl (by kernel_rfl) (by kernel_rfl) (by kernel_rfl) (fun _ _ _ h => h) (Or.inl ⟨by kernel_rfl, ?_⟩) hH ?_
                  · intro w hSw; (try dsimp only at hSw); go_simp
                  try simp only [Act.put, List.setIfInBounds_toArray, List.set_cons_zero, List.set_cons_succ]
                  refine wpAnyH_take (i := 1) (oi := { dst := some 60, op := Op.nilCheck (Operand.tmp 59), type := 0, pos := "ref.go:165", after := #[{ on := 0, ground := Ground.data }], guard := none }) (v := .pointer (some ⟨q, 0, none⟩)) rfl (by kernel_rfl) (by kernel_rfl) (by kernel_rfl) (fun _ _ _ h => h) (Or.inl ⟨by kernel_rfl, ?_⟩) hH ?_
                  · intro w hSw; (try dsimp only at hSw); go_simp
                  try simp only [Act.put, List.setIfInBounds_toArray, List.set_cons_zero, List.set_cons_succ]
                  refine wpAnyH_take (i := 2) (oi := { dst := some 61, op := Op.fieldAddr 67 (Operand.tmp 60) 0, type := 0, pos := "ref.go:165", after := #[{ on := 1, ground := Ground.data }], guard := none }) (v := .pointer (some ⟨q, 0, none⟩)) rfl (by kernel_rfl) (by kernel_rfl) (by kernel_rfl) (fun _ _ _ h => h) (Or.inl ⟨by kernel_rfl, ?_⟩) hH ?_
                  · intro w hSw; (try dsimp only at hSw); go_simp
                  try simp only [Act.put, List.setIfInBounds_toArray, List.set_cons_zero, List.set_cons_succ]
                  refine wpAnyH_take (i := 3) (oi := { dst := some 62, op := Op.load 22 (Operand.tmp 61), type := 22, pos := "ref.go:165", after := #[{ on := 2, ground := Ground.data }], guard := none }) (v := .int .u64 S.br) rfl (by kernel_rfl) (by kernel_rfl) (by kernel_rfl) (fun _ _ _ h => h) (Or.inl ⟨by kernel_rfl, ?_⟩) hH ?_
                  · intro w hSw; (try dsimp only at hSw); go_simp
                  try simp only [Act.put, List.setIfInBounds_toArray, List.set_cons_zero, List.set_cons_succ]
                  refine wpAnyH_take (i := 4) (oi := { dst := some 63, op := Op.move (Operand.tmp 0), type := 31, pos := "ref.go:165", after := #[], guard := none }) (v := .pointer (some ⟨q, 0, none⟩)) rfl (by kernel_rfl) (by kernel_rfl) (by kernel_rfl) (fun _ _ _ h => h) (Or.inl ⟨by kernel_rfl, ?_⟩) hH ?_
                  · intro w hSw; (try dsimp only at hSw); go_simp
                  try simp only [Act.put, List.setIfInBounds_toArray, List.set_cons_zero, List.set_cons_succ]
                  refine wpAnyH_take (i := 5) (oi := { dst := some 64, op := Op.nilCheck (Operand.tmp 63), type := 0, pos := "ref.go:165", after := #[{ on := 4, ground := Ground.data }], guard := none }) (v := .pointer (some ⟨q, 0, none⟩)) rfl (by kernel_rfl) (by kernel_rfl) (by kernel_rfl) (fun _ _ _ h => h) (Or.inl ⟨by kernel_rfl, ?_⟩) hH ?_
                  · intro w hSw; (try dsimp only at hSw); go_simp
                  try simp only [Act.put, List.setIfInBounds_toArray, List.set_cons_zero, List.set_cons_succ]
                  refine wpAnyH_take (i := 6) (oi := { dst := some 65, op := Op.fieldAddr 67 (Operand.tmp 64) 4, type := 0, pos := "ref.go:165", after := #[{ on := 5, ground := Ground.data }], guard := none }) (v := .pointer (some ⟨q, 4, none⟩)) rfl (by kernel_rfl) (by kernel_rfl) (by kernel_rfl) (fun _ _ _ h => h) (Or.inl ⟨by kernel_rfl, ?_⟩) hH ?_
                  · intro w hSw; (try dsimp only at hSw); go_simp
                  try simp only [Act.put, List.setIfInBounds_toArray, List.set_cons_zero, List.set_cons_succ]
                  refine wpAnyH_take (i := 7) (oi := { dst := some 66, op := Op.load 36 (Operand.tmp 65), type := 36, pos := "ref.go:165", after := #[{ on := 6, ground := Ground.data }], guard := none }) (v := .agg #[.int .u64 S.best.1, .int .i64 S.best.2.1, .int .u64 S.best.2.2.1, .int .i64 S.best.2.2.2]) rfl (by kernel_rfl) (by kernel_rfl) (by kernel_rfl) (fun _ _ _ h => h) (Or.inl ⟨by kernel_rfl, ?_⟩) hH ?_
                  · intro w hSw; (try dsimp only at hSw); go_simp
                  try simp only [Act.put, List.setIfInBounds_toArray, List.set_cons_zero, List.set_cons_succ]
                  refine wpAnyH_take (i := 8) (oi := { dst := some 67, op := Op.move (Operand.tmp 7), type := 3, pos := "ref.go:165", after := #[], guard := none }) (v := .int .i64 (k : Int)) rfl (by kernel_rfl) (by kernel_rfl) (by kernel_rfl) (fun _ _ _ h => h) (Or.inl ⟨by kernel_rfl, ?_⟩) hH ?_
                  · intro w hSw; (try dsimp only at hSw); go_simp
                  try simp only [Act.put, List.setIfInBounds_toArray, List.set_cons_zero, List.set_cons_succ]
                  refine wpAnyH_take (i := 10) (oi := { dst := some 69, op := Op.move (Operand.tmp 5), type := 3, pos := "ref.go:165", after := #[], guard := none }) (v := .int .i64 (0 : Int)) rfl (by kernel_rfl) (by kernel_rfl) (by kernel_rfl) (fun _ _ _ h => h) (Or.inl ⟨by kernel_rfl, ?_⟩) hH ?_
                  · intro w hSw; (try dsimp only at hSw); go_simp
                  try simp only [Act.put, List.setIfInBounds_toArray, List.set_cons_zero, List.set_cons_succ]
                  refine wpAnyH_take (i := 11) (oi := { dst := some 70, op := Op.move (Operand.tmp 0), type := 31, pos := "ref.go:165", after := #[], guard := none }) (v := .pointer (some ⟨q, 0, none⟩)) rfl (by kernel_rfl) (by kernel_rfl) (by kernel_rfl) (fun _ _ _ h => h) (Or.inl ⟨by kernel_rfl, ?_⟩) hH ?_
                  · intro w hSw; (try dsimp only at hSw); go_simp
                  try simp only [Act.put, List.setIfInBounds_toArray, List.set_cons_zero, List.set_cons_succ]
                  refine wpAnyH_take (i := 12) (oi := { dst := some 71, op := Op.nilCheck (Operand.tmp 70), type := 0, pos := "ref.go:165", after := #[{ on := 11, ground := Ground.data }], guard := none }) (v := .pointer (some ⟨q, 0, none⟩)) rfl (by kernel_rfl) (by kernel_rfl) (by kernel_rfl) (fun _ _ _ h => h) (Or.inl ⟨by kernel_rfl, ?_⟩) hH ?_
                  · intro w hSw; (try dsimp only at hSw); go_simp
                  try simp only [Act.put, List.setIfInBounds_toArray, List.set_cons_zero, List.set_cons_succ]
                  refine wpAnyH_take (i := 13) (oi := { dst := some 72, op := Op.fieldAddr 67 (Operand.tmp 71) 5, type := 0, pos := "ref.go:165", after := #[{ on := 12, ground := Ground.data }], guard := none }) (v := .pointer (some ⟨q, 8, none⟩)) rfl (by kernel_rfl) (by kernel_rfl) (by kernel_rfl) (fun _ _ _ h => h) (Or.inl ⟨by kernel_rfl, ?_⟩) hH ?_
                  · intro w hSw; (try dsimp only at hSw); go_simp
                  try simp only [Act.put, List.setIfInBounds_toArray, List.set_cons_zero, List.set_cons_succ]
                  refine wpAnyH_take (i := 14) (oi := { dst := some 73, op := Op.load 3 (Operand.tmp 72), type := 3, pos := "ref.go:165", after := #[{ on := 13, ground := Ground.data }], guard := none }) (v := .int .i64 S.chg) rfl (by kernel_rfl) (by kernel_rfl) (by kernel_rfl) (fun _ _ _ h => h) (Or.inl ⟨by kernel_rfl, ?_⟩) hH ?_
                  · intro w hSw; (try dsimp only at hSw); go_simp
                  try simp only [Act.put, List.setIfInBounds_toArray, List.set_cons_zero, List.set_cons_succ]
                  refine wpAnyH_take (i := 15) (oi := { dst := some 74, op := Op.binOp BinOp.geq 3 (Operand.tmp 73) (Operand.const (Value.int IntKind.i64 0)) 3, type := 4, pos := "ref.go:165", after := #[{ on := 14, ground := Ground.data }], guard := none }) (v := .bool false) rfl (by kernel_rfl) (by kernel_rfl) (by kernel_rfl) (fun _ _ _ h => h) (Or.inl ⟨by kernel_rfl, ?_⟩) hH ?_
                  · intro w hSw; (try dsimp only at hSw); go_simp
                  try simp only [Act.put, List.setIfInBounds_toArray, List.set_cons_zero, List.set_cons_succ]
                  refine wpAnyH_take (i := 28) (oi := { dst := some 87, op := Op.move (Operand.tmp 0), type := 31, pos := "ref.go:165", after := #[], guard := none }) (v := .pointer (some ⟨q, 0, none⟩)) rfl (by kernel_rfl) (by kernel_rfl) (by kernel_rfl) (fun _ _ _ h => h) (Or.inl ⟨by kernel_rfl, ?_⟩) hH ?_
                  · intro w hSw; (try dsimp only at hSw); go_simp
                  try simp only [Act.put, List.setIfInBounds_toArray, List.set_cons_zero, List.set_cons_succ]
                  refine wpAnyH_take (i := 29) (oi := { dst := some 88, op := Op.move (Operand.tmp 7), type := 3, pos := "ref.go:165", after := #[], guard := none }) (v := .int .i64 (k : Int)) rfl (by kernel_rfl) (by kernel_rfl) (by kernel_rfl) (fun _ _ _ h => h) (Or.inl ⟨by kernel_rfl, ?_⟩) hH ?_
                  · intro w hSw; (try dsimp only at hSw); go_simp
                  try simp only [Act.put, List.setIfInBounds_toArray, List.set_cons_zero, List.set_cons_succ]
                  refine wpAnyH_take (i := 31) (oi := { dst := some 90, op := Op.fieldAddr 69 (Operand.tmp 8) 8, type := 0, pos := "ref.go:165", after := #[], guard := none }) (v := .pointer (some ⟨pb, 11, none⟩)) rfl (by kernel_rfl) (by kernel_rfl) (by kernel_rfl) (fun _ _ _ h => h) (Or.inl ⟨by kernel_rfl, ?_⟩) hH ?_
                  · intro w hSw; (try dsimp only at hSw); go_simp
                  try simp only [Act.put, List.setIfInBounds_toArray, List.set_cons_zero, List.set_cons_succ]
                  refine wpAnyH_take (i := 32) (oi := { dst := some 91, op := Op.load 4 (Operand.tmp 90), type := 4, pos := "ref.go:165", after := #[{ on := 31, ground := Ground.data }], guard := none }) (v := .bool p.fwd) rfl (by kernel_rfl) (by kernel_rfl) (by kernel_rfl) (fun _ _ _ h => h) (Or.inl ⟨by kernel_rfl, ?_⟩) hH ?_
                  · intro w hSw; (try dsimp only at hSw); go_simp
                  try simp only [Act.put, List.setIfInBounds_toArray, List.set_cons_zero, List.set_cons_succ]
                  refine wpAnyH_ready (rs := [9, 34]) (by kernel_rfl) (by simp) ?_
                  refine AllReadyH.cons rfl (fun K hK => ?_) ?_
                  · go_simp
                    with_reducible refine (TE.out _).mono ?_
                    rintro e w8 ⟨rfl, hb8⟩
                    try go_wp2_with fail
                    have k8 := k0.trans (hb8.mono k0.size)
                    refine hK.out _ _ (KF.out _ k8) (fun hH => ?_)
                    clear hK K
                    try simp only [Act.put, List.setIfInBounds_toArray, List.set_cons_zero, List.set_cons_succ]
                    refine wpAnyH_take (i := 16) (oi := { dst := some 75, op := Op.move (Operand.tmp 74), type := 4, pos := "ref.go:165", after := #[{ on := 15, ground := Ground.data }, { on := 9, ground := Ground.chain }], guard := none }) (v := .bool false) rfl (by kernel_rfl) (by kernel_rfl) (by kernel_rfl) (fun _ _ _ h => h) (Or.inl ⟨by kernel_rfl, ?_⟩) hH ?_
                    · intro w hSw; (try dsimp only at hSw); go_simp
                    try simp only [Act.put, List.setIfInBounds_toArray, List.set_cons_zero, List.set_cons_succ]
                    refine wpAnyH_take (i := 17) (oi := { dst := some 76, op := Op.move (Operand.tmp 0), type := 31, pos := "ref.go:165", after := #[{ on := 16, ground := Ground.guard }], guard := some (16, true) }) (v := undef) rfl (by kernel_rfl) (by kernel_rfl) (by kernel_rfl) (fun _ _ _ h => h) (Or.inr ⟨by kernel_rfl, rfl⟩) hH ?_
                    try simp only [Act.put, List.setIfInBounds_toArray, List.set_cons_zero, List.set_cons_succ]
                    refine wpAnyH_take (i := 18) (oi := { dst := some 77, op := Op.nilCheck (Operand.tmp 76), type := 0, pos := "ref.go:165", after := #[{ on := 17, ground := Ground.data }, { on := 16, ground := Ground.guard }], guard := some (16, true) }) (v := undef) rfl (by kernel_rfl) (by kernel_rfl) (by kernel_rfl) (fun _ _ _ h => h) (Or.inr ⟨by kernel_rfl, rfl⟩) hH ?_
                    try simp only [Act.put, List.setIfInBounds_toArray, List.set_cons_zero, List.set_cons_succ]
                    refine wpAnyH_take (i := 19) (oi := { dst := some 78, op := Op.fieldAddr 67 (Operand.tmp 77) 2, type := 0, pos := "ref.go:165", after := #[{ on := 18, ground := Ground.data }, { on := 16, ground := Ground.guard }], guard := some (16, true) }) (v := undef) rfl (by kernel_rfl) (by kernel_rfl) (by kernel_rfl) (fun _ _ _ h => h) (Or.inr ⟨by kernel_rfl, rfl⟩) hH ?_
                    try simp only [Act.put, List.setIfInBounds_toArray, List.set_cons_zero, List.set_cons_succ]
                    refine wpAnyH_take (i := 20) (oi := { dst := some 79, op := Op.load 3 (Operand.tmp 78), type := 3, pos := "ref.go:165", after := #[{ on := 19, ground := Ground.data }, { on := 16, ground := Ground.guard }], guard := some (16, true) }) (v := undef) rfl (by kernel_rfl) (by kernel_rfl) (by kernel_rfl) (fun _ _ _ h => h) (Or.inr ⟨by kernel_rfl, rfl⟩) hH ?_
                    try simp only [Act.put, List.setIfInBounds_toArray, List.set_cons_zero, List.set_cons_succ]
                    refine wpAnyH_take (i := 21) (oi := { dst := some 80, op := Op.move (Operand.tmp 0), type := 31, pos := "ref.go:165", after := #[{ on := 16, ground := Ground.guard }], guard := some (16, true) }) (v := undef) rfl (by kernel_rfl) (by kernel_rfl) (by kernel_rfl) (fun _ _ _ h => h) (Or.inr ⟨by kernel_rfl, rfl⟩) hH ?_
                    try simp only [Act.put, List.setIfInBounds_toArray, List.set_cons_zero, List.set_cons_succ]
                    refine wpAnyH_take (i := 22) (oi := { dst := some 81, op := Op.nilCheck (Operand.tmp 80), type := 0, pos := "ref.go:165", after := #[{ on := 21, ground := Ground.data }, { on := 16, ground := Ground.guard }], guard := some (16, true) }) (v := undef) rfl (by kernel_rfl) (by kernel_rfl) (by kernel_rfl) (fun _ _ _ h => h) (Or.inr ⟨by kernel_rfl, rfl⟩) hH ?_
                    try simp only [Act.put, List.setIfInBounds_toArray, List.set_cons_zero, List.set_cons_succ]
                    refine wpAnyH_take (i := 23) (oi := { dst := some 82, op := Op.fieldAddr 67 (Operand.tmp 81) 5, type := 0, pos := "ref.go:165", after := #[{ on := 22, ground := Ground.data }, { on := 16, ground := Ground.guard }], guard := some (16, true) }) (v := undef) rfl (by kernel_rfl) (by kernel_rfl) (by kernel_rfl) (fun _ _ _ h => h) (Or.inr ⟨by kernel_rfl, rfl⟩) hH ?_
                    try simp only [Act.put, List.setIfInBounds_toArray, List.set_cons_zero, List.set_cons_succ]
                    refine wpAnyH_take (i := 24) (oi := { dst := some 83, op := Op.load 3 (Operand.tmp 82), type := 3, pos := "ref.go:165", after := #[{ on := 23, ground := Ground.data }, { on := 16, ground := Ground.guard }], guard := some (16, true) }) (v := undef) rfl (by kernel_rfl) (by kernel_rfl) (by kernel_rfl) (fun _ _ _ h => h) (Or.inr ⟨by kernel_rfl, rfl⟩) hH ?_
                    try simp only [Act.put, List.setIfInBounds_toArray, List.set_cons_zero, List.set_cons_succ]
                    refine wpAnyH_take (i := 25) (oi := { dst := some 84, op := Op.binOp BinOp.add 3 (Operand.tmp 83) (Operand.const (Value.int IntKind.i64 4)) 3, type := 3, pos := "ref.go:165", after := #[{ on := 24, ground := Ground.data }, { on := 16, ground := Ground.guard }], guard := some (16, true) }) (v := undef) rfl (by kernel_rfl) (by kernel_rfl) (by kernel_rfl) (fun _ _ _ h => h) (Or.inr ⟨by kernel_rfl, rfl⟩) hH ?_
                    try simp only [Act.put, List.setIfInBounds_toArray, List.set_cons_zero, List.set_cons_succ]
                    refine wpAnyH_take (i := 26) (oi := { dst := some 85, op := Op.binOp BinOp.lss 3 (Operand.tmp 79) (Operand.tmp 84) 3, type := 4, pos := "ref.go:165", after := #[{ on := 20, ground := Ground.data }, { on := 25, ground := Ground.data }, { on := 16, ground := Ground.guard }], guard := some (16, true) }) (v := undef) rfl (by kernel_rfl) (by kernel_rfl) (by kernel_rfl) (fun _ _ _ h => h) (Or.inr ⟨by kernel_rfl, rfl⟩) hH ?_
                    try simp only [Act.put, List.setIfInBounds_toArray, List.set_cons_zero, List.set_cons_succ]
                    refine wpAnyH_take (i := 27) (oi := { dst := some 86, op := Op.pick (Operand.tmp 75) (Operand.tmp 85) (Operand.const (Value.bool false)), type := 4, pos := "ref.go:165", after := #[{ on := 16, ground := Ground.data }, { on := 26, ground := Ground.data }], guard := none }) (v := .bool false) rfl (by kernel_rfl) (by kernel_rfl) (by kernel_rfl) (fun _ _ _ h => h) (Or.inl ⟨by kernel_rfl, ?_⟩) hH ?_
                    · intro w hSw; (try dsimp only at hSw); go_simp
                    try simp only [Act.put, List.setIfInBounds_toArray, List.set_cons_zero, List.set_cons_succ]
                    refine wpAnyH_ready (rs := [30, 34]) (by kernel_rfl) (by simp) ?_
                    refine AllReadyH.cons rfl (fun K hK => ?_) ?_
                    · go_simp
                      with_reducible refine (LE.out _ k8).mono ?_
                      rintro e w9 ⟨rfl, m9, hw9⟩
                      replace hw9 := Lib.hid hw9
                      try go_wp2_with fail
                      have k9 : Below W1.heap.size W1 w9 := by rw [hw9.out]; exact below_drewN k8 m9
                      refine hK.out _ _ (KF.out _ k9) (fun hH => ?_)
                      clear hK K
                      try simp only [Act.put, List.setIfInBounds_toArray, List.set_cons_zero, List.set_cons_succ]
                      refine wpAnyH_take (i := 33) (oi := { dst := some 92, op := Op.build 38 #[(0, Operand.tmp 68), (1, Operand.tmp 69), (2, Operand.tmp 86), (3, Operand.tmp 89), (4, Operand.tmp 91)], type := 38, pos := "ref.go:165", after := #[{ on := 9, ground := Ground.data }, { on := 10, ground := Ground.data }, { on := 27, ground := Ground.data }, { on := 30, ground := Ground.data }, { on := 32, ground := Ground.data }], guard := none }) (v := .agg #[.int .u64 S.best.1, .int .i64 S.best.2.1, .int .u64 S.br, .int .i64 (k : Int), .int .i64 (0 : Int), .bool false, .bool lr, .bool p.fwd]) rfl (by kernel_rfl) (by kernel_rfl) (by kernel_rfl) (fun _ _ _ h => h) (Or.inl ⟨by kernel_rfl, ?_⟩) hH ?_
                      · intro w hSw; (try dsimp only at hSw); go_simp
                      try simp only [Act.put, List.setIfInBounds_toArray, List.set_cons_zero, List.set_cons_succ]
                      refine wpAnyH_ready (rs := [34]) (by kernel_rfl) (by simp) ?_
                      refine AllReadyH.cons rfl (fun K hK => ?_) AllReadyH.nil
                      go_simp
                      refine hK.out _ _ (KF.out _ (k9.alloc k9.size _)) (fun hH => ?_)
                      clear hK K
                      try simp only [Act.put, List.setIfInBounds_toArray, List.set_cons_zero, List.set_cons_succ]
                      refine wpAnyH_ready (rs := [35]) (by kernel_rfl) (by simp) ?_
                      refine AllReadyH.cons rfl (fun K hK => ?_) AllReadyH.nil
                      go_simp
                      refine hK.out _ _ (KF.out _ (k9.alloc k9.size _)) (fun hH => ?_)
                      clear hK K
                      try simp only [Act.put, List.setIfInBounds_toArray, List.set_cons_zero, List.set_cons_succ]
                      refine wpAnyH_done (by kernel_rfl) ?_ _
                      have KX := Lib.hid (k9.alloc k9.size (.cells #[.int .u64 S.best.1, .int .i64 S.best.2.1, .int .u64 S.br, .int .i64 (k : Int), .int .i64 (0 : Int), .bool false, .bool lr, .bool p.fwd] 38))
                      have BX := Lib.hid (heap_new w9 (.cells #[.int .u64 S.best.1, .int .i64 S.best.2.1, .int .u64 S.br, .int .i64 (k : Int), .int .i64 (0 : Int), .bool false, .bool lr, .bool p.fwd] 38))
                      have GX := Lib.hid k9.size
                      clear hw9 k9 k8 hb8
                      generalize w9.alloc (.cells #[.int .u64 S.best.1, .int .i64 S.best.2.1, .int .u64 S.br, .int .i64 (k : Int), .int .i64 (0 : Int), .bool false, .bool lr, .bool p.fwd] 38) = WX at KX BX hH ⊢
                      generalize w9.heap.size = xb at BX GX ⊢
                      have z0 : WX.cell? ⟨xb, 0, none⟩ = some (.int .u64 S.best.1) := cell_of_block BX.out rfl
                      have z1 : WX.cell? ⟨xb, 1, none⟩ = some (.int .i64 S.best.2.1) := cell_of_block BX.out rfl
                      have z2 : WX.cell? ⟨xb, 2, none⟩ = some (.int .u64 S.br) := cell_of_block BX.out rfl
                      have z3 : WX.cell? ⟨xb, 3, none⟩ = some (.int .i64 (k : Int)) := cell_of_block BX.out rfl
                      have z4 : WX.cell? ⟨xb, 4, none⟩ = some (.int .i64 (0 : Int)) := cell_of_block BX.out rfl
                      have z5 : WX.cell? ⟨xb, 5, none⟩ = some (.bool false) := cell_of_block BX.out rfl
                      have z6 : WX.cell? ⟨xb, 6, none⟩ = some (.bool lr) := cell_of_block BX.out rfl
                      have z7 : WX.cell? ⟨xb, 7, none⟩ = some (.bool p.fwd) := cell_of_block BX.out rfl
                      have HO6 := Lib.hid (iowns_below HO1.out KX.out)
                      have K6 := Lib.hid (K1.out.trans (KX.out.mono K1.out.size))
                      have n3 := Lib.hid (show V.heap.size ≤ (WX.alloc (.cells #[.int .i64 (k : Int), .int .u64 S.best.1, .int .i64 S.best.2.1, .int .u64 S.br, .int .i64 (k : Int), .int .i64 (0 : Int), .bool false, .bool lr, .bool p.fwd] 72)).heap.size by have := K6.out.size; simp; omega)
                      have NEW := Lib.hid (cells_new WX [.int .i64 (k : Int), .int .u64 S.best.1, .int .i64 S.best.2.1, .int .u64 S.br, .int .i64 (k : Int), .int .i64 (0 : Int), .bool false, .bool lr, .bool p.fwd] 72)
                      have HO7 := Lib.hid (HO6.out.alloc (.cells #[.int .i64 (k : Int), .int .u64 S.best.1, .int .i64 S.best.2.1, .int .u64 S.br, .int .i64 (k : Int), .int .i64 (0 : Int), .bool false, .bool lr, .bool p.fwd] 72))
                      have K7 := Lib.hid (K6.out.alloc K6.out.size (.cells #[.int .i64 (k : Int), .int .u64 S.best.1, .int .i64 S.best.2.1, .int .u64 S.br, .int .i64 (k : Int), .int .i64 (0 : Int), .bool false, .bool lr, .bool p.fwd] 72))
                      have HON := Lib.hid (one_O ((k : Int), (⟨(S.best.1, S.best.2.1, S.br, (k : Int)), (0 : Int), false, lr, p.fwd⟩ : Tell)))
                      replace HON : Hid (∀ u ∈ ([.int .i64 (k : Int), .int .u64 S.best.1, .int .i64 S.best.2.1, .int .u64 S.br, .int .i64 (k : Int), .int .i64 (0 : Int), .bool false, .bool lr, .bool p.fwd] : List Value), u.oneCell' = true) := HON
                      clear KF TE LE k0 k1 z11 x0 x2 x4 x5 x6 x7 x8 HO6 K6 hH
                      go_wp2_with (at_builtin; refine wpList_append_own _ rfl _ _ 70 rfl V.heap.size 72 i0 (.agg #[.int .i64 0, .int .u64 0, .int .i64 0, .int .u64 0, .int .i64 0, .int .i64 0, .bool false, .bool false, .bool false]) 9 56 Try.underlying70 hi hz0 hz1 hz2 rfl (by decide) _ _ _ rfl HO7.out ⟨WX.heap.size, 0, none⟩ 1 1 [.int .i64 (k : Int), .int .u64 S.best.1, .int .i64 S.best.2.1, .int .u64 S.br, .int .i64 (k : Int), .int .i64 (0 : Int), .bool false, .bool lr, .bool p.fwd] rfl rfl NEW.out HON.out n1'.out n2'.out n3.out ?_)
                      intro v' w6 hown' hgrow _
                      have HO8 := Lib.hid hown'
                      have K8 := Lib.hid (K7.out.grown hgrow n3.out (fun j hj => (HO7.out.lt j hj).1))
                      clear hown' hgrow HO7 K7 NEW z0 z1 z2 z3 z4 z5 z6 z7
                      go_wp2_with fail
                      go_roundw
                      case rel => exact ⟨k + 1, by omega, by go_num, Lib.hid (by rw [HTT.out, List.length_append, List.flatMap_append]; simpa [cellsO] using HO8.out), Lib.hid (by rw [HTT.out, List.length_append]; have := HC.out; simp; omega), K8⟩
                      case measure => simp [intOf]; omega
                    · refine AllReadyH.cons rfl (fun K hK => ?_) AllReadyH.nil
                      go_simp
                      refine hK.out _ _ (KF.out _ (k8.alloc k8.size _)) (fun hH => ?_)
                      clear hK K
                      try simp only [Act.put, List.setIfInBounds_toArray, List.set_cons_zero, List.set_cons_succ]
                      have k8a := k8.alloc k8.size (.cells #[.int .u64 0, .int .i64 0, .int .u64 0, .int .i64 0, .int .i64 0, .bool false, .bool false, .bool false] 38)
                      have b8 := heap_new w8 (.cells #[.int .u64 0, .int .i64 0, .int .u64 0, .int .i64 0, .int .i64 0, .bool false, .bool false, .bool false] 38)
                      have g9 : W1.heap.size ≤ w8.heap.size := k8.size
                      clear k8 hb8
                      generalize w8.alloc (.cells #[.int .u64 0, .int .i64 0, .int .u64 0, .int .i64 0, .int .i64 0, .bool false, .bool false, .bool false] 38) = U8 at k8a b8 hH ⊢
                      generalize w8.heap.size = xb at b8 g9 ⊢
                      refine wpAnyH_ready (rs := [30]) (by kernel_rfl) (by simp) ?_
                      refine AllReadyH.cons rfl (fun K hK => ?_) AllReadyH.nil
                      go_simp
                      with_reducible refine (LE.out _ k8a).mono ?_
                      rintro e w9 ⟨rfl, m9, hw9⟩
                      replace hw9 := Lib.hid hw9
                      try go_wp2_with fail
                      have k9 : Below W1.heap.size W1 w9 := by rw [hw9.out]; exact below_drewN k8a m9
                      have b9 : w9.heap[xb]? = some (.cells #[.int .u64 0, .int .i64 0, .int .u64 0, .int .i64 0, .int .i64 0, .bool false, .bool false, .bool false] 38 (0, 0)) := by rw [hw9.out]; exact b8
                      refine hK.out _ _ (KF.out _ k9) (fun hH => ?_)
                      clear hK K
                      try simp only [Act.put, List.setIfInBounds_toArray, List.set_cons_zero, List.set_cons_succ]
                      clear hw9 k8a b8
                      have z0 : w9.cell? ⟨xb, 0, none⟩ = some (.int .u64 0) := cell_of_block b9 rfl
                      have f0 := free_of_block (j := 0) b9
                      have z1 : w9.cell? ⟨xb, 1, none⟩ = some (.int .i64 0) := cell_of_block b9 rfl
                      have f1 := free_of_block (j := 1) b9
                      have z2 : w9.cell? ⟨xb, 2, none⟩ = some (.int .u64 0) := cell_of_block b9 rfl
                      have f2 := free_of_block (j := 2) b9
                      have z3 : w9.cell? ⟨xb, 3, none⟩ = some (.int .i64 0) := cell_of_block b9 rfl
                      have f3 := free_of_block (j := 3) b9
                      have z4 : w9.cell? ⟨xb, 4, none⟩ = some (.int .i64 0) := cell_of_block b9 rfl
                      have f4 := free_of_block (j := 4) b9
                      have z5 : w9.cell? ⟨xb, 5, none⟩ = some (.bool false) := cell_of_block b9 rfl
                      have f5 := free_of_block (j := 5) b9
                      have z6 : w9.cell? ⟨xb, 6, none⟩ = some (.bool false) := cell_of_block b9 rfl
                      have f6 := free_of_block (j := 6) b9
                      have z7 : w9.cell? ⟨xb, 7, none⟩ = some (.bool false) := cell_of_block b9 rfl
                      have f7 := free_of_block (j := 7) b9
                      refine wpAnyH_take (i := 33) (oi := { dst := some 92, op := Op.build 38 #[(0, Operand.tmp 68), (1, Operand.tmp 69), (2, Operand.tmp 86), (3, Operand.tmp 89), (4, Operand.tmp 91)], type := 38, pos := "ref.go:165", after := #[{ on := 9, ground := Ground.data }, { on := 10, ground := Ground.data }, { on := 27, ground := Ground.data }, { on := 30, ground := Ground.data }, { on := 32, ground := Ground.data }], guard := none }) (v := .agg #[.int .u64 S.best.1, .int .i64 S.best.2.1, .int .u64 S.br, .int .i64 (k : Int), .int .i64 (0 : Int), .bool false, .bool lr, .bool p.fwd]) rfl (by kernel_rfl) (by kernel_rfl) (by kernel_rfl) (fun _ _ _ h => h) (Or.inl ⟨by kernel_rfl, ?_⟩) hH ?_
                      · intro w hSw; (try dsimp only at hSw); go_simp
                      try simp only [Act.put, List.setIfInBounds_toArray, List.set_cons_zero, List.set_cons_succ]
                      refine wpAnyH_ready (rs := [35]) (by kernel_rfl) (by simp) ?_
                      refine AllReadyH.cons rfl (fun K hK => ?_) AllReadyH.nil
                      go_simp
                      have KY := ((((((((k9.setCell (p := ⟨xb, 0, none⟩) g9 (.int .u64 S.best.1)).setCell (p := ⟨xb, 1, none⟩) g9 (.int .i64 S.best.2.1)).setCell (p := ⟨xb, 2, none⟩) g9 (.int .u64 S.br)).setCell (p := ⟨xb, 3, none⟩) g9 (.int .i64 (k : Int))).setCell (p := ⟨xb, 4, none⟩) g9 (.int .i64 (0 : Int))).setCell (p := ⟨xb, 5, none⟩) g9 (.bool false)).setCell (p := ⟨xb, 6, none⟩) g9 (.bool lr)).setCell (p := ⟨xb, 7, none⟩) g9 (.bool p.fwd))
                      refine hK.out _ _ (KF.out _ KY) (fun hH => ?_)
                      clear hK K
                      try simp only [Act.put, List.setIfInBounds_toArray, List.set_cons_zero, List.set_cons_succ]
                      refine wpAnyH_done (by kernel_rfl) ?_ _
                      have KX := Lib.hid KY
                      have BX := Lib.hid (show ((((((((w9.setCell ⟨xb, 0, none⟩ (.int .u64 S.best.1)).setCell ⟨xb, 1, none⟩ (.int .i64 S.best.2.1)).setCell ⟨xb, 2, none⟩ (.int .u64 S.br)).setCell ⟨xb, 3, none⟩ (.int .i64 (k : Int))).setCell ⟨xb, 4, none⟩ (.int .i64 (0 : Int))).setCell ⟨xb, 5, none⟩ (.bool false)).setCell ⟨xb, 6, none⟩ (.bool lr)).setCell ⟨xb, 7, none⟩ (.bool p.fwd)).heap[xb]? = some (.cells #[.int .u64 S.best.1, .int .i64 S.best.2.1, .int .u64 S.br, .int .i64 (k : Int), .int .i64 (0 : Int), .bool false, .bool lr, .bool p.fwd] 38 (0, 0)) from (heap_store (j := 7) (v := .bool p.fwd) (heap_store (j := 6) (v := .bool lr) (heap_store (j := 5) (v := .bool false) (heap_store (j := 4) (v := .int .i64 (0 : Int)) (heap_store (j := 3) (v := .int .i64 (k : Int)) (heap_store (j := 2) (v := .int .u64 S.br) (heap_store (j := 1) (v := .int .i64 S.best.2.1) (heap_store (j := 0) (v := .int .u64 S.best.1) b9)))))))))
                      have GX := Lib.hid g9
                      clear z0 f0 z1 f1 z2 f2 z3 f3 z4 f4 z5 f5 z6 f6 z7 f7 KY k9 b9 g9
                      generalize ((((((((w9.setCell ⟨xb, 0, none⟩ (.int .u64 S.best.1)).setCell ⟨xb, 1, none⟩ (.int .i64 S.best.2.1)).setCell ⟨xb, 2, none⟩ (.int .u64 S.br)).setCell ⟨xb, 3, none⟩ (.int .i64 (k : Int))).setCell ⟨xb, 4, none⟩ (.int .i64 (0 : Int))).setCell ⟨xb, 5, none⟩ (.bool false)).setCell ⟨xb, 6, none⟩ (.bool lr)).setCell ⟨xb, 7, none⟩ (.bool p.fwd)) = WX at KX BX ⊢
                      have z0 : WX.cell? ⟨xb, 0, none⟩ = some (.int .u64 S.best.1) := cell_of_block BX.out rfl
                      have z1 : WX.cell? ⟨xb, 1, none⟩ = some (.int .i64 S.best.2.1) := cell_of_block BX.out rfl
                      have z2 : WX.cell? ⟨xb, 2, none⟩ = some (.int .u64 S.br) := cell_of_block BX.out rfl
                      have z3 : WX.cell? ⟨xb, 3, none⟩ = some (.int .i64 (k : Int)) := cell_of_block BX.out rfl
                      have z4 : WX.cell? ⟨xb, 4, none⟩ = some (.int .i64 (0 : Int)) := cell_of_block BX.out rfl
                      have z5 : WX.cell? ⟨xb, 5, none⟩ = some (.bool false) := cell_of_block BX.out rfl
                      have z6 : WX.cell? ⟨xb, 6, none⟩ = some (.bool lr) := cell_of_block BX.out rfl
                      have z7 : WX.cell? ⟨xb, 7, none⟩ = some (.bool p.fwd) := cell_of_block BX.out rfl
                      have HO6 := Lib.hid (iowns_below HO1.out KX.out)
                      have K6 := Lib.hid (K1.out.trans (KX.out.mono K1.out.size))
                      have n3 := Lib.hid (show V.heap.size ≤ (WX.alloc (.cells #[.int .i64 (k : Int), .int .u64 S.best.1, .int .i64 S.best.2.1, .int .u64 S.br, .int .i64 (k : Int), .int .i64 (0 : Int), .bool false, .bool lr, .bool p.fwd] 72)).heap.size by have := K6.out.size; simp; omega)
                      have NEW := Lib.hid (cells_new WX [.int .i64 (k : Int), .int .u64 S.best.1, .int .i64 S.best.2.1, .int .u64 S.br, .int .i64 (k : Int), .int .i64 (0 : Int), .bool false, .bool lr, .bool p.fwd] 72)
                      have HO7 := Lib.hid (HO6.out.alloc (.cells #[.int .i64 (k : Int), .int .u64 S.best.1, .int .i64 S.best.2.1, .int .u64 S.br, .int .i64 (k : Int), .int .i64 (0 : Int), .bool false, .bool lr, .bool p.fwd] 72))
                      have K7 := Lib.hid (K6.out.alloc K6.out.size (.cells #[.int .i64 (k : Int), .int .u64 S.best.1, .int .i64 S.best.2.1, .int .u64 S.br, .int .i64 (k : Int), .int .i64 (0 : Int), .bool false, .bool lr, .bool p.fwd] 72))
                      have HON := Lib.hid (one_O ((k : Int), (⟨(S.best.1, S.best.2.1, S.br, (k : Int)), (0 : Int), false, lr, p.fwd⟩ : Tell)))
                      replace HON : Hid (∀ u ∈ ([.int .i64 (k : Int), .int .u64 S.best.1, .int .i64 S.best.2.1, .int .u64 S.br, .int .i64 (k : Int), .int .i64 (0 : Int), .bool false, .bool lr, .bool p.fwd] : List Value), u.oneCell' = true) := HON
                      clear KF TE LE k0 k1 z11 x0 x2 x4 x5 x6 x7 x8 HO6 K6 hH
                      go_wp2_with (at_builtin; refine wpList_append_own _ rfl _ _ 70 rfl V.heap.size 72 i0 (.agg #[.int .i64 0, .int .u64 0, .int .i64 0, .int .u64 0, .int .i64 0, .int .i64 0, .bool false, .bool false, .bool false]) 9 56 Try.underlying70 hi hz0 hz1 hz2 rfl (by decide) _ _ _ rfl HO7.out ⟨WX.heap.size, 0, none⟩ 1 1 [.int .i64 (k : Int), .int .u64 S.best.1, .int .i64 S.best.2.1, .int .u64 S.br, .int .i64 (k : Int), .int .i64 (0 : Int), .bool false, .bool lr, .bool p.fwd] rfl rfl NEW.out HON.out n1'.out n2'.out n3.out ?_)
                      intro v' w6 hown' hgrow _
                      have HO8 := Lib.hid hown'
                      have K8 := Lib.hid (K7.out.grown hgrow n3.out (fun j hj => (HO7.out.lt j hj).1))
                      clear hown' hgrow HO7 K7 NEW z0 z1 z2 z3 z4 z5 z6 z7
                      go_wp2_with fail
                      go_roundw
                      case rel => exact ⟨k + 1, by omega, by go_num, Lib.hid (by rw [HTT.out, List.length_append, List.flatMap_append]; simpa [cellsO] using HO8.out), Lib.hid (by rw [HTT.out, List.length_append]; have := HC.out; simp; omega), K8⟩
                      case measure => simp [intOf]; omega
                  · refine AllReadyH.cons rfl (fun K hK => ?_) AllReadyH.nil
                    go_simp
                    refine hK.out _ _ (KF.out _ k1) (fun hH => ?_)
                    clear hK K
                    try simp only [Act.put, List.setIfInBounds_toArray, List.set_cons_zero, List.set_cons_succ]
                    have b1 : ((W1.alloc (.cells #[.int .u64 0, .int .i64 0, .int .u64 0, .int .i64 0, .int .i64 0, .bool false, .bool false, .bool false] 38)).drew).heap[W1.heap.size]? = some (.cells #[.int .u64 0, .int .i64 0, .int .u64 0, .int .i64 0, .int .i64 0, .bool false, .bool false, .bool false] 38 (0, 0)) := heap_new W1 (.cells #[.int .u64 0, .int .i64 0, .int .u64 0, .int .i64 0, .int .i64 0, .bool false, .bool false, .bool false] 38)
                    generalize (W1.alloc (.cells #[.int .u64 0, .int .i64 0, .int .u64 0, .int .i64 0, .int .i64 0, .bool false, .bool false, .bool false] 38)).drew = U1 at k1 b1 hH ⊢
                    have g9 : W1.heap.size ≤ W1.heap.size := Nat.le_refl _
                    refine wpAnyH_ready (rs := [9]) (by kernel_rfl) (by simp) ?_
                    refine AllReadyH.cons rfl (fun K hK => ?_) AllReadyH.nil
                    go_simp
                    with_reducible refine (TE.out _).mono ?_
                    rintro e w8 ⟨rfl, hb8⟩
                    try go_wp2_with fail
                    have k8 := k1.trans (hb8.mono k1.size)
                    have b8 := below_block hb8 (lt_of_block b1) b1
                    refine hK.out _ _ (KF.out _ k8) (fun hH => ?_)
                    clear hK K
                    try simp only [Act.put, List.setIfInBounds_toArray, List.set_cons_zero, List.set_cons_succ]
                    clear hb8 b1
                    refine wpAnyH_take (i := 16) (oi := { dst := some 75, op := Op.move (Operand.tmp 74), type := 4, pos := "ref.go:165", after := #[{ on := 15, ground := Ground.data }, { on := 9, ground := Ground.chain }], guard := none }) (v := .bool false) rfl (by kernel_rfl) (by kernel_rfl) (by kernel_rfl) (fun _ _ _ h => h) (Or.inl ⟨by kernel_rfl, ?_⟩) hH ?_
                    · intro w hSw; (try dsimp only at hSw); go_simp
                    try simp only [Act.put, List.setIfInBounds_toArray, List.set_cons_zero, List.set_cons_succ]
                    refine wpAnyH_take (i := 17) (oi := { dst := some 76, op := Op.move (Operand.tmp 0), type := 31, pos := "ref.go:165", after := #[{ on := 16, ground := Ground.guard }], guard := some (16, true) }) (v := undef) rfl (by kernel_rfl) (by kernel_rfl) (by kernel_rfl) (fun _ _ _ h => h) (Or.inr ⟨by kernel_rfl, rfl⟩) hH ?_
                    try simp only [Act.put, List.setIfInBounds_toArray, List.set_cons_zero, List.set_cons_succ]
                    refine wpAnyH_take (i := 18) (oi := { dst := some 77, op := Op.nilCheck (Operand.tmp 76), type := 0, pos := "ref.go:165", after := #[{ on := 17, ground := Ground.data }, { on := 16, ground := Ground.guard }], guard := some (16, true) }) (v := undef) rfl (by kernel_rfl) (by kernel_rfl) (by kernel_rfl) (fun _ _ _ h => h) (Or.inr ⟨by kernel_rfl, rfl⟩) hH ?_
                    try simp only [Act.put, List.setIfInBounds_toArray, List.set_cons_zero, List.set_cons_succ]
                    refine wpAnyH_take (i := 19) (oi := { dst := some 78, op := Op.fieldAddr 67 (Operand.tmp 77) 2, type := 0, pos := "ref.go:165", after := #[{ on := 18, ground := Ground.data }, { on := 16, ground := Ground.guard }], guard := some (16, true) }) (v := undef) rfl (by kernel_rfl) (by kernel_rfl) (by kernel_rfl) (fun _ _ _ h => h) (Or.inr ⟨by kernel_rfl, rfl⟩) hH ?_
                    try simp only [Act.put, List.setIfInBounds_toArray, List.set_cons_zero, List.set_cons_succ]
                    refine wpAnyH_take (i := 20) (oi := { dst := some 79, op := Op.load 3 (Operand.tmp 78), type := 3, pos := "ref.go:165", after := #[{ on := 19, ground := Ground.data }, { on := 16, ground := Ground.guard }], guard := some (16, true) }) (v := undef) rfl (by kernel_rfl) (by kernel_rfl) (by kernel_rfl) (fun _ _ _ h => h) (Or.inr ⟨by kernel_rfl, rfl⟩) hH ?_
                    try simp only [Act.put, List.setIfInBounds_toArray, List.set_cons_zero, List.set_cons_succ]
                    refine wpAnyH_take (i := 21) (oi := { dst := some 80, op := Op.move (Operand.tmp 0), type := 31, pos := "ref.go:165", after := #[{ on := 16, ground := Ground.guard }], guard := some (16, true) }) (v := undef) rfl (by kernel_rfl) (by kernel_rfl) (by kernel_rfl) (fun _ _ _ h => h) (Or.inr ⟨by kernel_rfl, rfl⟩) hH ?_
                    try simp only [Act.put, List.setIfInBounds_toArray, List.set_cons_zero, List.set_cons_succ]
                    refine wpAnyH_take (i := 22) (oi := { dst := some 81, op := Op.nilCheck (Operand.tmp 80), type := 0, pos := "ref.go:165", after := #[{ on := 21, ground := Ground.data }, { on := 16, ground := Ground.guard }], guard := some (16, true) }) (v := undef) rfl (by kernel_rfl) (by kernel_rfl) (by kernel_rfl) (fun _ _ _ h => h) (Or.inr ⟨by kernel_rfl, rfl⟩) hH ?_
                    try simp only [Act.put, List.setIfInBounds_toArray, List.set_cons_zero, List.set_cons_succ]
                    refine wpAnyH_take (i := 23) (oi := { dst := some 82, op := Op.fieldAddr 67 (Operand.tmp 81) 5, type := 0, pos := "ref.go:165", after := #[{ on := 22, ground := Ground.data }, { on := 16, ground := Ground.guard }], guard := some (16, true) }) (v := undef) rfl (by kernel_rfl) (by kernel_rfl) (by kernel_rfl) (fun _ _ _ h => h) (Or.inr ⟨by kernel_rfl, rfl⟩) hH ?_
                    try simp only [Act.put, List.setIfInBounds_toArray, List.set_cons_zero, List.set_cons_succ]
                    refine wpAnyH_take (i := 24) (oi := { dst := some 83, op := Op.load 3 (Operand.tmp 82), type := 3, pos := "ref.go:165", after := #[{ on := 23, ground := Ground.data }, { on := 16, ground := Ground.guard }], guard := some (16, true) }) (v := undef) rfl (by kernel_rfl) (by kernel_rfl) (by kernel_rfl) (fun _ _ _ h => h) (Or.inr ⟨by kernel_rfl, rfl⟩) hH ?_
                    try simp only [Act.put, List.setIfInBounds_toArray, List.set_cons_zero, List.set_cons_succ]
                    refine wpAnyH_take (i := 25) (oi := { dst := some 84, op := Op.binOp BinOp.add 3 (Operand.tmp 83) (Operand.const (Value.int IntKind.i64 4)) 3, type := 3, pos := "ref.go:165", after := #[{ on := 24, ground := Ground.data }, { on := 16, ground := Ground.guard }], guard := some (16, true) }) (v := undef) rfl (by kernel_rfl) (by kernel_rfl) (by kernel_rfl) (fun _ _ _ h => h) (Or.inr ⟨by kernel_rfl, rfl⟩) hH ?_
                    try simp only [Act.put, List.setIfInBounds_toArray, List.set_cons_zero, List.set_cons_succ]
                    refine wpAnyH_take (i := 26) (oi := { dst := some 85, op := Op.binOp BinOp.lss 3 (Operand.tmp 79) (Operand.tmp 84) 3, type := 4, pos := "ref.go:165", after := #[{ on := 20, ground := Ground.data }, { on := 25, ground := Ground.data }, { on := 16, ground := Ground.guard }], guard := some (16, true) }) (v := undef) rfl (by kernel_rfl) (by kernel_rfl) (by kernel_rfl) (fun _ _ _ h => h) (Or.inr ⟨by kernel_rfl, rfl⟩) hH ?_
                    try simp only [Act.put, List.setIfInBounds_toArray, List.set_cons_zero, List.set_cons_succ]
                    refine wpAnyH_take (i := 27) (oi := { dst := some 86, op := Op.pick (Operand.tmp 75) (Operand.tmp 85) (Operand.const (Value.bool false)), type := 4, pos := "ref.go:165", after := #[{ on := 16, ground := Ground.data }, { on := 26, ground := Ground.data }], guard := none }) (v := .bool false) rfl (by kernel_rfl) (by kernel_rfl) (by kernel_rfl) (fun _ _ _ h => h) (Or.inl ⟨by kernel_rfl, ?_⟩) hH ?_
                    · intro w hSw; (try dsimp only at hSw); go_simp
                    try simp only [Act.put, List.setIfInBounds_toArray, List.set_cons_zero, List.set_cons_succ]
                    refine wpAnyH_ready (rs := [30]) (by kernel_rfl) (by simp) ?_
                    refine AllReadyH.cons rfl (fun K hK => ?_) AllReadyH.nil
                    go_simp
                    with_reducible refine (LE.out _ k8).mono ?_
                    rintro e w9 ⟨rfl, m9, hw9⟩
                    replace hw9 := Lib.hid hw9
                    try go_wp2_with fail
                    have k9 : Below W1.heap.size W1 w9 := by rw [hw9.out]; exact below_drewN k8 m9
                    have b9 : w9.heap[W1.heap.size]? = some (.cells #[.int .u64 0, .int .i64 0, .int .u64 0, .int .i64 0, .int .i64 0, .bool false, .bool false, .bool false] 38 (0, 0)) := by rw [hw9.out]; exact b8
                    refine hK.out _ _ (KF.out _ k9) (fun hH => ?_)
                    clear hK K
                    try simp only [Act.put, List.setIfInBounds_toArray, List.set_cons_zero, List.set_cons_succ]
                    clear hw9 k8 b8
                    have z0 : w9.cell? ⟨W1.heap.size, 0, none⟩ = some (.int .u64 0) := cell_of_block b9 rfl
                    have f0 := free_of_block (j := 0) b9
                    have z1 : w9.cell? ⟨W1.heap.size, 1, none⟩ = some (.int .i64 0) := cell_of_block b9 rfl
                    have f1 := free_of_block (j := 1) b9
                    have z2 : w9.cell? ⟨W1.heap.size, 2, none⟩ = some (.int .u64 0) := cell_of_block b9 rfl
                    have f2 := free_of_block (j := 2) b9
                    have z3 : w9.cell? ⟨W1.heap.size, 3, none⟩ = some (.int .i64 0) := cell_of_block b9 rfl
                    have f3 := free_of_block (j := 3) b9
                    have z4 : w9.cell? ⟨W1.heap.size, 4, none⟩ = some (.int .i64 0) := cell_of_block b9 rfl
                    have f4 := free_of_block (j := 4) b9
                    have z5 : w9.cell? ⟨W1.heap.size, 5, none⟩ = some (.bool false) := cell_of_block b9 rfl
                    have f5 := free_of_block (j := 5) b9
                    have z6 : w9.cell? ⟨W1.heap.size, 6, none⟩ = some (.bool false) := cell_of_block b9 rfl
                    have f6 := free_of_block (j := 6) b9
                    have z7 : w9.cell? ⟨W1.heap.size, 7, none⟩ = some (.bool false) := cell_of_block b9 rfl
                    have f7 := free_of_block (j := 7) b9
                    refine wpAnyH_take (i := 33) (oi := { dst := some 92, op := Op.build 38 #[(0, Operand.tmp 68), (1, Operand.tmp 69), (2, Operand.tmp 86), (3, Operand.tmp 89), (4, Operand.tmp 91)], type := 38, pos := "ref.go:165", after := #[{ on := 9, ground := Ground.data }, { on := 10, ground := Ground.data }, { on := 27, ground := Ground.data }, { on := 30, ground := Ground.data }, { on := 32, ground := Ground.data }], guard := none }) (v := .agg #[.int .u64 S.best.1, .int .i64 S.best.2.1, .int .u64 S.br, .int .i64 (k : Int), .int .i64 (0 : Int), .bool false, .bool lr, .bool p.fwd]) rfl (by kernel_rfl) (by kernel_rfl) (by kernel_rfl) (fun _ _ _ h => h) (Or.inl ⟨by kernel_rfl, ?_⟩) hH ?_
                    · intro w hSw; (try dsimp only at hSw); go_simp
                    try simp only [Act.put, List.setIfInBounds_toArray, List.set_cons_zero, List.set_cons_succ]
                    refine wpAnyH_ready (rs := [35]) (by kernel_rfl) (by simp) ?_
                    refine AllReadyH.cons rfl (fun K hK => ?_) AllReadyH.nil
                    go_simp
                    have KY := ((((((((k9.setCell (p := ⟨W1.heap.size, 0, none⟩) g9 (.int .u64 S.best.1)).setCell (p := ⟨W1.heap.size, 1, none⟩) g9 (.int .i64 S.best.2.1)).setCell (p := ⟨W1.heap.size, 2, none⟩) g9 (.int .u64 S.br)).setCell (p := ⟨W1.heap.size, 3, none⟩) g9 (.int .i64 (k : Int))).setCell (p := ⟨W1.heap.size, 4, none⟩) g9 (.int .i64 (0 : Int))).setCell (p := ⟨W1.heap.size, 5, none⟩) g9 (.bool false)).setCell (p := ⟨W1.heap.size, 6, none⟩) g9 (.bool lr)).setCell (p := ⟨W1.heap.size, 7, none⟩) g9 (.bool p.fwd))
                    refine hK.out _ _ (KF.out _ KY) (fun hH => ?_)
                    clear hK K
                    try simp only [Act.put, List.setIfInBounds_toArray, List.set_cons_zero, List.set_cons_succ]
                    refine wpAnyH_done (by kernel_rfl) ?_ _
                    have KX := Lib.hid KY
                    have BX := Lib.hid (show ((((((((w9.setCell ⟨W1.heap.size, 0, none⟩ (.int .u64 S.best.1)).setCell ⟨W1.heap.size, 1, none⟩ (.int .i64 S.best.2.1)).setCell ⟨W1.heap.size, 2, none⟩ (.int .u64 S.br)).setCell ⟨W1.heap.size, 3, none⟩ (.int .i64 (k : Int))).setCell ⟨W1.heap.size, 4, none⟩ (.int .i64 (0 : Int))).setCell ⟨W1.heap.size, 5, none⟩ (.bool false)).setCell ⟨W1.heap.size, 6, none⟩ (.bool lr)).setCell ⟨W1.heap.size, 7, none⟩ (.bool p.fwd)).heap[W1.heap.size]? = some (.cells #[.int .u64 S.best.1, .int .i64 S.best.2.1, .int .u64 S.br, .int .i64 (k : Int), .int .i64 (0 : Int), .bool false, .bool lr, .bool p.fwd] 38 (0, 0)) from (heap_store (j := 7) (v := .bool p.fwd) (heap_store (j := 6) (v := .bool lr) (heap_store (j := 5) (v := .bool false) (heap_store (j := 4) (v := .int .i64 (0 : Int)) (heap_store (j := 3) (v := .int .i64 (k : Int)) (heap_store (j := 2) (v := .int .u64 S.br) (heap_store (j := 1) (v := .int .i64 S.best.2.1) (heap_store (j := 0) (v := .int .u64 S.best.1) b9)))))))))
                    have GX := Lib.hid g9
                    clear z0 f0 z1 f1 z2 f2 z3 f3 z4 f4 z5 f5 z6 f6 z7 f7 KY k9 b9 g9
                    generalize ((((((((w9.setCell ⟨W1.heap.size, 0, none⟩ (.int .u64 S.best.1)).setCell ⟨W1.heap.size, 1, none⟩ (.int .i64 S.best.2.1)).setCell ⟨W1.heap.size, 2, none⟩ (.int .u64 S.br)).setCell ⟨W1.heap.size, 3, none⟩ (.int .i64 (k : Int))).setCell ⟨W1.heap.size, 4, none⟩ (.int .i64 (0 : Int))).setCell ⟨W1.heap.size, 5, none⟩ (.bool false)).setCell ⟨W1.heap.size, 6, none⟩ (.bool lr)).setCell ⟨W1.heap.size, 7, none⟩ (.bool p.fwd)) = WX at KX BX ⊢
                    have z0 : WX.cell? ⟨W1.heap.size, 0, none⟩ = some (.int .u64 S.best.1) := cell_of_block BX.out rfl
                    have z1 : WX.cell? ⟨W1.heap.size, 1, none⟩ = some (.int .i64 S.best.2.1) := cell_of_block BX.out rfl
                    have z2 : WX.cell? ⟨W1.heap.size, 2, none⟩ = some (.int .u64 S.br) := cell_of_block BX.out rfl
                    have z3 : WX.cell? ⟨W1.heap.size, 3, none⟩ = some (.int .i64 (k : Int)) := cell_of_block BX.out rfl
                    have z4 : WX.cell? ⟨W1.heap.size, 4, none⟩ = some (.int .i64 (0 : Int)) := cell_of_block BX.out rfl
                    have z5 : WX.cell? ⟨W1.heap.size, 5, none⟩ = some (.bool false) := cell_of_block BX.out rfl
                    have z6 : WX.cell? ⟨W1.heap.size, 6, none⟩ = some (.bool lr) := cell_of_block BX.out rfl
                    have z7 : WX.cell? ⟨W1.heap.size, 7, none⟩ = some (.bool p.fwd) := cell_of_block BX.out rfl
                    have HO6 := Lib.hid (iowns_below HO1.out KX.out)
                    have K6 := Lib.hid (K1.out.trans (KX.out.mono K1.out.size))
                    have n3 := Lib.hid (show V.heap.size ≤ (WX.alloc (.cells #[.int .i64 (k : Int), .int .u64 S.best.1, .int .i64 S.best.2.1, .int .u64 S.br, .int .i64 (k : Int), .int .i64 (0 : Int), .bool false, .bool lr, .bool p.fwd] 72)).heap.size by have := K6.out.size; simp; omega)
                    have NEW := Lib.hid (cells_new WX [.int .i64 (k : Int), .int .u64 S.best.1, .int .i64 S.best.2.1, .int .u64 S.br, .int .i64 (k : Int), .int .i64 (0 : Int), .bool false, .bool lr, .bool p.fwd] 72)
                    have HO7 := Lib.hid (HO6.out.alloc (.cells #[.int .i64 (k : Int), .int .u64 S.best.1, .int .i64 S.best.2.1, .int .u64 S.br, .int .i64 (k : Int), .int .i64 (0 : Int), .bool false, .bool lr, .bool p.fwd] 72))
                    have K7 := Lib.hid (K6.out.alloc K6.out.size (.cells #[.int .i64 (k : Int), .int .u64 S.best.1, .int .i64 S.best.2.1, .int .u64 S.br, .int .i64 (k : Int), .int .i64 (0 : Int), .bool false, .bool lr, .bool p.fwd] 72))
                    have HON := Lib.hid (one_O ((k : Int), (⟨(S.best.1, S.best.2.1, S.br, (k : Int)), (0 : Int), false, lr, p.fwd⟩ : Tell)))
                    replace HON : Hid (∀ u ∈ ([.int .i64 (k : Int), .int .u64 S.best.1, .int .i64 S.best.2.1, .int .u64 S.br, .int .i64 (k : Int), .int .i64 (0 : Int), .bool false, .bool lr, .bool p.fwd] : List Value), u.oneCell' = true) := HON
                    clear KF TE LE k0 k1 z11 x0 x2 x4 x5 x6 x7 x8 HO6 K6 hH
                    go_wp2_with (at_builtin; refine wpList_append_own _ rfl _ _ 70 rfl V.heap.size 72 i0 (.agg #[.int .i64 0, .int .u64 0, .int .i64 0, .int .u64 0, .int .i64 0, .int .i64 0, .bool false, .bool false, .bool false]) 9 56 Try.underlying70 hi hz0 hz1 hz2 rfl (by decide) _ _ _ rfl HO7.out ⟨WX.heap.size, 0, none⟩ 1 1 [.int .i64 (k : Int), .int .u64 S.best.1, .int .i64 S.best.2.1, .int .u64 S.br, .int .i64 (k : Int), .int .i64 (0 : Int), .bool false, .bool lr, .bool p.fwd] rfl rfl NEW.out HON.out n1'.out n2'.out n3.out ?_)
                    intro v' w6 hown' hgrow _
                    have HO8 := Lib.hid hown'
                    have K8 := Lib.hid (K7.out.grown hgrow n3.out (fun j hj => (HO7.out.lt j hj).1))
                    clear hown' hgrow HO7 K7 NEW z0 z1 z2 z3 z4 z5 z6 z7
                    go_wp2_with fail
                    go_roundw
                    case rel => exact ⟨k + 1, by omega, by go_num, Lib.hid (by rw [HTT.out, List.length_append, List.flatMap_append]; simpa [cellsO] using HO8.out), Lib.hid (by rw [HTT.out, List.length_append]; have := HC.out; simp; omega), K8⟩
                    case measure => simp [intOf]; omega
                | true =>
                  obtain rfl : nw = decide (S.now < S.chg + 4) := by rw [NW.out, e1, Bool.true_and]
                  clear NW
                  refine wp_region_held_drew (S := fun U => U.cell? ⟨q, 0, none⟩ = some (.int .u64 S.br) ∧ U.cell? ⟨q, 2, none⟩ = some (.int .i64 S.now) ∧ U.cell? ⟨q, 4, none⟩ = some (.int .u64 S.best.1) ∧ U.cell? ⟨q, 5, none⟩ = some (.int .i64 S.best.2.1) ∧ U.cell? ⟨q, 6, none⟩ = some (.int .u64 S.best.2.2.1) ∧ U.cell? ⟨q, 7, none⟩ = some (.int .i64 S.best.2.2.2) ∧ U.cell? ⟨q, 8, none⟩ = some (.int .i64 S.chg) ∧ U.cell? ⟨pb, 11, none⟩ = some (.bool p.fwd) ∧ Below W1.heap.size W1 U) (by kernel_rfl) (KF.out _ k0) (fun hH => ?_)
                  refine wpAnyH_take (i := 0) (oi := { dst := some 59, op := Op.move (Operand.tmp 0), type := 31, pos := "ref.go:165", after := #[], guard := none }) (v := .pointer (some ⟨q, 0, none⟩)) rfl (by kernel_rfl) (by kernel_rfl) (by kernel_rfl) (fun _ _ _ h => h) (Or.inl ⟨by kernel_rfl, ?_⟩) hH ?_
                  · intro w hSw; (try dsimp only at hSw); go_simp
                  try simp only [Act.put, List.setIfInBounds_toArray, List.set_cons_zero, List.set_cons_succ]
                  refine wpAnyH_take (i := 1) (oi := { dst := some 60, op := Op.nilCheck (Operand.tmp 59), type := 0, pos := "ref.go:165", after := #[{ on := 0, ground := Ground.data }], guard := none }) (v := .pointer (some ⟨q, 0, none⟩)) rfl (by kernel_rfl) (by kernel_rfl) (by kernel_rfl) (fun _ _ _ h => h) (Or.inl ⟨by kernel_rfl, ?_⟩) hH ?_
                  · intro w hSw; (try dsimp only at hSw); go_simp
                  try simp only [Act.put, List.setIfInBounds_toArray, List.set_cons_zero, List.set_cons_succ]
                  refine wpAnyH_take (i := 2) (oi := { dst := some 61, op := Op.fieldAddr 67 (Operand.tmp 60) 0, type := 0, pos := "ref.go:165", after := #[{ on := 1, ground := Ground.data }], guard := none }) (v := .pointer (some ⟨q, 0, none⟩)) rfl (by kernel_rfl) (by kernel_rfl) (by kernel_rfl) (fun _ _ _ h => h) (Or.inl ⟨by kernel_rfl, ?_⟩) hH ?_
                  · intro w hSw; (try dsimp only at hSw); go_simp
                  try simp only [Act.put, List.setIfInBounds_toArray, List.set_cons_zero, List.set_cons_succ]
                  refine wpAnyH_take (i := 3) (oi := { dst := some 62, op := Op.load 22 (Operand.tmp 61), type := 22, pos := "ref.go:165", after := #[{ on := 2, ground := Ground.data }], guard := none }) (v := .int .u64 S.br) rfl (by kernel_rfl) (by kernel_rfl) (by kernel_rfl) (fun _ _ _ h => h) (Or.inl ⟨by kernel_rfl, ?_⟩) hH ?_
                  · intro w hSw; (try dsimp only at hSw); go_simp
                  try simp only [Act.put, List.setIfInBounds_toArray, List.set_cons_zero, List.set_cons_succ]
                  refine wpAnyH_take (i := 4) (oi := { dst := some 63, op := Op.move (Operand.tmp 0), type := 31, pos := "ref.go:165", after := #[], guard := none }) (v := .pointer (some ⟨q, 0, none⟩)) rfl (by kernel_rfl) (by kernel_rfl) (by kernel_rfl) (fun _ _ _ h => h) (Or.inl ⟨by kernel_rfl, ?_⟩) hH ?_
                  · intro w hSw; (try dsimp only at hSw); go_simp
                  try simp only [Act.put, List.setIfInBounds_toArray, List.set_cons_zero, List.set_cons_succ]
                  refine wpAnyH_take (i := 5) (oi := { dst := some 64, op := Op.nilCheck (Operand.tmp 63), type := 0, pos := "ref.go:165", after := #[{ on := 4, ground := Ground.data }], guard := none }) (v := .pointer (some ⟨q, 0, none⟩)) rfl (by kernel_rfl) (by kernel_rfl) (by kernel_rfl) (fun _ _ _ h => h) (Or.inl ⟨by kernel_rfl, ?_⟩) hH ?_
                  · intro w hSw; (try dsimp only at hSw); go_simp
                  try simp only [Act.put, List.setIfInBounds_toArray, List.set_cons_zero, List.set_cons_succ]
                  refine wpAnyH_take (i := 6) (oi := { dst := some 65, op := Op.fieldAddr 67 (Operand.tmp 64) 4, type := 0, pos := "ref.go:165", after := #[{ on := 5, ground := Ground.data }], guard := none }) (v := .pointer (some ⟨q, 4, none⟩)) rfl (by kernel_rfl) (by kernel_rfl) (by kernel_rfl) (fun _ _ _ h => h) (Or.inl ⟨by kernel_rfl, ?_⟩) hH ?_
                  · intro w hSw; (try dsimp only at hSw); go_simp
                  try simp only [Act.put, List.setIfInBounds_toArray, List.set_cons_zero, List.set_cons_succ]
                  refine wpAnyH_take (i := 7) (oi := { dst := some 66, op := Op.load 36 (Operand.tmp 65), type := 36, pos := "ref.go:165", after := #[{ on := 6, ground := Ground.data }], guard := none }) (v := .agg #[.int .u64 S.best.1, .int .i64 S.best.2.1, .int .u64 S.best.2.2.1, .int .i64 S.best.2.2.2]) rfl (by kernel_rfl) (by kernel_rfl) (by kernel_rfl) (fun _ _ _ h => h) (Or.inl ⟨by kernel_rfl, ?_⟩) hH ?_
                  · intro w hSw; (try dsimp only at hSw); go_simp
                  try simp only [Act.put, List.setIfInBounds_toArray, List.set_cons_zero, List.set_cons_succ]
                  refine wpAnyH_take (i := 8) (oi := { dst := some 67, op := Op.move (Operand.tmp 7), type := 3, pos := "ref.go:165", after := #[], guard := none }) (v := .int .i64 (k : Int)) rfl (by kernel_rfl) (by kernel_rfl) (by kernel_rfl) (fun _ _ _ h => h) (Or.inl ⟨by kernel_rfl, ?_⟩) hH ?_
                  · intro w hSw; (try dsimp only at hSw); go_simp
                  try simp only [Act.put, List.setIfInBounds_toArray, List.set_cons_zero, List.set_cons_succ]
                  refine wpAnyH_take (i := 10) (oi := { dst := some 69, op := Op.move (Operand.tmp 5), type := 3, pos := "ref.go:165", after := #[], guard := none }) (v := .int .i64 (0 : Int)) rfl (by kernel_rfl) (by kernel_rfl) (by kernel_rfl) (fun _ _ _ h => h) (Or.inl ⟨by kernel_rfl, ?_⟩) hH ?_
                  · intro w hSw; (try dsimp only at hSw); go_simp
                  try simp only [Act.put, List.setIfInBounds_toArray, List.set_cons_zero, List.set_cons_succ]
                  refine wpAnyH_take (i := 11) (oi := { dst := some 70, op := Op.move (Operand.tmp 0), type := 31, pos := "ref.go:165", after := #[], guard := none }) (v := .pointer (some ⟨q, 0, none⟩)) rfl (by kernel_rfl) (by kernel_rfl) (by kernel_rfl) (fun _ _ _ h => h) (Or.inl ⟨by kernel_rfl, ?_⟩) hH ?_
                  · intro w hSw; (try dsimp only at hSw); go_simp
                  try simp only [Act.put, List.setIfInBounds_toArray, List.set_cons_zero, List.set_cons_succ]
                  refine wpAnyH_take (i := 12) (oi := { dst := some 71, op := Op.nilCheck (Operand.tmp 70), type := 0, pos := "ref.go:165", after := #[{ on := 11, ground := Ground.data }], guard := none }) (v := .pointer (some ⟨q, 0, none⟩)) rfl (by kernel_rfl) (by kernel_rfl) (by kernel_rfl) (fun _ _ _ h => h) (Or.inl ⟨by kernel_rfl, ?_⟩) hH ?_
                  · intro w hSw; (try dsimp only at hSw); go_simp
                  try simp only [Act.put, List.setIfInBounds_toArray, List.set_cons_zero, List.set_cons_succ]
                  refine wpAnyH_take (i := 13) (oi := { dst := some 72, op := Op.fieldAddr 67 (Operand.tmp 71) 5, type := 0, pos := "ref.go:165", after := #[{ on := 12, ground := Ground.data }], guard := none }) (v := .pointer (some ⟨q, 8, none⟩)) rfl (by kernel_rfl) (by kernel_rfl) (by kernel_rfl) (fun _ _ _ h => h) (Or.inl ⟨by kernel_rfl, ?_⟩) hH ?_
                  · intro w hSw; (try dsimp only at hSw); go_simp
                  try simp only [Act.put, List.setIfInBounds_toArray, List.set_cons_zero, List.set_cons_succ]
                  refine wpAnyH_take (i := 14) (oi := { dst := some 73, op := Op.load 3 (Operand.tmp 72), type := 3, pos := "ref.go:165", after := #[{ on := 13, ground := Ground.data }], guard := none }) (v := .int .i64 S.chg) rfl (by kernel_rfl) (by kernel_rfl) (by kernel_rfl) (fun _ _ _ h => h) (Or.inl ⟨by kernel_rfl, ?_⟩) hH ?_
                  · intro w hSw; (try dsimp only at hSw); go_simp
                  try simp only [Act.put, List.setIfInBounds_toArray, List.set_cons_zero, List.set_cons_succ]
                  refine wpAnyH_take (i := 15) (oi := { dst := some 74, op := Op.binOp BinOp.geq 3 (Operand.tmp 73) (Operand.const (Value.int IntKind.i64 0)) 3, type := 4, pos := "ref.go:165", after := #[{ on := 14, ground := Ground.data }], guard := none }) (v := .bool true) rfl (by kernel_rfl) (by kernel_rfl) (by kernel_rfl) (fun _ _ _ h => h) (Or.inl ⟨by kernel_rfl, ?_⟩) hH ?_
                  · intro w hSw; (try dsimp only at hSw); go_simp
                  try simp only [Act.put, List.setIfInBounds_toArray, List.set_cons_zero, List.set_cons_succ]
                  refine wpAnyH_take (i := 28) (oi := { dst := some 87, op := Op.move (Operand.tmp 0), type := 31, pos := "ref.go:165", after := #[], guard := none }) (v := .pointer (some ⟨q, 0, none⟩)) rfl (by kernel_rfl) (by kernel_rfl) (by kernel_rfl) (fun _ _ _ h => h) (Or.inl ⟨by kernel_rfl, ?_⟩) hH ?_
                  · intro w hSw; (try dsimp only at hSw); go_simp
                  try simp only [Act.put, List.setIfInBounds_toArray, List.set_cons_zero, List.set_cons_succ]
                  refine wpAnyH_take (i := 29) (oi := { dst := some 88, op := Op.move (Operand.tmp 7), type := 3, pos := "ref.go:165", after := #[], guard := none }) (v := .int .i64 (k : Int)) rfl (by kernel_rfl) (by kernel_rfl) (by kernel_rfl) (fun _ _ _ h => h) (Or.inl ⟨by kernel_rfl, ?_⟩) hH ?_
                  · intro w hSw; (try dsimp only at hSw); go_simp
                  try simp only [Act.put, List.setIfInBounds_toArray, List.set_cons_zero, List.set_cons_succ]
                  refine wpAnyH_take (i := 31) (oi := { dst := some 90, op := Op.fieldAddr 69 (Operand.tmp 8) 8, type := 0, pos := "ref.go:165", after := #[], guard := none }) (v := .pointer (some ⟨pb, 11, none⟩)) rfl (by kernel_rfl) (by kernel_rfl) (by kernel_rfl) (fun _ _ _ h => h) (Or.inl ⟨by kernel_rfl, ?_⟩) hH ?_
                  · intro w hSw; (try dsimp only at hSw); go_simp
                  try simp only [Act.put, List.setIfInBounds_toArray, List.set_cons_zero, List.set_cons_succ]
                  refine wpAnyH_take (i := 32) (oi := { dst := some 91, op := Op.load 4 (Operand.tmp 90), type := 4, pos := "ref.go:165", after := #[{ on := 31, ground := Ground.data }], guard := none }) (v := .bool p.fwd) rfl (by kernel_rfl) (by kernel_rfl) (by kernel_rfl) (fun _ _ _ h => h) (Or.inl ⟨by kernel_rfl, ?_⟩) hH ?_
                  · intro w hSw; (try dsimp only at hSw); go_simp
                  try simp only [Act.put, List.setIfInBounds_toArray, List.set_cons_zero, List.set_cons_succ]
                  refine wpAnyH_ready (rs := [9, 34]) (by kernel_rfl) (by simp) ?_
                  refine AllReadyH.cons rfl (fun K hK => ?_) ?_
                  · go_simp
                    with_reducible refine (TE.out _).mono ?_
                    rintro e w8 ⟨rfl, hb8⟩
                    try go_wp2_with fail
                    have k8 := k0.trans (hb8.mono k0.size)
                    refine hK.out _ _ (KF.out _ k8) (fun hH => ?_)
                    clear hK K
                    try simp only [Act.put, List.setIfInBounds_toArray, List.set_cons_zero, List.set_cons_succ]
                    refine wpAnyH_take (i := 16) (oi := { dst := some 75, op := Op.move (Operand.tmp 74), type := 4, pos := "ref.go:165", after := #[{ on := 15, ground := Ground.data }, { on := 9, ground := Ground.chain }], guard := none }) (v := .bool true) rfl (by kernel_rfl) (by kernel_rfl) (by kernel_rfl) (fun _ _ _ h => h) (Or.inl ⟨by kernel_rfl, ?_⟩) hH ?_
                    · intro w hSw; (try dsimp only at hSw); go_simp
                    try simp only [Act.put, List.setIfInBounds_toArray, List.set_cons_zero, List.set_cons_succ]
                    refine wpAnyH_take (i := 17) (oi := { dst := some 76, op := Op.move (Operand.tmp 0), type := 31, pos := "ref.go:165", after := #[{ on := 16, ground := Ground.guard }], guard := some (16, true) }) (v := .pointer (some ⟨q, 0, none⟩)) rfl (by kernel_rfl) (by kernel_rfl) (by kernel_rfl) (fun _ _ _ h => h) (Or.inl ⟨by kernel_rfl, ?_⟩) hH ?_
                    · intro w hSw; (try dsimp only at hSw); go_simp
                    try simp only [Act.put, List.setIfInBounds_toArray, List.set_cons_zero, List.set_cons_succ]
                    refine wpAnyH_take (i := 18) (oi := { dst := some 77, op := Op.nilCheck (Operand.tmp 76), type := 0, pos := "ref.go:165", after := #[{ on := 17, ground := Ground.data }, { on := 16, ground := Ground.guard }], guard := some (16, true) }) (v := .pointer (some ⟨q, 0, none⟩)) rfl (by kernel_rfl) (by kernel_rfl) (by kernel_rfl) (fun _ _ _ h => h) (Or.inl ⟨by kernel_rfl, ?_⟩) hH ?_
                    · intro w hSw; (try dsimp only at hSw); go_simp
                    try simp only [Act.put, List.setIfInBounds_toArray, List.set_cons_zero, List.set_cons_succ]
                    refine wpAnyH_take (i := 19) (oi := { dst := some 78, op := Op.fieldAddr 67 (Operand.tmp 77) 2, type := 0, pos := "ref.go:165", after := #[{ on := 18, ground := Ground.data }, { on := 16, ground := Ground.guard }], guard := some (16, true) }) (v := .pointer (some ⟨q, 2, none⟩)) rfl (by kernel_rfl) (by kernel_rfl) (by kernel_rfl) (fun _ _ _ h => h) (Or.inl ⟨by kernel_rfl, ?_⟩) hH ?_
                    · intro w hSw; (try dsimp only at hSw); go_simp
                    try simp only [Act.put, List.setIfInBounds_toArray, List.set_cons_zero, List.set_cons_succ]
                    refine wpAnyH_take (i := 20) (oi := { dst := some 79, op := Op.load 3 (Operand.tmp 78), type := 3, pos := "ref.go:165", after := #[{ on := 19, ground := Ground.data }, { on := 16, ground := Ground.guard }], guard := some (16, true) }) (v := .int .i64 S.now) rfl (by kernel_rfl) (by kernel_rfl) (by kernel_rfl) (fun _ _ _ h => h) (Or.inl ⟨by kernel_rfl, ?_⟩) hH ?_
                    · intro w hSw; (try dsimp only at hSw); go_simp
                    try simp only [Act.put, List.setIfInBounds_toArray, List.set_cons_zero, List.set_cons_succ]
                    refine wpAnyH_take (i := 21) (oi := { dst := some 80, op := Op.move (Operand.tmp 0), type := 31, pos := "ref.go:165", after := #[{ on := 16, ground := Ground.guard }], guard := some (16, true) }) (v := .pointer (some ⟨q, 0, none⟩)) rfl (by kernel_rfl) (by kernel_rfl) (by kernel_rfl) (fun _ _ _ h => h) (Or.inl ⟨by kernel_rfl, ?_⟩) hH ?_
                    · intro w hSw; (try dsimp only at hSw); go_simp
                    try simp only [Act.put, List.setIfInBounds_toArray, List.set_cons_zero, List.set_cons_succ]
                    refine wpAnyH_take (i := 22) (oi := { dst := some 81, op := Op.nilCheck (Operand.tmp 80), type := 0, pos := "ref.go:165", after := #[{ on := 21, ground := Ground.data }, { on := 16, ground := Ground.guard }], guard := some (16, true) }) (v := .pointer (some ⟨q, 0, none⟩)) rfl (by kernel_rfl) (by kernel_rfl) (by kernel_rfl) (fun _ _ _ h => h) (Or.inl ⟨by kernel_rfl, ?_⟩) hH ?_
                    · intro w hSw; (try dsimp only at hSw); go_simp
                    try simp only [Act.put, List.setIfInBounds_toArray, List.set_cons_zero, List.set_cons_succ]
                    refine wpAnyH_take (i := 23) (oi := { dst := some 82, op := Op.fieldAddr 67 (Operand.tmp 81) 5, type := 0, pos := "ref.go:165", after := #[{ on := 22, ground := Ground.data }, { on := 16, ground := Ground.guard }], guard := some (16, true) }) (v := .pointer (some ⟨q, 8, none⟩)) rfl (by kernel_rfl) (by kernel_rfl) (by kernel_rfl) (fun _ _ _ h => h) (Or.inl ⟨by kernel_rfl, ?_⟩) hH ?_
                    · intro w hSw; (try dsimp only at hSw); go_simp
                    try simp only [Act.put, List.setIfInBounds_toArray, List.set_cons_zero, List.set_cons_succ]
                    refine wpAnyH_take (i := 24) (oi := { dst := some 83, op := Op.load 3 (Operand.tmp 82), type := 3, pos := "ref.go:165", after := #[{ on := 23, ground := Ground.data }, { on := 16, ground := Ground.guard }], guard := some (16, true) }) (v := .int .i64 S.chg) rfl (by kernel_rfl) (by kernel_rfl) (by kernel_rfl) (fun _ _ _ h => h) (Or.inl ⟨by kernel_rfl, ?_⟩) hH ?_
                    · intro w hSw; (try dsimp only at hSw); go_simp
                    try simp only [Act.put, List.setIfInBounds_toArray, List.set_cons_zero, List.set_cons_succ]
                    refine wpAnyH_take (i := 25) (oi := { dst := some 84, op := Op.binOp BinOp.add 3 (Operand.tmp 83) (Operand.const (Value.int IntKind.i64 4)) 3, type := 3, pos := "ref.go:165", after := #[{ on := 24, ground := Ground.data }, { on := 16, ground := Ground.guard }], guard := some (16, true) }) (v := .int .i64 (S.chg + 4)) rfl (by kernel_rfl) (by kernel_rfl) (by kernel_rfl) (fun _ _ _ h => h) (Or.inl ⟨by kernel_rfl, ?_⟩) hH ?_
                    · intro w hSw; (try dsimp only at hSw); go_simp
                    try simp only [Act.put, List.setIfInBounds_toArray, List.set_cons_zero, List.set_cons_succ]
                    refine wpAnyH_take (i := 26) (oi := { dst := some 85, op := Op.binOp BinOp.lss 3 (Operand.tmp 79) (Operand.tmp 84) 3, type := 4, pos := "ref.go:165", after := #[{ on := 20, ground := Ground.data }, { on := 25, ground := Ground.data }, { on := 16, ground := Ground.guard }], guard := some (16, true) }) (v := .bool (decide (S.now < S.chg + 4))) rfl (by kernel_rfl) (by kernel_rfl) (by kernel_rfl) (fun _ _ _ h => h) (Or.inl ⟨by kernel_rfl, ?_⟩) hH ?_
                    · intro w hSw; (try dsimp only at hSw); go_simp
                    try simp only [Act.put, List.setIfInBounds_toArray, List.set_cons_zero, List.set_cons_succ]
                    refine wpAnyH_take (i := 27) (oi := { dst := some 86, op := Op.pick (Operand.tmp 75) (Operand.tmp 85) (Operand.const (Value.bool false)), type := 4, pos := "ref.go:165", after := #[{ on := 16, ground := Ground.data }, { on := 26, ground := Ground.data }], guard := none }) (v := .bool (decide (S.now < S.chg + 4))) rfl (by kernel_rfl) (by kernel_rfl) (by kernel_rfl) (fun _ _ _ h => h) (Or.inl ⟨by kernel_rfl, ?_⟩) hH ?_
                    · intro w hSw; (try dsimp only at hSw); go_simp
                    try simp only [Act.put, List.setIfInBounds_toArray, List.set_cons_zero, List.set_cons_succ]
                    refine wpAnyH_ready (rs := [30, 34]) (by kernel_rfl) (by simp) ?_
                    refine AllReadyH.cons rfl (fun K hK => ?_) ?_
                    · go_simp
                      with_reducible refine (LE.out _ k8).mono ?_
                      rintro e w9 ⟨rfl, m9, hw9⟩
                      replace hw9 := Lib.hid hw9
                      try go_wp2_with fail
                      have k9 : Below W1.heap.size W1 w9 := by rw [hw9.out]; exact below_drewN k8 m9
                      refine hK.out _ _ (KF.out _ k9) (fun hH => ?_)
                      clear hK K
                      try simp only [Act.put, List.setIfInBounds_toArray, List.set_cons_zero, List.set_cons_succ]
                      refine wpAnyH_take (i := 33) (oi := { dst := some 92, op := Op.build 38 #[(0, Operand.tmp 68), (1, Operand.tmp 69), (2, Operand.tmp 86), (3, Operand.tmp 89), (4, Operand.tmp 91)], type := 38, pos := "ref.go:165", after := #[{ on := 9, ground := Ground.data }, { on := 10, ground := Ground.data }, { on := 27, ground := Ground.data }, { on := 30, ground := Ground.data }, { on := 32, ground := Ground.data }], guard := none }) (v := .agg #[.int .u64 S.best.1, .int .i64 S.best.2.1, .int .u64 S.br, .int .i64 (k : Int), .int .i64 (0 : Int), .bool (decide (S.now < S.chg + 4)), .bool lr, .bool p.fwd]) rfl (by kernel_rfl) (by kernel_rfl) (by kernel_rfl) (fun _ _ _ h => h) (Or.inl ⟨by kernel_rfl, ?_⟩) hH ?_
                      · intro w hSw; (try dsimp only at hSw); go_simp
                      try simp only [Act.put, List.setIfInBounds_toArray, List.set_cons_zero, List.set_cons_succ]
                      refine wpAnyH_ready (rs := [34]) (by kernel_rfl) (by simp) ?_
                      refine AllReadyH.cons rfl (fun K hK => ?_) AllReadyH.nil
                      go_simp
                      refine hK.out _ _ (KF.out _ (k9.alloc k9.size _)) (fun hH => ?_)
                      clear hK K
                      try simp only [Act.put, List.setIfInBounds_toArray, List.set_cons_zero, List.set_cons_succ]
                      refine wpAnyH_ready (rs := [35]) (by kernel_rfl) (by simp) ?_
                      refine AllReadyH.cons rfl (fun K hK => ?_) AllReadyH.nil
                      go_simp
                      refine hK.out _ _ (KF.out _ (k9.alloc k9.size _)) (fun hH => ?_)
                      clear hK K
                      try simp only [Act.put, List.setIfInBounds_toArray, List.set_cons_zero, List.set_cons_succ]
                      refine wpAnyH_done (by kernel_rfl) ?_ _
                      have KX := Lib.hid (k9.alloc k9.size (.cells #[.int .u64 S.best.1, .int .i64 S.best.2.1, .int .u64 S.br, .int .i64 (k : Int), .int .i64 (0 : Int), .bool (decide (S.now < S.chg + 4)), .bool lr, .bool p.fwd] 38))
                      have BX := Lib.hid (heap_new w9 (.cells #[.int .u64 S.best.1, .int .i64 S.best.2.1, .int .u64 S.br, .int .i64 (k : Int), .int .i64 (0 : Int), .bool (decide (S.now < S.chg + 4)), .bool lr, .bool p.fwd] 38))
                      have GX := Lib.hid k9.size
                      clear hw9 k9 k8 hb8
                      generalize w9.alloc (.cells #[.int .u64 S.best.1, .int .i64 S.best.2.1, .int .u64 S.br, .int .i64 (k : Int), .int .i64 (0 : Int), .bool (decide (S.now < S.chg + 4)), .bool lr, .bool p.fwd] 38) = WX at KX BX hH ⊢
                      generalize w9.heap.size = xb at BX GX ⊢
                      have z0 : WX.cell? ⟨xb, 0, none⟩ = some (.int .u64 S.best.1) := cell_of_block BX.out rfl
                      have z1 : WX.cell? ⟨xb, 1, none⟩ = some (.int .i64 S.best.2.1) := cell_of_block BX.out rfl
                      have z2 : WX.cell? ⟨xb, 2, none⟩ = some (.int .u64 S.br) := cell_of_block BX.out rfl
                      have z3 : WX.cell? ⟨xb, 3, none⟩ = some (.int .i64 (k : Int)) := cell_of_block BX.out rfl
                      have z4 : WX.cell? ⟨xb, 4, none⟩ = some (.int .i64 (0 : Int)) := cell_of_block BX.out rfl
                      have z5 : WX.cell? ⟨xb, 5, none⟩ = some (.bool (decide (S.now < S.chg + 4))) := cell_of_block BX.out rfl
                      have z6 : WX.cell? ⟨xb, 6, none⟩ = some (.bool lr) := cell_of_block BX.out rfl
                      have z7 : WX.cell? ⟨xb, 7, none⟩ = some (.bool p.fwd) := cell_of_block BX.out rfl
                      have HO6 := Lib.hid (iowns_below HO1.out KX.out)
                      have K6 := Lib.hid (K1.out.trans (KX.out.mono K1.out.size))
                      have n3 := Lib.hid (show V.heap.size ≤ (WX.alloc (.cells #[.int .i64 (k : Int), .int .u64 S.best.1, .int .i64 S.best.2.1, .int .u64 S.br, .int .i64 (k : Int), .int .i64 (0 : Int), .bool (decide (S.now < S.chg + 4)), .bool lr, .bool p.fwd] 72)).heap.size by have := K6.out.size; simp; omega)
                      have NEW := Lib.hid (cells_new WX [.int .i64 (k : Int), .int .u64 S.best.1, .int .i64 S.best.2.1, .int .u64 S.br, .int .i64 (k : Int), .int .i64 (0 : Int), .bool (decide (S.now < S.chg + 4)), .bool lr, .bool p.fwd] 72)
                      have HO7 := Lib.hid (HO6.out.alloc (.cells #[.int .i64 (k : Int), .int .u64 S.best.1, .int .i64 S.best.2.1, .int .u64 S.br, .int .i64 (k : Int), .int .i64 (0 : Int), .bool (decide (S.now < S.chg + 4)), .bool lr, .bool p.fwd] 72))
                      have K7 := Lib.hid (K6.out.alloc K6.out.size (.cells #[.int .i64 (k : Int), .int .u64 S.best.1, .int .i64 S.best.2.1, .int .u64 S.br, .int .i64 (k : Int), .int .i64 (0 : Int), .bool (decide (S.now < S.chg + 4)), .bool lr, .bool p.fwd] 72))
                      have HON := Lib.hid (one_O ((k : Int), (⟨(S.best.1, S.best.2.1, S.br, (k : Int)), (0 : Int), (decide (S.now < S.chg + 4)), lr, p.fwd⟩ : Tell)))
                      replace HON : Hid (∀ u ∈ ([.int .i64 (k : Int), .int .u64 S.best.1, .int .i64 S.best.2.1, .int .u64 S.br, .int .i64 (k : Int), .int .i64 (0 : Int), .bool (decide (S.now < S.chg + 4)), .bool lr, .bool p.fwd] : List Value), u.oneCell' = true) := HON
                      clear KF TE LE k0 k1 z11 x0 x2 x4 x5 x6 x7 x8 HO6 K6 hH
                      go_wp2_with (at_builtin; refine wpList_append_own _ rfl _ _ 70 rfl V.heap.size 72 i0 (.agg #[.int .i64 0, .int .u64 0, .int .i64 0, .int .u64 0, .int .i64 0, .int .i64 0, .bool false, .bool false, .bool false]) 9 56 Try.underlying70 hi hz0 hz1 hz2 rfl (by decide) _ _ _ rfl HO7.out ⟨WX.heap.size, 0, none⟩ 1 1 [.int .i64 (k : Int), .int .u64 S.best.1, .int .i64 S.best.2.1, .int .u64 S.br, .int .i64 (k : Int), .int .i64 (0 : Int), .bool (decide (S.now < S.chg + 4)), .bool lr, .bool p.fwd] rfl rfl NEW.out HON.out n1'.out n2'.out n3.out ?_)
                      intro v' w6 hown' hgrow _
                      have HO8 := Lib.hid hown'
                      have K8 := Lib.hid (K7.out.grown hgrow n3.out (fun j hj => (HO7.out.lt j hj).1))
                      clear hown' hgrow HO7 K7 NEW z0 z1 z2 z3 z4 z5 z6 z7
                      go_wp2_with fail
                      go_roundw
                      case rel => exact ⟨k + 1, by omega, by go_num, Lib.hid (by rw [HTT.out, List.length_append, List.flatMap_append]; simpa [cellsO] using HO8.out), Lib.hid (by rw [HTT.out, List.length_append]; have := HC.out; simp; omega), K8⟩
                      case measure => simp [intOf]; omega
                    · refine AllReadyH.cons rfl (fun K hK => ?_) AllReadyH.nil
                      go_simp
                      refine hK.out _ _ (KF.out _ (k8.alloc k8.size _)) (fun hH => ?_)
                      clear hK K
                      try simp only [Act.put, List.setIfInBounds_toArray, List.set_cons_zero, List.set_cons_succ]
                      have k8a := k8.alloc k8.size (.cells #[.int .u64 0, .int .i64 0, .int .u64 0, .int .i64 0, .int .i64 0, .bool false, .bool false, .bool false] 38)
                      have b8 := heap_new w8 (.cells #[.int .u64 0, .int .i64 0, .int .u64 0, .int .i64 0, .int .i64 0, .bool false, .bool false, .bool false] 38)
                      have g9 : W1.heap.size ≤ w8.heap.size := k8.size
                      clear k8 hb8
                      generalize w8.alloc (.cells #[.int .u64 0, .int .i64 0, .int .u64 0, .int .i64 0, .int .i64 0, .bool false, .bool false, .bool false] 38) = U8 at k8a b8 hH ⊢
                      generalize w8.heap.size = xb at b8 g9 ⊢
                      refine wpAnyH_ready (rs := [30]) (by kernel_rfl) (by simp) ?_
                      refine AllReadyH.cons rfl (fun K hK => ?_) AllReadyH.nil
                      go_simp
                      with_reducible refine (LE.out _ k8a).mono ?_
                      rintro e w9 ⟨rfl, m9, hw9⟩
                      replace hw9 := Lib.hid hw9
                      try go_wp2_with fail
                      have k9 : Below W1.heap.size W1 w9 := by rw [hw9.out]; exact below_drewN k8a m9
                      have b9 : w9.heap[xb]? = some (.cells #[.int .u64 0, .int .i64 0, .int .u64 0, .int .i64 0, .int .i64 0, .bool false, .bool false, .bool false] 38 (0, 0)) := by rw [hw9.out]; exact b8
                      refine hK.out _ _ (KF.out _ k9) (fun hH => ?_)
                      clear hK K
                      try simp only [Act.put, List.setIfInBounds_toArray, List.set_cons_zero, List.set_cons_succ]
                      clear hw9 k8a b8
                      have z0 : w9.cell? ⟨xb, 0, none⟩ = some (.int .u64 0) := cell_of_block b9 rfl
                      have f0 := free_of_block (j := 0) b9
                      have z1 : w9.cell? ⟨xb, 1, none⟩ = some (.int .i64 0) := cell_of_block b9 rfl
                      have f1 := free_of_block (j := 1) b9
                      have z2 : w9.cell? ⟨xb, 2, none⟩ = some (.int .u64 0) := cell_of_block b9 rfl
                      have f2 := free_of_block (j := 2) b9
                      have z3 : w9.cell? ⟨xb, 3, none⟩ = some (.int .i64 0) := cell_of_block b9 rfl
                      have f3 := free_of_block (j := 3) b9
                      have z4 : w9.cell? ⟨xb, 4, none⟩ = some (.int .i64 0) := cell_of_block b9 rfl
                      have f4 := free_of_block (j := 4) b9
                      have z5 : w9.cell? ⟨xb, 5, none⟩ = some (.bool false) := cell_of_block b9 rfl
                      have f5 := free_of_block (j := 5) b9
                      have z6 : w9.cell? ⟨xb, 6, none⟩ = some (.bool false) := cell_of_block b9 rfl
                      have f6 := free_of_block (j := 6) b9
                      have z7 : w9.cell? ⟨xb, 7, none⟩ = some (.bool false) := cell_of_block b9 rfl
                      have f7 := free_of_block (j := 7) b9
                      refine wpAnyH_take (i := 33) (oi := { dst := some 92, op := Op.build 38 #[(0, Operand.tmp 68), (1, Operand.tmp 69), (2, Operand.tmp 86), (3, Operand.tmp 89), (4, Operand.tmp 91)], type := 38, pos := "ref.go:165", after := #[{ on := 9, ground := Ground.data }, { on := 10, ground := Ground.data }, { on := 27, ground := Ground.data }, { on := 30, ground := Ground.data }, { on := 32, ground := Ground.data }], guard := none }) (v := .agg #[.int .u64 S.best.1, .int .i64 S.best.2.1, .int .u64 S.br, .int .i64 (k : Int), .int .i64 (0 : Int), .bool (decide (S.now < S.chg + 4)), .bool lr, .bool p.fwd]) rfl (by kernel_rfl) (by kernel_rfl) (by kernel_rfl) (fun _ _ _ h => h) (Or.inl ⟨by kernel_rfl, ?_⟩) hH ?_
                      · intro w hSw; (try dsimp only at hSw); go_simp
                      try simp only [Act.put, List.setIfInBounds_toArray, List.set_cons_zero, List.set_cons_succ]
                      refine wpAnyH_ready (rs := [35]) (by kernel_rfl) (by simp) ?_
                      refine AllReadyH.cons rfl (fun K hK => ?_) AllReadyH.nil
                      go_simp
                      have KY := ((((((((k9.setCell (p := ⟨xb, 0, none⟩) g9 (.int .u64 S.best.1)).setCell (p := ⟨xb, 1, none⟩) g9 (.int .i64 S.best.2.1)).setCell (p := ⟨xb, 2, none⟩) g9 (.int .u64 S.br)).setCell (p := ⟨xb, 3, none⟩) g9 (.int .i64 (k : Int))).setCell (p := ⟨xb, 4, none⟩) g9 (.int .i64 (0 : Int))).setCell (p := ⟨xb, 5, none⟩) g9 (.bool (decide (S.now < S.chg + 4)))).setCell (p := ⟨xb, 6, none⟩) g9 (.bool lr)).setCell (p := ⟨xb, 7, none⟩) g9 (.bool p.fwd))
                      refine hK.out _ _ (KF.out _ KY) (fun hH => ?_)
                      clear hK K
                      try simp only [Act.put, List.setIfInBounds_toArray, List.set_cons_zero, List.set_cons_succ]
                      refine wpAnyH_done (by kernel_rfl) ?_ _
                      have KX := Lib.hid KY
                      have BX := Lib.hid (show ((((((((w9.setCell ⟨xb, 0, none⟩ (.int .u64 S.best.1)).setCell ⟨xb, 1, none⟩ (.int .i64 S.best.2.1)).setCell ⟨xb, 2, none⟩ (.int .u64 S.br)).setCell ⟨xb, 3, none⟩ (.int .i64 (k : Int))).setCell ⟨xb, 4, none⟩ (.int .i64 (0 : Int))).setCell ⟨xb, 5, none⟩ (.bool (decide (S.now < S.chg + 4)))).setCell ⟨xb, 6, none⟩ (.bool lr)).setCell ⟨xb, 7, none⟩ (.bool p.fwd)).heap[xb]? = some (.cells #[.int .u64 S.best.1, .int .i64 S.best.2.1, .int .u64 S.br, .int .i64 (k : Int), .int .i64 (0 : Int), .bool (decide (S.now < S.chg + 4)), .bool lr, .bool p.fwd] 38 (0, 0)) from (heap_store (j := 7) (v := .bool p.fwd) (heap_store (j := 6) (v := .bool lr) (heap_store (j := 5) (v := .bool (decide (S.now < S.chg + 4))) (heap_store (j := 4) (v := .int .i64 (0 : Int)) (heap_store (j := 3) (v := .int .i64 (k : Int)) (heap_store (j := 2) (v := .int .u64 S.br) (heap_store (j := 1) (v := .int .i64 S.best.2.1) (heap_store (j := 0) (v := .int .u64 S.best.1) b9)))))))))
                      have GX := Lib.hid g9
                      clear z0 f0 z1 f1 z2 f2 z3 f3 z4 f4 z5 f5 z6 f6 z7 f7 KY k9 b9 g9
                      generalize ((((((((w9.setCell ⟨xb, 0, none⟩ (.int .u64 S.best.1)).setCell ⟨xb, 1, none⟩ (.int .i64 S.best.2.1)).setCell ⟨xb, 2, none⟩ (.int .u64 S.br)).setCell ⟨xb, 3, none⟩ (.int .i64 (k : Int))).setCell ⟨xb, 4, none⟩ (.int .i64 (0 : Int))).setCell ⟨xb, 5, none⟩ (.bool (decide (S.now < S.chg + 4)))).setCell ⟨xb, 6, none⟩ (.bool lr)).setCell ⟨xb, 7, none⟩ (.bool p.fwd)) = WX at KX BX ⊢
                      have z0 : WX.cell? ⟨xb, 0, none⟩ = some (.int .u64 S.best.1) := cell_of_block BX.out rfl
                      have z1 : WX.cell? ⟨xb, 1, none⟩ = some (.int .i64 S.best.2.1) := cell_of_block BX.out rfl
                      have z2 : WX.cell? ⟨xb, 2, none⟩ = some (.int .u64 S.br) := cell_of_block BX.out rfl
                      have z3 : WX.cell? ⟨xb, 3, none⟩ = some (.int .i64 (k : Int)) := cell_of_block BX.out rfl
                      have z4 : WX.cell? ⟨xb, 4, none⟩ = some (.int .i64 (0 : Int)) := cell_of_block BX.out rfl
                      have z5 : WX.cell? ⟨xb, 5, none⟩ = some (.bool (decide (S.now < S.chg + 4))) := cell_of_block BX.out rfl
                      have z6 : WX.cell? ⟨xb, 6, none⟩ = some (.bool lr) := cell_of_block BX.out rfl
                      have z7 : WX.cell? ⟨xb, 7, none⟩ = some (.bool p.fwd) := cell_of_block BX.out rfl
                      have HO6 := Lib.hid (iowns_below HO1.out KX.out)
                      have K6 := Lib.hid (K1.out.trans (KX.out.mono K1.out.size))
                      have n3 := Lib.hid (show V.heap.size ≤ (WX.alloc (.cells #[.int .i64 (k : Int), .int .u64 S.best.1, .int .i64 S.best.2.1, .int .u64 S.br, .int .i64 (k : Int), .int .i64 (0 : Int), .bool (decide (S.now < S.chg + 4)), .bool lr, .bool p.fwd] 72)).heap.size by have := K6.out.size; simp; omega)
                      have NEW := Lib.hid (cells_new WX [.int .i64 (k : Int), .int .u64 S.best.1, .int .i64 S.best.2.1, .int .u64 S.br, .int .i64 (k : Int), .int .i64 (0 : Int), .bool (decide (S.now < S.chg + 4)), .bool lr, .bool p.fwd] 72)
                      have HO7 := Lib.hid (HO6.out.alloc (.cells #[.int .i64 (k : Int), .int .u64 S.best.1, .int .i64 S.best.2.1, .int .u64 S.br, .int .i64 (k : Int), .int .i64 (0 : Int), .bool (decide (S.now < S.chg + 4)), .bool lr, .bool p.fwd] 72))
                      have K7 := Lib.hid (K6.out.alloc K6.out.size (.cells #[.int .i64 (k : Int), .int .u64 S.best.1, .int .i64 S.best.2.1, .int .u64 S.br, .int .i64 (k : Int), .int .i64 (0 : Int), .bool (decide (S.now < S.chg + 4)), .bool lr, .bool p.fwd] 72))
                      have HON := Lib.hid (one_O ((k : Int), (⟨(S.best.1, S.best.2.1, S.br, (k : Int)), (0 : Int), (decide (S.now < S.chg + 4)), lr, p.fwd⟩ : Tell)))
                      replace HON : Hid (∀ u ∈ ([.int .i64 (k : Int), .int .u64 S.best.1, .int .i64 S.best.2.1, .int .u64 S.br, .int .i64 (k : Int), .int .i64 (0 : Int), .bool (decide (S.now < S.chg + 4)), .bool lr, .bool p.fwd] : List Value), u.oneCell' = true) := HON
                      clear KF TE LE k0 k1 z11 x0 x2 x4 x5 x6 x7 x8 HO6 K6 hH
                      go_wp2_with (at_builtin; refine wpList_append_own _ rfl _ _ 70 rfl V.heap.size 72 i0 (.agg #[.int .i64 0, .int .u64 0, .int .i64 0, .int .u64 0, .int .i64 0, .int .i64 0, .bool false, .bool false, .bool false]) 9 56 Try.underlying70 hi hz0 hz1 hz2 rfl (by decide) _ _ _ rfl HO7.out ⟨WX.heap.size, 0, none⟩ 1 1 [.int .i64 (k : Int), .int .u64 S.best.1, .int .i64 S.best.2.1, .int .u64 S.br, .int .i64 (k : Int), .int .i64 (0 : Int), .bool (decide (S.now < S.chg + 4)), .bool lr, .bool p.fwd] rfl rfl NEW.out HON.out n1'.out n2'.out n3.out ?_)
                      intro v' w6 hown' hgrow _
                      have HO8 := Lib.hid hown'
                      have K8 := Lib.hid (K7.out.grown hgrow n3.out (fun j hj => (HO7.out.lt j hj).1))
                      clear hown' hgrow HO7 K7 NEW z0 z1 z2 z3 z4 z5 z6 z7
                      go_wp2_with fail
                      go_roundw
                      case rel => exact ⟨k + 1, by omega, by go_num, Lib.hid (by rw [HTT.out, List.length_append, List.flatMap_append]; simpa [cellsO] using HO8.out), Lib.hid (by rw [HTT.out, List.length_append]; have := HC.out; simp; omega), K8⟩
                      case measure => simp [intOf]; omega
                  · refine AllReadyH.cons rfl (fun K hK => ?_) AllReadyH.nil
                    go_simp
                    refine hK.out _ _ (KF.out _ k1) (fun hH => ?_)
                    clear hK K
                    try simp only [Act.put, List.setIfInBounds_toArray, List.set_cons_zero, List.set_cons_succ]
                    have b1 : ((W1.alloc (.cells #[.int .u64 0, .int .i64 0, .int .u64 0, .int .i64 0, .int .i64 0, .bool false, .bool false, .bool false] 38)).drew).heap[W1.heap.size]? = some (.cells #[.int .u64 0, .int .i64 0, .int .u64 0, .int .i64 0, .int .i64 0, .bool false, .bool false, .bool false] 38 (0, 0)) := heap_new W1 (.cells #[.int .u64 0, .int .i64 0, .int .u64 0, .int .i64 0, .int .i64 0, .bool false, .bool false, .bool false] 38)
                    generalize (W1.alloc (.cells #[.int .u64 0, .int .i64 0, .int .u64 0, .int .i64 0, .int .i64 0, .bool false, .bool false, .bool false] 38)).drew = U1 at k1 b1 hH ⊢
                    have g9 : W1.heap.size ≤ W1.heap.size := Nat.le_refl _
                    refine wpAnyH_ready (rs := [9]) (by kernel_rfl) (by simp) ?_
                    refine AllReadyH.cons rfl (fun K hK => ?_) AllReadyH.nil
                    go_simp
                    with_reducible refine (TE.out _).mono ?_
                    rintro e w8 ⟨rfl, hb8⟩
                    try go_wp2_with fail
                    have k8 := k1.trans (hb8.mono k1.size)
                    have b8 := below_block hb8 (lt_of_block b1) b1
                    refine hK.out _ _ (KF.out _ k8) (fun hH => ?_)
                    clear hK K
                    try simp only [Act.put, List.setIfInBounds_toArray, List.set_cons_zero, List.set_cons_succ]
                    clear hb8 b1
                    refine wpAnyH_take (i := 16) (oi := { dst := some 75, op := Op.move (Operand.tmp 74), type := 4, pos := "ref.go:165", after := #[{ on := 15, ground := Ground.data }, { on := 9, ground := Ground.chain }], guard := none }) (v := .bool true) rfl (by kernel_rfl) (by kernel_rfl) (by kernel_rfl) (fun _ _ _ h => h) (Or.inl ⟨by kernel_rfl, ?_⟩) hH ?_
                    · intro w hSw; (try dsimp only at hSw); go_simp
                    try simp only [Act.put, List.setIfInBounds_toArray, List.set_cons_zero, List.set_cons_succ]
                    refine wpAnyH_take (i := 17) (oi := { dst := some 76, op := Op.move (Operand.tmp 0), type := 31, pos := "ref.go:165", after := #[{ on := 16, ground := Ground.guard }], guard := some (16, true) }) (v := .pointer (some ⟨q, 0, none⟩)) rfl (by kernel_rfl) (by kernel_rfl) (by kernel_rfl) (fun _ _ _ h => h) (Or.inl ⟨by kernel_rfl, ?_⟩) hH ?_
                    · intro w hSw; (try dsimp only at hSw); go_simp
                    try simp only [Act.put, List.setIfInBounds_toArray, List.set_cons_zero, List.set_cons_succ]
                    refine wpAnyH_take (i := 18) (oi := { dst := some 77, op := Op.nilCheck (Operand.tmp 76), type := 0, pos := "ref.go:165", after := #[{ on := 17, ground := Ground.data }, { on := 16, ground := Ground.guard }], guard := some (16, true) }) (v := .pointer (some ⟨q, 0, none⟩)) rfl (by kernel_rfl) (by kernel_rfl) (by kernel_rfl) (fun _ _ _ h => h) (Or.inl ⟨by kernel_rfl, ?_⟩) hH ?_
                    · intro w hSw; (try dsimp only at hSw); go_simp
                    try simp only [Act.put, List.setIfInBounds_toArray, List.set_cons_zero, List.set_cons_succ]
                    refine wpAnyH_take (i := 19) (oi := { dst := some 78, op := Op.fieldAddr 67 (Operand.tmp 77) 2, type := 0, pos := "ref.go:165", after := #[{ on := 18, ground := Ground.data }, { on := 16, ground := Ground.guard }], guard := some (16, true) }) (v := .pointer (some ⟨q, 2, none⟩)) rfl (by kernel_rfl) (by kernel_rfl) (by kernel_rfl) (fun _ _ _ h => h) (Or.inl ⟨by kernel_rfl, ?_⟩) hH ?_
                    · intro w hSw; (try dsimp only at hSw); go_simp
                    try simp only [Act.put, List.setIfInBounds_toArray, List.set_cons_zero, List.set_cons_succ]
                    refine wpAnyH_take (i := 20) (oi := { dst := some 79, op := Op.load 3 (Operand.tmp 78), type := 3, pos := "ref.go:165", after := #[{ on := 19, ground := Ground.data }, { on := 16, ground := Ground.guard }], guard := some (16, true) }) (v := .int .i64 S.now) rfl (by kernel_rfl) (by kernel_rfl) (by kernel_rfl) (fun _ _ _ h => h) (Or.inl ⟨by kernel_rfl, ?_⟩) hH ?_
                    · intro w hSw; (try dsimp only at hSw); go_simp
                    try simp only [Act.put, List.setIfInBounds_toArray, List.set_cons_zero, List.set_cons_succ]
                    refine wpAnyH_take (i := 21) (oi := { dst := some 80, op := Op.move (Operand.tmp 0), type := 31, pos := "ref.go:165", after := #[{ on := 16, ground := Ground.guard }], guard := some (16, true) }) (v := .pointer (some ⟨q, 0, none⟩)) rfl (by kernel_rfl) (by kernel_rfl) (by kernel_rfl) (fun _ _ _ h => h) (Or.inl ⟨by kernel_rfl, ?_⟩) hH ?_
                    · intro w hSw; (try dsimp only at hSw); go_simp
                    try simp only [Act.put, List.setIfInBounds_toArray, List.set_cons_zero, List.set_cons_succ]
                    refine wpAnyH_take (i := 22) (oi := { dst := some 81, op := Op.nilCheck (Operand.tmp 80), type := 0, pos := "ref.go:165", after := #[{ on := 21, ground := Ground.data }, { on := 16, ground := Ground.guard }], guard := some (16, true) }) (v := .pointer (some ⟨q, 0, none⟩)) rfl (by kernel_rfl) (by kernel_rfl) (by kernel_rfl) (fun _ _ _ h => h) (Or.inl ⟨by kernel_rfl, ?_⟩) hH ?_
                    · intro w hSw; (try dsimp only at hSw); go_simp
                    try simp only [Act.put, List.setIfInBounds_toArray, List.set_cons_zero, List.set_cons_succ]
                    refine wpAnyH_take (i := 23) (oi := { dst := some 82, op := Op.fieldAddr 67 (Operand.tmp 81) 5, type := 0, pos := "ref.go:165", after := #[{ on := 22, ground := Ground.data }, { on := 16, ground := Ground.guard }], guard := some (16, true) }) (v := .pointer (some ⟨q, 8, none⟩)) rfl (by kernel_rfl) (by kernel_rfl) (by kernel_rfl) (fun _ _ _ h => h) (Or.inl ⟨by kernel_rfl, ?_⟩) hH ?_
                    · intro w hSw; (try dsimp only at hSw); go_simp
                    try simp only [Act.put, List.setIfInBounds_toArray, List.set_cons_zero, List.set_cons_succ]
                    refine wpAnyH_take (i := 24) (oi := { dst := some 83, op := Op.load 3 (Operand.tmp 82), type := 3, pos := "ref.go:165", after := #[{ on := 23, ground := Ground.data }, { on := 16, ground := Ground.guard }], guard := some (16, true) }) (v := .int .i64 S.chg) rfl (by kernel_rfl) (by kernel_rfl) (by kernel_rfl) (fun _ _ _ h => h) (Or.inl ⟨by kernel_rfl, ?_⟩) hH ?_
                    · intro w hSw; (try dsimp only at hSw); go_simp
                    try simp only [Act.put, List.setIfInBounds_toArray, List.set_cons_zero, List.set_cons_succ]
                    refine wpAnyH_take (i := 25) (oi := { dst := some 84, op := Op.binOp BinOp.add 3 (Operand.tmp 83) (Operand.const (Value.int IntKind.i64 4)) 3, type := 3, pos := "ref.go:165", after := #[{ on := 24, ground := Ground.data }, { on := 16, ground := Ground.guard }], guard := some (16, true) }) (v := .int .i64 (S.chg + 4)) rfl (by kernel_rfl) (by kernel_rfl) (by kernel_rfl) (fun _ _ _ h => h) (Or.inl ⟨by kernel_rfl, ?_⟩) hH ?_
                    · intro w hSw; (try dsimp only at hSw); go_simp
                    try simp only [Act.put, List.setIfInBounds_toArray, List.set_cons_zero, List.set_cons_succ]
                    refine wpAnyH_take (i := 26) (oi := { dst := some 85, op := Op.binOp BinOp.lss 3 (Operand.tmp 79) (Operand.tmp 84) 3, type := 4, pos := "ref.go:165", after := #[{ on := 20, ground := Ground.data }, { on := 25, ground := Ground.data }, { on := 16, ground := Ground.guard }], guard := some (16, true) }) (v := .bool (decide (S.now < S.chg + 4))) rfl (by kernel_rfl) (by kernel_rfl) (by kernel_rfl) (fun _ _ _ h => h) (Or.inl ⟨by kernel_rfl, ?_⟩) hH ?_
                    · intro w hSw; (try dsimp only at hSw); go_simp
                    try simp only [Act.put, List.setIfInBounds_toArray, List.set_cons_zero, List.set_cons_succ]
                    refine wpAnyH_take (i := 27) (oi := { dst := some 86, op := Op.pick (Operand.tmp 75) (Operand.tmp 85) (Operand.const (Value.bool false)), type := 4, pos := "ref.go:165", after := #[{ on := 16, ground := Ground.data }, { on := 26, ground := Ground.data }], guard := none }) (v := .bool (decide (S.now < S.chg + 4))) rfl (by kernel_rfl) (by kernel_rfl) (by kernel_rfl) (fun _ _ _ h => h) (Or.inl ⟨by kernel_rfl, ?_⟩) hH ?_
                    · intro w hSw; (try dsimp only at hSw); go_simp
                    try simp only [Act.put, List.setIfInBounds_toArray, List.set_cons_zero, List.set_cons_succ]
                    refine wpAnyH_ready (rs := [30]) (by kernel_rfl) (by simp) ?_
                    refine AllReadyH.cons rfl (fun K hK => ?_) AllReadyH.nil
                    go_simp
                    with_reducible refine (LE.out _ k8).mono ?_
                    rintro e w9 ⟨rfl, m9, hw9⟩
                    replace hw9 := Lib.hid hw9
                    try go_wp2_with fail
                    have k9 : Below W1.heap.size W1 w9 := by rw [hw9.out]; exact below_drewN k8 m9
                    have b9 : w9.heap[W1.heap.size]? = some (.cells #[.int .u64 0, .int .i64 0, .int .u64 0, .int .i64 0, .int .i64 0, .bool false, .bool false, .bool false] 38 (0, 0)) := by rw [hw9.out]; exact b8
                    refine hK.out _ _ (KF.out _ k9) (fun hH => ?_)
                    clear hK K
                    try simp only [Act.put, List.setIfInBounds_toArray, List.set_cons_zero, List.set_cons_succ]
                    clear hw9 k8 b8
                    have z0 : w9.cell? ⟨W1.heap.size, 0, none⟩ = some (.int .u64 0) := cell_of_block b9 rfl
                    have f0 := free_of_block (j := 0) b9
                    have z1 : w9.cell? ⟨W1.heap.size, 1, none⟩ = some (.int .i64 0) := cell_of_block b9 rfl
                    have f1 := free_of_block (j := 1) b9
                    have z2 : w9.cell? ⟨W1.heap.size, 2, none⟩ = some (.int .u64 0) := cell_of_block b9 rfl
                    have f2 := free_of_block (j := 2) b9
                    have z3 : w9.cell? ⟨W1.heap.size, 3, none⟩ = some (.int .i64 0) := cell_of_block b9 rfl
                    have f3 := free_of_block (j := 3) b9
                    have z4 : w9.cell? ⟨W1.heap.size, 4, none⟩ = some (.int .i64 0) := cell_of_block b9 rfl
                    have f4 := free_of_block (j := 4) b9
                    have z5 : w9.cell? ⟨W1.heap.size, 5, none⟩ = some (.bool false) := cell_of_block b9 rfl
                    have f5 := free_of_block (j := 5) b9
                    have z6 : w9.cell? ⟨W1.heap.size, 6, none⟩ = some (.bool false) := cell_of_block b9 rfl
                    have f6 := free_of_block (j := 6) b9
                    have z7 : w9.cell? ⟨W1.heap.size, 7, none⟩ = some (.bool false) := cell_of_block b9 rfl
                    have f7 := free_of_block (j := 7) b9
                    refine wpAnyH_take (i := 33) (oi := { dst := some 92, op := Op.build 38 #[(0, Operand.tmp 68), (1, Operand.tmp 69), (2, Operand.tmp 86), (3, Operand.tmp 89), (4, Operand.tmp 91)], type := 38, pos := "ref.go:165", after := #[{ on := 9, ground := Ground.data }, { on := 10, ground := Ground.data }, { on := 27, ground := Ground.data }, { on := 30, ground := Ground.data }, { on := 32, ground := Ground.data }], guard := none }) (v := .agg #[.int .u64 S.best.1, .int .i64 S.best.2.1, .int .u64 S.br, .int .i64 (k : Int), .int .i64 (0 : Int), .bool (decide (S.now < S.chg + 4)), .bool lr, .bool p.fwd]) rfl (by kernel_rfl) (by kernel_rfl) (by kernel_rfl) (fun _ _ _ h => h) (Or.inl ⟨by kernel_rfl, ?_⟩) hH ?_
                    · intro w hSw; (try dsimp only at hSw); go_simp
                    try simp only [Act.put, List.setIfInBounds_toArray, List.set_cons_zero, List.set_cons_succ]
                    refine wpAnyH_ready (rs := [35]) (by kernel_rfl) (by simp) ?_
                    refine AllReadyH.cons rfl (fun K hK => ?_) AllReadyH.nil
                    go_simp
                    have KY := ((((((((k9.setCell (p := ⟨W1.heap.size, 0, none⟩) g9 (.int .u64 S.best.1)).setCell (p := ⟨W1.heap.size, 1, none⟩) g9 (.int .i64 S.best.2.1)).setCell (p := ⟨W1.heap.size, 2, none⟩) g9 (.int .u64 S.br)).setCell (p := ⟨W1.heap.size, 3, none⟩) g9 (.int .i64 (k : Int))).setCell (p := ⟨W1.heap.size, 4, none⟩) g9 (.int .i64 (0 : Int))).setCell (p := ⟨W1.heap.size, 5, none⟩) g9 (.bool (decide (S.now < S.chg + 4)))).setCell (p := ⟨W1.heap.size, 6, none⟩) g9 (.bool lr)).setCell (p := ⟨W1.heap.size, 7, none⟩) g9 (.bool p.fwd))
                    refine hK.out _ _ (KF.out _ KY) (fun hH => ?_)
                    clear hK K
                    try simp only [Act.put, List.setIfInBounds_toArray, List.set_cons_zero, List.set_cons_succ]
                    refine wpAnyH_done (by kernel_rfl) ?_ _
                    have KX := Lib.hid KY
                    have BX := Lib.hid (show ((((((((w9.setCell ⟨W1.heap.size, 0, none⟩ (.int .u64 S.best.1)).setCell ⟨W1.heap.size, 1, none⟩ (.int .i64 S.best.2.1)).setCell ⟨W1.heap.size, 2, none⟩ (.int .u64 S.br)).setCell ⟨W1.heap.size, 3, none⟩ (.int .i64 (k : Int))).setCell ⟨W1.heap.size, 4, none⟩ (.int .i64 (0 : Int))).setCell ⟨W1.heap.size, 5, none⟩ (.bool (decide (S.now < S.chg + 4)))).setCell ⟨W1.heap.size, 6, none⟩ (.bool lr)).setCell ⟨W1.heap.size, 7, none⟩ (.bool p.fwd)).heap[W1.heap.size]? = some (.cells #[.int .u64 S.best.1, .int .i64 S.best.2.1, .int .u64 S.br, .int .i64 (k : Int), .int .i64 (0 : Int), .bool (decide (S.now < S.chg + 4)), .bool lr, .bool p.fwd] 38 (0, 0)) from (heap_store (j := 7) (v := .bool p.fwd) (heap_store (j := 6) (v := .bool lr) (heap_store (j := 5) (v := .bool (decide (S.now < S.chg + 4))) (heap_store (j := 4) (v := .int .i64 (0 : Int)) (heap_store (j := 3) (v := .int .i64 (k : Int)) (heap_store (j := 2) (v := .int .u64 S.br) (heap_store (j := 1) (v := .int .i64 S.best.2.1) (heap_store (j := 0) (v := .int .u64 S.best.1) b9)))))))))
                    have GX := Lib.hid g9
                    clear z0 f0 z1 f1 z2 f2 z3 f3 z4 f4 z5 f5 z6 f6 z7 f7 KY k9 b9 g9
                    generalize ((((((((w9.setCell ⟨W1.heap.size, 0, none⟩ (.int .u64 S.best.1)).setCell ⟨W1.heap.size, 1, none⟩ (.int .i64 S.best.2.1)).setCell ⟨W1.heap.size, 2, none⟩ (.int .u64 S.br)).setCell ⟨W1.heap.size, 3, none⟩ (.int .i64 (k : Int))).setCell ⟨W1.heap.size, 4, none⟩ (.int .i64 (0 : Int))).setCell ⟨W1.heap.size, 5, none⟩ (.bool (decide (S.now < S.chg + 4)))).setCell ⟨W1.heap.size, 6, none⟩ (.bool lr)).setCell ⟨W1.heap.size, 7, none⟩ (.bool p.fwd)) = WX at KX BX ⊢
                    have z0 : WX.cell? ⟨W1.heap.size, 0, none⟩ = some (.int .u64 S.best.1) := cell_of_block BX.out rfl
                    have z1 : WX.cell? ⟨W1.heap.size, 1, none⟩ = some (.int .i64 S.best.2.1) := cell_of_block BX.out rfl
                    have z2 : WX.cell? ⟨W1.heap.size, 2, none⟩ = some (.int .u64 S.br) := cell_of_block BX.out rfl
                    have z3 : WX.cell? ⟨W1.heap.size, 3, none⟩ = some (.int .i64 (k : Int)) := cell_of_block BX.out rfl
                    have z4 : WX.cell? ⟨W1.heap.size, 4, none⟩ = some (.int .i64 (0 : Int)) := cell_of_block BX.out rfl
                    have z5 : WX.cell? ⟨W1.heap.size, 5, none⟩ = some (.bool (decide (S.now < S.chg + 4))) := cell_of_block BX.out rfl
                    have z6 : WX.cell? ⟨W1.heap.size, 6, none⟩ = some (.bool lr) := cell_of_block BX.out rfl
                    have z7 : WX.cell? ⟨W1.heap.size, 7, none⟩ = some (.bool p.fwd) := cell_of_block BX.out rfl
                    have HO6 := Lib.hid (iowns_below HO1.out KX.out)
                    have K6 := Lib.hid (K1.out.trans (KX.out.mono K1.out.size))
                    have n3 := Lib.hid (show V.heap.size ≤ (WX.alloc (.cells #[.int .i64 (k : Int), .int .u64 S.best.1, .int .i64 S.best.2.1, .int .u64 S.br, .int .i64 (k : Int), .int .i64 (0 : Int), .bool (decide (S.now < S.chg + 4)), .bool lr, .bool p.fwd] 72)).heap.size by have := K6.out.size; simp; omega)
                    have NEW := Lib.hid (cells_new WX [.int .i64 (k : Int), .int .u64 S.best.1, .int .i64 S.best.2.1, .int .u64 S.br, .int .i64 (k : Int), .int .i64 (0 : Int), .bool (decide (S.now < S.chg + 4)), .bool lr, .bool p.fwd] 72)
                    have HO7 := Lib.hid (HO6.out.alloc (.cells #[.int .i64 (k : Int), .int .u64 S.best.1, .int .i64 S.best.2.1, .int .u64 S.br, .int .i64 (k : Int), .int .i64 (0 : Int), .bool (decide (S.now < S.chg + 4)), .bool lr, .bool p.fwd] 72))
                    have K7 := Lib.hid (K6.out.alloc K6.out.size (.cells #[.int .i64 (k : Int), .int .u64 S.best.1, .int .i64 S.best.2.1, .int .u64 S.br, .int .i64 (k : Int), .int .i64 (0 : Int), .bool (decide (S.now < S.chg + 4)), .bool lr, .bool p.fwd] 72))
                    have HON := Lib.hid (one_O ((k : Int), (⟨(S.best.1, S.best.2.1, S.br, (k : Int)), (0 : Int), (decide (S.now < S.chg + 4)), lr, p.fwd⟩ : Tell)))
                    replace HON : Hid (∀ u ∈ ([.int .i64 (k : Int), .int .u64 S.best.1, .int .i64 S.best.2.1, .int .u64 S.br, .int .i64 (k : Int), .int .i64 (0 : Int), .bool (decide (S.now < S.chg + 4)), .bool lr, .bool p.fwd] : List Value), u.oneCell' = true) := HON
                    clear KF TE LE k0 k1 z11 x0 x2 x4 x5 x6 x7 x8 HO6 K6 hH
                    go_wp2_with (at_builtin; refine wpList_append_own _ rfl _ _ 70 rfl V.heap.size 72 i0 (.agg #[.int .i64 0, .int .u64 0, .int .i64 0, .int .u64 0, .int .i64 0, .int .i64 0, .bool false, .bool false, .bool false]) 9 56 Try.underlying70 hi hz0 hz1 hz2 rfl (by decide) _ _ _ rfl HO7.out ⟨WX.heap.size, 0, none⟩ 1 1 [.int .i64 (k : Int), .int .u64 S.best.1, .int .i64 S.best.2.1, .int .u64 S.br, .int .i64 (k : Int), .int .i64 (0 : Int), .bool (decide (S.now < S.chg + 4)), .bool lr, .bool p.fwd] rfl rfl NEW.out HON.out n1'.out n2'.out n3.out ?_)
                    intro v' w6 hown' hgrow _
                    have HO8 := Lib.hid hown'
                    have K8 := Lib.hid (K7.out.grown hgrow n3.out (fun j hj => (HO7.out.lt j hj).1))
                    clear hown' hgrow HO7 K7 NEW z0 z1 z2 z3 z4 z5 z6 z7
                    go_wp2_with fail
                    go_roundw
                    case rel => exact ⟨k + 1, by omega, by go_num, Lib.hid (by rw [HTT.out, List.length_append, List.flatMap_append]; simpa [cellsO] using HO8.out), Lib.hid (by rw [HTT.out, List.length_append]; have := HC.out; simp; omega), K8⟩
                    case measure => simp [intOf]; omega
              · obtain ⟨r1, r2⟩ := ne_t hrole
                have HTT := Lib.hid (show routGo S 0 (S.ps.take (k + 1)) = acc by rw [HT.out, r1]; simp)
                clear hrole HT
                go_wp2_with fail
                go_roundw
                case rel => exact ⟨k + 1, by omega, by go_num, Lib.hid (by rw [HTT.out]; exact HO1.out), Lib.hid (by rw [HTT.out]; have := HC.out; omega), K1⟩
                case measure => simp [intOf]; omega
            · obtain rfl : n = k := by omega
              rw [List.take_of_length_le (by rw [HLL.out]; exact Nat.le_refl _)] at HO
              clear hlt
              go_wp2_with fail
              go_ret
              rw [E1.out, E2.out, E3.out]
              exact ⟨_, rfl, HO.out.mono HW.out, HS.out, K.out.grow KB.out⟩
end

end Go.Proofs.Ytdjeifbbbpbhoaa
