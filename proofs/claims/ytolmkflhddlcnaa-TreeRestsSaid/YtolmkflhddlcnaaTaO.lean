/-
  The document's 'Rest' of trees. A contract over the translated program.
-/
import Derived.Test.YtolmkflhddlcnaaTaN
import Derived.Deep.AppendLies
import Derived.Deep.RegionLaw
namespace Go.Proofs.Ytolmkflhddlcnaa
open Go.RowKit
set_option linter.unusedVariables false
set_option linter.unusedSimpArgs false

theorem roles_len (x : Int) (s : Bst) : ∀ (l : List Hd) (i : Int), (rolesGo x s i l).length = l.length
  | [], _ => rfl
  | _ :: r, i => by show (rolesGo x s (i + 1) r).length + 1 = _; rw [roles_len x s r]; rfl
theorem restL_take {ids : List Int} {L : List Lk} {k : Nat} {l : Lk} (h : L[k]? = some l) : ((restL ids L).take (k + 1)).flatMap cellsPr = ((restL ids L).take k).flatMap cellsPr ++ [.int .i64 (roleE ids L (endA l)), .int .i64 (roleE ids L (endB l))] := by
  have hk : k < (restL ids L).length := by have := (List.getElem?_eq_some_iff.1 h).1; simpa [restL] using this
  have hx : (restL ids L)[k]? = some (roleE ids L (endA l), roleE ids L (endB l)) := by unfold restL; rw [List.getElem?_map, h]; rfl
  rw [List.take_succ_eq_append_getElem hk, (List.getElem?_eq_some_iff.1 hx).2, List.flatMap_append]
  simp [cellsPr]
/-- The roles at a bridge, by the document. -/
def rolesB (ids : List Int) (L : List Lk) (b : Nat) : List Int := rolesL (idAt ids b) (hdsT (idAt ids) (endsL L) (restB ids L) b)
theorem rolesB_len (ids : List Int) (L : List Lk) (b : Nat) : (rolesB ids L b).length = 16 := by unfold rolesB rolesL; rw [roles_len, hds_len]
theorem rolesB_at {ids : List Int} {L : List Lk} {e : En} {b p : Nat} (hb : e.1 = (b : Int)) (hp : e.2.1 = (p : Int)) (h16 : p < 16) : (rolesB ids L b)[p]? = some (roleE ids L e) := by
  have hlt : p < (rolesB ids L b).length := by rw [rolesB_len]; exact h16
  have e1 : roleE ids L e = ((rolesB ids L b)[p]?).getD 0 := by
    unfold roleE rolesB restH
    rw [hb, hp]
    rfl
  rw [e1, List.getElem?_eq_getElem hlt]
  rfl

set_option maxHeartbeats 8000000 in
set_option maxRecDepth 100000 in
theorem rrest_c {w : World} {vi vl : Value} {ids : List Int} {L : List Lk} (hi : RowsAt 1 cellsU64 w vi ids) (hL : RowsAt 5 cellsLk w vl L) (hM : MayT ids L) :
    Calls Try.prog 16 #[vi, vl] w fun r w' => ∃ u, r = .returned u ∧ w'.ownsRow w.heap.size 38 2 u L.length ((restL ids L).flatMap cellsPr) ∧ Below w.heap.size w w' := by
  have n1 := hM.n1
  have n12 := hM.n12
  have l40 := hM.l40
  have HI := Lib.hid hi
  have HM := Lib.hid hM
  have RE := Lib.hid (rends_c vl L w (by omega) hL)
  obtain ⟨pi, capi, bi, offi, rfl, hpi, hci⟩ := hi
  obtain ⟨pl, capl, bl, offl, rfl, hpl, hcl⟩ := hL
  have hne : ids ≠ [] := by rintro rfl; simp at n1
  obtain rfl := hpi hne
  have HCI := Lib.hid hci
  have HPL := Lib.hid hpl
  have HCL := Lib.hid hcl
  obtain ⟨i0, hi0, hz0, hz1, hz2⟩ := info_parts info_Pr
  clear hpi hci hpl hcl hne hM
  go_enter Try.func16, Try.ntmps16
  go_wp2_with fail
  ((with_reducible refine RE.out.mono ?_); rintro e w1 ⟨ue, rfl, r1, k1⟩)
  have RS := Lib.hid (rsettled_c (HI.out.below k1) r1 HM.out)
  have HE := Lib.hid r1
  have K1 := Lib.hid k1
  clear r1 k1 RE
  go_wp2_with fail
  ((with_reducible refine RS.out.mono ?_); rintro e wS ⟨ub, rfl, r2, k2⟩)
  have HB := Lib.hid r2
  have HE2 := Lib.hid (HE.out.below k2)
  have KW2 := Lib.hid (K1.out.trans (k2.mono K1.out.size))
  obtain ⟨n, hn⟩ : ∃ n, n = ids.length := ⟨_, rfl⟩
  have HNN := Lib.hid hn
  obtain ⟨ln, hln⟩ : ∃ ln, ln = L.length := ⟨_, rfl⟩
  have HLN := Lib.hid hln
  rw [← hn] at n1 n12 HI
  rw [← hn, ← hln]
  rw [← hln] at l40
  clear r2 k2 RS HE hn hln
  go_wp2_with fail
  go_loopw [7, 8, 9, 10] (fun s7 i _ _ wr => ∃ k : Nat, k ≤ ln ∧ i = .int .i64 k ∧ Hid (wr.ownsRow wS.heap.size 38 2 s7 k (((restL ids L).take k).flatMap cellsPr)) ∧ Hid (Below wS.heap.size wS wr)) (fun _ i _ _ _ => ln - (intOf i).toNat)
  case atStart => exact ⟨0, Nat.zero_le _, rfl, Lib.hid (World.ownsRow_nil _ _ _ _), Lib.hid (Below.refl _ _)⟩
  case round =>
    obtain ⟨k, hk, rfl, HO, K2⟩ := hrel
    have KB := Lib.hid (KW2.out.trans (K2.out.mono KW2.out.size))
    by_cases hlt : k < ln
    · obtain ⟨l, hx⟩ : ∃ l, L[k]? = some l := ⟨_, List.getElem?_eq_getElem (by rw [← HLN.out]; exact hlt)⟩
      have hneL : L ≠ [] := by rintro rfl; simp at hx
      obtain rfl := HPL.out hneL
      have HTK := Lib.hid (restL_take (ids := ids) hx)
      have ea := end_ok HM.out (mem_ends.2 ⟨l, List.mem_of_getElem? hx, Or.inl rfl⟩ : endA l ∈ endsL L)
      obtain ⟨xa, xpa, xb, xpb, xc⟩ := l
      have q0 : 0 ≤ xa := ea.a0
      have q1 : xa < ids.length := ea.a1
      have q2 : 0 ≤ xb := ea.t0
      have q3 : xb < ids.length := ea.t1
      have q4 : 0 ≤ xpa := ea.p0
      have q5 : xpa ≤ 15 := ea.p1
      have q6 : 0 ≤ xpb := ea.f0
      have q7 : xpb ≤ 15 := ea.f1
      rw [← HNN.out] at q1 q3
      obtain ⟨α, rfl⟩ : ∃ α : Nat, xa = (α : Int) := ⟨xa.toNat, by omega⟩
      obtain ⟨β, rfl⟩ : ∃ β : Nat, xb = (β : Int) := ⟨xb.toNat, by omega⟩
      obtain ⟨pa, rfl⟩ : ∃ pa : Nat, xpa = (pa : Int) := ⟨xpa.toNat, by omega⟩
      obtain ⟨pb, rfl⟩ : ∃ pb : Nat, xpb = (pb : Int) := ⟨xpb.toNat, by omega⟩
      have hα : α < n := by omega
      have hβ : β < n := by omega
      have hpa : pa < 16 := by omega
      have hpb : pb < 16 := by omega
      have HRA := Lib.hid (rolesB_at (ids := ids) (L := L) (e := endA ((α : Int), (pa : Int), (β : Int), (pb : Int), xc)) (b := α) (p := pa) rfl rfl hpa)
      have HRB := Lib.hid (rolesB_at (ids := ids) (L := L) (e := endB ((α : Int), (pa : Int), (β : Int), (pb : Int), xc)) (b := β) (p := pb) rfl rfl hpb)
      have HCX := Lib.hid fun (U : World) (kz : Below w.heap.size w U) => (⟨gcell_below kz (HCL.out k _ hx 0 _ rfl), gcell_below kz (HCL.out k _ hx 1 _ rfl), gcell_below kz (HCL.out k _ hx 2 _ rfl), gcell_below kz (HCL.out k _ hx 3 _ rfl)⟩ : U.cell? ⟨bl, offl + k * 5, none⟩ = some (.int .i64 (α : Int)) ∧ U.cell? ⟨bl, offl + k * 5 + 1, none⟩ = some (.int .i64 (pa : Int)) ∧ U.cell? ⟨bl, offl + k * 5 + 2, none⟩ = some (.int .i64 (β : Int)) ∧ U.cell? ⟨bl, offl + k * 5 + 3, none⟩ = some (.int .i64 (pb : Int)))
      have HCB := Lib.hid fun (U : World) (kz : Below w.heap.size w U) (j : Nat) (hj : j < n) => gcell_below kz (show w.cell? ⟨bi, offi + j, none⟩ = some (.int .u64 (idAt ids j)) by have := HCI.out j _ (idAt_at (by rw [← HNN.out]; exact hj)) 0 _ rfl; simpa using this)
      have HHR := Lib.hid fun (U : World) (kz : Below wS.heap.size wS U) (kw : Below w.heap.size w U) (j : Nat) => rheard_c (w := U) (HI.out.below kw) (HE2.out.below kz) (HB.out.below kz) HM.out j
      have HRR := Lib.hid fun (U : World) (u : Value) (j : Nat) (h : RowsAt 6 cellsHd U u (hdsT (idAt ids) (endsL L) (restB ids L) j)) => (show Calls Try.prog 31 #[.int .u64 (idAt ids j), u] U fun e w' => ∃ u, e = .returned u ∧ w'.ownsRow U.heap.size 3 1 u 16 ((rolesB ids L j).map (Value.int .i64)) ∧ Below U.heap.size U w' from by
        have h5 := rroles_o (idAt ids j) u _ U (by rw [hds_len]; omega) h
        rw [hds_len] at h5
        exact h5)
      have d1 : decide (k < ln) = true := decide_eq_true hlt
      have d2 : decide ((k : Int) < (ln : Int)) = true := decide_eq_true (by omega)
      have d3 : decide (ln ≤ k) = false := decide_eq_false (by omega)
      have d4 : decide (0 ≤ (k : Int)) = true := decide_eq_true (by omega)
      have a1 : decide (α < n) = true := decide_eq_true hα
      have a2 : decide ((α : Int) < (n : Int)) = true := decide_eq_true (by omega)
      have a3 : decide (n ≤ α) = false := decide_eq_false (by omega)
      have a4 : decide (0 ≤ (α : Int)) = true := decide_eq_true (by omega)
      have b1 : decide (β < n) = true := decide_eq_true hβ
      have b2 : decide ((β : Int) < (n : Int)) = true := decide_eq_true (by omega)
      have b3 : decide (n ≤ β) = false := decide_eq_false (by omega)
      have b4 : decide (0 ≤ (β : Int)) = true := decide_eq_true (by omega)
      clear hx hneL ea q0 q1 q2 q3 q4 q5 q6 q7
      go_upto_region 7 with fail
      have cl := (HCX.out _ KB.out).1
      have ci := HCB.out _ KB.out α (by assumption)
      have KF := Lib.hid fun (U : World) (kz : Below wr.heap.size wr U) => (⟨gcell_below kz cl, gcell_below kz ci⟩ : U.cell? ⟨bl, offl + k * 5, none⟩ = some (.int .i64 (α : Int)) ∧ U.cell? ⟨bi, offi + α, none⟩ = some (.int .u64 (idAt ids α)))
      have k0 := (Below.refl wr.heap.size wr).drew
      have RH := Lib.hid fun (U : World) (kz : Below wr.heap.size wr U) => HHR.out U (K2.out.trans (kz.mono K2.out.size)) (KB.out.trans (kz.mono KB.out.size)) α
      refine wp_region_held_drew (S := fun U => U.cell? ⟨bl, offl + k * 5, none⟩ = some (.int .i64 (α : Int)) ∧ U.cell? ⟨bi, offi + α, none⟩ = some (.int .u64 (idAt ids α))) (by kernel_rfl) (KF.out _ k0) (fun hH => ?_)
      refine wpAnyH_take (i := 0) (oi := { dst := some 22, op := Op.move (Operand.tmp 0), type := 22, pos := "ref.go:99", after := #[], guard := none }) (v := .slice (some ⟨bi, offi, none⟩) n capi) rfl (by kernel_rfl) (by kernel_rfl) (by kernel_rfl) (fun _ _ _ h => h) (Or.inl ⟨by kernel_rfl, ?_⟩) hH ?_
      · intro w hSw; (try dsimp only at hSw); go_simp; (try rfl)
      try simp only [Act.put, List.setIfInBounds_toArray, List.set_cons_zero, List.set_cons_succ]
      refine wpAnyH_take (i := 1) (oi := { dst := some 23, op := Op.move (Operand.tmp 1), type := 23, pos := "ref.go:99", after := #[], guard := none }) (v := .slice (some ⟨bl, offl, none⟩) ln capl) rfl (by kernel_rfl) (by kernel_rfl) (by kernel_rfl) (fun _ _ _ h => h) (Or.inl ⟨by kernel_rfl, ?_⟩) hH ?_
      · intro w hSw; (try dsimp only at hSw); go_simp; (try rfl)
      try simp only [Act.put, List.setIfInBounds_toArray, List.set_cons_zero, List.set_cons_succ]
      refine wpAnyH_take (i := 2) (oi := { dst := some 24, op := Op.move (Operand.tmp 8), type := 3, pos := "ref.go:99", after := #[], guard := none }) (v := .int .i64 (k : Int)) rfl (by kernel_rfl) (by kernel_rfl) (by kernel_rfl) (fun _ _ _ h => h) (Or.inl ⟨by kernel_rfl, ?_⟩) hH ?_
      · intro w hSw; (try dsimp only at hSw); go_simp; (try rfl)
      try simp only [Act.put, List.setIfInBounds_toArray, List.set_cons_zero, List.set_cons_succ]
      refine wpAnyH_take (i := 3) (oi := { dst := some 25, op := Op.indexAddr 23 (Operand.tmp 23) (Operand.tmp 24), type := 0, pos := "ref.go:99", after := #[{ on := 1, ground := Ground.data }, { on := 2, ground := Ground.data }], guard := none }) (v := .pointer (some ⟨bl, offl + k * 5, none⟩)) rfl (by kernel_rfl) (by kernel_rfl) (by kernel_rfl) (fun _ _ _ h => h) (Or.inl ⟨by kernel_rfl, ?_⟩) hH ?_
      · intro w hSw; (try dsimp only at hSw); go_simp; (try rfl)
      try simp only [Act.put, List.setIfInBounds_toArray, List.set_cons_zero, List.set_cons_succ]
      refine wpAnyH_take (i := 4) (oi := { dst := some 26, op := Op.fieldAddr 42 (Operand.tmp 25) 0, type := 0, pos := "ref.go:99", after := #[{ on := 3, ground := Ground.data }], guard := none }) (v := .pointer (some ⟨bl, offl + k * 5, none⟩)) rfl (by kernel_rfl) (by kernel_rfl) (by kernel_rfl) (fun _ _ _ h => h) (Or.inl ⟨by kernel_rfl, ?_⟩) hH ?_
      · intro w hSw; (try dsimp only at hSw); go_simp; (try rfl)
      try simp only [Act.put, List.setIfInBounds_toArray, List.set_cons_zero, List.set_cons_succ]
      refine wpAnyH_take (i := 5) (oi := { dst := some 27, op := Op.load 3 (Operand.tmp 26), type := 3, pos := "ref.go:99", after := #[{ on := 4, ground := Ground.data }], guard := none }) (v := .int .i64 (α : Int)) rfl (by kernel_rfl) (by kernel_rfl) (by kernel_rfl) (fun _ _ _ h => h) (Or.inl ⟨by kernel_rfl, ?_⟩) hH ?_
      · intro w hSw; (try dsimp only at hSw); go_simp; (try rfl)
      try simp only [Act.put, List.setIfInBounds_toArray, List.set_cons_zero, List.set_cons_succ]
      refine wpAnyH_take (i := 6) (oi := { dst := some 28, op := Op.indexAddr 22 (Operand.tmp 22) (Operand.tmp 27), type := 0, pos := "ref.go:99", after := #[{ on := 0, ground := Ground.data }, { on := 5, ground := Ground.data }], guard := none }) (v := .pointer (some ⟨bi, offi + α, none⟩)) rfl (by kernel_rfl) (by kernel_rfl) (by kernel_rfl) (fun _ _ _ h => h) (Or.inl ⟨by kernel_rfl, ?_⟩) hH ?_
      · intro w hSw; (try dsimp only at hSw); go_simp; (try rfl)
      try simp only [Act.put, List.setIfInBounds_toArray, List.set_cons_zero, List.set_cons_succ]
      refine wpAnyH_take (i := 7) (oi := { dst := some 29, op := Op.load 44 (Operand.tmp 28), type := 44, pos := "ref.go:99", after := #[{ on := 6, ground := Ground.data }], guard := none }) (v := .int .u64 (idAt ids α)) rfl (by kernel_rfl) (by kernel_rfl) (by kernel_rfl) (fun _ _ _ h => h) (Or.inl ⟨by kernel_rfl, ?_⟩) hH ?_
      · intro w hSw; (try dsimp only at hSw); go_simp; (try rfl)
      try simp only [Act.put, List.setIfInBounds_toArray, List.set_cons_zero, List.set_cons_succ]
      refine wpAnyH_take (i := 8) (oi := { dst := some 30, op := Op.move (Operand.tmp 0), type := 22, pos := "ref.go:99", after := #[], guard := none }) (v := .slice (some ⟨bi, offi, none⟩) n capi) rfl (by kernel_rfl) (by kernel_rfl) (by kernel_rfl) (fun _ _ _ h => h) (Or.inl ⟨by kernel_rfl, ?_⟩) hH ?_
      · intro w hSw; (try dsimp only at hSw); go_simp; (try rfl)
      try simp only [Act.put, List.setIfInBounds_toArray, List.set_cons_zero, List.set_cons_succ]
      refine wpAnyH_take (i := 9) (oi := { dst := some 31, op := Op.move (Operand.tmp 5), type := 46, pos := "ref.go:99", after := #[], guard := none }) (v := ue) rfl (by kernel_rfl) (by kernel_rfl) (by kernel_rfl) (fun _ _ _ h => h) (Or.inl ⟨by kernel_rfl, ?_⟩) hH ?_
      · intro w hSw; (try dsimp only at hSw); go_simp; (try rfl)
      try simp only [Act.put, List.setIfInBounds_toArray, List.set_cons_zero, List.set_cons_succ]
      refine wpAnyH_take (i := 10) (oi := { dst := some 32, op := Op.move (Operand.tmp 6), type := 63, pos := "ref.go:99", after := #[], guard := none }) (v := ub) rfl (by kernel_rfl) (by kernel_rfl) (by kernel_rfl) (fun _ _ _ h => h) (Or.inl ⟨by kernel_rfl, ?_⟩) hH ?_
      · intro w hSw; (try dsimp only at hSw); go_simp; (try rfl)
      try simp only [Act.put, List.setIfInBounds_toArray, List.set_cons_zero, List.set_cons_succ]
      refine wpAnyH_take (i := 11) (oi := { dst := some 33, op := Op.move (Operand.tmp 1), type := 23, pos := "ref.go:99", after := #[], guard := none }) (v := .slice (some ⟨bl, offl, none⟩) ln capl) rfl (by kernel_rfl) (by kernel_rfl) (by kernel_rfl) (fun _ _ _ h => h) (Or.inl ⟨by kernel_rfl, ?_⟩) hH ?_
      · intro w hSw; (try dsimp only at hSw); go_simp; (try rfl)
      try simp only [Act.put, List.setIfInBounds_toArray, List.set_cons_zero, List.set_cons_succ]
      refine wpAnyH_take (i := 12) (oi := { dst := some 34, op := Op.move (Operand.tmp 8), type := 3, pos := "ref.go:99", after := #[], guard := none }) (v := .int .i64 (k : Int)) rfl (by kernel_rfl) (by kernel_rfl) (by kernel_rfl) (fun _ _ _ h => h) (Or.inl ⟨by kernel_rfl, ?_⟩) hH ?_
      · intro w hSw; (try dsimp only at hSw); go_simp; (try rfl)
      try simp only [Act.put, List.setIfInBounds_toArray, List.set_cons_zero, List.set_cons_succ]
      refine wpAnyH_take (i := 13) (oi := { dst := some 35, op := Op.indexAddr 23 (Operand.tmp 33) (Operand.tmp 34), type := 0, pos := "ref.go:99", after := #[{ on := 11, ground := Ground.data }, { on := 12, ground := Ground.data }], guard := none }) (v := .pointer (some ⟨bl, offl + k * 5, none⟩)) rfl (by kernel_rfl) (by kernel_rfl) (by kernel_rfl) (fun _ _ _ h => h) (Or.inl ⟨by kernel_rfl, ?_⟩) hH ?_
      · intro w hSw; (try dsimp only at hSw); go_simp; (try rfl)
      try simp only [Act.put, List.setIfInBounds_toArray, List.set_cons_zero, List.set_cons_succ]
      refine wpAnyH_take (i := 14) (oi := { dst := some 36, op := Op.fieldAddr 42 (Operand.tmp 35) 0, type := 0, pos := "ref.go:99", after := #[{ on := 13, ground := Ground.data }], guard := none }) (v := .pointer (some ⟨bl, offl + k * 5, none⟩)) rfl (by kernel_rfl) (by kernel_rfl) (by kernel_rfl) (fun _ _ _ h => h) (Or.inl ⟨by kernel_rfl, ?_⟩) hH ?_
      · intro w hSw; (try dsimp only at hSw); go_simp; (try rfl)
      try simp only [Act.put, List.setIfInBounds_toArray, List.set_cons_zero, List.set_cons_succ]
      refine wpAnyH_take (i := 15) (oi := { dst := some 37, op := Op.load 3 (Operand.tmp 36), type := 3, pos := "ref.go:99", after := #[{ on := 14, ground := Ground.data }], guard := none }) (v := .int .i64 (α : Int)) rfl (by kernel_rfl) (by kernel_rfl) (by kernel_rfl) (fun _ _ _ h => h) (Or.inl ⟨by kernel_rfl, ?_⟩) hH ?_
      · intro w hSw; (try dsimp only at hSw); go_simp; (try rfl)
      try simp only [Act.put, List.setIfInBounds_toArray, List.set_cons_zero, List.set_cons_succ]
      refine wpAnyH_ready (rs := [16]) (by kernel_rfl) (by simp) ?_
      refine AllReadyH.cons rfl (fun K hK => ?_) AllReadyH.nil
      go_simp
      with_reducible refine (RH.out _ k0).mono ?_
      rintro e w1 ⟨uh, rfl, rh, hb1⟩
      (try go_wp2_with fail)
      have k1 := k0.trans (hb1.mono k0.size)
      refine hK.out _ _ (KF.out _ k1) (fun hH => ?_)
      clear hK K
      try simp only [Act.put, List.setIfInBounds_toArray, List.set_cons_zero, List.set_cons_succ]
      refine wpAnyH_ready (rs := [17]) (by kernel_rfl) (by simp) ?_
      refine AllReadyH.cons rfl (fun K hK => ?_) AllReadyH.nil
      go_simp
      with_reducible refine (HRR.out _ uh α rh).mono ?_
      rintro e w2 ⟨uα, rfl, rα, hb2⟩
      (try go_wp2_with fail)
      have k2 := k1.trans (hb2.mono k1.size)
      refine hK.out _ _ (KF.out _ k2) (fun hH => ?_)
      clear hK K
      try simp only [Act.put, List.setIfInBounds_toArray, List.set_cons_zero, List.set_cons_succ]
      refine wpAnyH_take (i := 18) (oi := { dst := some 9, op := Op.assign (Operand.tmp 39), type := 33, pos := "ref.go:99", after := #[{ on := 17, ground := Ground.data }, { on := 17, ground := Ground.chain }, { on := 0, ground := Ground.phase }, { on := 1, ground := Ground.phase }, { on := 2, ground := Ground.phase }, { on := 3, ground := Ground.phase }, { on := 4, ground := Ground.phase }, { on := 5, ground := Ground.phase }, { on := 6, ground := Ground.phase }, { on := 7, ground := Ground.phase }, { on := 8, ground := Ground.phase }, { on := 9, ground := Ground.phase }, { on := 10, ground := Ground.phase }, { on := 11, ground := Ground.phase }, { on := 12, ground := Ground.phase }, { on := 13, ground := Ground.phase }, { on := 14, ground := Ground.phase }, { on := 15, ground := Ground.phase }, { on := 16, ground := Ground.phase }, { on := 17, ground := Ground.phase }], guard := none }) (v := uα) rfl (by kernel_rfl) (by kernel_rfl) (by kernel_rfl) (fun _ _ _ h => h) (Or.inl ⟨by kernel_rfl, ?_⟩) hH ?_
      · intro w hSw; (try dsimp only at hSw); go_simp; (try rfl)
      try simp only [Act.put, List.setIfInBounds_toArray, List.set_cons_zero, List.set_cons_succ]
      refine wpAnyH_done (by kernel_rfl) ?_ _
      have KX := Lib.hid (KB.out.trans (k2.mono KB.out.size))
      have KX2 := Lib.hid (K2.out.trans (k2.mono K2.out.size))
      have HOX := Lib.hid (iowns_below HO.out k2)
      have RA := Lib.hid rα
      clear hH rh KF RH cl ci k0 k1 k2 hb1 hb2 rα a1 a2 a3 a4
      generalize w2 = WX at KX KX2 HOX RA ⊢
      go_upto_region 8 with fail
      have cl := (HCX.out _ KX.out).2.2.1
      have ci := HCB.out _ KX.out β (by assumption)
      have KF := Lib.hid fun (U : World) (kz : Below WX.heap.size WX U) => (⟨gcell_below kz cl, gcell_below kz ci⟩ : U.cell? ⟨bl, offl + k * 5 + 2, none⟩ = some (.int .i64 (β : Int)) ∧ U.cell? ⟨bi, offi + β, none⟩ = some (.int .u64 (idAt ids β)))
      have k0 := (Below.refl WX.heap.size WX).drew
      have RH := Lib.hid fun (U : World) (kz : Below WX.heap.size WX U) => HHR.out U (KX2.out.trans (kz.mono KX2.out.size)) (KX.out.trans (kz.mono KX.out.size)) β
      refine wp_region_held_drew (S := fun U => U.cell? ⟨bl, offl + k * 5 + 2, none⟩ = some (.int .i64 (β : Int)) ∧ U.cell? ⟨bi, offi + β, none⟩ = some (.int .u64 (idAt ids β))) (by kernel_rfl) (KF.out _ k0) (fun hH => ?_)
      refine wpAnyH_take (i := 0) (oi := { dst := some 40, op := Op.move (Operand.tmp 0), type := 22, pos := "ref.go:100", after := #[], guard := none }) (v := .slice (some ⟨bi, offi, none⟩) n capi) rfl (by kernel_rfl) (by kernel_rfl) (by kernel_rfl) (fun _ _ _ h => h) (Or.inl ⟨by kernel_rfl, ?_⟩) hH ?_
      · intro w hSw; (try dsimp only at hSw); go_simp; (try rfl)
      try simp only [Act.put, List.setIfInBounds_toArray, List.set_cons_zero, List.set_cons_succ]
      refine wpAnyH_take (i := 1) (oi := { dst := some 41, op := Op.move (Operand.tmp 1), type := 23, pos := "ref.go:100", after := #[], guard := none }) (v := .slice (some ⟨bl, offl, none⟩) ln capl) rfl (by kernel_rfl) (by kernel_rfl) (by kernel_rfl) (fun _ _ _ h => h) (Or.inl ⟨by kernel_rfl, ?_⟩) hH ?_
      · intro w hSw; (try dsimp only at hSw); go_simp; (try rfl)
      try simp only [Act.put, List.setIfInBounds_toArray, List.set_cons_zero, List.set_cons_succ]
      refine wpAnyH_take (i := 2) (oi := { dst := some 42, op := Op.move (Operand.tmp 8), type := 3, pos := "ref.go:100", after := #[], guard := none }) (v := .int .i64 (k : Int)) rfl (by kernel_rfl) (by kernel_rfl) (by kernel_rfl) (fun _ _ _ h => h) (Or.inl ⟨by kernel_rfl, ?_⟩) hH ?_
      · intro w hSw; (try dsimp only at hSw); go_simp; (try rfl)
      try simp only [Act.put, List.setIfInBounds_toArray, List.set_cons_zero, List.set_cons_succ]
      refine wpAnyH_take (i := 3) (oi := { dst := some 43, op := Op.indexAddr 23 (Operand.tmp 41) (Operand.tmp 42), type := 0, pos := "ref.go:100", after := #[{ on := 1, ground := Ground.data }, { on := 2, ground := Ground.data }], guard := none }) (v := .pointer (some ⟨bl, offl + k * 5, none⟩)) rfl (by kernel_rfl) (by kernel_rfl) (by kernel_rfl) (fun _ _ _ h => h) (Or.inl ⟨by kernel_rfl, ?_⟩) hH ?_
      · intro w hSw; (try dsimp only at hSw); go_simp; (try rfl)
      try simp only [Act.put, List.setIfInBounds_toArray, List.set_cons_zero, List.set_cons_succ]
      refine wpAnyH_take (i := 4) (oi := { dst := some 44, op := Op.fieldAddr 42 (Operand.tmp 43) 2, type := 0, pos := "ref.go:100", after := #[{ on := 3, ground := Ground.data }], guard := none }) (v := .pointer (some ⟨bl, offl + k * 5 + 2, none⟩)) rfl (by kernel_rfl) (by kernel_rfl) (by kernel_rfl) (fun _ _ _ h => h) (Or.inl ⟨by kernel_rfl, ?_⟩) hH ?_
      · intro w hSw; (try dsimp only at hSw); go_simp; (try rfl)
      try simp only [Act.put, List.setIfInBounds_toArray, List.set_cons_zero, List.set_cons_succ]
      refine wpAnyH_take (i := 5) (oi := { dst := some 45, op := Op.load 3 (Operand.tmp 44), type := 3, pos := "ref.go:100", after := #[{ on := 4, ground := Ground.data }], guard := none }) (v := .int .i64 (β : Int)) rfl (by kernel_rfl) (by kernel_rfl) (by kernel_rfl) (fun _ _ _ h => h) (Or.inl ⟨by kernel_rfl, ?_⟩) hH ?_
      · intro w hSw; (try dsimp only at hSw); go_simp; (try rfl)
      try simp only [Act.put, List.setIfInBounds_toArray, List.set_cons_zero, List.set_cons_succ]
      refine wpAnyH_take (i := 6) (oi := { dst := some 46, op := Op.indexAddr 22 (Operand.tmp 40) (Operand.tmp 45), type := 0, pos := "ref.go:100", after := #[{ on := 0, ground := Ground.data }, { on := 5, ground := Ground.data }], guard := none }) (v := .pointer (some ⟨bi, offi + β, none⟩)) rfl (by kernel_rfl) (by kernel_rfl) (by kernel_rfl) (fun _ _ _ h => h) (Or.inl ⟨by kernel_rfl, ?_⟩) hH ?_
      · intro w hSw; (try dsimp only at hSw); go_simp; (try rfl)
      try simp only [Act.put, List.setIfInBounds_toArray, List.set_cons_zero, List.set_cons_succ]
      refine wpAnyH_take (i := 7) (oi := { dst := some 47, op := Op.load 44 (Operand.tmp 46), type := 44, pos := "ref.go:100", after := #[{ on := 6, ground := Ground.data }], guard := none }) (v := .int .u64 (idAt ids β)) rfl (by kernel_rfl) (by kernel_rfl) (by kernel_rfl) (fun _ _ _ h => h) (Or.inl ⟨by kernel_rfl, ?_⟩) hH ?_
      · intro w hSw; (try dsimp only at hSw); go_simp; (try rfl)
      try simp only [Act.put, List.setIfInBounds_toArray, List.set_cons_zero, List.set_cons_succ]
      refine wpAnyH_take (i := 8) (oi := { dst := some 48, op := Op.move (Operand.tmp 0), type := 22, pos := "ref.go:100", after := #[], guard := none }) (v := .slice (some ⟨bi, offi, none⟩) n capi) rfl (by kernel_rfl) (by kernel_rfl) (by kernel_rfl) (fun _ _ _ h => h) (Or.inl ⟨by kernel_rfl, ?_⟩) hH ?_
      · intro w hSw; (try dsimp only at hSw); go_simp; (try rfl)
      try simp only [Act.put, List.setIfInBounds_toArray, List.set_cons_zero, List.set_cons_succ]
      refine wpAnyH_take (i := 9) (oi := { dst := some 49, op := Op.move (Operand.tmp 5), type := 46, pos := "ref.go:100", after := #[], guard := none }) (v := ue) rfl (by kernel_rfl) (by kernel_rfl) (by kernel_rfl) (fun _ _ _ h => h) (Or.inl ⟨by kernel_rfl, ?_⟩) hH ?_
      · intro w hSw; (try dsimp only at hSw); go_simp; (try rfl)
      try simp only [Act.put, List.setIfInBounds_toArray, List.set_cons_zero, List.set_cons_succ]
      refine wpAnyH_take (i := 10) (oi := { dst := some 50, op := Op.move (Operand.tmp 6), type := 63, pos := "ref.go:100", after := #[], guard := none }) (v := ub) rfl (by kernel_rfl) (by kernel_rfl) (by kernel_rfl) (fun _ _ _ h => h) (Or.inl ⟨by kernel_rfl, ?_⟩) hH ?_
      · intro w hSw; (try dsimp only at hSw); go_simp; (try rfl)
      try simp only [Act.put, List.setIfInBounds_toArray, List.set_cons_zero, List.set_cons_succ]
      refine wpAnyH_take (i := 11) (oi := { dst := some 51, op := Op.move (Operand.tmp 1), type := 23, pos := "ref.go:100", after := #[], guard := none }) (v := .slice (some ⟨bl, offl, none⟩) ln capl) rfl (by kernel_rfl) (by kernel_rfl) (by kernel_rfl) (fun _ _ _ h => h) (Or.inl ⟨by kernel_rfl, ?_⟩) hH ?_
      · intro w hSw; (try dsimp only at hSw); go_simp; (try rfl)
      try simp only [Act.put, List.setIfInBounds_toArray, List.set_cons_zero, List.set_cons_succ]
      refine wpAnyH_take (i := 12) (oi := { dst := some 52, op := Op.move (Operand.tmp 8), type := 3, pos := "ref.go:100", after := #[], guard := none }) (v := .int .i64 (k : Int)) rfl (by kernel_rfl) (by kernel_rfl) (by kernel_rfl) (fun _ _ _ h => h) (Or.inl ⟨by kernel_rfl, ?_⟩) hH ?_
      · intro w hSw; (try dsimp only at hSw); go_simp; (try rfl)
      try simp only [Act.put, List.setIfInBounds_toArray, List.set_cons_zero, List.set_cons_succ]
      refine wpAnyH_take (i := 13) (oi := { dst := some 53, op := Op.indexAddr 23 (Operand.tmp 51) (Operand.tmp 52), type := 0, pos := "ref.go:100", after := #[{ on := 11, ground := Ground.data }, { on := 12, ground := Ground.data }], guard := none }) (v := .pointer (some ⟨bl, offl + k * 5, none⟩)) rfl (by kernel_rfl) (by kernel_rfl) (by kernel_rfl) (fun _ _ _ h => h) (Or.inl ⟨by kernel_rfl, ?_⟩) hH ?_
      · intro w hSw; (try dsimp only at hSw); go_simp; (try rfl)
      try simp only [Act.put, List.setIfInBounds_toArray, List.set_cons_zero, List.set_cons_succ]
      refine wpAnyH_take (i := 14) (oi := { dst := some 54, op := Op.fieldAddr 42 (Operand.tmp 53) 2, type := 0, pos := "ref.go:100", after := #[{ on := 13, ground := Ground.data }], guard := none }) (v := .pointer (some ⟨bl, offl + k * 5 + 2, none⟩)) rfl (by kernel_rfl) (by kernel_rfl) (by kernel_rfl) (fun _ _ _ h => h) (Or.inl ⟨by kernel_rfl, ?_⟩) hH ?_
      · intro w hSw; (try dsimp only at hSw); go_simp; (try rfl)
      try simp only [Act.put, List.setIfInBounds_toArray, List.set_cons_zero, List.set_cons_succ]
      refine wpAnyH_take (i := 15) (oi := { dst := some 55, op := Op.load 3 (Operand.tmp 54), type := 3, pos := "ref.go:100", after := #[{ on := 14, ground := Ground.data }], guard := none }) (v := .int .i64 (β : Int)) rfl (by kernel_rfl) (by kernel_rfl) (by kernel_rfl) (fun _ _ _ h => h) (Or.inl ⟨by kernel_rfl, ?_⟩) hH ?_
      · intro w hSw; (try dsimp only at hSw); go_simp; (try rfl)
      try simp only [Act.put, List.setIfInBounds_toArray, List.set_cons_zero, List.set_cons_succ]
      refine wpAnyH_ready (rs := [16]) (by kernel_rfl) (by simp) ?_
      refine AllReadyH.cons rfl (fun K hK => ?_) AllReadyH.nil
      go_simp
      with_reducible refine (RH.out _ k0).mono ?_
      rintro e w1 ⟨uh, rfl, rh, hb1⟩
      (try go_wp2_with fail)
      have k1 := k0.trans (hb1.mono k0.size)
      refine hK.out _ _ (KF.out _ k1) (fun hH => ?_)
      clear hK K
      try simp only [Act.put, List.setIfInBounds_toArray, List.set_cons_zero, List.set_cons_succ]
      refine wpAnyH_ready (rs := [17]) (by kernel_rfl) (by simp) ?_
      refine AllReadyH.cons rfl (fun K hK => ?_) AllReadyH.nil
      go_simp
      with_reducible refine (HRR.out _ uh β rh).mono ?_
      rintro e w2 ⟨uβ, rfl, rβ, hb2⟩
      (try go_wp2_with fail)
      have k2 := k1.trans (hb2.mono k1.size)
      refine hK.out _ _ (KF.out _ k2) (fun hH => ?_)
      clear hK K
      try simp only [Act.put, List.setIfInBounds_toArray, List.set_cons_zero, List.set_cons_succ]
      refine wpAnyH_take (i := 18) (oi := { dst := some 10, op := Op.assign (Operand.tmp 57), type := 33, pos := "ref.go:100", after := #[{ on := 17, ground := Ground.data }, { on := 17, ground := Ground.chain }, { on := 0, ground := Ground.phase }, { on := 1, ground := Ground.phase }, { on := 2, ground := Ground.phase }, { on := 3, ground := Ground.phase }, { on := 4, ground := Ground.phase }, { on := 5, ground := Ground.phase }, { on := 6, ground := Ground.phase }, { on := 7, ground := Ground.phase }, { on := 8, ground := Ground.phase }, { on := 9, ground := Ground.phase }, { on := 10, ground := Ground.phase }, { on := 11, ground := Ground.phase }, { on := 12, ground := Ground.phase }, { on := 13, ground := Ground.phase }, { on := 14, ground := Ground.phase }, { on := 15, ground := Ground.phase }, { on := 16, ground := Ground.phase }, { on := 17, ground := Ground.phase }], guard := none }) (v := uβ) rfl (by kernel_rfl) (by kernel_rfl) (by kernel_rfl) (fun _ _ _ h => h) (Or.inl ⟨by kernel_rfl, ?_⟩) hH ?_
      · intro w hSw; (try dsimp only at hSw); go_simp; (try rfl)
      try simp only [Act.put, List.setIfInBounds_toArray, List.set_cons_zero, List.set_cons_succ]
      refine wpAnyH_done (by kernel_rfl) ?_ _
      have KY := Lib.hid (KX.out.trans (k2.mono KX.out.size))
      have KY2 := Lib.hid (KX2.out.trans (k2.mono KX2.out.size))
      have HOY := Lib.hid (iowns_below HOX.out k2)
      obtain ⟨ga, capa, cura, rfl, hga, ha⟩ := owns_blk (iowns_below RA.out k2) (by omega)
      obtain ⟨gb, capb, curb, rfl, hgb, hb⟩ := owns_blk rβ (by omega)
      have va := ha pa _ (by rw [List.getElem?_map, HRA.out]; rfl)
      have vb := hb pb _ (by rw [List.getElem?_map, HRB.out]; rfl)
      have ca := cell_of_block hga va
      have cb := cell_of_block hgb vb
      have HGA := Lib.hid hga
      have HGB := Lib.hid hgb
      have HVA := Lib.hid va
      have HVB := Lib.hid vb
      obtain ⟨-, cpa, -, cpb⟩ := HCX.out _ KY.out
      have e1 : decide (pa < 16) = true := decide_eq_true hpa
      have e2 : decide ((pa : Int) < 16) = true := decide_eq_true (by omega)
      have e3 : decide (16 ≤ pa) = false := decide_eq_false (by omega)
      have e4 : decide (0 ≤ (pa : Int)) = true := decide_eq_true (by omega)
      have e5 : (pa : Int) < 16 := by omega
      have f5 : (pb : Int) < 16 := by omega
      have f1 : decide (pb < 16) = true := decide_eq_true hpb
      have f2 : decide ((pb : Int) < 16) = true := decide_eq_true (by omega)
      have f3 : decide (16 ≤ pb) = false := decide_eq_false (by omega)
      have f4 : decide (0 ≤ (pb : Int)) = true := decide_eq_true (by omega)
      clear hH rh KF RH cl ci k0 k1 k2 hb1 hb2 rβ b1 b2 b3 b4 ha hb va vb hga hgb RA HOX KX KX2 HO KB K2 HRA HRB HHR HRR HCB
      generalize w2 = WY at KY KY2 HOY ca cb cpa cpb HGA HGB ⊢
      generalize roleE ids L (endA ((α : Int), (pa : Int), (β : Int), (pb : Int), xc)) = ra at ca HTK HVA
      generalize roleE ids L (endB ((α : Int), (pa : Int), (β : Int), (pb : Int), xc)) = rb at cb HTK HVB
      go_upto_region 9 with fail
      have KF := Lib.hid fun (U : World) (kz : Below WY.heap.size WY U) => (⟨gcell_below kz cpa, gcell_below kz cpb, gcell_below kz ca, gcell_below kz cb⟩ : U.cell? ⟨bl, offl + k * 5 + 1, none⟩ = some (.int .i64 (pa : Int)) ∧ U.cell? ⟨bl, offl + k * 5 + 3, none⟩ = some (.int .i64 (pb : Int)) ∧ U.cell? ⟨ga, pa, none⟩ = some (.int .i64 ra) ∧ U.cell? ⟨gb, pb, none⟩ = some (.int .i64 rb))
      have k0 := (Below.refl WY.heap.size WY).drew
      have OA := Lib.hid (show ((WY.alloc (.cells #[.int .i64 ra, .int .i64 rb] 38)).drew).ownsRow wS.heap.size 38 2 u7 k (((restL ids L).take k).flatMap cellsPr) from HOY.out.alloc _)
      have CA := Lib.hid (show ∀ j u, ([.int .i64 ra, .int .i64 rb] : List Value)[j]? = some u → ((WY.alloc (.cells #[.int .i64 ra, .int .i64 rb] 38)).drew).cell? ((⟨WY.heap.size, 0, none⟩ : Addr).add j) = some u from cells_new WY [.int .i64 ra, .int .i64 rb] 38)
      have ka := Lib.hid (show Below WY.heap.size WY ((WY.alloc (.cells #[.int .i64 ra, .int .i64 rb] 38)).drew) from ((Below.refl _ WY).alloc (Nat.le_refl _) _).drew)
      have hsz := Lib.hid (show wS.heap.size ≤ ((WY.alloc (.cells #[.int .i64 ra, .int .i64 rb] 38)).drew).heap.size by have h1 := KY2.out.size; have h2 := ka.out.size; omega)
      have n11 := Lib.hid (show k + 1 ≤ maxLen by unfold maxLen; omega)
      have n22 := Lib.hid (show (k + 1) * 16 ≤ 140737488355328 by omega)
      have oc := Lib.hid (show ∀ u ∈ ([.int .i64 ra, .int .i64 rb] : List Value), u.oneCell' = true from fun u hu => by simp at hu; rcases hu with rfl | rfl <;> rfl)
      have KYA2 := Lib.hid (KY2.out.trans (ka.out.mono KY2.out.size))
      refine wp_region_held_drew (S := fun U => U.cell? ⟨bl, offl + k * 5 + 1, none⟩ = some (.int .i64 (pa : Int)) ∧ U.cell? ⟨bl, offl + k * 5 + 3, none⟩ = some (.int .i64 (pb : Int)) ∧ U.cell? ⟨ga, pa, none⟩ = some (.int .i64 ra) ∧ U.cell? ⟨gb, pb, none⟩ = some (.int .i64 rb)) (by kernel_rfl) (KF.out _ k0) (fun hH => ?_)
      refine wpAnyH_take (i := 0) (oi := { dst := some 58, op := Op.move (Operand.tmp 7), type := 30, pos := "ref.go:101", after := #[], guard := none }) (v := u7) rfl (by kernel_rfl) (by kernel_rfl) (by kernel_rfl) (fun _ _ _ h => h) (Or.inl ⟨by kernel_rfl, ?_⟩) hH ?_
      · intro w hSw; (try dsimp only at hSw); go_simp; (try rfl)
      try simp only [Act.put, List.setIfInBounds_toArray, List.set_cons_zero, List.set_cons_succ]
      refine wpAnyH_take (i := 1) (oi := { dst := some 59, op := Op.move (Operand.tmp 9), type := 33, pos := "ref.go:101", after := #[], guard := none }) (v := .slice (some ⟨ga, 0, none⟩) 16 capa) rfl (by kernel_rfl) (by kernel_rfl) (by kernel_rfl) (fun _ _ _ h => h) (Or.inl ⟨by kernel_rfl, ?_⟩) hH ?_
      · intro w hSw; (try dsimp only at hSw); go_simp; (try rfl)
      try simp only [Act.put, List.setIfInBounds_toArray, List.set_cons_zero, List.set_cons_succ]
      refine wpAnyH_take (i := 2) (oi := { dst := some 60, op := Op.move (Operand.tmp 1), type := 23, pos := "ref.go:101", after := #[], guard := none }) (v := .slice (some ⟨bl, offl, none⟩) ln capl) rfl (by kernel_rfl) (by kernel_rfl) (by kernel_rfl) (fun _ _ _ h => h) (Or.inl ⟨by kernel_rfl, ?_⟩) hH ?_
      · intro w hSw; (try dsimp only at hSw); go_simp; (try rfl)
      try simp only [Act.put, List.setIfInBounds_toArray, List.set_cons_zero, List.set_cons_succ]
      refine wpAnyH_take (i := 3) (oi := { dst := some 61, op := Op.move (Operand.tmp 8), type := 3, pos := "ref.go:101", after := #[], guard := none }) (v := .int .i64 (k : Int)) rfl (by kernel_rfl) (by kernel_rfl) (by kernel_rfl) (fun _ _ _ h => h) (Or.inl ⟨by kernel_rfl, ?_⟩) hH ?_
      · intro w hSw; (try dsimp only at hSw); go_simp; (try rfl)
      try simp only [Act.put, List.setIfInBounds_toArray, List.set_cons_zero, List.set_cons_succ]
      refine wpAnyH_take (i := 4) (oi := { dst := some 62, op := Op.indexAddr 23 (Operand.tmp 60) (Operand.tmp 61), type := 0, pos := "ref.go:101", after := #[{ on := 2, ground := Ground.data }, { on := 3, ground := Ground.data }], guard := none }) (v := .pointer (some ⟨bl, offl + k * 5, none⟩)) rfl (by kernel_rfl) (by kernel_rfl) (by kernel_rfl) (fun _ _ _ h => h) (Or.inl ⟨by kernel_rfl, ?_⟩) hH ?_
      · intro w hSw; (try dsimp only at hSw); go_simp; (try rfl)
      try simp only [Act.put, List.setIfInBounds_toArray, List.set_cons_zero, List.set_cons_succ]
      refine wpAnyH_take (i := 5) (oi := { dst := some 63, op := Op.fieldAddr 42 (Operand.tmp 62) 1, type := 0, pos := "ref.go:101", after := #[{ on := 4, ground := Ground.data }], guard := none }) (v := .pointer (some ⟨bl, offl + k * 5 + 1, none⟩)) rfl (by kernel_rfl) (by kernel_rfl) (by kernel_rfl) (fun _ _ _ h => h) (Or.inl ⟨by kernel_rfl, ?_⟩) hH ?_
      · intro w hSw; (try dsimp only at hSw); go_simp; (try rfl)
      try simp only [Act.put, List.setIfInBounds_toArray, List.set_cons_zero, List.set_cons_succ]
      refine wpAnyH_take (i := 6) (oi := { dst := some 64, op := Op.load 3 (Operand.tmp 63), type := 3, pos := "ref.go:101", after := #[{ on := 5, ground := Ground.data }], guard := none }) (v := .int .i64 (pa : Int)) rfl (by kernel_rfl) (by kernel_rfl) (by kernel_rfl) (fun _ _ _ h => h) (Or.inl ⟨by kernel_rfl, ?_⟩) hH ?_
      · intro w hSw; (try dsimp only at hSw); go_simp; (try rfl)
      try simp only [Act.put, List.setIfInBounds_toArray, List.set_cons_zero, List.set_cons_succ]
      refine wpAnyH_take (i := 7) (oi := { dst := some 65, op := Op.indexAddr 33 (Operand.tmp 59) (Operand.tmp 64), type := 0, pos := "ref.go:101", after := #[{ on := 1, ground := Ground.data }, { on := 6, ground := Ground.data }], guard := none }) (v := .pointer (some ⟨ga, pa, none⟩)) rfl (by kernel_rfl) (by kernel_rfl) (by kernel_rfl) (fun _ _ _ h => h) (Or.inl ⟨by kernel_rfl, ?_⟩) hH ?_
      · intro w hSw; (try dsimp only at hSw); go_simp; (try rfl)
      try simp only [Act.put, List.setIfInBounds_toArray, List.set_cons_zero, List.set_cons_succ]
      refine wpAnyH_take (i := 8) (oi := { dst := some 66, op := Op.load 3 (Operand.tmp 65), type := 3, pos := "ref.go:101", after := #[{ on := 7, ground := Ground.data }], guard := none }) (v := .int .i64 ra) rfl (by kernel_rfl) (by kernel_rfl) (by kernel_rfl) (fun _ _ _ h => h) (Or.inl ⟨by kernel_rfl, ?_⟩) hH ?_
      · intro w hSw; (try dsimp only at hSw); go_simp; (try rfl)
      try simp only [Act.put, List.setIfInBounds_toArray, List.set_cons_zero, List.set_cons_succ]
      refine wpAnyH_take (i := 9) (oi := { dst := some 67, op := Op.move (Operand.tmp 10), type := 33, pos := "ref.go:101", after := #[], guard := none }) (v := .slice (some ⟨gb, 0, none⟩) 16 capb) rfl (by kernel_rfl) (by kernel_rfl) (by kernel_rfl) (fun _ _ _ h => h) (Or.inl ⟨by kernel_rfl, ?_⟩) hH ?_
      · intro w hSw; (try dsimp only at hSw); go_simp; (try rfl)
      try simp only [Act.put, List.setIfInBounds_toArray, List.set_cons_zero, List.set_cons_succ]
      refine wpAnyH_take (i := 10) (oi := { dst := some 68, op := Op.move (Operand.tmp 1), type := 23, pos := "ref.go:101", after := #[], guard := none }) (v := .slice (some ⟨bl, offl, none⟩) ln capl) rfl (by kernel_rfl) (by kernel_rfl) (by kernel_rfl) (fun _ _ _ h => h) (Or.inl ⟨by kernel_rfl, ?_⟩) hH ?_
      · intro w hSw; (try dsimp only at hSw); go_simp; (try rfl)
      try simp only [Act.put, List.setIfInBounds_toArray, List.set_cons_zero, List.set_cons_succ]
      refine wpAnyH_take (i := 11) (oi := { dst := some 69, op := Op.move (Operand.tmp 8), type := 3, pos := "ref.go:101", after := #[], guard := none }) (v := .int .i64 (k : Int)) rfl (by kernel_rfl) (by kernel_rfl) (by kernel_rfl) (fun _ _ _ h => h) (Or.inl ⟨by kernel_rfl, ?_⟩) hH ?_
      · intro w hSw; (try dsimp only at hSw); go_simp; (try rfl)
      try simp only [Act.put, List.setIfInBounds_toArray, List.set_cons_zero, List.set_cons_succ]
      refine wpAnyH_take (i := 12) (oi := { dst := some 70, op := Op.indexAddr 23 (Operand.tmp 68) (Operand.tmp 69), type := 0, pos := "ref.go:101", after := #[{ on := 10, ground := Ground.data }, { on := 11, ground := Ground.data }], guard := none }) (v := .pointer (some ⟨bl, offl + k * 5, none⟩)) rfl (by kernel_rfl) (by kernel_rfl) (by kernel_rfl) (fun _ _ _ h => h) (Or.inl ⟨by kernel_rfl, ?_⟩) hH ?_
      · intro w hSw; (try dsimp only at hSw); go_simp; (try rfl)
      try simp only [Act.put, List.setIfInBounds_toArray, List.set_cons_zero, List.set_cons_succ]
      refine wpAnyH_take (i := 13) (oi := { dst := some 71, op := Op.fieldAddr 42 (Operand.tmp 70) 3, type := 0, pos := "ref.go:101", after := #[{ on := 12, ground := Ground.data }], guard := none }) (v := .pointer (some ⟨bl, offl + k * 5 + 3, none⟩)) rfl (by kernel_rfl) (by kernel_rfl) (by kernel_rfl) (fun _ _ _ h => h) (Or.inl ⟨by kernel_rfl, ?_⟩) hH ?_
      · intro w hSw; (try dsimp only at hSw); go_simp; (try rfl)
      try simp only [Act.put, List.setIfInBounds_toArray, List.set_cons_zero, List.set_cons_succ]
      refine wpAnyH_take (i := 14) (oi := { dst := some 72, op := Op.load 3 (Operand.tmp 71), type := 3, pos := "ref.go:101", after := #[{ on := 13, ground := Ground.data }], guard := none }) (v := .int .i64 (pb : Int)) rfl (by kernel_rfl) (by kernel_rfl) (by kernel_rfl) (fun _ _ _ h => h) (Or.inl ⟨by kernel_rfl, ?_⟩) hH ?_
      · intro w hSw; (try dsimp only at hSw); go_simp; (try rfl)
      try simp only [Act.put, List.setIfInBounds_toArray, List.set_cons_zero, List.set_cons_succ]
      refine wpAnyH_take (i := 15) (oi := { dst := some 73, op := Op.indexAddr 33 (Operand.tmp 67) (Operand.tmp 72), type := 0, pos := "ref.go:101", after := #[{ on := 9, ground := Ground.data }, { on := 14, ground := Ground.data }], guard := none }) (v := .pointer (some ⟨gb, pb, none⟩)) rfl (by kernel_rfl) (by kernel_rfl) (by kernel_rfl) (fun _ _ _ h => h) (Or.inl ⟨by kernel_rfl, ?_⟩) hH ?_
      · intro w hSw; (try dsimp only at hSw); go_simp; (try rfl)
      try simp only [Act.put, List.setIfInBounds_toArray, List.set_cons_zero, List.set_cons_succ]
      refine wpAnyH_take (i := 16) (oi := { dst := some 74, op := Op.load 3 (Operand.tmp 73), type := 3, pos := "ref.go:101", after := #[{ on := 15, ground := Ground.data }], guard := none }) (v := .int .i64 rb) rfl (by kernel_rfl) (by kernel_rfl) (by kernel_rfl) (fun _ _ _ h => h) (Or.inl ⟨by kernel_rfl, ?_⟩) hH ?_
      · intro w hSw; (try dsimp only at hSw); go_simp; (try rfl)
      try simp only [Act.put, List.setIfInBounds_toArray, List.set_cons_zero, List.set_cons_succ]
      refine wpAnyH_take (i := 17) (oi := { dst := some 75, op := Op.build 38 #[(0, Operand.tmp 66), (1, Operand.tmp 74)], type := 38, pos := "ref.go:101", after := #[{ on := 8, ground := Ground.data }, { on := 16, ground := Ground.data }], guard := none }) (v := .agg #[.int .i64 ra, .int .i64 rb]) rfl (by kernel_rfl) (by kernel_rfl) (by kernel_rfl) (fun _ _ _ h => h) (Or.inl ⟨by kernel_rfl, ?_⟩) hH ?_
      · intro w hSw; (try dsimp only at hSw); go_simp; (try rfl)
      try simp only [Act.put, List.setIfInBounds_toArray, List.set_cons_zero, List.set_cons_succ]
      refine wpAnyH_ready (rs := [18]) (by kernel_rfl) (by simp) ?_
      refine AllReadyH.cons rfl (fun K hK => ?_) AllReadyH.nil
      go_simp
      refine hK.out _ _ (KF.out _ ka.out) (fun hH => ?_)
      clear hK K
      try simp only [Act.put, List.setIfInBounds_toArray, List.set_cons_zero, List.set_cons_succ]
      refine wpAnyH_ready (rs := [19]) (by kernel_rfl) (by simp) ?_
      refine AllReadyH.cons rfl (fun K hK => ?_) AllReadyH.nil
      refine step_append_lies _ rfl _ _ 30 rfl wS.heap.size 38 i0 (.agg #[.int .i64 0, .int .i64 0]) 2 16 Try.underlying30 hi0 hz0 hz1 hz2 rfl (by decide) u7 k (((restL ids L).take k).flatMap cellsPr) rfl OA.out ⟨WY.heap.size, 0, none⟩ 1 1 [.int .i64 ra, .int .i64 rb] rfl rfl CA.out oc.out (by decide) n11.out n22.out hsz.out _ rfl ?_
      intro g7 c7 w7 hown7 hg7 hat7 hlt7
      have K7 := Lib.hid (KYA2.out.grown hg7 hsz.out (fun j hj => (OA.out.lt j hj).1))
      have OW7 := Lib.hid hown7
      have ga7 := own_keeps OA.out hg7 (below_block ka.out (lt_of_block HGA.out) HGA.out) (by decide)
      have gb7 := own_keeps OA.out hg7 (below_block ka.out (lt_of_block HGB.out) HGB.out) (by decide)
      have cx7 := HCX.out w7 (KW2.out.trans (K7.out.mono KW2.out.size))
      have S7 := Lib.hid (show w7.cell? ⟨bl, offl + k * 5 + 1, none⟩ = some (.int .i64 (pa : Int)) ∧ w7.cell? ⟨bl, offl + k * 5 + 3, none⟩ = some (.int .i64 (pb : Int)) ∧ w7.cell? ⟨ga, pa, none⟩ = some (.int .i64 ra) ∧ w7.cell? ⟨gb, pb, none⟩ = some (.int .i64 rb) from ⟨cx7.2.1, cx7.2.2.2, cell_of_block ga7 HVA.out, cell_of_block gb7 HVB.out⟩)
      clear hown7 hg7 hat7 hlt7 ga7 gb7 cx7
      refine hK.out _ _ (S7.out) (fun hH => ?_)
      clear hK K
      try simp only [Act.put, List.setIfInBounds_toArray, List.set_cons_zero, List.set_cons_succ]
      refine wpAnyH_take (i := 20) (oi := { dst := some 7, op := Op.assign (Operand.tmp 77), type := 30, pos := "ref.go:101", after := #[{ on := 19, ground := Ground.data }, { on := 19, ground := Ground.chain }, { on := 0, ground := Ground.phase }, { on := 1, ground := Ground.phase }, { on := 2, ground := Ground.phase }, { on := 3, ground := Ground.phase }, { on := 4, ground := Ground.phase }, { on := 5, ground := Ground.phase }, { on := 6, ground := Ground.phase }, { on := 7, ground := Ground.phase }, { on := 8, ground := Ground.phase }, { on := 9, ground := Ground.phase }, { on := 10, ground := Ground.phase }, { on := 11, ground := Ground.phase }, { on := 12, ground := Ground.phase }, { on := 13, ground := Ground.phase }, { on := 14, ground := Ground.phase }, { on := 15, ground := Ground.phase }, { on := 16, ground := Ground.phase }, { on := 17, ground := Ground.phase }, { on := 18, ground := Ground.phase }, { on := 19, ground := Ground.phase }], guard := none }) (v := .slice (some ⟨g7, 0, none⟩) (k + 1) c7) rfl (by kernel_rfl) (by kernel_rfl) (by kernel_rfl) (fun _ _ _ h => h) (Or.inl ⟨by kernel_rfl, ?_⟩) hH ?_
      · intro w hSw; (try dsimp only at hSw); go_simp; (try rfl)
      try simp only [Act.put, List.setIfInBounds_toArray, List.set_cons_zero, List.set_cons_succ]
      refine wpAnyH_done (by kernel_rfl) ?_ _
      clear hH S7 KF k0 OA CA ka hsz n11 n22 oc KYA2 ca cb cpa cpb e1 e2 e3 e4 e5 f5 f1 f2 f3 f4 d1 d2 d3 d4 HCX
      go_wp2_with fail
      go_roundw
      case rel => exact ⟨k + 1, by omega, by go_num, Lib.hid (by rw [HTK.out]; exact OW7.out), K7⟩
      case measure => simp [intOf]; omega
    · obtain rfl : k = ln := by omega
      rw [List.take_of_length_le (by rw [HLN.out]; simp [restL])] at HO
      clear hlt
      go_wp2_with fail
      go_ret
      refine ⟨_, rfl, ?_, KB.out⟩
      have h := HO.out.mono KW2.out.size
      rw [← HLN.out]
      exact h
end Go.Proofs.Ytolmkflhddlcnaa
