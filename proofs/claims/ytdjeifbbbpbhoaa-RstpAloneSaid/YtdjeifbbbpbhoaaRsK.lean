/-
  rstp: Tick. Contracts over the translated program.
-/
import Derived.Test.YtdjeifbbbpbhoaaRsJ
namespace Go.Proofs.Ytdjeifbbbpbhoaa
open Go.RowKit
set_option linter.unusedVariables false
set_option linter.unusedSimpArgs false

theorem one_O (x : Int × Tell) : ∀ u ∈ cellsO x, u.oneCell' = true := by
  intro u hu
  simp [cellsO] at hu
  rcases hu with rfl | rfl | rfl | rfl | rfl | rfl | rfl | rfl | rfl <;> rfl

def isO (t : TypeId) : Bool := t == 54

section
variable {w : World} {B t rb cap : Nat} {A : List Nat} {T : Part}

theorem tick_nil (now : Int) (w : World) : Calls Try.prog 16 #[.pointer none, .int .i64 now] w fun e w' => e = .returned (.slice none 0 0) ∧ w = w' := by
  go_enter Try.func16, Try.ntmps16
  go_wp2
  go_ret
  exact ⟨rfl, rfl⟩

set_option maxHeartbeats 4000000 in
set_option maxRecDepth 100000 in
theorem tick_c (h : HasS w B t rb cap A T) (now : Int) : Calls Try.prog 16 #[.pointer (some ⟨t, 0, none⟩), .int .i64 now] w fun e w' => ∃ u, e = .returned u ∧ w'.ownsRow w.heap.size 54 9 u (T.told now).length ((T.told now).flatMap cellsO) ∧ HasS w' B t rb cap A (T.tick now) ∧ Tt isS B w w' := by
  cases ht : timeR now with
  | false =>
    have HN := Lib.hid fun v U => goOn_no U v now ht
    have E1 := Lib.hid (show T.told now = [] by unfold Part.told; rw [ht]; rfl)
    have E2 := Lib.hid (show T.tick now = T by unfold Part.tick; rw [ht]; rfl)
    have H := Lib.hid h
    clear h ht
    go_enter Try.func16, Try.ntmps16
    go_wp2_with fail
    ((with_reducible refine (HN.out _ _).mono ?_); rintro e w1 ⟨rfl, rfl⟩)
    go_wp2_with fail
    go_ret
    rw [E1.out, E2.out]
    exact ⟨_, rfl, World.ownsRow_nil _ _ _ _, H.out, Tt.refl _ _ _⟩
  | true =>
    have HN := Lib.hid (goOn_yes h now ht)
    have hnow : 0 ≤ now ∧ now ≤ 1099511627776 := by unfold timeR at ht; simp at ht; omega
    obtain ⟨n0, n1⟩ := hnow
    have E1 := Lib.hid (show T.told now = (T.goOn now).right.outs now by unfold Part.told; rw [ht]; rfl)
    have E2 := Lib.hid (show T.tick now = (T.goOn now).right by unfold Part.tick; rw [ht]; rfl)
    have HG := Lib.hid (right_keeps (h.good.goOn ht))
    have hl := h.n16
    clear h ht
    obtain ⟨i0, hi, hz0, hz1, hz2⟩ := info_parts info_Out
    go_enter Try.func16, Try.ntmps16
    go_wp2_with fail
    ((with_reducible refine HN.out.mono ?_); rintro e w1 ⟨rfl, h1, k1⟩)
    have HR := Lib.hid (right_c h1)
    have K1 := Lib.hid k1
    clear h1 k1 HN
    go_wp2_with fail
    ((with_reducible refine HR.out.mono ?_); rintro e W ⟨rfl, h2, k2⟩)
    have H := Lib.hid h2
    have K := Lib.hid (K1.out.trans k2)
    have HA := Lib.hid (age_c h2 HG.out)
    clear h2 k2 HR K1
    generalize (T.goOn now).right = R at H HA E1 E2 HG
    have HAB := Lib.hid (show -9223372036854775808 ≤ R.age ∧ R.age ≤ 20 by
      unfold Part.age
      cases hf : R.ps.find? (fun p => p.role == 1) with
      | none => simp
      | some p =>
        have h1 := List.find?_some hf
        obtain ⟨m, hm, m0, m1⟩ := HG.out p (List.mem_of_find?_eq_some hf) (by simpa using h1)
        simp only [hm]
        omega)
    have HW := Lib.hid K.out.size
    go_wp2_with fail
    ((with_reducible refine HA.out.mono ?_); rintro e w3 ⟨rfl, rfl⟩)
    clear HA HG
    by_cases hpar : now % 2 = 0
    · obtain ⟨d1, d2⟩ := eq_t hpar
      by_cases hage : 20 ≤ R.age
      · have d3 : decide (20 ≤ R.age) = true := decide_eq_true hage
        have E3 := Lib.hid (show R.outs now = [] by unfold Part.outs; rw [d3, Bool.or_true]; rfl)
        clear hage hpar
        go_wp2_with fail
        go_ret
        rw [E1.out, E2.out, E3.out]
        exact ⟨_, rfl, World.ownsRow_nil _ _ _ _, H.out, K.out⟩
      · have d3 : decide (20 ≤ R.age) = false := decide_eq_false hage
        have E3 := Lib.hid (show R.outs now = outGo R 0 R.ps by unfold Part.outs; rw [d2, d3]; rfl)
        have x2 := H.out.c2
        have HL := Lib.hid H.out.len
        clear hage hpar
        go_wp2_with fail
        clear x2 d1 d2 d3
        go_loopw [6, 7, 8, 9, 34] (fun s6 _ _ _ i wr => ∃ k : Nat, k ≤ A.length ∧ i = .int .i64 k ∧ Hid (wr.ownsRow W.heap.size 54 9 s6 (outGo R 0 (R.ps.take k)).length ((outGo R 0 (R.ps.take k)).flatMap cellsO)) ∧ Hid ((outGo R 0 (R.ps.take k)).length ≤ k) ∧ Hid (Below W.heap.size W wr)) (fun _ _ _ _ i _ => A.length - (intOf i).toNat)
        case atStart => exact ⟨0, Nat.zero_le _, rfl, Lib.hid (World.ownsRow_nil _ _ _ _), Lib.hid (Nat.le_refl _), Lib.hid (Below.refl _ _)⟩
        case round =>
          obtain ⟨k, hk, rfl, HO, HC, KB⟩ := hrel
          by_cases hlt : k < A.length
          · have HS := Lib.hid (H.out.below KB.out)
            obtain ⟨a, p, ha, hp, kv, hb, hkv⟩ := HS.out.pair hlt
            have HT := Lib.hid (outGo_take hp)
            have xr := HS.out.rowc ha
            have y3 := prt_c3 hb
            have hnA : decide (A.length ≤ k) = false := decide_eq_false (by omega)
            generalize outGo R 0 (R.ps.take k) = acc at HT HO HC
            by_cases hrole : p.role = 2
            · obtain ⟨r1, r2⟩ := eq_t hrole
              have HTT := Lib.hid (show outGo R 0 (R.ps.take (k + 1)) = acc ++ [((k : Int), (⟨(R.best.1, R.best.2.1, R.br, (k : Int)), R.age, R.news, p.learns, p.fwd⟩ : Tell))] by rw [HT.out, r1]; rfl)
              have x0 : wr.cell? ⟨t, 0, none⟩ = some (.int .u64 R.br) := HS.out.c0
              have x3 : wr.cell? ⟨t, 3, none⟩ = some (.int .u64 R.best.1) := HS.out.c3
              have x4 : wr.cell? ⟨t, 4, none⟩ = some (.int .i64 R.best.2.1) := HS.out.c4
              have HB := Lib.hid hb
              clear hrole HT ha hp hb hkv
              go_upto_region 12 with fail
              have KF := Lib.hid fun (U : World) (kz : Below wr.heap.size wr U) => (⟨gcell_below kz x0, gcell_below kz x3, gcell_below kz x4, kz⟩ : U.cell? ⟨t, 0, none⟩ = some (.int .u64 R.br) ∧ U.cell? ⟨t, 3, none⟩ = some (.int .u64 R.best.1) ∧ U.cell? ⟨t, 4, none⟩ = some (.int .i64 R.best.2.1) ∧ Below wr.heap.size wr U)
              have k0 := (Below.refl wr.heap.size wr).drew
              have k1 := ((Below.refl wr.heap.size wr).alloc (Nat.le_refl _) (.cells #[.int .u64 0, .int .i64 0, .int .u64 0, .int .i64 0] 36)).drew
              have k2 := ((Below.refl wr.heap.size wr).alloc (Nat.le_refl _) (.cells #[.int .u64 R.best.1, .int .i64 R.best.2.1, .int .u64 R.br, .int .i64 k] 36)).drew
              clear xr y3 hnA r1 r2
              go_region_held3 (fun U => U.cell? ⟨t, 0, none⟩ = some (.int .u64 R.br) ∧ U.cell? ⟨t, 3, none⟩ = some (.int .u64 R.best.1) ∧ U.cell? ⟨t, 4, none⟩ = some (.int .i64 R.best.2.1) ∧ Below wr.heap.size wr U)
                (first | with_reducible exact KF.out _ k2 | with_reducible exact KF.out _ k1 | with_reducible exact KF.out _ k0)
                (fail)
              all_goals
                have hB2 := Lib.hid ((Below.refl wr.heap.size wr).alloc (Nat.le_refl _) (.cells #[.int .u64 R.best.1, .int .i64 R.best.2.1, .int .u64 R.br, .int .i64 k] 36)).drew
                have hbx := heap_new wr (.cells #[.int .u64 R.best.1, .int .i64 R.best.2.1, .int .u64 R.br, .int .i64 k] 36)
                have hbx2 : (wr.alloc (.cells #[.int .u64 R.best.1, .int .i64 R.best.2.1, .int .u64 R.br, .int .i64 k] 36)).drew.heap[wr.heap.size]? = some (.cells #[.int .u64 R.best.1, .int .i64 R.best.2.1, .int .u64 R.br, .int .i64 k] 36 (0, 0)) := hbx
                clear k0 k1 k2 KF x0 x3 x4 hbx
                generalize (wr.alloc (.cells #[.int .u64 R.best.1, .int .i64 R.best.2.1, .int .u64 R.br, .int .i64 k] 36)).drew = W2 at hB2 hbx2 ⊢
                generalize wr.heap.size = bx at hbx2 ⊢
                have KB2 := Lib.hid (KB.out.trans (hB2.out.mono KB.out.size))
                have HO2 := Lib.hid (iowns_below HO.out hB2.out)
                have HS2 := Lib.hid (HS.out.below hB2.out)
                have hb2 := below_block hB2.out (lt_of_block HB.out) HB.out
                have z0 : W2.cell? ⟨bx, 0, none⟩ = some (.int .u64 R.best.1) := cell_of_block hbx2 rfl
                have z1 : W2.cell? ⟨bx, 1, none⟩ = some (.int .i64 R.best.2.1) := cell_of_block hbx2 rfl
                have z2 : W2.cell? ⟨bx, 2, none⟩ = some (.int .u64 R.br) := cell_of_block hbx2 rfl
                have z3 : W2.cell? ⟨bx, 3, none⟩ = some (.int .i64 k) := cell_of_block hbx2 rfl
                have z5 := prt_c5 hb2
                have z6 := prt_c6 hb2
                have KF := Lib.hid fun (U : World) (kz : Tt isO W.heap.size W2 U) => (⟨cell_of_block (kz.cells hbx2 (by decide)) rfl, cell_of_block (kz.cells hbx2 (by decide)) rfl, cell_of_block (kz.cells hbx2 (by decide)) rfl, cell_of_block (kz.cells hbx2 (by decide)) rfl, prt_c5 (kz.cells hb2 (by decide)), prt_c6 (kz.cells hb2 (by decide)), kz⟩ : U.cell? ⟨bx, 0, none⟩ = some (.int .u64 R.best.1) ∧ U.cell? ⟨bx, 1, none⟩ = some (.int .i64 R.best.2.1) ∧ U.cell? ⟨bx, 2, none⟩ = some (.int .u64 R.br) ∧ U.cell? ⟨bx, 3, none⟩ = some (.int .i64 k) ∧ U.cell? ⟨a, 5, none⟩ = some (.bool p.learns) ∧ U.cell? ⟨a, 6, none⟩ = some (.bool p.fwd) ∧ Tt isO W.heap.size W2 U)
                have Q := Lib.hid fun (U : World) (kz : Below W2.heap.size W2 U) => (news_c (HS2.out.below kz)).mono (R' := fun e w' => e = .returned (.bool R.news) ∧ Below W2.heap.size W2 w') (by rintro e w' ⟨rfl, n, rfl⟩; exact ⟨rfl, below_drewN kz n⟩)
                have n1 := Lib.hid (show acc.length + 1 ≤ maxLen by have := HC.out; unfold maxLen; omega)
                have n2 := Lib.hid (show (acc.length + 1) * 56 ≤ 140737488355328 by have := HC.out; omega)
                have HON := Lib.hid (one_O ((k : Int), (⟨(R.best.1, R.best.2.1, R.br, (k : Int)), R.age, R.news, p.learns, p.fwd⟩ : Tell)))
                replace HON : Hid (∀ u ∈ ([.int .i64 k, .int .u64 R.best.1, .int .i64 R.best.2.1, .int .u64 R.br, .int .i64 k, .int .i64 R.age, .bool R.news, .bool p.learns, .bool p.fwd] : List Value), u.oneCell' = true) := HON
                have LAY := Lib.hid fun (U : World) (kz : Below W2.heap.size W2 U) => (⟨(iowns_below HO2.out kz).alloc (.cells #[.int .i64 k, .int .u64 R.best.1, .int .i64 R.best.2.1, .int .u64 R.br, .int .i64 k, .int .i64 R.age, .bool R.news, .bool p.learns, .bool p.fwd] 54), cells_new U [.int .i64 k, .int .u64 R.best.1, .int .i64 R.best.2.1, .int .u64 R.br, .int .i64 k, .int .i64 R.age, .bool R.news, .bool p.learns, .bool p.fwd] 54, by have := KB2.out.size; have := kz.size; simp; omega, KB2.out.trans ((kz.alloc kz.size (.cells #[.int .i64 k, .int .u64 R.best.1, .int .i64 R.best.2.1, .int .u64 R.br, .int .i64 k, .int .i64 R.age, .bool R.news, .bool p.learns, .bool p.fwd] 54)).mono KB2.out.size), Tt.ofBelow (kz.alloc kz.size (.cells #[.int .i64 k, .int .u64 R.best.1, .int .i64 R.best.2.1, .int .u64 R.br, .int .i64 k, .int .i64 R.age, .bool R.news, .bool p.learns, .bool p.fwd] 54))⟩ : (U.alloc (.cells #[.int .i64 k, .int .u64 R.best.1, .int .i64 R.best.2.1, .int .u64 R.br, .int .i64 k, .int .i64 R.age, .bool R.news, .bool p.learns, .bool p.fwd] 54)).ownsRow W.heap.size 54 9 u6 acc.length (acc.flatMap cellsO) ∧ (∀ j u, [.int .i64 k, .int .u64 R.best.1, .int .i64 R.best.2.1, .int .u64 R.br, .int .i64 k, .int .i64 R.age, .bool R.news, .bool p.learns, .bool p.fwd][j]? = some u → (U.alloc (.cells #[.int .i64 k, .int .u64 R.best.1, .int .i64 R.best.2.1, .int .u64 R.br, .int .i64 k, .int .i64 R.age, .bool R.news, .bool p.learns, .bool p.fwd] 54)).cell? ((⟨U.heap.size, 0, none⟩ : Addr).add j) = some u) ∧ W.heap.size ≤ (U.alloc (.cells #[.int .i64 k, .int .u64 R.best.1, .int .i64 R.best.2.1, .int .u64 R.br, .int .i64 k, .int .i64 R.age, .bool R.news, .bool p.learns, .bool p.fwd] 54)).heap.size ∧ Below W.heap.size W (U.alloc (.cells #[.int .i64 k, .int .u64 R.best.1, .int .i64 R.best.2.1, .int .u64 R.br, .int .i64 k, .int .i64 R.age, .bool R.news, .bool p.learns, .bool p.fwd] 54)) ∧ Tt isO W.heap.size W2 (U.alloc (.cells #[.int .i64 k, .int .u64 R.best.1, .int .i64 R.best.2.1, .int .u64 R.br, .int .i64 k, .int .i64 R.age, .bool R.news, .bool p.learns, .bool p.fwd] 54)))
                have b0 := (Below.refl W2.heap.size W2).drew
                have k0 := (Tt.refl isO W.heap.size W2).drewN 1
                replace k0 : Tt isO W.heap.size W2 W2.drew := k0
                clear hb2 hbx2 HB HS HO KB hB2
                go_wp2_with fail
                go_upto_region 13 with fail
                go_region_held3 (fun U => U.cell? ⟨bx, 0, none⟩ = some (.int .u64 R.best.1) ∧ U.cell? ⟨bx, 1, none⟩ = some (.int .i64 R.best.2.1) ∧ U.cell? ⟨bx, 2, none⟩ = some (.int .u64 R.br) ∧ U.cell? ⟨bx, 3, none⟩ = some (.int .i64 k) ∧ U.cell? ⟨a, 5, none⟩ = some (.bool p.learns) ∧ U.cell? ⟨a, 6, none⟩ = some (.bool p.fwd) ∧ Tt isO W.heap.size W2 U)
                  (first | with_reducible exact KF.out _ k9 | with_reducible exact KF.out _ L8.2.2.2.2 | with_reducible exact KF.out _ k8 | with_reducible exact KF.out _ k0)
                  (first
                    | (go_at_call 36; (with_reducible refine (Q.out _ b0).mono ?_); rintro e w8 ⟨rfl, b8⟩; have k8 := Tt.ofBelow (P := isO) (B := W.heap.size) b8; have L8 := LAY.out w8 b8)
                    | (refine step_append_lies _ rfl _ _ 44 rfl W.heap.size 54 i0 (.agg #[.int .i64 0, .int .u64 0, .int .i64 0, .int .u64 0, .int .i64 0, .int .i64 0, .bool false, .bool false, .bool false]) 9 56 Try.underlying44 hi hz0 hz1 hz2 rfl (by decide) u6 acc.length (acc.flatMap cellsO) rfl L8.1 ⟨w8.heap.size, 0, none⟩ 1 1 [.int .i64 k, .int .u64 R.best.1, .int .i64 R.best.2.1, .int .u64 R.br, .int .i64 k, .int .i64 R.age, .bool R.news, .bool p.learns, .bool p.fwd] rfl rfl L8.2.1 HON.out (by decide) n1.out n2.out L8.2.2.1 _ rfl ?_; intro g7 c7 w7 hown7 hg7 hat7 hlt7; have k9 := L8.2.2.2.2.trans (Tt.grown L8.1 (show isO 54 = true from rfl) hg7); have B9 := Lib.hid (L8.2.2.2.1.grown hg7 L8.2.2.1 (fun j hj => (L8.1.lt j hj).1)); have O7 := Lib.hid hown7; clear hown7 hg7 hat7 hlt7))
                all_goals
                  clear k0 b0 k8 b8 L8 KF Q LAY z0 z1 z2 z3 z5 z6 k9
                  go_wp2_with fail
                  go_roundw
                  case rel => exact ⟨k + 1, by omega, by go_num, Lib.hid (by rw [HTT.out, List.length_append, List.flatMap_append]; simpa [cellsO] using O7.out), Lib.hid (by rw [HTT.out, List.length_append]; have := HC.out; simp; omega), B9⟩
                  case measure => simp [intOf]; omega
            · obtain ⟨r1, r2⟩ := ne_t hrole
              have HTT := Lib.hid (show outGo R 0 (R.ps.take (k + 1)) = acc by rw [HT.out, r1]; simp)
              clear hrole HT ha hp hb hkv
              go_wp2_with fail
              go_roundw
              case rel => exact ⟨k + 1, by omega, by go_num, Lib.hid (by rw [HTT.out]; exact HO.out), Lib.hid (by rw [HTT.out]; have := HC.out; omega), KB⟩
              case measure => simp [intOf]; omega
          · obtain rfl : k = A.length := by omega
            rw [List.take_of_length_le (by rw [HL.out]; exact Nat.le_refl _)] at HO
            clear hlt
            go_wp2_with fail
            go_ret
            rw [E1.out, E2.out, E3.out]
            exact ⟨_, rfl, HO.out.mono HW.out, H.out.below KB.out, K.out.grow KB.out⟩
    · obtain ⟨d1, d2⟩ := ne_t hpar
      have E3 := Lib.hid (show R.outs now = [] by unfold Part.outs; rw [d2, Bool.true_or]; rfl)
      clear hpar
      go_wp2_with fail
      go_ret
      rw [E1.out, E2.out, E3.out]
      exact ⟨_, rfl, World.ownsRow_nil _ _ _ _, H.out, K.out⟩
end

end Go.Proofs.Ytdjeifbbbpbhoaa
