/-
  'siphonlaw21.ProxyTurned' returns true, whatever the input, and each argument reads behind the call as it read before. Conditions: none beyond those that the row itself states.
-/
import Derived.Test.YthpafojeadbjlaaRows
import Derived.Test.YthpafojeadbjlaaPxT
import Derived.Test.YthpafojeadbjlaaApR
import Derived.Test.YthpafojeadbjlaaRowStR
import Derived.WalkKit
import Derived.ProofKit
import Derived.OpenShut
import Derived.ShutString
import Derived.ChangeOld
import Derived.Below
import Derived.Carry
import Derived.SizedLaws
import Derived.Lib.SmallJoins
import Derived.ChangeArms
import Derived.WideShapes
namespace Go.Proofs.Ythpafojeadbjlaa.proxyTurnedLaw
open Go.ChangeShapes Go.WideShapes Go.ChangeAt Go.RowKit Go.Joins
open Go.ChangeMaps (open_string shut_string)
set_option linter.unusedVariables false

theorem run_mid (b o n c k : Nat) (hk : k < n) (hc : n ≤ c) (U : World) : (Instr.slice 22 (.slice (some ⟨b, o, none⟩) n c) (some (.int .i64 k)) (some (.int .i64 ((k : Int) + 1))) none).run Try.prog U = .ok (.slice (some ⟨b, o + k * 3, none⟩) 1 (c - k)) U := by
  have := run_slice_lh (P := Try.prog) (w := U) 22 (some ⟨b, o, none⟩) n c (by rw [show Try.prog.elem 22 = 32 from by kernel_rfl]; exact Try.underlying22) .i64 .i64 k ((k : Int) + 1) (by omega) (by omega) (by omega)
  rw [this, show Try.prog.elem 22 = 32 from by kernel_rfl, Try.sizeOf32]
  have e : ¬ c = k := by omega
  have e2 : ((k : Int) + 1).toNat = k + 1 := by omega
  have e3 : k + 1 - k = 1 := by omega
  by_cases h0 : k = 0
  · subst h0
    simp [Result.andThen, sliced, Addr.add, e]
  · have e4 : ¬ k * 3 = 0 := by omega
    simp [Result.andThen, sliced, Addr.add, e, e2, e3, e4]
theorem info_St : (Try.prog.info? 32).map (fun i => (i.zero, i.size, i.bytes)) = some (some (.agg #[.bool false, .int .i64 0, .slice none 0 0]), 3, 40) := by kernel_rfl
theorem len_St (x : StR) : (cellsStR x).length = 3 := rfl
theorem one_St {w : World} {L : List StR} (h : ∀ r ∈ L, RowsAt 2 cellsTm w r.srcv r.src) (x : StR) (hx : x ∈ L) : ∀ u ∈ cellsStR x, u.oneCell' = true := by
  obtain ⟨p, c, hv⟩ := (h x hx).slice
  intro u hu
  unfold cellsStR at hu
  rw [hv] at hu
  simp at hu
  rcases hu with rfl | rfl | rfl <;> rfl
theorem mem_mer (L : List StR) (now : Int) : mergeF (filsR (L.reverse ++ L) now) = mergeF (filsR L now) := by
  refine merge_mem fun f => ?_
  unfold filsR
  simp

set_option maxHeartbeats 8000000 in
set_option maxRecDepth 100000 in
theorem walk (a0 : Value) (la0 : List StR) (a1 : Int) (w : World) (ha0 : RowsAt 3 cellsStR w a0 la0) (qa0 : la0.length ≤ maxLen ∧ ∀ p n c, a0 = .slice p n c → n ≤ c) (sa0 : ∀ r ∈ la0, GoodStR w r) (la1 : -9223372036854775808 ≤ a1) (ua1 : a1 ≤ 9223372036854775807) :
    Calls Try.prog 8 #[a0, .int .i64 a1] w fun e w' => e = .returned (.bool true) ∧ Below w.heap.size w w' := by
  have HW0 : StsW w a0 la0 := ⟨ha0, qa0.2, fun r hr => (sa0 r hr).2.2.1⟩
  have HL := Lib.hid fun U => live21_c U
  have K0 := Lib.hid (Below.refl w.heap.size w)
  obtain ⟨p0, c0, rfl⟩ := ha0.slice
  obtain ⟨n, hn⟩ : ∃ n, n = la0.length := ⟨_, rfl⟩
  rw [← hn] at HW0 ⊢
  have HF := Lib.hid (few21_c p0 n c0 la0 w HW0)
  rcases hfw : fewL la0 with _ | _
  · rw [hfw] at HF
    clear ha0 qa0 sa0 HW0 hn hfw la1 ua1 
    go_enter Try.func8, Try.ntmps8
    go_wp2_with fail
    ((with_reducible refine HF.out.mono ?_); rintro e w1 ⟨rfl, h1⟩)
    have K1 := Lib.hid h1
    clear h1 HF
    go_wp2_with fail
    ((with_reducible refine (HL.out _).mono ?_); rintro e w2 ⟨rfl, h2⟩)
    have K2 := Lib.hid (px_call K1.out h2)
    clear h2
    go_wp2_with fail
    go_ret
    exact ⟨rfl, K2.out⟩
  · rw [hfw] at HF
    obtain ⟨l10, l60⟩ := (fewL_iff la0).1 hfw
    have HS := Lib.hid (HW0.sts l60)
    have HN := Lib.hid hn
    have N10 : n ≤ 10 := by omega
    have L60 := Lib.hid l60
    clear ha0 qa0 sa0 HW0 hn hfw l10 l60
    have MR := Lib.hid (mem_mer la0 a1)
    have M1 := Lib.hid (fun U (k : Below w.heap.size w U) => (pmerge_c 10 la0 p0 n c0 a1 U (by have := HN.out; omega) (by have := HN.out; omega) (HS.out.below k)).mono fun e w' h => h.toAt)
    have M2 := Lib.hid (fun U p m c (h : StsAt U (.slice p m c) (la0.reverse ++ la0)) => (pmerge_c 20 _ p m c a1 U (by have := HN.out; simp; omega) (by have := HN.out; simp; omega) h).mono fun e w' h => h.toAt)
    have ML := Lib.hid (show (mergeF (filsR la0 a1)).src.length ≤ 600 by have := mergeR_len la0 a1; have := HN.out; omega)
    rw [MR.out] at M2
    generalize mergeF (filsR la0 a1) = M at M1 M2 ML
    obtain ⟨me, ml⟩ := M
    unfold FAt at M1 M2
    simp only at M1 M2 ML
    have MS := Lib.hid (fun (U : World) v1 v2 h1 h2 => samep_c me v1 v2 ml U (by have := ML.out; omega) h1 h2)
    obtain ⟨i0, hi, hz0, hz1, hz2⟩ := info_parts info_St
    clear MR
    have SL := Lib.hid (fun r hr => (HS.out.2.2 r hr).1)
    go_enter Try.func8, Try.ntmps8
    go_wp2_with fail
    ((with_reducible refine HF.out.mono ?_); rintro e w1 ⟨rfl, h1⟩)
    have K1 := Lib.hid h1
    clear h1 HF K0
    have d0 : 0 ≤ (n : Int) := by omega
    go_wp2_with fail
    go_loopw [5, 6] (fun m i wr => ∃ (j : Nat) (ii : Int) (p : Option Addr) (c : Nat), j ≤ n ∧ i = .int .i64 ii ∧ Hid (ii = (j : Int) - 1) ∧ -1 ≤ ii ∧ ii ≤ 10 ∧ m = .slice p (n - j) c ∧ Hid (wr.ownsRow w.heap.size 32 3 (.slice p (n - j) c) (n - j) ((la0.drop j).reverse.flatMap cellsStR)) ∧ Hid (Below w.heap.size w wr)) (fun _ i _ => (intOf i + 1).toNat)
    case atStart => exact ⟨n, _, none, 0, Nat.le_refl _, rfl, Lib.hid rfl, by omega, by omega, by rw [Nat.sub_self], Lib.hid (by rw [Nat.sub_self, List.drop_eq_nil_of_le (by rw [← HN.out]; exact Nat.le_refl _)]; exact World.ownsRow_nil _ _ _ _), K1⟩
    case round =>
      obtain ⟨j, ii, po, co, hj, rfl, hI, hi1, hi2, rfl, hO, hB⟩ := hrel
      by_cases h0 : j = 0
      · subst h0
        obtain rfl : ii = -1 := by have := hI.out; omega
        rw [Nat.sub_zero] at hO ⊢
        rw [List.drop_zero] at hO
        have hA9 := Lib.hid (HS.out.below hB.out).1
        have hs9 := Lib.hid hB.out.size
        clear K1 hI hj hi1 hi2
        go_wp2_with (at_builtin; refine wpList_append_rows (cells := cellsStR) len_St rfl _ _ 22 32 rfl i0 (.agg #[.bool false, .int .i64 0, .slice none 0 0]) Try.underlying22 hi hz0 hz1 hz2 rfl (by decide) w.heap.size _ n _ rfl hO.out _ la0 (fun x hx => one_St SL.out x hx) rfl hA9.out ?a1 ?a2 hs9.out ?_)
        case a1 => unfold maxLen; have := HN.out; omega
        case a2 => have := HN.out; omega
        intro v' w2 hown hgrow
        have hB2 := Lib.hid (hB.out.grown hgrow hs9.out (fun j hj => (hO.out.lt j hj).1))
        have e2 : n + la0.length = n + n := by have := HN.out; omega
        rw [← List.flatMap_append, e2] at hown
        obtain ⟨pm, cm, rfl⟩ := own_slice hown
        have SM := Lib.hid (show StsAt w2 (.slice pm (n + n) cm) (la0.reverse ++ la0) from ⟨rowsAt_own (cells := cellsStR) (by decide) len_St hown, own_cap hown, fun r hr => (HS.out.below hB2.out).2.2 r (by simpa using hr)⟩)
        clear hown hgrow e2 hO hB hA9 hs9
        go_wp2_with fail
        go_loopw [7] (fun i wr => ∃ k : Nat, k ≤ n ∧ i = .int .i64 k ∧ Hid (Below w2.heap.size w2 wr)) (fun i _ => n - (intOf i).toNat)
        case atStart => exact ⟨0, Nat.zero_le _, rfl, Lib.hid (Below.refl _ _)⟩
        case round =>
          obtain ⟨k, hk, rfl, hC⟩ := hrel
          have hB := Lib.hid (px_call hB2.out hC.out)
          by_cases hlt : k < n
          · obtain ⟨x, hx⟩ : ∃ x, la0[k]? = some x := ⟨_, List.getElem?_eq_getElem (by rw [← HN.out]; exact hlt)⟩
            obtain ⟨b, off, rfl⟩ := HS.out.place (by omega)
            have HR := Lib.hid (fun U (k : Below w.heap.size w U) => (HS.out.below k).row hx)
            obtain ⟨sp, sc, hsv⟩ := ((HS.out.row hx).2.2.2.1).slice
            rw [hsv] at HR
            have d1 : decide (k < n) = true := decide_eq_true hlt
            have d2 : decide ((k : Int) < (n : Int)) = true := decide_eq_true (by omega)
            have d4 : decide (0 ≤ (k : Int)) = true := decide_eq_true (by omega)
            have FC0 := fun (U : World) (k : Below w.heap.size w U) => (pfil_c x.ex x.tm _ x.src a1 U (HR.out U k).2.2.2.2 (HR.out U k).2.2.2.1).mono fun e w' h => h.toAt
            have E1 : (la0.drop k).take 1 = [x] := by rw [List.take_one, List.head?_drop, hx]; rfl
            have MC0 := fun (U : World) (kz : Below w.heap.size w U) => (pmerge_c 1 [x] (some ⟨b, off + k * 3, none⟩) 1 (c0 - k) a1 U (by simp) (by simp) (by have h9 := ((HS.out.below kz).drop k hlt).take 1 (by omega); rw [E1] at h9; exact h9)).mono fun e w' h => h.toAt
            have E2 : mergeF (filsR [x] a1) = filP ⟨x.ex, x.tm, x.src⟩ a1 := merge_one _ (fil_up _ _)
            rw [E2] at MC0
            have FL0 := fil_len ⟨x.ex, x.tm, x.src⟩ a1
            generalize filP ⟨x.ex, x.tm, x.src⟩ a1 = F at FC0 MC0 FL0
            obtain ⟨fe, fl⟩ := F
            unfold FAt at FC0 MC0
            simp only at FC0 MC0 FL0
            have SC := Lib.hid (fun (U : World) v1 v2 h1 h2 => samep_c fe v1 v2 fl U (by omega) h1 h2)
            have FC := Lib.hid FC0
            have MC := Lib.hid MC0
            have RM := Lib.hid (run_mid b off n c0 k hlt HS.out.len.2)
            have KF0 := (fun (U : World) (k : Below w.heap.size w U) => ⟨(HR.out U k).1, (HR.out U k).2.1, (HR.out U k).2.2.1, RM.out U⟩ : ∀ (U : World), Below w.heap.size w U → U.cell? ⟨b, off + k * 3, none⟩ = some (.bool x.ex) ∧ U.cell? ⟨b, off + k * 3 + 1, none⟩ = some (.int .i64 x.tm) ∧ U.cell? ⟨b, off + k * 3 + 2, none⟩ = some (.slice sp x.src.length sc) ∧ (Instr.slice 22 (.slice (some ⟨b, off, none⟩) n c0) (some (.int .i64 k)) (some (.int .i64 ((k : Int) + 1))) none).run Try.prog U = .ok (.slice (some ⟨b, off + k * 3, none⟩) 1 (c0 - k)) U)
            have kk := hB.out.drew
            have kc := hC.out.drew
            clear HR FC0 MC0 FL0 hsv hx E1 E2 RM
            generalize x.ex = xe at FC KF0
            generalize x.tm = xt at FC KF0
            generalize x.src.length = xn at FC KF0
            have KF := Lib.hid KF0
            clear KF0 hB hC
            have hw1 : IntKind.i64.wrap ((k : Int) + 1) = (k : Int) + 1 := IntWalk.i64_in _ (by omega)
            go_upto_region 12 with fail
            refine wp_region_held_drew (S := fun U => U.cell? ⟨b, off + k * 3, none⟩ = some (.bool xe) ∧ U.cell? ⟨b, off + k * 3 + 1, none⟩ = some (.int .i64 xt) ∧ U.cell? ⟨b, off + k * 3 + 2, none⟩ = some (.slice sp xn sc) ∧ (Instr.slice 22 (.slice (some ⟨b, off, none⟩) n c0) (some (.int .i64 k)) (some (.int .i64 ((k : Int) + 1))) none).run Try.prog U = .ok (.slice (some ⟨b, off + k * 3, none⟩) 1 (c0 - k)) U) (by kernel_rfl) (KF.out _ kk) (fun hH => ?_)
            generalize wr.drew = Y0 at kk kc hH ⊢
            refine wpAnyH_take (i := 0) (oi := { dst := some 35, op := Op.move (Operand.tmp 0), type := 22, pos := "law.go:192", after := #[], guard := none }) (v := .slice (some ⟨b, off, none⟩) n c0) rfl (by kernel_rfl) (by kernel_rfl) (by kernel_rfl) (fun _ _ _ h => h) (Or.inl ⟨by kernel_rfl, ?_⟩) hH ?_
            · intro w hSw; (try dsimp only at hSw); go_simp; (try rfl)
            try simp only [Act.put, List.setIfInBounds_toArray, List.set_cons_zero, List.set_cons_succ]
            refine wpAnyH_take (i := 1) (oi := { dst := some 36, op := Op.move (Operand.tmp 7), type := 3, pos := "law.go:192", after := #[], guard := none }) (v := .int .i64 k) rfl (by kernel_rfl) (by kernel_rfl) (by kernel_rfl) (fun _ _ _ h => h) (Or.inl ⟨by kernel_rfl, ?_⟩) hH ?_
            · intro w hSw; (try dsimp only at hSw); go_simp; (try rfl)
            try simp only [Act.put, List.setIfInBounds_toArray, List.set_cons_zero, List.set_cons_succ]
            refine wpAnyH_take (i := 2) (oi := { dst := some 37, op := Op.move (Operand.tmp 7), type := 3, pos := "law.go:192", after := #[], guard := none }) (v := .int .i64 k) rfl (by kernel_rfl) (by kernel_rfl) (by kernel_rfl) (fun _ _ _ h => h) (Or.inl ⟨by kernel_rfl, ?_⟩) hH ?_
            · intro w hSw; (try dsimp only at hSw); go_simp; (try rfl)
            try simp only [Act.put, List.setIfInBounds_toArray, List.set_cons_zero, List.set_cons_succ]
            refine wpAnyH_take (i := 3) (oi := { dst := some 38, op := Op.binOp BinOp.add 3 (Operand.tmp 37) (Operand.const (Value.int IntKind.i64 1)) 3, type := 3, pos := "law.go:192", after := #[{ on := 2, ground := Ground.data }], guard := none }) (v := .int .i64 ((k : Int) + 1)) rfl (by kernel_rfl) (by kernel_rfl) (by kernel_rfl) (fun _ _ _ h => h) (Or.inl ⟨by kernel_rfl, ?_⟩) hH ?_
            · intro w hSw; (try dsimp only at hSw); go_simp; (try rfl)
            try simp only [Act.put, List.setIfInBounds_toArray, List.set_cons_zero, List.set_cons_succ]
            refine wpAnyH_take (i := 4) (oi := { dst := some 39, op := Op.slice 22 (Operand.tmp 35) (some (Operand.tmp 36)) (some (Operand.tmp 38)) none, type := 22, pos := "law.go:192", after := #[{ on := 0, ground := Ground.data }, { on := 1, ground := Ground.data }, { on := 3, ground := Ground.data }], guard := none }) (v := .slice (some ⟨b, off + k * 3, none⟩) 1 (c0 - k)) rfl (by kernel_rfl) (by kernel_rfl) (by kernel_rfl) (fun _ _ _ h => h) (Or.inl ⟨by kernel_rfl, ?_⟩) hH ?_
            · intro w hSw; (try dsimp only at hSw); go_simp; (try rfl)
            try simp only [Act.put, List.setIfInBounds_toArray, List.set_cons_zero, List.set_cons_succ]
            refine wpAnyH_take (i := 5) (oi := { dst := some 40, op := Op.move (Operand.tmp 1), type := 3, pos := "law.go:192", after := #[], guard := none }) (v := .int .i64 a1) rfl (by kernel_rfl) (by kernel_rfl) (by kernel_rfl) (fun _ _ _ h => h) (Or.inl ⟨by kernel_rfl, ?_⟩) hH ?_
            · intro w hSw; (try dsimp only at hSw); go_simp; (try rfl)
            try simp only [Act.put, List.setIfInBounds_toArray, List.set_cons_zero, List.set_cons_succ]
            refine wpAnyH_take (i := 7) (oi := { dst := some 42, op := Op.move (Operand.tmp 0), type := 22, pos := "law.go:192", after := #[], guard := none }) (v := .slice (some ⟨b, off, none⟩) n c0) rfl (by kernel_rfl) (by kernel_rfl) (by kernel_rfl) (fun _ _ _ h => h) (Or.inl ⟨by kernel_rfl, ?_⟩) hH ?_
            · intro w hSw; (try dsimp only at hSw); go_simp; (try rfl)
            try simp only [Act.put, List.setIfInBounds_toArray, List.set_cons_zero, List.set_cons_succ]
            refine wpAnyH_take (i := 8) (oi := { dst := some 43, op := Op.move (Operand.tmp 7), type := 3, pos := "law.go:192", after := #[], guard := none }) (v := .int .i64 k) rfl (by kernel_rfl) (by kernel_rfl) (by kernel_rfl) (fun _ _ _ h => h) (Or.inl ⟨by kernel_rfl, ?_⟩) hH ?_
            · intro w hSw; (try dsimp only at hSw); go_simp; (try rfl)
            try simp only [Act.put, List.setIfInBounds_toArray, List.set_cons_zero, List.set_cons_succ]
            refine wpAnyH_take (i := 9) (oi := { dst := some 44, op := Op.indexAddr 22 (Operand.tmp 42) (Operand.tmp 43), type := 0, pos := "law.go:192", after := #[{ on := 7, ground := Ground.data }, { on := 8, ground := Ground.data }], guard := none }) (v := .pointer (some ⟨b, off + k * 3, none⟩)) rfl (by kernel_rfl) (by kernel_rfl) (by kernel_rfl) (fun _ _ _ h => h) (Or.inl ⟨by kernel_rfl, ?_⟩) hH ?_
            · intro w hSw; (try dsimp only at hSw); go_simp; (try rfl)
            try simp only [Act.put, List.setIfInBounds_toArray, List.set_cons_zero, List.set_cons_succ]
            refine wpAnyH_take (i := 10) (oi := { dst := some 45, op := Op.load 32 (Operand.tmp 44), type := 32, pos := "law.go:192", after := #[{ on := 9, ground := Ground.data }], guard := none }) (v := .agg #[.bool xe, .int .i64 xt, .slice sp xn sc]) rfl (by kernel_rfl) (by kernel_rfl) (by kernel_rfl) (fun _ _ _ h => h) (Or.inl ⟨by kernel_rfl, ?_⟩) hH ?_
            · intro w hSw; (try dsimp only at hSw); go_simp; (try rfl)
            try simp only [Act.put, List.setIfInBounds_toArray, List.set_cons_zero, List.set_cons_succ]
            refine wpAnyH_take (i := 11) (oi := { dst := some 46, op := Op.move (Operand.tmp 1), type := 3, pos := "law.go:192", after := #[], guard := none }) (v := .int .i64 a1) rfl (by kernel_rfl) (by kernel_rfl) (by kernel_rfl) (fun _ _ _ h => h) (Or.inl ⟨by kernel_rfl, ?_⟩) hH ?_
            · intro w hSw; (try dsimp only at hSw); go_simp; (try rfl)
            try simp only [Act.put, List.setIfInBounds_toArray, List.set_cons_zero, List.set_cons_succ]
            refine wpAnyH_ready (rs := [6]) (by kernel_rfl) (by simp) ?_
            refine AllReadyH.cons rfl (fun K hK => ?_) AllReadyH.nil
            go_simp
            with_reducible refine (MC.out _ kk).mono ?_
            rintro e Y1 ⟨v1, rfl, a1f, hb⟩
            (try go_wp2_with fail)
            replace kc := kc.trans (hb.mono kc.size)
            replace kk := kk.trans (hb.mono kk.size)
            clear hb
            obtain ⟨f1q, f1c, rfl⟩ := a1f.slice
            refine hK.out _ _ (KF.out _ kk) (fun hH => ?_)
            clear hK K
            try simp only [Act.put, List.setIfInBounds_toArray, List.set_cons_zero, List.set_cons_succ]
            refine wpAnyH_ready (rs := [12]) (by kernel_rfl) (by simp) ?_
            refine AllReadyH.cons rfl (fun K hK => ?_) AllReadyH.nil
            go_simp
            with_reducible refine (FC.out _ kk).mono ?_
            rintro e Y2 ⟨v2, rfl, a2f, hb⟩
            (try go_wp2_with fail)
            replace kc := kc.trans (hb.mono kc.size)
            replace a1f := a1f.below hb
            replace kk := kk.trans (hb.mono kk.size)
            clear hb
            obtain ⟨f2q, f2c, rfl⟩ := a2f.slice
            refine hK.out _ _ (KF.out _ kk) (fun hH => ?_)
            clear hK K
            try simp only [Act.put, List.setIfInBounds_toArray, List.set_cons_zero, List.set_cons_succ]
            refine wpAnyH_ready (rs := [13]) (by kernel_rfl) (by simp) ?_
            refine AllReadyH.cons rfl (fun K hK => ?_) AllReadyH.nil
            go_simp
            with_reducible refine (SC.out _ _ _ a1f a2f).mono ?_
            rintro e Y3 ⟨rfl, hb⟩
            (try go_wp2_with fail)
            replace kc := kc.trans (hb.mono kc.size)
            replace a1f := a1f.below hb
            replace a2f := a2f.below hb
            replace kk := kk.trans (hb.mono kk.size)
            clear hb
            refine hK.out _ _ (KF.out _ kk) (fun hH => ?_)
            clear hK K
            try simp only [Act.put, List.setIfInBounds_toArray, List.set_cons_zero, List.set_cons_succ]
            refine wpAnyH_take (i := 14) (oi := { dst := some 49, op := Op.unOp UnOp.not 4 (Operand.tmp 48), type := 4, pos := "law.go:192", after := #[{ on := 13, ground := Ground.data }], guard := none }) (v := .bool false) rfl (by kernel_rfl) (by kernel_rfl) (by kernel_rfl) (fun _ _ _ h => h) (Or.inl ⟨by kernel_rfl, ?_⟩) hH ?_
            · intro w hSw; (try dsimp only at hSw); go_simp; (try rfl)
            try simp only [Act.put, List.setIfInBounds_toArray, List.set_cons_zero, List.set_cons_succ]
            refine wpAnyH_done (by kernel_rfl) ?_ _
            have KK9 := Lib.hid kc
            clear kk kc hH
            go_wp2_with fail
            go_roundw
            case rel => exact ⟨k + 1, by omega, by go_num, KK9⟩
            case measure => simp [intOf]; omega
          · obtain rfl : k = n := by omega
            have d1 : decide (k < k) = false := by simp
            have d2 : decide ((k : Int) < (k : Int)) = false := by simp
            have SM2 := Lib.hid (SM.out.below hC.out)
            clear hlt SM hC
            go_wp2_with fail
            ((with_reducible refine (M1.out _ hB.out).mono ?_); rintro e w3 ⟨v3, rfl, a3, k3⟩)
            have K3 := Lib.hid (px_call hB.out k3)
            have A3 := Lib.hid a3
            have SM3 := Lib.hid (SM2.out.below k3)
            obtain ⟨q3, c3, rfl⟩ := a3.slice
            clear a3 k3 hB SM2
            go_wp2_with fail
            ((with_reducible refine (M2.out _ _ _ _ SM3.out).mono ?_); rintro e w4 ⟨v4, rfl, a4, k4⟩)
            have K4 := Lib.hid (px_call K3.out k4)
            have A4 := Lib.hid a4
            have A5 := Lib.hid (A3.out.below k4)
            obtain ⟨q4, c4, rfl⟩ := a4.slice
            clear a4 k4 A3 K3
            go_wp2_with fail
            ((with_reducible refine (MS.out _ _ _ A5.out A4.out).mono ?_); rintro e w5 ⟨rfl, k5⟩)
            have K5 := Lib.hid (px_call K4.out k5)
            clear k5 A4 A5 K4
            go_wp2_with fail
            ((with_reducible refine (HL.out _).mono ?_); rintro e w6 ⟨rfl, k6⟩)
            have K6 := Lib.hid (px_call K5.out k6)
            clear k6
            go_wp2_with fail
            go_ret
            exact ⟨rfl, K6.out⟩
      · obtain ⟨k, rfl⟩ : ∃ k, j = k + 1 := ⟨j - 1, by omega⟩
        obtain rfl : ii = (k : Int) := by have := hI.out; omega
        have hlt : k < n := by omega
        obtain ⟨x, hx⟩ : ∃ x, la0[k]? = some x := ⟨_, List.getElem?_eq_getElem (by rw [← HN.out]; exact hlt)⟩
        obtain ⟨b, off, rfl⟩ := HS.out.place (by omega)
        have HR := Lib.hid (fun U (k : Below w.heap.size w U) => (HS.out.below k).row hx)
        obtain ⟨sp, sc, hsv⟩ := ((HS.out.row hx).2.2.2.1).slice
        rw [hsv] at HR
        have d1 : decide (k < n) = true := decide_eq_true hlt
        have d2 : decide ((k : Int) < (n : Int)) = true := decide_eq_true (by omega)
        have d4 : decide (0 ≤ (k : Int)) = true := decide_eq_true (by omega)
        have x0 := (HR.out _ hB.out).1
        have x1 := (HR.out _ hB.out).2.1
        have x2 := (HR.out _ hB.out).2.2.1
        have ED := Lib.hid (show (la0.drop k).reverse.flatMap cellsStR = (la0.drop (k + 1)).reverse.flatMap cellsStR ++ [.bool x.ex, .int .i64 x.tm, .slice sp x.src.length sc] by
          rw [List.drop_eq_getElem_cons (by rw [← HN.out]; exact hlt), (List.getElem?_eq_some_iff.1 hx).2, List.reverse_cons, List.flatMap_append, ← hsv]
          rfl)
        have EN := Lib.hid (show n - (k + 1) + 1 = n - k by omega)
        have oc := Lib.hid (show ∀ z ∈ [Value.bool x.ex, .int .i64 x.tm, .slice sp x.src.length sc], z.oneCell' = true from fun z hz => by simp at hz; rcases hz with rfl | rfl | rfl <;> rfl)
        have A6 := Lib.hid (cellsB (xs := [.bool x.ex, .int .i64 x.tm, .slice sp x.src.length sc]) (heap_new wr (.cells #[.bool x.ex, .int .i64 x.tm, .slice sp x.src.length sc] 32)))
        have A3 := Lib.hid (show n - (k + 1) + 1 ≤ maxLen by unfold maxLen; omega)
        have A4 := Lib.hid (show (n - (k + 1) + 1) * 40 ≤ 140737488355328 by omega)
        have A5 := Lib.hid (show w.heap.size ≤ (wr.alloc (.cells #[.bool x.ex, .int .i64 x.tm, .slice sp x.src.length sc] 32)).heap.size by have := hB.out.size; simp; omega)
        have hB1 := Lib.hid (hB.out.alloc hB.out.size (.cells #[.bool x.ex, .int .i64 x.tm, .slice sp x.src.length sc] 32))
        clear HR hx hsv K1 hI
        go_wp2_with (at_builtin; refine wpList_append_own _ rfl _ _ 22 rfl w.heap.size 32 i0 (.agg #[.bool false, .int .i64 0, .slice none 0 0]) 3 40 Try.underlying22 hi hz0 hz1 hz2 rfl (by decide) _ _ _ rfl (hO.out.alloc _) ⟨wr.heap.size, 0, none⟩ 1 1 [.bool x.ex, .int .i64 x.tm, .slice sp x.src.length sc] rfl rfl A6.out oc.out A3.out A4.out A5.out ?_)
        intro v' w5 hown' hgrow _
        have hfar := Lib.hid (fun j hj => ((hO.out.alloc (.cells #[.bool x.ex, .int .i64 x.tm, .slice sp x.src.length sc] 32)).lt j hj).1)
        have hB5 := Lib.hid (hB1.out.grown hgrow A5.out (fun j hj => hfar.out j hj))
        rw [← ED.out, EN.out] at hown'
        have hO5 := Lib.hid hown'
        obtain ⟨p5, c5, rfl⟩ := own_slice hown'
        clear hown' hgrow hO hB1 hB hfar A6 A3 A4 A5 x0 x1 x2
        go_wp2_with fail
        go_roundw
        case rel => exact ⟨k, _, p5, c5, by omega, rfl, Lib.hid (by omega), by omega, by omega, rfl, hO5, hB5⟩
        case measure => simp [intOf] <;> omega

theorem own : ownKnob Try.prog.godebug = none := by kernel_rfl
theorem laidOut : laidOutB Try.prog = true := by kernel_rfl

set_option maxHeartbeats 1000000 in
set_option maxRecDepth 100000 in
theorem lifted (os : Os) (started : os.Started) (H : Type) (enc : TypeId × Value → H) :
    ReturnsInHanded {} Try.checked os 8 .any (Rows.proxyTurnedSpec.pre6 enc Try.prog Try.f8 Rows.proxyTurnedRow.domain false) (Rows.proxyTurnedSpec.post enc Try.prog Try.f8 false true false false) := by
  refine returnsInHanded_of_change_sized (C := Try.checked) own started (by kernel_rfl) Try.func8
    (ChangeSpec.witness6 (enc := enc) (C := Try.checked) false ⟨#[], #[.slice none 0 0, .int .i64 0], []⟩ 8 (by kernel_rfl) (by kernel_rfl) (by kernel_rfl) (by kernel_rfl)) ?_
  intro W base args ds gs before hval0 hW hcnd hsz0 hholds
  have hval : ∀ (j : Nat) t v, Try.f8.params[j]? = some t → args[j]? = some v → Value.okWide Try.prog W .any base t v := hval0
  have hsz : (DataW.weightsEach Try.prog (Try.f8.params.toList ++ Rows.proxyTurnedSpec.plain.varTypes Try.prog) (ds ++ gs)).all (· ≤ reachBytes) = true := hsz0
  have hW' := hW
  obtain ⟨p, q, hA0, hV, rfl, hfz, hnd⟩ := hW
  have hA : DataW.TrodAll enc Try.prog W 0 (fun _ => true) true Try.f8.params.toList args.toList ds p := hA0
  rw [Try.params8] at hA hval hsz
  obtain ⟨v0, vs0, d0, ds0, p0, q0, hargs, rfl, rfl, h0, r0⟩ := trodAll_cons hA
  obtain ⟨v1, vs1, d1, ds1, p1, q1, rfl, rfl, rfl, h1, r1⟩ := trodAll_cons r0
  obtain ⟨rfl, rfl, rfl⟩ := trodAll_nil r1
  obtain rfl : args = #[v0, v1] := by cases args; simp_all
  obtain ⟨rfl, rfl⟩ := trodVars_none hV
  have k0 := h0
  have lt0 : ∀ x ∈ p0, x.block < W.heap.size := by obtain ⟨m, hm⟩ := k0; exact DataW.trod_lt m _ _ _ hm
  have k1 := h1
  have lt1 : ∀ x ∈ p1, x.block < W.heap.size := by obtain ⟨m, hm⟩ := k1; exact DataW.trod_lt m _ _ _ hm
  obtain ⟨sa0, sl0, sc0, rfl⟩ := okWide_slice Try.underlying22 (hval 0 22 v0 rfl rfl)
  obtain ⟨fu0, hf0⟩ := h0
  obtain ⟨vv0, L0, e0, hh0, qq0, ss0⟩ := openStR hf0 (Wt.top hsz (j := 0) (t := 22) rfl rfl)
  simp [Value.cells] at e0
  subst e0
  obtain ⟨a1, rfl, rfl, rfl, w1⟩ := open_int Try.underlying3 (hval 1 3 v1 rfl rfl) h1
  have ba1 := bounds_i64 w1
  clear hA0 hval0
  refine (walk (.slice sa0 sl0 sc0) L0 a1 W hh0 qq0 ss0 ba1.1 ba1.2).mono fun e W' ⟨he, bel⟩ => ?_
  subst he
  exact ⟨_, rfl, _, _, _, [], _, [], hW', trodAll_mk1 (shut_bool Try.underlying4 _), (trodAll_cons_mk (Below.trod laidOut (by kernel_rfl) (of_decide_eq_true (by kernel_rfl)) k0 bel lt0) (trodAll_cons_mk (Below.trod laidOut (by kernel_rfl) (of_decide_eq_true (by kernel_rfl)) k1 bel lt1) trodAll_mk0)), rfl, bel.frame _, fun h => by cases h⟩

theorem over : Rows.proxyTurnedRow.holds Try.pinned (OpenSpec.ofChange Rows.proxyTurnedSpec) :=
  OpenClaim.holds_of_wide 8 Try.f8 rfl rfl rfl rfl rfl rfl rfl ⟨rfl, rfl, rfl, rfl, rfl⟩ rfl rfl rfl rfl rfl (by kernel_rfl) Try.func8 (by kernel_rfl)
    (of_decide_eq_true (by kernel_rfl)) (by unfold Func.isWrapper; first | (rw [if_pos (by decide +kernel)]; kernel_rfl) | (rw [if_neg (by decide +kernel)]; exact ⟨rfl, rfl⟩))
    (fun os started H enc _ => lifted os started H enc)

/-- The statement. -/
theorem proved : Rows.ProxyTurnedSaid := over
#print axioms proved
end Go.Proofs.Ythpafojeadbjlaa.proxyTurnedLaw
