/-
  'siphonlaw21.ProxyMerges' returns true, whatever the input, and each argument reads behind the call as it read before. Conditions: none beyond those that the row itself states.
-/
import Derived.Test.YthpafojeadbjlaaRows
import Derived.Test.YthpafojeadbjlaaPxT
import Derived.Test.YthpafojeadbjlaaPxC
import Derived.Test.YthpafojeadbjlaaRowStR
import Derived.WalkKit
import Derived.ProofKit
import Derived.OpenShut
import Derived.ShutString
import Derived.ChangeOld
import Derived.Below
import Derived.Carry
import Derived.SizedLaws
import Derived.Lib.SmallJoins
import Derived.ChangeArms
import Derived.WideShapes
namespace Go.Proofs.Ythpafojeadbjlaa.proxyMergesLaw
open Go.ChangeShapes Go.WideShapes Go.ChangeAt Go.RowKit Go.Joins
open Go.ChangeMaps (open_string shut_string)
set_option linter.unusedVariables false

set_option maxHeartbeats 8000000 in
set_option maxRecDepth 100000 in
theorem walk (a0 : Value) (la0 : List StR) (a1 : Int) (w : World) (ha0 : RowsAt 3 cellsStR w a0 la0) (qa0 : la0.length ≤ maxLen ∧ ∀ p n c, a0 = .slice p n c → n ≤ c) (sa0 : ∀ r ∈ la0, GoodStR w r) (la1 : -9223372036854775808 ≤ a1) (ua1 : a1 ≤ 9223372036854775807) :
    Calls Try.prog 3 #[a0, .int .i64 a1] w fun e w' => e = .returned (.bool true) ∧ Below w.heap.size w w' := by
  have HW0 : StsW w a0 la0 := ⟨ha0, qa0.2, fun r hr => (sa0 r hr).2.2.1⟩
  have HL := Lib.hid fun U => live21_c U
  have K0 := Lib.hid (Below.refl w.heap.size w)
  obtain ⟨p0, c0, rfl⟩ := ha0.slice
  obtain ⟨n, hn⟩ : ∃ n, n = la0.length := ⟨_, rfl⟩
  rw [← hn] at HW0 ⊢
  have HF := Lib.hid (few21_c p0 n c0 la0 w HW0)
  rcases hfw : fewL la0 with _ | _
  · rw [hfw] at HF
    clear ha0 qa0 sa0 HW0 hn hfw la1 ua1 
    go_enter Try.func3, Try.ntmps3
    go_wp2_with fail
    ((with_reducible refine HF.out.mono ?_); rintro e w1 ⟨rfl, h1⟩)
    have K1 := Lib.hid h1
    clear h1 HF
    go_wp2_with fail
    ((with_reducible refine (HL.out _).mono ?_); rintro e w2 ⟨rfl, h2⟩)
    have K2 := Lib.hid (px_call K1.out h2)
    clear h2
    go_wp2_with fail
    go_ret
    exact ⟨rfl, K2.out⟩
  · rw [hfw] at HF
    obtain ⟨l10, l60⟩ := (fewL_iff la0).1 hfw
    have HS := Lib.hid (HW0.sts l60)
    have HN := Lib.hid hn
    have N10 : n ≤ 10 := by omega
    have L60 := Lib.hid l60
    clear ha0 qa0 sa0 HW0 hn hfw l10 l60
    have M1 := Lib.hid (fun U (k : Below w.heap.size w U) => (pmerge_c 10 la0 p0 n c0 a1 U (by have := HN.out; omega) (by have := HN.out; omega) (HS.out.below k)).mono fun e w' h => h.toAt)
    have M2 := Lib.hid (fun U (k : Below w.heap.size w U) => rmerge_c (.slice p0 n c0) la0 a1 U (by have := HN.out; omega) (HS.out.below k))
    have ML := Lib.hid (show (mergeF (filsR la0 a1)).src.length ≤ 600 by have := mergeR_len la0 a1; have := HN.out; omega)
    generalize mergeF (filsR la0 a1) = M at M1 M2 ML
    obtain ⟨me, ml⟩ := M
    unfold FAt at M1 M2
    simp only at M1 M2 ML
    have MS := Lib.hid (fun (U : World) v1 v2 h1 h2 => samep_c me v1 v2 ml U (by have := ML.out; omega) h1 h2)
    go_enter Try.func3, Try.ntmps3
    go_wp2_with fail
    ((with_reducible refine HF.out.mono ?_); rintro e w1 ⟨rfl, h1⟩)
    have K1 := Lib.hid h1
    clear h1 HF K0
    go_wp2_with fail
    go_loopw [5] (fun i wr => ∃ k : Nat, k ≤ n ∧ i = .int .i64 k ∧ Hid (Below w.heap.size w wr)) (fun i _ => n - (intOf i).toNat)
    case atStart => exact ⟨0, Nat.zero_le _, rfl, K1⟩
    case round =>
      obtain ⟨k, hk, rfl, hB⟩ := hrel
      by_cases hlt : k < n
      · obtain ⟨x, hx⟩ : ∃ x, la0[k]? = some x := ⟨_, List.getElem?_eq_getElem (by rw [← HN.out]; exact hlt)⟩
        obtain ⟨b, off, rfl⟩ := HS.out.place (by omega)
        have HR := Lib.hid (fun U (k : Below w.heap.size w U) => (HS.out.below k).row hx)
        obtain ⟨sp, sc, hsv⟩ := ((HS.out.row hx).2.2.2.1).slice
        rw [hsv] at HR
        have d1 : decide (k < n) = true := decide_eq_true hlt
        have d2 : decide ((k : Int) < (n : Int)) = true := decide_eq_true (by omega)
        have d4 : decide (0 ≤ (k : Int)) = true := decide_eq_true (by omega)
        have FC0 := fun (U : World) (k : Below w.heap.size w U) => (pfil_c x.ex x.tm _ x.src a1 U (HR.out U k).2.2.2.2 (HR.out U k).2.2.2.1).mono fun e w' h => h.toAt
        have RC0 := fun (U : World) (k : Below w.heap.size w U) => rfil_c x.ex x.tm _ x.src a1 U (HR.out U k).2.2.2.2 (HR.out U k).2.2.2.1
        have FL0 := fil_len ⟨x.ex, x.tm, x.src⟩ a1
        generalize filP ⟨x.ex, x.tm, x.src⟩ a1 = F at FC0 RC0 FL0
        obtain ⟨fe, fl⟩ := F
        unfold FAt at FC0 RC0
        simp only at FC0 RC0 FL0
        have SC := Lib.hid (fun (U : World) v1 v2 h1 h2 => samep_c fe v1 v2 fl U (by omega) h1 h2)
        have FC := Lib.hid FC0
        have RC := Lib.hid RC0
        have KF0 := (fun (U : World) (k : Below w.heap.size w U) => ⟨(HR.out U k).1, (HR.out U k).2.1, (HR.out U k).2.2.1⟩ : ∀ (U : World), Below w.heap.size w U → U.cell? ⟨b, off + k * 3, none⟩ = some (.bool x.ex) ∧ U.cell? ⟨b, off + k * 3 + 1, none⟩ = some (.int .i64 x.tm) ∧ U.cell? ⟨b, off + k * 3 + 2, none⟩ = some (.slice sp x.src.length sc))
        have kk := hB.out.drew
        clear HR FC0 RC0 FL0 hsv hx
        generalize x.ex = xe at FC RC KF0
        generalize x.tm = xt at FC RC KF0
        generalize x.src.length = xn at FC RC KF0
        have KF := Lib.hid KF0
        clear KF0
        go_upto_region 6 with fail
        refine wp_region_held_drew (S := fun U => U.cell? ⟨b, off + k * 3, none⟩ = some (.bool xe) ∧ U.cell? ⟨b, off + k * 3 + 1, none⟩ = some (.int .i64 xt) ∧ U.cell? ⟨b, off + k * 3 + 2, none⟩ = some (.slice sp xn sc)) (by kernel_rfl) (KF.out _ kk) (fun hH => ?_)
        clear hB
        generalize wr.drew = Y0 at kk hH ⊢
        refine wpAnyH_take (i := 0) (oi := { dst := some 16, op := Op.move (Operand.tmp 0), type := 22, pos := "law.go:53", after := #[], guard := none }) (v := .slice (some ⟨b, off, none⟩) n c0) rfl (by kernel_rfl) (by kernel_rfl) (by kernel_rfl) (fun _ _ _ h => h) (Or.inl ⟨by kernel_rfl, ?_⟩) hH ?_
        · intro w hSw; (try dsimp only at hSw); go_simp; (try rfl)
        try simp only [Act.put, List.setIfInBounds_toArray, List.set_cons_zero, List.set_cons_succ]
        refine wpAnyH_take (i := 1) (oi := { dst := some 17, op := Op.move (Operand.tmp 5), type := 3, pos := "law.go:53", after := #[], guard := none }) (v := .int .i64 k) rfl (by kernel_rfl) (by kernel_rfl) (by kernel_rfl) (fun _ _ _ h => h) (Or.inl ⟨by kernel_rfl, ?_⟩) hH ?_
        · intro w hSw; (try dsimp only at hSw); go_simp; (try rfl)
        try simp only [Act.put, List.setIfInBounds_toArray, List.set_cons_zero, List.set_cons_succ]
        refine wpAnyH_take (i := 2) (oi := { dst := some 18, op := Op.indexAddr 22 (Operand.tmp 16) (Operand.tmp 17), type := 0, pos := "law.go:53", after := #[{ on := 0, ground := Ground.data }, { on := 1, ground := Ground.data }], guard := none }) (v := .pointer (some ⟨b, off + k * 3, none⟩)) rfl (by kernel_rfl) (by kernel_rfl) (by kernel_rfl) (fun _ _ _ h => h) (Or.inl ⟨by kernel_rfl, ?_⟩) hH ?_
        · intro w hSw; (try dsimp only at hSw); go_simp; (try rfl)
        try simp only [Act.put, List.setIfInBounds_toArray, List.set_cons_zero, List.set_cons_succ]
        refine wpAnyH_take (i := 3) (oi := { dst := some 19, op := Op.load 32 (Operand.tmp 18), type := 32, pos := "law.go:53", after := #[{ on := 2, ground := Ground.data }], guard := none }) (v := .agg #[.bool xe, .int .i64 xt, .slice sp xn sc]) rfl (by kernel_rfl) (by kernel_rfl) (by kernel_rfl) (fun _ _ _ h => h) (Or.inl ⟨by kernel_rfl, ?_⟩) hH ?_
        · intro w hSw; (try dsimp only at hSw); go_simp; (try rfl)
        try simp only [Act.put, List.setIfInBounds_toArray, List.set_cons_zero, List.set_cons_succ]
        refine wpAnyH_take (i := 4) (oi := { dst := some 20, op := Op.move (Operand.tmp 1), type := 3, pos := "law.go:53", after := #[], guard := none }) (v := .int .i64 a1) rfl (by kernel_rfl) (by kernel_rfl) (by kernel_rfl) (fun _ _ _ h => h) (Or.inl ⟨by kernel_rfl, ?_⟩) hH ?_
        · intro w hSw; (try dsimp only at hSw); go_simp; (try rfl)
        try simp only [Act.put, List.setIfInBounds_toArray, List.set_cons_zero, List.set_cons_succ]
        refine wpAnyH_take (i := 6) (oi := { dst := some 22, op := Op.move (Operand.tmp 0), type := 22, pos := "law.go:53", after := #[], guard := none }) (v := .slice (some ⟨b, off, none⟩) n c0) rfl (by kernel_rfl) (by kernel_rfl) (by kernel_rfl) (fun _ _ _ h => h) (Or.inl ⟨by kernel_rfl, ?_⟩) hH ?_
        · intro w hSw; (try dsimp only at hSw); go_simp; (try rfl)
        try simp only [Act.put, List.setIfInBounds_toArray, List.set_cons_zero, List.set_cons_succ]
        refine wpAnyH_take (i := 7) (oi := { dst := some 23, op := Op.move (Operand.tmp 5), type := 3, pos := "law.go:53", after := #[], guard := none }) (v := .int .i64 k) rfl (by kernel_rfl) (by kernel_rfl) (by kernel_rfl) (fun _ _ _ h => h) (Or.inl ⟨by kernel_rfl, ?_⟩) hH ?_
        · intro w hSw; (try dsimp only at hSw); go_simp; (try rfl)
        try simp only [Act.put, List.setIfInBounds_toArray, List.set_cons_zero, List.set_cons_succ]
        refine wpAnyH_take (i := 8) (oi := { dst := some 24, op := Op.indexAddr 22 (Operand.tmp 22) (Operand.tmp 23), type := 0, pos := "law.go:53", after := #[{ on := 6, ground := Ground.data }, { on := 7, ground := Ground.data }], guard := none }) (v := .pointer (some ⟨b, off + k * 3, none⟩)) rfl (by kernel_rfl) (by kernel_rfl) (by kernel_rfl) (fun _ _ _ h => h) (Or.inl ⟨by kernel_rfl, ?_⟩) hH ?_
        · intro w hSw; (try dsimp only at hSw); go_simp; (try rfl)
        try simp only [Act.put, List.setIfInBounds_toArray, List.set_cons_zero, List.set_cons_succ]
        refine wpAnyH_take (i := 9) (oi := { dst := some 25, op := Op.load 32 (Operand.tmp 24), type := 32, pos := "law.go:53", after := #[{ on := 8, ground := Ground.data }], guard := none }) (v := .agg #[.bool xe, .int .i64 xt, .slice sp xn sc]) rfl (by kernel_rfl) (by kernel_rfl) (by kernel_rfl) (fun _ _ _ h => h) (Or.inl ⟨by kernel_rfl, ?_⟩) hH ?_
        · intro w hSw; (try dsimp only at hSw); go_simp; (try rfl)
        try simp only [Act.put, List.setIfInBounds_toArray, List.set_cons_zero, List.set_cons_succ]
        refine wpAnyH_take (i := 10) (oi := { dst := some 26, op := Op.move (Operand.tmp 1), type := 3, pos := "law.go:53", after := #[], guard := none }) (v := .int .i64 a1) rfl (by kernel_rfl) (by kernel_rfl) (by kernel_rfl) (fun _ _ _ h => h) (Or.inl ⟨by kernel_rfl, ?_⟩) hH ?_
        · intro w hSw; (try dsimp only at hSw); go_simp; (try rfl)
        try simp only [Act.put, List.setIfInBounds_toArray, List.set_cons_zero, List.set_cons_succ]
        refine wpAnyH_ready (rs := [5]) (by kernel_rfl) (by simp) ?_
        refine AllReadyH.cons rfl (fun K hK => ?_) AllReadyH.nil
        go_simp
        with_reducible refine (FC.out _ kk).mono ?_
        rintro e Y1 ⟨v1, rfl, a1f, hb⟩
        (try go_wp2_with fail)
        replace kk := kk.trans (hb.mono kk.size)
        clear hb
        obtain ⟨f1q, f1c, rfl⟩ := a1f.slice
        refine hK.out _ _ (KF.out _ kk) (fun hH => ?_)
        clear hK K
        try simp only [Act.put, List.setIfInBounds_toArray, List.set_cons_zero, List.set_cons_succ]
        refine wpAnyH_ready (rs := [11]) (by kernel_rfl) (by simp) ?_
        refine AllReadyH.cons rfl (fun K hK => ?_) AllReadyH.nil
        go_simp
        with_reducible refine (RC.out _ kk).mono ?_
        rintro e Y2 ⟨v2, rfl, a2f, hb⟩
        (try go_wp2_with fail)
        replace a1f := a1f.below hb
        replace kk := kk.trans (hb.mono kk.size)
        clear hb
        obtain ⟨f2q, f2c, rfl⟩ := a2f.slice
        refine hK.out _ _ (KF.out _ kk) (fun hH => ?_)
        clear hK K
        try simp only [Act.put, List.setIfInBounds_toArray, List.set_cons_zero, List.set_cons_succ]
        refine wpAnyH_ready (rs := [12]) (by kernel_rfl) (by simp) ?_
        refine AllReadyH.cons rfl (fun K hK => ?_) AllReadyH.nil
        go_simp
        with_reducible refine (SC.out _ _ _ a1f a2f).mono ?_
        rintro e Y3 ⟨rfl, hb⟩
        (try go_wp2_with fail)
        replace a1f := a1f.below hb
        replace a2f := a2f.below hb
        replace kk := kk.trans (hb.mono kk.size)
        clear hb
        refine hK.out _ _ (KF.out _ kk) (fun hH => ?_)
        clear hK K
        try simp only [Act.put, List.setIfInBounds_toArray, List.set_cons_zero, List.set_cons_succ]
        refine wpAnyH_take (i := 13) (oi := { dst := some 29, op := Op.unOp UnOp.not 4 (Operand.tmp 28), type := 4, pos := "law.go:53", after := #[{ on := 12, ground := Ground.data }], guard := none }) (v := .bool false) rfl (by kernel_rfl) (by kernel_rfl) (by kernel_rfl) (fun _ _ _ h => h) (Or.inl ⟨by kernel_rfl, ?_⟩) hH ?_
        · intro w hSw; (try dsimp only at hSw); go_simp; (try rfl)
        try simp only [Act.put, List.setIfInBounds_toArray, List.set_cons_zero, List.set_cons_succ]
        refine wpAnyH_done (by kernel_rfl) ?_ _
        have KK9 := Lib.hid kk
        clear kk hH
        go_wp2_with fail
        go_roundw
        case rel => exact ⟨k + 1, by omega, by go_num, KK9⟩
        case measure => simp [intOf]; omega
      · obtain rfl : k = n := by omega
        have d1 : decide (k < k) = false := by simp
        have d2 : decide ((k : Int) < (k : Int)) = false := by simp
        clear hlt
        go_wp2_with fail
        ((with_reducible refine (M1.out _ hB.out).mono ?_); rintro e w3 ⟨v3, rfl, a3, k3⟩)
        have K3 := Lib.hid (px_call hB.out k3)
        have A3 := Lib.hid a3
        obtain ⟨q3, c3, rfl⟩ := a3.slice
        clear a3 k3 hB
        go_wp2_with fail
        ((with_reducible refine (M2.out _ K3.out).mono ?_); rintro e w4 ⟨v4, rfl, a4, k4⟩)
        have K4 := Lib.hid (px_call K3.out k4)
        have A4 := Lib.hid a4
        have A5 := Lib.hid (A3.out.below k4)
        obtain ⟨q4, c4, rfl⟩ := a4.slice
        clear a4 k4 A3 K3
        go_wp2_with fail
        ((with_reducible refine (MS.out _ _ _ A5.out A4.out).mono ?_); rintro e w5 ⟨rfl, k5⟩)
        have K5 := Lib.hid (px_call K4.out k5)
        clear k5 A4 A5 K4
        go_wp2_with fail
        ((with_reducible refine (HL.out _).mono ?_); rintro e w6 ⟨rfl, k6⟩)
        have K6 := Lib.hid (px_call K5.out k6)
        clear k6
        go_wp2_with fail
        go_ret
        exact ⟨rfl, K6.out⟩

theorem own : ownKnob Try.prog.godebug = none := by kernel_rfl
theorem laidOut : laidOutB Try.prog = true := by kernel_rfl

set_option maxHeartbeats 1000000 in
set_option maxRecDepth 100000 in
theorem lifted (os : Os) (started : os.Started) (H : Type) (enc : TypeId × Value → H) :
    ReturnsInHanded {} Try.checked os 3 .any (Rows.proxyMergesSpec.pre6 enc Try.prog Try.f3 Rows.proxyMergesRow.domain false) (Rows.proxyMergesSpec.post enc Try.prog Try.f3 false true false false) := by
  refine returnsInHanded_of_change_sized (C := Try.checked) own started (by kernel_rfl) Try.func3
    (ChangeSpec.witness6 (enc := enc) (C := Try.checked) false ⟨#[], #[.slice none 0 0, .int .i64 0], []⟩ 8 (by kernel_rfl) (by kernel_rfl) (by kernel_rfl) (by kernel_rfl)) ?_
  intro W base args ds gs before hval0 hW hcnd hsz0 hholds
  have hval : ∀ (j : Nat) t v, Try.f3.params[j]? = some t → args[j]? = some v → Value.okWide Try.prog W .any base t v := hval0
  have hsz : (DataW.weightsEach Try.prog (Try.f3.params.toList ++ Rows.proxyMergesSpec.plain.varTypes Try.prog) (ds ++ gs)).all (· ≤ reachBytes) = true := hsz0
  have hW' := hW
  obtain ⟨p, q, hA0, hV, rfl, hfz, hnd⟩ := hW
  have hA : DataW.TrodAll enc Try.prog W 0 (fun _ => true) true Try.f3.params.toList args.toList ds p := hA0
  rw [Try.params3] at hA hval hsz
  obtain ⟨v0, vs0, d0, ds0, p0, q0, hargs, rfl, rfl, h0, r0⟩ := trodAll_cons hA
  obtain ⟨v1, vs1, d1, ds1, p1, q1, rfl, rfl, rfl, h1, r1⟩ := trodAll_cons r0
  obtain ⟨rfl, rfl, rfl⟩ := trodAll_nil r1
  obtain rfl : args = #[v0, v1] := by cases args; simp_all
  obtain ⟨rfl, rfl⟩ := trodVars_none hV
  have k0 := h0
  have lt0 : ∀ x ∈ p0, x.block < W.heap.size := by obtain ⟨m, hm⟩ := k0; exact DataW.trod_lt m _ _ _ hm
  have k1 := h1
  have lt1 : ∀ x ∈ p1, x.block < W.heap.size := by obtain ⟨m, hm⟩ := k1; exact DataW.trod_lt m _ _ _ hm
  obtain ⟨sa0, sl0, sc0, rfl⟩ := okWide_slice Try.underlying22 (hval 0 22 v0 rfl rfl)
  obtain ⟨fu0, hf0⟩ := h0
  obtain ⟨vv0, L0, e0, hh0, qq0, ss0⟩ := openStR hf0 (Wt.top hsz (j := 0) (t := 22) rfl rfl)
  simp [Value.cells] at e0
  subst e0
  obtain ⟨a1, rfl, rfl, rfl, w1⟩ := open_int Try.underlying3 (hval 1 3 v1 rfl rfl) h1
  have ba1 := bounds_i64 w1
  clear hA0 hval0
  refine (walk (.slice sa0 sl0 sc0) L0 a1 W hh0 qq0 ss0 ba1.1 ba1.2).mono fun e W' ⟨he, bel⟩ => ?_
  subst he
  exact ⟨_, rfl, _, _, _, [], _, [], hW', trodAll_mk1 (shut_bool Try.underlying4 _), (trodAll_cons_mk (Below.trod laidOut (by kernel_rfl) (of_decide_eq_true (by kernel_rfl)) k0 bel lt0) (trodAll_cons_mk (Below.trod laidOut (by kernel_rfl) (of_decide_eq_true (by kernel_rfl)) k1 bel lt1) trodAll_mk0)), rfl, bel.frame _, fun h => by cases h⟩

theorem over : Rows.proxyMergesRow.holds Try.pinned (OpenSpec.ofChange Rows.proxyMergesSpec) :=
  OpenClaim.holds_of_wide 3 Try.f3 rfl rfl rfl rfl rfl rfl rfl ⟨rfl, rfl, rfl, rfl, rfl⟩ rfl rfl rfl rfl rfl (by kernel_rfl) Try.func3 (by kernel_rfl)
    (of_decide_eq_true (by kernel_rfl)) (by unfold Func.isWrapper; first | (rw [if_pos (by decide +kernel)]; kernel_rfl) | (rw [if_neg (by decide +kernel)]; exact ⟨rfl, rfl⟩))
    (fun os started H enc _ => lifted os started H enc)

/-- The statement. -/
theorem proved : Rows.ProxyMergesSaid := over
#print axioms proved
end Go.Proofs.Ythpafojeadbjlaa.proxyMergesLaw
