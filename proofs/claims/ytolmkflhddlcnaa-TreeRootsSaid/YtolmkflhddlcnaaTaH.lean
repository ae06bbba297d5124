/-
  'tree.mesh.told': what comes to an end from the other one. A contract over the translated program.
-/
import Derived.Test.YtolmkflhddlcnaaTaF
import Derived.Deep.RegionHeld3
import Derived.StillTailTactics
namespace Go.Proofs.Ytolmkflhddlcnaa
open Go.RowKit
set_option linter.unusedVariables false
set_option linter.unusedSimpArgs false

theorem index_1 (x0 x1 x2 x3 y0 y1 y2 y3 : Int) (U : World) : (Instr.index 72 (.agg #[.int .i64 x0, .int .i64 x1, .int .i64 x2, .int .i64 x3, .int .i64 y0, .int .i64 y1, .int .i64 y2, .int .i64 y3]) (.int .i64 1)).run Try.prog U = .ok (.agg #[.int .i64 y0, .int .i64 y1, .int .i64 y2, .int .i64 y3]) U := by
  have h1 := Try.underlying72
  have h2 := Try.isAgg54
  have h3 := Try.sizeOf54
  simp [Instr.index, asAgg, part, go_sem, h1, h2, h3]
theorem index_0 (x0 x1 x2 x3 y0 y1 y2 y3 : Int) (U : World) : (Instr.index 72 (.agg #[.int .i64 x0, .int .i64 x1, .int .i64 x2, .int .i64 x3, .int .i64 y0, .int .i64 y1, .int .i64 y2, .int .i64 y3]) (.int .i64 0)).run Try.prog U = .ok (.agg #[.int .i64 x0, .int .i64 x1, .int .i64 x2, .int .i64 x3]) U := by
  have h1 := Try.underlying72
  have h2 := Try.isAgg54
  have h3 := Try.sizeOf54
  simp [Instr.index, asAgg, part, go_sem, h1, h2, h3]

set_option maxHeartbeats 4000000 in
set_option maxRecDepth 100000 in
theorem told_0 {w : World} {m : Nat} {vi vl vb : Value} {ab cap : Nat} {ids : List Int} {L : List Lk} {R : List Pe} {bst : List V4} (h : HasM w m vi vl vb ab cap ids L R bst) (n12 : ids.length ≤ 12) (l40 : L.length ≤ 40)
    (b p : Int) (i β : Nat) (a pa pb k : Int) (hl : L[i]? = some (a, pa, (β : Int), pb, k)) (id : Int) (hid : ids[β]? = some id) (r c g q : Int) (hb : bst[β]? = some (r, c, g, q)) :
    Calls Try.prog 42 #[.pointer (some ⟨m, 0, none⟩), .agg #[.int .i64 b, .int .i64 p, .int .i64 (i : Int), .int .i64 0]] w fun e w' => e = .returned (.agg #[.int .u64 r, .int .i64 c, .int .u64 id, .int .i64 pb]) ∧ Below w.heap.size w w' := by
  have hil : i < L.length := (List.getElem?_eq_some_iff.1 hl).1
  have hβi : β < ids.length := (List.getElem?_eq_some_iff.1 hid).1
  have hβb : β < bst.length := (List.getElem?_eq_some_iff.1 hb).1
  obtain ⟨pi, capi, bi, offi, rfl, hpi, hci⟩ := h.idr
  obtain ⟨pl, capl, bl, offl, rfl, hpl, hcl⟩ := h.lkr
  obtain ⟨pv, capv, bv, offv, rfl, hpv, hcv⟩ := h.bsr
  obtain rfl := hpi (by rintro rfl; simp at hβi)
  obtain rfl := hpl (by rintro rfl; simp at hil)
  obtain rfl := hpv (by rintro rfl; simp at hβb)
  have m0 : w.cell? ⟨m, 0, none⟩ = some (.slice (some ⟨bi, offi, none⟩) ids.length capi) := cell_of_block h.mesh rfl
  have m1 : w.cell? ⟨m, 1, none⟩ = some (.slice (some ⟨bl, offl, none⟩) L.length capl) := cell_of_block h.mesh rfl
  have m3 : w.cell? ⟨m, 3, none⟩ = some (.slice (some ⟨bv, offv, none⟩) bst.length capv) := cell_of_block h.mesh rfl
  have l0 : w.cell? ⟨bl, offl + i * 5, none⟩ = some (.int .i64 a) := hcl i _ hl 0 _ rfl
  have l1 : w.cell? ⟨bl, offl + i * 5 + 1, none⟩ = some (.int .i64 pa) := hcl i _ hl 1 _ rfl
  have l2 : w.cell? ⟨bl, offl + i * 5 + 2, none⟩ = some (.int .i64 (β : Int)) := hcl i _ hl 2 _ rfl
  have l3 : w.cell? ⟨bl, offl + i * 5 + 3, none⟩ = some (.int .i64 pb) := hcl i _ hl 3 _ rfl
  have l4 : w.cell? ⟨bl, offl + i * 5 + 4, none⟩ = some (.int .i64 k) := hcl i _ hl 4 _ rfl
  have KF := Lib.hid fun (U : World) (kz : Below w.heap.size w U) => (⟨gcell_below kz m1, gcell_below kz l0, gcell_below kz l1, gcell_below kz l2, gcell_below kz l3, gcell_below kz l4⟩ : U.cell? ⟨m, 1, none⟩ = some (.slice (some ⟨bl, offl, none⟩) L.length capl) ∧ U.cell? ⟨bl, offl + i * 5, none⟩ = some (.int .i64 a) ∧ U.cell? ⟨bl, offl + i * 5 + 1, none⟩ = some (.int .i64 pa) ∧ U.cell? ⟨bl, offl + i * 5 + 2, none⟩ = some (.int .i64 (β : Int)) ∧ U.cell? ⟨bl, offl + i * 5 + 3, none⟩ = some (.int .i64 pb) ∧ U.cell? ⟨bl, offl + i * 5 + 4, none⟩ = some (.int .i64 k))
  have d1 : decide ((i : Int) < (L.length : Int)) = true := decide_eq_true (by omega)
  have d2 : decide (i < L.length) = true := decide_eq_true hil
  have d3 : decide (L.length ≤ i) = false := decide_eq_false (by omega)
  have d4 : decide (0 ≤ (i : Int)) = true := decide_eq_true (by omega)
  go_enter Try.func42, Try.ntmps42
  go_upto_region 1 with fail
  have KW := Lib.hid (show Below w.heap.size w ((w.alloc (.cells #[.int .i64 b, .int .i64 p, .int .i64 (i : Int), .int .i64 0] 54)).alloc (.cells #[.int .u64 0, .int .i64 0, .int .u64 0, .int .i64 0] 79)) from ((Below.refl _ w).alloc (Nat.le_refl _) _).alloc (by simp) _)
  have HE := Lib.hid (show ((w.alloc (.cells #[.int .i64 b, .int .i64 p, .int .i64 (i : Int), .int .i64 0] 54)).alloc (.cells #[.int .u64 0, .int .i64 0, .int .u64 0, .int .i64 0] 79)).heap[w.heap.size]? = some (.cells #[.int .i64 b, .int .i64 p, .int .i64 (i : Int), .int .i64 0] 54 (0, 0)) from heap_old (heap_new w _))
  have HR := Lib.hid (show ((w.alloc (.cells #[.int .i64 b, .int .i64 p, .int .i64 (i : Int), .int .i64 0] 54)).alloc (.cells #[.int .u64 0, .int .i64 0, .int .u64 0, .int .i64 0] 79)).heap[w.heap.size + 1]? = some (.cells #[.int .u64 0, .int .i64 0, .int .u64 0, .int .i64 0] 79 (0, 0)) from by have h := heap_new (w.alloc (.cells #[.int .i64 b, .int .i64 p, .int .i64 (i : Int), .int .i64 0] 54)) (.cells #[.int .u64 0, .int .i64 0, .int .u64 0, .int .i64 0] 79); simpa using h)
  generalize (w.alloc (.cells #[.int .i64 b, .int .i64 p, .int .i64 (i : Int), .int .i64 0] 54)).alloc (.cells #[.int .u64 0, .int .i64 0, .int .u64 0, .int .i64 0] 79) = W2 at KW HE HR ⊢
  generalize hrb : w.heap.size + 1 = rb at HR ⊢
  generalize heb : w.heap.size = eb at HE ⊢
  have e2 : W2.cell? ⟨eb, 2, none⟩ = some (.int .i64 (i : Int)) := cell_of_block HE.out rfl
  have e3 : W2.cell? ⟨eb, 3, none⟩ = some (.int .i64 0) := cell_of_block HE.out rfl
  have KG := Lib.hid fun (U : World) (kz : Below W2.heap.size W2 U) => (⟨gcell_below kz e2, gcell_below kz e3, KF.out U (by have k1 := KW.out.trans (kz.mono KW.out.size); rw [heb] at k1 ⊢; exact k1)⟩ : U.cell? ⟨eb, 2, none⟩ = some (.int .i64 (i : Int)) ∧ U.cell? ⟨eb, 3, none⟩ = some (.int .i64 0) ∧ U.cell? ⟨m, 1, none⟩ = some (.slice (some ⟨bl, offl, none⟩) L.length capl) ∧ U.cell? ⟨bl, offl + i * 5, none⟩ = some (.int .i64 a) ∧ U.cell? ⟨bl, offl + i * 5 + 1, none⟩ = some (.int .i64 pa) ∧ U.cell? ⟨bl, offl + i * 5 + 2, none⟩ = some (.int .i64 (β : Int)) ∧ U.cell? ⟨bl, offl + i * 5 + 3, none⟩ = some (.int .i64 pb) ∧ U.cell? ⟨bl, offl + i * 5 + 4, none⟩ = some (.int .i64 k))
  have k0 := (Below.refl W2.heap.size W2).drew
  have IX := fun U => index_1 a pa (i : Int) 0 (β : Int) pb (i : Int) 1 U
  have CE := Lib.hid fun (U : World) => endsOf_c (i : Int) a pa (β : Int) pb k U
  refine wp_region_held_drew (S := fun U => U.cell? ⟨eb, 2, none⟩ = some (.int .i64 (i : Int)) ∧ U.cell? ⟨eb, 3, none⟩ = some (.int .i64 0) ∧ U.cell? ⟨m, 1, none⟩ = some (.slice (some ⟨bl, offl, none⟩) L.length capl) ∧ U.cell? ⟨bl, offl + i * 5, none⟩ = some (.int .i64 a) ∧ U.cell? ⟨bl, offl + i * 5 + 1, none⟩ = some (.int .i64 pa) ∧ U.cell? ⟨bl, offl + i * 5 + 2, none⟩ = some (.int .i64 (β : Int)) ∧ U.cell? ⟨bl, offl + i * 5 + 3, none⟩ = some (.int .i64 pb) ∧ U.cell? ⟨bl, offl + i * 5 + 4, none⟩ = some (.int .i64 k)) (by kernel_rfl) (KG.out _ k0) (fun hH => ?_)
  refine wpAnyH_take (i := 0) (oi := { dst := some 7, op := Op.fieldAddr 54 (Operand.tmp 3) 2, type := 0, pos := "round.go:52", after := #[], guard := none }) (v := .pointer (some ⟨eb, 2, none⟩)) rfl (by kernel_rfl) (by kernel_rfl) (by kernel_rfl) (fun _ _ _ h => h) (Or.inl ⟨by kernel_rfl, ?_⟩) hH ?_
  · intro w hSw; (try dsimp only at hSw); go_simp; try rfl
  try simp only [Act.put, List.setIfInBounds_toArray, List.set_cons_zero, List.set_cons_succ]
  refine wpAnyH_take (i := 1) (oi := { dst := some 8, op := Op.load 3 (Operand.tmp 7), type := 3, pos := "round.go:52", after := #[{ on := 0, ground := Ground.data }], guard := none }) (v := .int .i64 (i : Int)) rfl (by kernel_rfl) (by kernel_rfl) (by kernel_rfl) (fun _ _ _ h => h) (Or.inl ⟨by kernel_rfl, ?_⟩) hH ?_
  · intro w hSw; (try dsimp only at hSw); go_simp; try rfl
  try simp only [Act.put, List.setIfInBounds_toArray, List.set_cons_zero, List.set_cons_succ]
  refine wpAnyH_take (i := 2) (oi := { dst := some 9, op := Op.move (Operand.tmp 0), type := 57, pos := "round.go:52", after := #[], guard := none }) (v := .pointer (some ⟨m, 0, none⟩)) rfl (by kernel_rfl) (by kernel_rfl) (by kernel_rfl) (fun _ _ _ h => h) (Or.inl ⟨by kernel_rfl, ?_⟩) hH ?_
  · intro w hSw; (try dsimp only at hSw); go_simp; try rfl
  try simp only [Act.put, List.setIfInBounds_toArray, List.set_cons_zero, List.set_cons_succ]
  refine wpAnyH_take (i := 3) (oi := { dst := some 10, op := Op.nilCheck (Operand.tmp 9), type := 0, pos := "round.go:52", after := #[{ on := 2, ground := Ground.data }], guard := none }) (v := .pointer (some ⟨m, 0, none⟩)) rfl (by kernel_rfl) (by kernel_rfl) (by kernel_rfl) (fun _ _ _ h => h) (Or.inl ⟨by kernel_rfl, ?_⟩) hH ?_
  · intro w hSw; (try dsimp only at hSw); go_simp; try rfl
  try simp only [Act.put, List.setIfInBounds_toArray, List.set_cons_zero, List.set_cons_succ]
  refine wpAnyH_take (i := 4) (oi := { dst := some 11, op := Op.fieldAddr 65 (Operand.tmp 10) 1, type := 0, pos := "round.go:52", after := #[{ on := 3, ground := Ground.data }], guard := none }) (v := .pointer (some ⟨m, 1, none⟩)) rfl (by kernel_rfl) (by kernel_rfl) (by kernel_rfl) (fun _ _ _ h => h) (Or.inl ⟨by kernel_rfl, ?_⟩) hH ?_
  · intro w hSw; (try dsimp only at hSw); go_simp; try rfl
  try simp only [Act.put, List.setIfInBounds_toArray, List.set_cons_zero, List.set_cons_succ]
  refine wpAnyH_take (i := 5) (oi := { dst := some 12, op := Op.load 28 (Operand.tmp 11), type := 28, pos := "round.go:52", after := #[{ on := 4, ground := Ground.data }], guard := none }) (v := .slice (some ⟨bl, offl, none⟩) L.length capl) rfl (by kernel_rfl) (by kernel_rfl) (by kernel_rfl) (fun _ _ _ h => h) (Or.inl ⟨by kernel_rfl, ?_⟩) hH ?_
  · intro w hSw; (try dsimp only at hSw); go_simp; try rfl
  try simp only [Act.put, List.setIfInBounds_toArray, List.set_cons_zero, List.set_cons_succ]
  refine wpAnyH_take (i := 6) (oi := { dst := some 13, op := Op.fieldAddr 54 (Operand.tmp 3) 2, type := 0, pos := "round.go:52", after := #[], guard := none }) (v := .pointer (some ⟨eb, 2, none⟩)) rfl (by kernel_rfl) (by kernel_rfl) (by kernel_rfl) (fun _ _ _ h => h) (Or.inl ⟨by kernel_rfl, ?_⟩) hH ?_
  · intro w hSw; (try dsimp only at hSw); go_simp; try rfl
  try simp only [Act.put, List.setIfInBounds_toArray, List.set_cons_zero, List.set_cons_succ]
  refine wpAnyH_take (i := 7) (oi := { dst := some 14, op := Op.load 3 (Operand.tmp 13), type := 3, pos := "round.go:52", after := #[{ on := 6, ground := Ground.data }], guard := none }) (v := .int .i64 (i : Int)) rfl (by kernel_rfl) (by kernel_rfl) (by kernel_rfl) (fun _ _ _ h => h) (Or.inl ⟨by kernel_rfl, ?_⟩) hH ?_
  · intro w hSw; (try dsimp only at hSw); go_simp; try rfl
  try simp only [Act.put, List.setIfInBounds_toArray, List.set_cons_zero, List.set_cons_succ]
  refine wpAnyH_take (i := 8) (oi := { dst := some 15, op := Op.indexAddr 28 (Operand.tmp 12) (Operand.tmp 14), type := 0, pos := "round.go:52", after := #[{ on := 5, ground := Ground.data }, { on := 7, ground := Ground.data }], guard := none }) (v := .pointer (some ⟨bl, offl + i * 5, none⟩)) rfl (by kernel_rfl) (by kernel_rfl) (by kernel_rfl) (fun _ _ _ h => h) (Or.inl ⟨by kernel_rfl, ?_⟩) hH ?_
  · intro w hSw; (try dsimp only at hSw); go_simp; try rfl
  try simp only [Act.put, List.setIfInBounds_toArray, List.set_cons_zero, List.set_cons_succ]
  refine wpAnyH_take (i := 9) (oi := { dst := some 16, op := Op.load 45 (Operand.tmp 15), type := 45, pos := "round.go:52", after := #[{ on := 8, ground := Ground.data }], guard := none }) (v := .agg #[.int .i64 a, .int .i64 pa, .int .i64 (β : Int), .int .i64 pb, .int .i64 k]) rfl (by kernel_rfl) (by kernel_rfl) (by kernel_rfl) (fun _ _ _ h => h) (Or.inl ⟨by kernel_rfl, ?_⟩) hH ?_
  · intro w hSw; (try dsimp only at hSw); go_simp; try rfl
  try simp only [Act.put, List.setIfInBounds_toArray, List.set_cons_zero, List.set_cons_succ]
  refine wpAnyH_take (i := 11) (oi := { dst := some 18, op := Op.fieldAddr 54 (Operand.tmp 3) 3, type := 0, pos := "round.go:52", after := #[], guard := none }) (v := .pointer (some ⟨eb, 3, none⟩)) rfl (by kernel_rfl) (by kernel_rfl) (by kernel_rfl) (fun _ _ _ h => h) (Or.inl ⟨by kernel_rfl, ?_⟩) hH ?_
  · intro w hSw; (try dsimp only at hSw); go_simp; try rfl
  try simp only [Act.put, List.setIfInBounds_toArray, List.set_cons_zero, List.set_cons_succ]
  refine wpAnyH_take (i := 12) (oi := { dst := some 19, op := Op.load 3 (Operand.tmp 18), type := 3, pos := "round.go:52", after := #[{ on := 11, ground := Ground.data }], guard := none }) (v := .int .i64 0) rfl (by kernel_rfl) (by kernel_rfl) (by kernel_rfl) (fun _ _ _ h => h) (Or.inl ⟨by kernel_rfl, ?_⟩) hH ?_
  · intro w hSw; (try dsimp only at hSw); go_simp; try rfl
  try simp only [Act.put, List.setIfInBounds_toArray, List.set_cons_zero, List.set_cons_succ]
  refine wpAnyH_take (i := 13) (oi := { dst := some 20, op := Op.binOp BinOp.sub 3 (Operand.const (Value.int IntKind.i64 1)) (Operand.tmp 19) 3, type := 3, pos := "round.go:52", after := #[{ on := 12, ground := Ground.data }], guard := none }) (v := .int .i64 1) rfl (by kernel_rfl) (by kernel_rfl) (by kernel_rfl) (fun _ _ _ h => h) (Or.inl ⟨by kernel_rfl, ?_⟩) hH ?_
  · intro w hSw; (try dsimp only at hSw); go_simp; try rfl
  try simp only [Act.put, List.setIfInBounds_toArray, List.set_cons_zero, List.set_cons_succ]
  refine wpAnyH_ready (rs := [10, 15]) (by kernel_rfl) (by simp) ?_
  refine AllReadyH.cons rfl (fun K hK => ?_) ?_
  · go_simp
    with_reducible refine (CE.out _).mono ?_
    rintro e w8 ⟨rfl, hb8⟩
    try go_wp2_with fail
    have k8 := k0.trans (hb8.mono k0.size)
    refine hK.out _ _ (KG.out _ k8) (fun hH => ?_)
    clear hK K
    try simp only [Act.put, List.setIfInBounds_toArray, List.set_cons_zero, List.set_cons_succ]
    refine wpAnyH_take (i := 14) (oi := { dst := some 21, op := Op.index 72 (Operand.tmp 17) (Operand.tmp 20), type := 54, pos := "round.go:52", after := #[{ on := 10, ground := Ground.data }, { on := 13, ground := Ground.data }], guard := none }) (v := .agg #[.int .i64 (β : Int), .int .i64 pb, .int .i64 (i : Int), .int .i64 1]) rfl (by kernel_rfl) (by kernel_rfl) (by kernel_rfl) (fun _ _ _ h => h) (Or.inl ⟨by kernel_rfl, ?_⟩) hH ?_
    · intro w hSw; (try dsimp only at hSw); go_simp; try rfl
    try simp only [Act.put, List.setIfInBounds_toArray, List.set_cons_zero, List.set_cons_succ]
    refine wpAnyH_ready (rs := [15]) (by kernel_rfl) (by simp) ?_
    refine AllReadyH.cons rfl (fun K hK => ?_) AllReadyH.nil
    go_simp
    refine hK.out _ _ (KG.out _ (k8.alloc k8.size _)) (fun hH => ?_)
    clear hK K
    try simp only [Act.put, List.setIfInBounds_toArray, List.set_cons_zero, List.set_cons_succ]
    refine wpAnyH_ready (rs := [16]) (by kernel_rfl) (by simp) ?_
    refine AllReadyH.cons rfl (fun K hK => ?_) AllReadyH.nil
    go_simp
    have kx := k8.alloc k8.size (.cells #[.int .i64 (β : Int), .int .i64 pb, .int .i64 (i : Int), .int .i64 1] 54)
    have bx := heap_new w8 (.cells #[.int .i64 (β : Int), .int .i64 pb, .int .i64 (i : Int), .int .i64 1] 54)
    refine hK.out _ _ (KG.out _ kx) (fun hH => ?_)
    clear hK K
    try simp only [Act.put, List.setIfInBounds_toArray, List.set_cons_zero, List.set_cons_succ]
    refine wpAnyH_done (by kernel_rfl) ?_ _
    clear k8 hb8
    generalize w8.alloc (.cells #[.int .i64 (β : Int), .int .i64 pb, .int .i64 (i : Int), .int .i64 1] 54) = WX at kx bx hH ⊢
    generalize w8.heap.size = xb at bx ⊢
    clear hH
    have KX := Lib.hid (show Below w.heap.size w WX from by have k1 := KW.out.trans (kx.mono KW.out.size); rw [heb] at k1 ⊢; exact k1)
    have HRX := Lib.hid (below_block kx (lt_of_block HR.out) HR.out)
    have HMX := Lib.hid (h.below KX.out)
    have v3 : WX.cell? ⟨m, 3, none⟩ = some (.slice (some ⟨bv, offv, none⟩) bst.length capv) := cell_of_block HMX.out.mesh rfl
    have v0 : WX.cell? ⟨m, 0, none⟩ = some (.slice (some ⟨bi, offi, none⟩) ids.length capi) := cell_of_block HMX.out.mesh rfl
    have c0 : WX.cell? ⟨bv, offv + β * 4, none⟩ = some (.int .u64 r) := gcell_below KX.out (hcv β _ hb 0 _ rfl)
    have c1 : WX.cell? ⟨bv, offv + β * 4 + 1, none⟩ = some (.int .i64 c) := gcell_below KX.out (hcv β _ hb 1 _ rfl)
    have c2 : WX.cell? ⟨bv, offv + β * 4 + 2, none⟩ = some (.int .u64 g) := gcell_below KX.out (hcv β _ hb 2 _ rfl)
    have c3 : WX.cell? ⟨bv, offv + β * 4 + 3, none⟩ = some (.int .i64 q) := gcell_below KX.out (hcv β _ hb 3 _ rfl)
    have o0 : WX.cell? ⟨xb, 0, none⟩ = some (.int .i64 (β : Int)) := cell_of_block bx rfl
    have o1 : WX.cell? ⟨xb, 1, none⟩ = some (.int .i64 pb) := cell_of_block bx rfl
    have lt1 : m < WX.heap.size := gcell_lt v3
    have lt2 : bv < WX.heap.size := gcell_lt c0
    have lt3 : xb < WX.heap.size := gcell_lt o0
    have f1 : decide ((β : Int) < (bst.length : Int)) = true := decide_eq_true (by omega)
    have f2 : decide (β < bst.length) = true := decide_eq_true hβb
    have f3 : decide (bst.length ≤ β) = false := decide_eq_false (by omega)
    have f4 : decide (0 ≤ (β : Int)) = true := decide_eq_true (by omega)
    clear d1 d2 d3 d4 KG CE k0 IX e2 e3
    go_wp2_with fail
    go_region
    all_goals
      have KY0 := Lib.hid (show Below WX.heap.size WX ((WX.alloc (.cells #[.int .u64 r, .int .i64 c, .int .u64 g, .int .i64 q] 79)).drew) from ((Below.refl _ WX).alloc (Nat.le_refl _) _).drew)
      have BY := Lib.hid (show ((WX.alloc (.cells #[.int .u64 r, .int .i64 c, .int .u64 g, .int .i64 q] 79)).drew).heap[WX.heap.size]? = some (.cells #[.int .u64 r, .int .i64 c, .int .u64 g, .int .i64 q] 79 (0, 0)) from heap_new WX _)
      clear lt1 lt2 lt3 v3 c0 c1 c2 c3 f1 f2 f3
      generalize ((WX.alloc (.cells #[.int .u64 r, .int .i64 c, .int .u64 g, .int .i64 q] 79)).drew) = WY at KY0 BY ⊢
      have KY := Lib.hid (KX.out.trans (KY0.out.mono KX.out.size))
      have HRY := Lib.hid (below_block KY0.out (lt_of_block HRX.out) HRX.out)
      have u0 : WY.cell? ⟨WX.heap.size, 0, none⟩ = some (.int .u64 r) := cell_of_block BY.out rfl
      have u1 : WY.cell? ⟨WX.heap.size, 1, none⟩ = some (.int .i64 c) := cell_of_block BY.out rfl
      have y0 : WY.cell? ⟨m, 0, none⟩ = some (.slice (some ⟨bi, offi, none⟩) ids.length capi) := gcell_below KY0.out v0
      have y1 : WY.cell? ⟨xb, 0, none⟩ = some (.int .i64 (β : Int)) := gcell_below KY0.out o0
      have y2 : WY.cell? ⟨xb, 1, none⟩ = some (.int .i64 pb) := gcell_below KY0.out o1
      have yi : WY.cell? ⟨bi, offi + β, none⟩ = some (.int .u64 id) := gcell_below KY.out (show w.cell? ⟨bi, offi + β, none⟩ = some (.int .u64 id) by have := hci β _ hid 0 _ rfl; simpa using this)
      have s0 : WY.cell? ⟨rb, 0, none⟩ = some (.int .u64 0) := cell_of_block HRY.out rfl
      have s1 : WY.cell? ⟨rb, 1, none⟩ = some (.int .i64 0) := cell_of_block HRY.out rfl
      have s2 : WY.cell? ⟨rb, 2, none⟩ = some (.int .u64 0) := cell_of_block HRY.out rfl
      have s3 : WY.cell? ⟨rb, 3, none⟩ = some (.int .i64 0) := cell_of_block HRY.out rfl
      have t0 := free_of_block (j := 0) HRY.out
      have t1 := free_of_block (j := 1) HRY.out
      have t2 := free_of_block (j := 2) HRY.out
      have t3 := free_of_block (j := 3) HRY.out
      have f1 : decide ((β : Int) < (ids.length : Int)) = true := decide_eq_true (by omega)
      have f2 : decide (β < ids.length) = true := decide_eq_true hβi
      have f3 : decide (ids.length ≤ β) = false := decide_eq_false (by omega)
      generalize WX.heap.size = vx at u0 u1 ⊢
      go_wp2_with fail
      go_still_tail 15, (by kernel_rfl)
      change wpList _ _ _ _ _ WY.drew
      go_wp2_with fail
      have BZ := Lib.hid (show (((((WY.setCell ⟨rb, 0, none⟩ (.int .u64 r)).setCell ⟨rb, 1, none⟩ (.int .i64 c)).setCell ⟨rb, 2, none⟩ (.int .u64 id)).setCell ⟨rb, 3, none⟩ (.int .i64 pb)).drew).heap[rb]? = some (.cells #[.int .u64 r, .int .i64 c, .int .u64 id, .int .i64 pb] 79 (0, 0)) from heap_store (j := 3) (v := .int .i64 pb) (heap_store (j := 2) (v := .int .u64 id) (heap_store (j := 1) (v := .int .i64 c) (heap_store (j := 0) (v := .int .u64 r) HRY.out))))
      have KZ := Lib.hid (show Below w.heap.size w (((((WY.setCell ⟨rb, 0, none⟩ (.int .u64 r)).setCell ⟨rb, 1, none⟩ (.int .i64 c)).setCell ⟨rb, 2, none⟩ (.int .u64 id)).setCell ⟨rb, 3, none⟩ (.int .i64 pb)).drew) from (((((KY.out.setCell (p := ⟨rb, 0, none⟩) (by show w.heap.size ≤ rb; omega) _).setCell (p := ⟨rb, 1, none⟩) (by show w.heap.size ≤ rb; omega) _).setCell (p := ⟨rb, 2, none⟩) (by show w.heap.size ≤ rb; omega) _).setCell (p := ⟨rb, 3, none⟩) (by show w.heap.size ≤ rb; omega) _)).drew)
      generalize ((((WY.setCell ⟨rb, 0, none⟩ (.int .u64 r)).setCell ⟨rb, 1, none⟩ (.int .i64 c)).setCell ⟨rb, 2, none⟩ (.int .u64 id)).setCell ⟨rb, 3, none⟩ (.int .i64 pb)).drew = W9 at BZ KZ ⊢
      have w0 : W9.cell? ⟨rb, 0, none⟩ = some (.int .u64 r) := cell_of_block BZ.out rfl
      have w1 : W9.cell? ⟨rb, 1, none⟩ = some (.int .i64 c) := cell_of_block BZ.out rfl
      have w2 : W9.cell? ⟨rb, 2, none⟩ = some (.int .u64 id) := cell_of_block BZ.out rfl
      have w3 : W9.cell? ⟨rb, 3, none⟩ = some (.int .i64 pb) := cell_of_block BZ.out rfl
      refine bodyPost_ret (v := .agg #[.int .u64 r, .int .i64 c, .int .u64 id, .int .i64 pb]) (by simp [results, Try.results42, go_sem, w0, w1, w2, w3]) rfl ⟨rfl, KZ.out⟩
  · refine AllReadyH.cons rfl (fun K hK => ?_) AllReadyH.nil
    go_simp
    have k1 := (k0.alloc k0.size (.cells #[.int .i64 0, .int .i64 0, .int .i64 0, .int .i64 0] 54))
    have b1 : ((W2.alloc (.cells #[.int .i64 0, .int .i64 0, .int .i64 0, .int .i64 0] 54)).drew).heap[W2.heap.size]? = some (.cells #[.int .i64 0, .int .i64 0, .int .i64 0, .int .i64 0] 54 (0, 0)) := heap_new W2 (.cells #[.int .i64 0, .int .i64 0, .int .i64 0, .int .i64 0] 54)
    refine hK.out _ _ (KG.out _ k1) (fun hH => ?_)
    clear hK K
    try simp only [Act.put, List.setIfInBounds_toArray, List.set_cons_zero, List.set_cons_succ]
    refine wpAnyH_ready (rs := [10]) (by kernel_rfl) (by simp) ?_
    refine AllReadyH.cons rfl (fun K hK => ?_) AllReadyH.nil
    go_simp
    with_reducible refine (CE.out _).mono ?_
    rintro e w8 ⟨rfl, hb8⟩
    try go_wp2_with fail
    have k8 := k1.trans (hb8.mono k1.size)
    have b8 := below_block hb8 (lt_of_block b1) b1
    refine hK.out _ _ (KG.out _ k8) (fun hH => ?_)
    clear hK K
    try simp only [Act.put, List.setIfInBounds_toArray, List.set_cons_zero, List.set_cons_succ]
    refine wpAnyH_take (i := 14) (oi := { dst := some 21, op := Op.index 72 (Operand.tmp 17) (Operand.tmp 20), type := 54, pos := "round.go:52", after := #[{ on := 10, ground := Ground.data }, { on := 13, ground := Ground.data }], guard := none }) (v := .agg #[.int .i64 (β : Int), .int .i64 pb, .int .i64 (i : Int), .int .i64 1]) rfl (by kernel_rfl) (by kernel_rfl) (by kernel_rfl) (fun _ _ _ h => h) (Or.inl ⟨by kernel_rfl, ?_⟩) hH ?_
    · intro w hSw; (try dsimp only at hSw); go_simp; try rfl
    try simp only [Act.put, List.setIfInBounds_toArray, List.set_cons_zero, List.set_cons_succ]
    have z0 := cell_of_block (j := 0) b8 rfl
    have fz0 := free_of_block (j := 0) b8
    have z1 := cell_of_block (j := 1) b8 rfl
    have fz1 := free_of_block (j := 1) b8
    have z2 := cell_of_block (j := 2) b8 rfl
    have fz2 := free_of_block (j := 2) b8
    have z3 := cell_of_block (j := 3) b8 rfl
    have fz3 := free_of_block (j := 3) b8
    refine wpAnyH_ready (rs := [16]) (by kernel_rfl) (by simp) ?_
    refine AllReadyH.cons rfl (fun K hK => ?_) AllReadyH.nil
    go_simp
    have kx := ((((k8.setCell (p := ⟨W2.heap.size, 0, none⟩) (Nat.le_refl _) (.int .i64 (β : Int))).setCell (p := ⟨W2.heap.size, 1, none⟩) (Nat.le_refl _) (.int .i64 pb)).setCell (p := ⟨W2.heap.size, 2, none⟩) (Nat.le_refl _) (.int .i64 (i : Int))).setCell (p := ⟨W2.heap.size, 3, none⟩) (Nat.le_refl _) (.int .i64 1))
    have bx : ((((w8.setCell ⟨W2.heap.size, 0, none⟩ (.int .i64 (β : Int))).setCell ⟨W2.heap.size, 1, none⟩ (.int .i64 pb)).setCell ⟨W2.heap.size, 2, none⟩ (.int .i64 (i : Int))).setCell ⟨W2.heap.size, 3, none⟩ (.int .i64 1)).heap[W2.heap.size]? = some (.cells #[.int .i64 (β : Int), .int .i64 pb, .int .i64 (i : Int), .int .i64 1] 54 (0, 0)) := (heap_store (j := 3) (v := .int .i64 1) (heap_store (j := 2) (v := .int .i64 (i : Int)) (heap_store (j := 1) (v := .int .i64 pb) (heap_store (j := 0) (v := .int .i64 (β : Int)) b8))))
    refine hK.out _ _ (KG.out _ kx) (fun hH => ?_)
    clear hK K
    try simp only [Act.put, List.setIfInBounds_toArray, List.set_cons_zero, List.set_cons_succ]
    refine wpAnyH_done (by kernel_rfl) ?_ _
    clear k8 hb8 b1 b8 z0 z1 z2 z3 fz0 fz1 fz2 fz3
    generalize ((((w8.setCell ⟨W2.heap.size, 0, none⟩ (.int .i64 (β : Int))).setCell ⟨W2.heap.size, 1, none⟩ (.int .i64 pb)).setCell ⟨W2.heap.size, 2, none⟩ (.int .i64 (i : Int))).setCell ⟨W2.heap.size, 3, none⟩ (.int .i64 1)) = WX at kx bx hH ⊢
    clear hH
    have KX := Lib.hid (show Below w.heap.size w WX from by have k1 := KW.out.trans (kx.mono KW.out.size); rw [heb] at k1 ⊢; exact k1)
    have HRX := Lib.hid (below_block kx (lt_of_block HR.out) HR.out)
    have HMX := Lib.hid (h.below KX.out)
    have v3 : WX.cell? ⟨m, 3, none⟩ = some (.slice (some ⟨bv, offv, none⟩) bst.length capv) := cell_of_block HMX.out.mesh rfl
    have v0 : WX.cell? ⟨m, 0, none⟩ = some (.slice (some ⟨bi, offi, none⟩) ids.length capi) := cell_of_block HMX.out.mesh rfl
    have c0 : WX.cell? ⟨bv, offv + β * 4, none⟩ = some (.int .u64 r) := gcell_below KX.out (hcv β _ hb 0 _ rfl)
    have c1 : WX.cell? ⟨bv, offv + β * 4 + 1, none⟩ = some (.int .i64 c) := gcell_below KX.out (hcv β _ hb 1 _ rfl)
    have c2 : WX.cell? ⟨bv, offv + β * 4 + 2, none⟩ = some (.int .u64 g) := gcell_below KX.out (hcv β _ hb 2 _ rfl)
    have c3 : WX.cell? ⟨bv, offv + β * 4 + 3, none⟩ = some (.int .i64 q) := gcell_below KX.out (hcv β _ hb 3 _ rfl)
    have o0 : WX.cell? ⟨W2.heap.size, 0, none⟩ = some (.int .i64 (β : Int)) := cell_of_block bx rfl
    have o1 : WX.cell? ⟨W2.heap.size, 1, none⟩ = some (.int .i64 pb) := cell_of_block bx rfl
    have lt1 : m < WX.heap.size := gcell_lt v3
    have lt2 : bv < WX.heap.size := gcell_lt c0
    have lt3 : W2.heap.size < WX.heap.size := gcell_lt o0
    have f1 : decide ((β : Int) < (bst.length : Int)) = true := decide_eq_true (by omega)
    have f2 : decide (β < bst.length) = true := decide_eq_true hβb
    have f3 : decide (bst.length ≤ β) = false := decide_eq_false (by omega)
    have f4 : decide (0 ≤ (β : Int)) = true := decide_eq_true (by omega)
    clear d1 d2 d3 d4 KG CE k0 IX e2 e3
    go_wp2_with fail
    go_region
    all_goals
      have KY0 := Lib.hid (show Below WX.heap.size WX ((WX.alloc (.cells #[.int .u64 r, .int .i64 c, .int .u64 g, .int .i64 q] 79)).drew) from ((Below.refl _ WX).alloc (Nat.le_refl _) _).drew)
      have BY := Lib.hid (show ((WX.alloc (.cells #[.int .u64 r, .int .i64 c, .int .u64 g, .int .i64 q] 79)).drew).heap[WX.heap.size]? = some (.cells #[.int .u64 r, .int .i64 c, .int .u64 g, .int .i64 q] 79 (0, 0)) from heap_new WX _)
      clear lt1 lt2 lt3 v3 c0 c1 c2 c3 f1 f2 f3
      generalize ((WX.alloc (.cells #[.int .u64 r, .int .i64 c, .int .u64 g, .int .i64 q] 79)).drew) = WY at KY0 BY ⊢
      have KY := Lib.hid (KX.out.trans (KY0.out.mono KX.out.size))
      have HRY := Lib.hid (below_block KY0.out (lt_of_block HRX.out) HRX.out)
      have u0 : WY.cell? ⟨WX.heap.size, 0, none⟩ = some (.int .u64 r) := cell_of_block BY.out rfl
      have u1 : WY.cell? ⟨WX.heap.size, 1, none⟩ = some (.int .i64 c) := cell_of_block BY.out rfl
      have y0 : WY.cell? ⟨m, 0, none⟩ = some (.slice (some ⟨bi, offi, none⟩) ids.length capi) := gcell_below KY0.out v0
      have y1 : WY.cell? ⟨W2.heap.size, 0, none⟩ = some (.int .i64 (β : Int)) := gcell_below KY0.out o0
      have y2 : WY.cell? ⟨W2.heap.size, 1, none⟩ = some (.int .i64 pb) := gcell_below KY0.out o1
      have yi : WY.cell? ⟨bi, offi + β, none⟩ = some (.int .u64 id) := gcell_below KY.out (show w.cell? ⟨bi, offi + β, none⟩ = some (.int .u64 id) by have := hci β _ hid 0 _ rfl; simpa using this)
      have s0 : WY.cell? ⟨rb, 0, none⟩ = some (.int .u64 0) := cell_of_block HRY.out rfl
      have s1 : WY.cell? ⟨rb, 1, none⟩ = some (.int .i64 0) := cell_of_block HRY.out rfl
      have s2 : WY.cell? ⟨rb, 2, none⟩ = some (.int .u64 0) := cell_of_block HRY.out rfl
      have s3 : WY.cell? ⟨rb, 3, none⟩ = some (.int .i64 0) := cell_of_block HRY.out rfl
      have t0 := free_of_block (j := 0) HRY.out
      have t1 := free_of_block (j := 1) HRY.out
      have t2 := free_of_block (j := 2) HRY.out
      have t3 := free_of_block (j := 3) HRY.out
      have f1 : decide ((β : Int) < (ids.length : Int)) = true := decide_eq_true (by omega)
      have f2 : decide (β < ids.length) = true := decide_eq_true hβi
      have f3 : decide (ids.length ≤ β) = false := decide_eq_false (by omega)
      generalize WX.heap.size = vx at u0 u1 ⊢
      go_wp2_with fail
      go_still_tail 15, (by kernel_rfl)
      change wpList _ _ _ _ _ WY.drew
      go_wp2_with fail
      have BZ := Lib.hid (show (((((WY.setCell ⟨rb, 0, none⟩ (.int .u64 r)).setCell ⟨rb, 1, none⟩ (.int .i64 c)).setCell ⟨rb, 2, none⟩ (.int .u64 id)).setCell ⟨rb, 3, none⟩ (.int .i64 pb)).drew).heap[rb]? = some (.cells #[.int .u64 r, .int .i64 c, .int .u64 id, .int .i64 pb] 79 (0, 0)) from heap_store (j := 3) (v := .int .i64 pb) (heap_store (j := 2) (v := .int .u64 id) (heap_store (j := 1) (v := .int .i64 c) (heap_store (j := 0) (v := .int .u64 r) HRY.out))))
      have KZ := Lib.hid (show Below w.heap.size w (((((WY.setCell ⟨rb, 0, none⟩ (.int .u64 r)).setCell ⟨rb, 1, none⟩ (.int .i64 c)).setCell ⟨rb, 2, none⟩ (.int .u64 id)).setCell ⟨rb, 3, none⟩ (.int .i64 pb)).drew) from (((((KY.out.setCell (p := ⟨rb, 0, none⟩) (by show w.heap.size ≤ rb; omega) _).setCell (p := ⟨rb, 1, none⟩) (by show w.heap.size ≤ rb; omega) _).setCell (p := ⟨rb, 2, none⟩) (by show w.heap.size ≤ rb; omega) _).setCell (p := ⟨rb, 3, none⟩) (by show w.heap.size ≤ rb; omega) _)).drew)
      generalize ((((WY.setCell ⟨rb, 0, none⟩ (.int .u64 r)).setCell ⟨rb, 1, none⟩ (.int .i64 c)).setCell ⟨rb, 2, none⟩ (.int .u64 id)).setCell ⟨rb, 3, none⟩ (.int .i64 pb)).drew = W9 at BZ KZ ⊢
      have w0 : W9.cell? ⟨rb, 0, none⟩ = some (.int .u64 r) := cell_of_block BZ.out rfl
      have w1 : W9.cell? ⟨rb, 1, none⟩ = some (.int .i64 c) := cell_of_block BZ.out rfl
      have w2 : W9.cell? ⟨rb, 2, none⟩ = some (.int .u64 id) := cell_of_block BZ.out rfl
      have w3 : W9.cell? ⟨rb, 3, none⟩ = some (.int .i64 pb) := cell_of_block BZ.out rfl
      refine bodyPost_ret (v := .agg #[.int .u64 r, .int .i64 c, .int .u64 id, .int .i64 pb]) (by simp [results, Try.results42, go_sem, w0, w1, w2, w3]) rfl ⟨rfl, KZ.out⟩
set_option maxHeartbeats 4000000 in
set_option maxRecDepth 100000 in
theorem told_1 {w : World} {m : Nat} {vi vl vb : Value} {ab cap : Nat} {ids : List Int} {L : List Lk} {R : List Pe} {bst : List V4} (h : HasM w m vi vl vb ab cap ids L R bst) (n12 : ids.length ≤ 12) (l40 : L.length ≤ 40)
    (b p : Int) (i β : Nat) (a pa pb k : Int) (hl : L[i]? = some ((β : Int), pb, a, pa, k)) (id : Int) (hid : ids[β]? = some id) (r c g q : Int) (hb : bst[β]? = some (r, c, g, q)) :
    Calls Try.prog 42 #[.pointer (some ⟨m, 0, none⟩), .agg #[.int .i64 b, .int .i64 p, .int .i64 (i : Int), .int .i64 1]] w fun e w' => e = .returned (.agg #[.int .u64 r, .int .i64 c, .int .u64 id, .int .i64 pb]) ∧ Below w.heap.size w w' := by
  have hil : i < L.length := (List.getElem?_eq_some_iff.1 hl).1
  have hβi : β < ids.length := (List.getElem?_eq_some_iff.1 hid).1
  have hβb : β < bst.length := (List.getElem?_eq_some_iff.1 hb).1
  obtain ⟨pi, capi, bi, offi, rfl, hpi, hci⟩ := h.idr
  obtain ⟨pl, capl, bl, offl, rfl, hpl, hcl⟩ := h.lkr
  obtain ⟨pv, capv, bv, offv, rfl, hpv, hcv⟩ := h.bsr
  obtain rfl := hpi (by rintro rfl; simp at hβi)
  obtain rfl := hpl (by rintro rfl; simp at hil)
  obtain rfl := hpv (by rintro rfl; simp at hβb)
  have m0 : w.cell? ⟨m, 0, none⟩ = some (.slice (some ⟨bi, offi, none⟩) ids.length capi) := cell_of_block h.mesh rfl
  have m1 : w.cell? ⟨m, 1, none⟩ = some (.slice (some ⟨bl, offl, none⟩) L.length capl) := cell_of_block h.mesh rfl
  have m3 : w.cell? ⟨m, 3, none⟩ = some (.slice (some ⟨bv, offv, none⟩) bst.length capv) := cell_of_block h.mesh rfl
  have l0 : w.cell? ⟨bl, offl + i * 5, none⟩ = some (.int .i64 (β : Int)) := hcl i _ hl 0 _ rfl
  have l1 : w.cell? ⟨bl, offl + i * 5 + 1, none⟩ = some (.int .i64 pb) := hcl i _ hl 1 _ rfl
  have l2 : w.cell? ⟨bl, offl + i * 5 + 2, none⟩ = some (.int .i64 a) := hcl i _ hl 2 _ rfl
  have l3 : w.cell? ⟨bl, offl + i * 5 + 3, none⟩ = some (.int .i64 pa) := hcl i _ hl 3 _ rfl
  have l4 : w.cell? ⟨bl, offl + i * 5 + 4, none⟩ = some (.int .i64 k) := hcl i _ hl 4 _ rfl
  have KF := Lib.hid fun (U : World) (kz : Below w.heap.size w U) => (⟨gcell_below kz m1, gcell_below kz l0, gcell_below kz l1, gcell_below kz l2, gcell_below kz l3, gcell_below kz l4⟩ : U.cell? ⟨m, 1, none⟩ = some (.slice (some ⟨bl, offl, none⟩) L.length capl) ∧ U.cell? ⟨bl, offl + i * 5, none⟩ = some (.int .i64 (β : Int)) ∧ U.cell? ⟨bl, offl + i * 5 + 1, none⟩ = some (.int .i64 pb) ∧ U.cell? ⟨bl, offl + i * 5 + 2, none⟩ = some (.int .i64 a) ∧ U.cell? ⟨bl, offl + i * 5 + 3, none⟩ = some (.int .i64 pa) ∧ U.cell? ⟨bl, offl + i * 5 + 4, none⟩ = some (.int .i64 k))
  have d1 : decide ((i : Int) < (L.length : Int)) = true := decide_eq_true (by omega)
  have d2 : decide (i < L.length) = true := decide_eq_true hil
  have d3 : decide (L.length ≤ i) = false := decide_eq_false (by omega)
  have d4 : decide (0 ≤ (i : Int)) = true := decide_eq_true (by omega)
  go_enter Try.func42, Try.ntmps42
  go_upto_region 1 with fail
  have KW := Lib.hid (show Below w.heap.size w ((w.alloc (.cells #[.int .i64 b, .int .i64 p, .int .i64 (i : Int), .int .i64 1] 54)).alloc (.cells #[.int .u64 0, .int .i64 0, .int .u64 0, .int .i64 0] 79)) from ((Below.refl _ w).alloc (Nat.le_refl _) _).alloc (by simp) _)
  have HE := Lib.hid (show ((w.alloc (.cells #[.int .i64 b, .int .i64 p, .int .i64 (i : Int), .int .i64 1] 54)).alloc (.cells #[.int .u64 0, .int .i64 0, .int .u64 0, .int .i64 0] 79)).heap[w.heap.size]? = some (.cells #[.int .i64 b, .int .i64 p, .int .i64 (i : Int), .int .i64 1] 54 (0, 0)) from heap_old (heap_new w _))
  have HR := Lib.hid (show ((w.alloc (.cells #[.int .i64 b, .int .i64 p, .int .i64 (i : Int), .int .i64 1] 54)).alloc (.cells #[.int .u64 0, .int .i64 0, .int .u64 0, .int .i64 0] 79)).heap[w.heap.size + 1]? = some (.cells #[.int .u64 0, .int .i64 0, .int .u64 0, .int .i64 0] 79 (0, 0)) from by have h := heap_new (w.alloc (.cells #[.int .i64 b, .int .i64 p, .int .i64 (i : Int), .int .i64 1] 54)) (.cells #[.int .u64 0, .int .i64 0, .int .u64 0, .int .i64 0] 79); simpa using h)
  generalize (w.alloc (.cells #[.int .i64 b, .int .i64 p, .int .i64 (i : Int), .int .i64 1] 54)).alloc (.cells #[.int .u64 0, .int .i64 0, .int .u64 0, .int .i64 0] 79) = W2 at KW HE HR ⊢
  generalize hrb : w.heap.size + 1 = rb at HR ⊢
  generalize heb : w.heap.size = eb at HE ⊢
  have e2 : W2.cell? ⟨eb, 2, none⟩ = some (.int .i64 (i : Int)) := cell_of_block HE.out rfl
  have e3 : W2.cell? ⟨eb, 3, none⟩ = some (.int .i64 1) := cell_of_block HE.out rfl
  have KG := Lib.hid fun (U : World) (kz : Below W2.heap.size W2 U) => (⟨gcell_below kz e2, gcell_below kz e3, KF.out U (by have k1 := KW.out.trans (kz.mono KW.out.size); rw [heb] at k1 ⊢; exact k1)⟩ : U.cell? ⟨eb, 2, none⟩ = some (.int .i64 (i : Int)) ∧ U.cell? ⟨eb, 3, none⟩ = some (.int .i64 1) ∧ U.cell? ⟨m, 1, none⟩ = some (.slice (some ⟨bl, offl, none⟩) L.length capl) ∧ U.cell? ⟨bl, offl + i * 5, none⟩ = some (.int .i64 (β : Int)) ∧ U.cell? ⟨bl, offl + i * 5 + 1, none⟩ = some (.int .i64 pb) ∧ U.cell? ⟨bl, offl + i * 5 + 2, none⟩ = some (.int .i64 a) ∧ U.cell? ⟨bl, offl + i * 5 + 3, none⟩ = some (.int .i64 pa) ∧ U.cell? ⟨bl, offl + i * 5 + 4, none⟩ = some (.int .i64 k))
  have k0 := (Below.refl W2.heap.size W2).drew
  have IX := fun U => index_0 (β : Int) pb (i : Int) 0 a pa (i : Int) 1 U
  have CE := Lib.hid fun (U : World) => endsOf_c (i : Int) (β : Int) pb a pa k U
  refine wp_region_held_drew (S := fun U => U.cell? ⟨eb, 2, none⟩ = some (.int .i64 (i : Int)) ∧ U.cell? ⟨eb, 3, none⟩ = some (.int .i64 1) ∧ U.cell? ⟨m, 1, none⟩ = some (.slice (some ⟨bl, offl, none⟩) L.length capl) ∧ U.cell? ⟨bl, offl + i * 5, none⟩ = some (.int .i64 (β : Int)) ∧ U.cell? ⟨bl, offl + i * 5 + 1, none⟩ = some (.int .i64 pb) ∧ U.cell? ⟨bl, offl + i * 5 + 2, none⟩ = some (.int .i64 a) ∧ U.cell? ⟨bl, offl + i * 5 + 3, none⟩ = some (.int .i64 pa) ∧ U.cell? ⟨bl, offl + i * 5 + 4, none⟩ = some (.int .i64 k)) (by kernel_rfl) (KG.out _ k0) (fun hH => ?_)
  refine wpAnyH_take (i := 0) (oi := { dst := some 7, op := Op.fieldAddr 54 (Operand.tmp 3) 2, type := 0, pos := "round.go:52", after := #[], guard := none }) (v := .pointer (some ⟨eb, 2, none⟩)) rfl (by kernel_rfl) (by kernel_rfl) (by kernel_rfl) (fun _ _ _ h => h) (Or.inl ⟨by kernel_rfl, ?_⟩) hH ?_
  · intro w hSw; (try dsimp only at hSw); go_simp; try rfl
  try simp only [Act.put, List.setIfInBounds_toArray, List.set_cons_zero, List.set_cons_succ]
  refine wpAnyH_take (i := 1) (oi := { dst := some 8, op := Op.load 3 (Operand.tmp 7), type := 3, pos := "round.go:52", after := #[{ on := 0, ground := Ground.data }], guard := none }) (v := .int .i64 (i : Int)) rfl (by kernel_rfl) (by kernel_rfl) (by kernel_rfl) (fun _ _ _ h => h) (Or.inl ⟨by kernel_rfl, ?_⟩) hH ?_
  · intro w hSw; (try dsimp only at hSw); go_simp; try rfl
  try simp only [Act.put, List.setIfInBounds_toArray, List.set_cons_zero, List.set_cons_succ]
  refine wpAnyH_take (i := 2) (oi := { dst := some 9, op := Op.move (Operand.tmp 0), type := 57, pos := "round.go:52", after := #[], guard := none }) (v := .pointer (some ⟨m, 0, none⟩)) rfl (by kernel_rfl) (by kernel_rfl) (by kernel_rfl) (fun _ _ _ h => h) (Or.inl ⟨by kernel_rfl, ?_⟩) hH ?_
  · intro w hSw; (try dsimp only at hSw); go_simp; try rfl
  try simp only [Act.put, List.setIfInBounds_toArray, List.set_cons_zero, List.set_cons_succ]
  refine wpAnyH_take (i := 3) (oi := { dst := some 10, op := Op.nilCheck (Operand.tmp 9), type := 0, pos := "round.go:52", after := #[{ on := 2, ground := Ground.data }], guard := none }) (v := .pointer (some ⟨m, 0, none⟩)) rfl (by kernel_rfl) (by kernel_rfl) (by kernel_rfl) (fun _ _ _ h => h) (Or.inl ⟨by kernel_rfl, ?_⟩) hH ?_
  · intro w hSw; (try dsimp only at hSw); go_simp; try rfl
  try simp only [Act.put, List.setIfInBounds_toArray, List.set_cons_zero, List.set_cons_succ]
  refine wpAnyH_take (i := 4) (oi := { dst := some 11, op := Op.fieldAddr 65 (Operand.tmp 10) 1, type := 0, pos := "round.go:52", after := #[{ on := 3, ground := Ground.data }], guard := none }) (v := .pointer (some ⟨m, 1, none⟩)) rfl (by kernel_rfl) (by kernel_rfl) (by kernel_rfl) (fun _ _ _ h => h) (Or.inl ⟨by kernel_rfl, ?_⟩) hH ?_
  · intro w hSw; (try dsimp only at hSw); go_simp; try rfl
  try simp only [Act.put, List.setIfInBounds_toArray, List.set_cons_zero, List.set_cons_succ]
  refine wpAnyH_take (i := 5) (oi := { dst := some 12, op := Op.load 28 (Operand.tmp 11), type := 28, pos := "round.go:52", after := #[{ on := 4, ground := Ground.data }], guard := none }) (v := .slice (some ⟨bl, offl, none⟩) L.length capl) rfl (by kernel_rfl) (by kernel_rfl) (by kernel_rfl) (fun _ _ _ h => h) (Or.inl ⟨by kernel_rfl, ?_⟩) hH ?_
  · intro w hSw; (try dsimp only at hSw); go_simp; try rfl
  try simp only [Act.put, List.setIfInBounds_toArray, List.set_cons_zero, List.set_cons_succ]
  refine wpAnyH_take (i := 6) (oi := { dst := some 13, op := Op.fieldAddr 54 (Operand.tmp 3) 2, type := 0, pos := "round.go:52", after := #[], guard := none }) (v := .pointer (some ⟨eb, 2, none⟩)) rfl (by kernel_rfl) (by kernel_rfl) (by kernel_rfl) (fun _ _ _ h => h) (Or.inl ⟨by kernel_rfl, ?_⟩) hH ?_
  · intro w hSw; (try dsimp only at hSw); go_simp; try rfl
  try simp only [Act.put, List.setIfInBounds_toArray, List.set_cons_zero, List.set_cons_succ]
  refine wpAnyH_take (i := 7) (oi := { dst := some 14, op := Op.load 3 (Operand.tmp 13), type := 3, pos := "round.go:52", after := #[{ on := 6, ground := Ground.data }], guard := none }) (v := .int .i64 (i : Int)) rfl (by kernel_rfl) (by kernel_rfl) (by kernel_rfl) (fun _ _ _ h => h) (Or.inl ⟨by kernel_rfl, ?_⟩) hH ?_
  · intro w hSw; (try dsimp only at hSw); go_simp; try rfl
  try simp only [Act.put, List.setIfInBounds_toArray, List.set_cons_zero, List.set_cons_succ]
  refine wpAnyH_take (i := 8) (oi := { dst := some 15, op := Op.indexAddr 28 (Operand.tmp 12) (Operand.tmp 14), type := 0, pos := "round.go:52", after := #[{ on := 5, ground := Ground.data }, { on := 7, ground := Ground.data }], guard := none }) (v := .pointer (some ⟨bl, offl + i * 5, none⟩)) rfl (by kernel_rfl) (by kernel_rfl) (by kernel_rfl) (fun _ _ _ h => h) (Or.inl ⟨by kernel_rfl, ?_⟩) hH ?_
  · intro w hSw; (try dsimp only at hSw); go_simp; try rfl
  try simp only [Act.put, List.setIfInBounds_toArray, List.set_cons_zero, List.set_cons_succ]
  refine wpAnyH_take (i := 9) (oi := { dst := some 16, op := Op.load 45 (Operand.tmp 15), type := 45, pos := "round.go:52", after := #[{ on := 8, ground := Ground.data }], guard := none }) (v := .agg #[.int .i64 (β : Int), .int .i64 pb, .int .i64 a, .int .i64 pa, .int .i64 k]) rfl (by kernel_rfl) (by kernel_rfl) (by kernel_rfl) (fun _ _ _ h => h) (Or.inl ⟨by kernel_rfl, ?_⟩) hH ?_
  · intro w hSw; (try dsimp only at hSw); go_simp; try rfl
  try simp only [Act.put, List.setIfInBounds_toArray, List.set_cons_zero, List.set_cons_succ]
  refine wpAnyH_take (i := 11) (oi := { dst := some 18, op := Op.fieldAddr 54 (Operand.tmp 3) 3, type := 0, pos := "round.go:52", after := #[], guard := none }) (v := .pointer (some ⟨eb, 3, none⟩)) rfl (by kernel_rfl) (by kernel_rfl) (by kernel_rfl) (fun _ _ _ h => h) (Or.inl ⟨by kernel_rfl, ?_⟩) hH ?_
  · intro w hSw; (try dsimp only at hSw); go_simp; try rfl
  try simp only [Act.put, List.setIfInBounds_toArray, List.set_cons_zero, List.set_cons_succ]
  refine wpAnyH_take (i := 12) (oi := { dst := some 19, op := Op.load 3 (Operand.tmp 18), type := 3, pos := "round.go:52", after := #[{ on := 11, ground := Ground.data }], guard := none }) (v := .int .i64 1) rfl (by kernel_rfl) (by kernel_rfl) (by kernel_rfl) (fun _ _ _ h => h) (Or.inl ⟨by kernel_rfl, ?_⟩) hH ?_
  · intro w hSw; (try dsimp only at hSw); go_simp; try rfl
  try simp only [Act.put, List.setIfInBounds_toArray, List.set_cons_zero, List.set_cons_succ]
  refine wpAnyH_take (i := 13) (oi := { dst := some 20, op := Op.binOp BinOp.sub 3 (Operand.const (Value.int IntKind.i64 1)) (Operand.tmp 19) 3, type := 3, pos := "round.go:52", after := #[{ on := 12, ground := Ground.data }], guard := none }) (v := .int .i64 0) rfl (by kernel_rfl) (by kernel_rfl) (by kernel_rfl) (fun _ _ _ h => h) (Or.inl ⟨by kernel_rfl, ?_⟩) hH ?_
  · intro w hSw; (try dsimp only at hSw); go_simp; try rfl
  try simp only [Act.put, List.setIfInBounds_toArray, List.set_cons_zero, List.set_cons_succ]
  refine wpAnyH_ready (rs := [10, 15]) (by kernel_rfl) (by simp) ?_
  refine AllReadyH.cons rfl (fun K hK => ?_) ?_
  · go_simp
    with_reducible refine (CE.out _).mono ?_
    rintro e w8 ⟨rfl, hb8⟩
    try go_wp2_with fail
    have k8 := k0.trans (hb8.mono k0.size)
    refine hK.out _ _ (KG.out _ k8) (fun hH => ?_)
    clear hK K
    try simp only [Act.put, List.setIfInBounds_toArray, List.set_cons_zero, List.set_cons_succ]
    refine wpAnyH_take (i := 14) (oi := { dst := some 21, op := Op.index 72 (Operand.tmp 17) (Operand.tmp 20), type := 54, pos := "round.go:52", after := #[{ on := 10, ground := Ground.data }, { on := 13, ground := Ground.data }], guard := none }) (v := .agg #[.int .i64 (β : Int), .int .i64 pb, .int .i64 (i : Int), .int .i64 0]) rfl (by kernel_rfl) (by kernel_rfl) (by kernel_rfl) (fun _ _ _ h => h) (Or.inl ⟨by kernel_rfl, ?_⟩) hH ?_
    · intro w hSw; (try dsimp only at hSw); go_simp; try rfl
    try simp only [Act.put, List.setIfInBounds_toArray, List.set_cons_zero, List.set_cons_succ]
    refine wpAnyH_ready (rs := [15]) (by kernel_rfl) (by simp) ?_
    refine AllReadyH.cons rfl (fun K hK => ?_) AllReadyH.nil
    go_simp
    refine hK.out _ _ (KG.out _ (k8.alloc k8.size _)) (fun hH => ?_)
    clear hK K
    try simp only [Act.put, List.setIfInBounds_toArray, List.set_cons_zero, List.set_cons_succ]
    refine wpAnyH_ready (rs := [16]) (by kernel_rfl) (by simp) ?_
    refine AllReadyH.cons rfl (fun K hK => ?_) AllReadyH.nil
    go_simp
    have kx := k8.alloc k8.size (.cells #[.int .i64 (β : Int), .int .i64 pb, .int .i64 (i : Int), .int .i64 0] 54)
    have bx := heap_new w8 (.cells #[.int .i64 (β : Int), .int .i64 pb, .int .i64 (i : Int), .int .i64 0] 54)
    refine hK.out _ _ (KG.out _ kx) (fun hH => ?_)
    clear hK K
    try simp only [Act.put, List.setIfInBounds_toArray, List.set_cons_zero, List.set_cons_succ]
    refine wpAnyH_done (by kernel_rfl) ?_ _
    clear k8 hb8
    generalize w8.alloc (.cells #[.int .i64 (β : Int), .int .i64 pb, .int .i64 (i : Int), .int .i64 0] 54) = WX at kx bx hH ⊢
    generalize w8.heap.size = xb at bx ⊢
    clear hH
    have KX := Lib.hid (show Below w.heap.size w WX from by have k1 := KW.out.trans (kx.mono KW.out.size); rw [heb] at k1 ⊢; exact k1)
    have HRX := Lib.hid (below_block kx (lt_of_block HR.out) HR.out)
    have HMX := Lib.hid (h.below KX.out)
    have v3 : WX.cell? ⟨m, 3, none⟩ = some (.slice (some ⟨bv, offv, none⟩) bst.length capv) := cell_of_block HMX.out.mesh rfl
    have v0 : WX.cell? ⟨m, 0, none⟩ = some (.slice (some ⟨bi, offi, none⟩) ids.length capi) := cell_of_block HMX.out.mesh rfl
    have c0 : WX.cell? ⟨bv, offv + β * 4, none⟩ = some (.int .u64 r) := gcell_below KX.out (hcv β _ hb 0 _ rfl)
    have c1 : WX.cell? ⟨bv, offv + β * 4 + 1, none⟩ = some (.int .i64 c) := gcell_below KX.out (hcv β _ hb 1 _ rfl)
    have c2 : WX.cell? ⟨bv, offv + β * 4 + 2, none⟩ = some (.int .u64 g) := gcell_below KX.out (hcv β _ hb 2 _ rfl)
    have c3 : WX.cell? ⟨bv, offv + β * 4 + 3, none⟩ = some (.int .i64 q) := gcell_below KX.out (hcv β _ hb 3 _ rfl)
    have o0 : WX.cell? ⟨xb, 0, none⟩ = some (.int .i64 (β : Int)) := cell_of_block bx rfl
    have o1 : WX.cell? ⟨xb, 1, none⟩ = some (.int .i64 pb) := cell_of_block bx rfl
    have lt1 : m < WX.heap.size := gcell_lt v3
    have lt2 : bv < WX.heap.size := gcell_lt c0
    have lt3 : xb < WX.heap.size := gcell_lt o0
    have f1 : decide ((β : Int) < (bst.length : Int)) = true := decide_eq_true (by omega)
    have f2 : decide (β < bst.length) = true := decide_eq_true hβb
    have f3 : decide (bst.length ≤ β) = false := decide_eq_false (by omega)
    have f4 : decide (0 ≤ (β : Int)) = true := decide_eq_true (by omega)
    clear d1 d2 d3 d4 KG CE k0 IX e2 e3
    go_wp2_with fail
    go_region
    all_goals
      have KY0 := Lib.hid (show Below WX.heap.size WX ((WX.alloc (.cells #[.int .u64 r, .int .i64 c, .int .u64 g, .int .i64 q] 79)).drew) from ((Below.refl _ WX).alloc (Nat.le_refl _) _).drew)
      have BY := Lib.hid (show ((WX.alloc (.cells #[.int .u64 r, .int .i64 c, .int .u64 g, .int .i64 q] 79)).drew).heap[WX.heap.size]? = some (.cells #[.int .u64 r, .int .i64 c, .int .u64 g, .int .i64 q] 79 (0, 0)) from heap_new WX _)
      clear lt1 lt2 lt3 v3 c0 c1 c2 c3 f1 f2 f3
      generalize ((WX.alloc (.cells #[.int .u64 r, .int .i64 c, .int .u64 g, .int .i64 q] 79)).drew) = WY at KY0 BY ⊢
      have KY := Lib.hid (KX.out.trans (KY0.out.mono KX.out.size))
      have HRY := Lib.hid (below_block KY0.out (lt_of_block HRX.out) HRX.out)
      have u0 : WY.cell? ⟨WX.heap.size, 0, none⟩ = some (.int .u64 r) := cell_of_block BY.out rfl
      have u1 : WY.cell? ⟨WX.heap.size, 1, none⟩ = some (.int .i64 c) := cell_of_block BY.out rfl
      have y0 : WY.cell? ⟨m, 0, none⟩ = some (.slice (some ⟨bi, offi, none⟩) ids.length capi) := gcell_below KY0.out v0
      have y1 : WY.cell? ⟨xb, 0, none⟩ = some (.int .i64 (β : Int)) := gcell_below KY0.out o0
      have y2 : WY.cell? ⟨xb, 1, none⟩ = some (.int .i64 pb) := gcell_below KY0.out o1
      have yi : WY.cell? ⟨bi, offi + β, none⟩ = some (.int .u64 id) := gcell_below KY.out (show w.cell? ⟨bi, offi + β, none⟩ = some (.int .u64 id) by have := hci β _ hid 0 _ rfl; simpa using this)
      have s0 : WY.cell? ⟨rb, 0, none⟩ = some (.int .u64 0) := cell_of_block HRY.out rfl
      have s1 : WY.cell? ⟨rb, 1, none⟩ = some (.int .i64 0) := cell_of_block HRY.out rfl
      have s2 : WY.cell? ⟨rb, 2, none⟩ = some (.int .u64 0) := cell_of_block HRY.out rfl
      have s3 : WY.cell? ⟨rb, 3, none⟩ = some (.int .i64 0) := cell_of_block HRY.out rfl
      have t0 := free_of_block (j := 0) HRY.out
      have t1 := free_of_block (j := 1) HRY.out
      have t2 := free_of_block (j := 2) HRY.out
      have t3 := free_of_block (j := 3) HRY.out
      have f1 : decide ((β : Int) < (ids.length : Int)) = true := decide_eq_true (by omega)
      have f2 : decide (β < ids.length) = true := decide_eq_true hβi
      have f3 : decide (ids.length ≤ β) = false := decide_eq_false (by omega)
      generalize WX.heap.size = vx at u0 u1 ⊢
      go_wp2_with fail
      go_still_tail 15, (by kernel_rfl)
      change wpList _ _ _ _ _ WY.drew
      go_wp2_with fail
      have BZ := Lib.hid (show (((((WY.setCell ⟨rb, 0, none⟩ (.int .u64 r)).setCell ⟨rb, 1, none⟩ (.int .i64 c)).setCell ⟨rb, 2, none⟩ (.int .u64 id)).setCell ⟨rb, 3, none⟩ (.int .i64 pb)).drew).heap[rb]? = some (.cells #[.int .u64 r, .int .i64 c, .int .u64 id, .int .i64 pb] 79 (0, 0)) from heap_store (j := 3) (v := .int .i64 pb) (heap_store (j := 2) (v := .int .u64 id) (heap_store (j := 1) (v := .int .i64 c) (heap_store (j := 0) (v := .int .u64 r) HRY.out))))
      have KZ := Lib.hid (show Below w.heap.size w (((((WY.setCell ⟨rb, 0, none⟩ (.int .u64 r)).setCell ⟨rb, 1, none⟩ (.int .i64 c)).setCell ⟨rb, 2, none⟩ (.int .u64 id)).setCell ⟨rb, 3, none⟩ (.int .i64 pb)).drew) from (((((KY.out.setCell (p := ⟨rb, 0, none⟩) (by show w.heap.size ≤ rb; omega) _).setCell (p := ⟨rb, 1, none⟩) (by show w.heap.size ≤ rb; omega) _).setCell (p := ⟨rb, 2, none⟩) (by show w.heap.size ≤ rb; omega) _).setCell (p := ⟨rb, 3, none⟩) (by show w.heap.size ≤ rb; omega) _)).drew)
      generalize ((((WY.setCell ⟨rb, 0, none⟩ (.int .u64 r)).setCell ⟨rb, 1, none⟩ (.int .i64 c)).setCell ⟨rb, 2, none⟩ (.int .u64 id)).setCell ⟨rb, 3, none⟩ (.int .i64 pb)).drew = W9 at BZ KZ ⊢
      have w0 : W9.cell? ⟨rb, 0, none⟩ = some (.int .u64 r) := cell_of_block BZ.out rfl
      have w1 : W9.cell? ⟨rb, 1, none⟩ = some (.int .i64 c) := cell_of_block BZ.out rfl
      have w2 : W9.cell? ⟨rb, 2, none⟩ = some (.int .u64 id) := cell_of_block BZ.out rfl
      have w3 : W9.cell? ⟨rb, 3, none⟩ = some (.int .i64 pb) := cell_of_block BZ.out rfl
      refine bodyPost_ret (v := .agg #[.int .u64 r, .int .i64 c, .int .u64 id, .int .i64 pb]) (by simp [results, Try.results42, go_sem, w0, w1, w2, w3]) rfl ⟨rfl, KZ.out⟩
  · refine AllReadyH.cons rfl (fun K hK => ?_) AllReadyH.nil
    go_simp
    have k1 := (k0.alloc k0.size (.cells #[.int .i64 0, .int .i64 0, .int .i64 0, .int .i64 0] 54))
    have b1 : ((W2.alloc (.cells #[.int .i64 0, .int .i64 0, .int .i64 0, .int .i64 0] 54)).drew).heap[W2.heap.size]? = some (.cells #[.int .i64 0, .int .i64 0, .int .i64 0, .int .i64 0] 54 (0, 0)) := heap_new W2 (.cells #[.int .i64 0, .int .i64 0, .int .i64 0, .int .i64 0] 54)
    refine hK.out _ _ (KG.out _ k1) (fun hH => ?_)
    clear hK K
    try simp only [Act.put, List.setIfInBounds_toArray, List.set_cons_zero, List.set_cons_succ]
    refine wpAnyH_ready (rs := [10]) (by kernel_rfl) (by simp) ?_
    refine AllReadyH.cons rfl (fun K hK => ?_) AllReadyH.nil
    go_simp
    with_reducible refine (CE.out _).mono ?_
    rintro e w8 ⟨rfl, hb8⟩
    try go_wp2_with fail
    have k8 := k1.trans (hb8.mono k1.size)
    have b8 := below_block hb8 (lt_of_block b1) b1
    refine hK.out _ _ (KG.out _ k8) (fun hH => ?_)
    clear hK K
    try simp only [Act.put, List.setIfInBounds_toArray, List.set_cons_zero, List.set_cons_succ]
    refine wpAnyH_take (i := 14) (oi := { dst := some 21, op := Op.index 72 (Operand.tmp 17) (Operand.tmp 20), type := 54, pos := "round.go:52", after := #[{ on := 10, ground := Ground.data }, { on := 13, ground := Ground.data }], guard := none }) (v := .agg #[.int .i64 (β : Int), .int .i64 pb, .int .i64 (i : Int), .int .i64 0]) rfl (by kernel_rfl) (by kernel_rfl) (by kernel_rfl) (fun _ _ _ h => h) (Or.inl ⟨by kernel_rfl, ?_⟩) hH ?_
    · intro w hSw; (try dsimp only at hSw); go_simp; try rfl
    try simp only [Act.put, List.setIfInBounds_toArray, List.set_cons_zero, List.set_cons_succ]
    have z0 := cell_of_block (j := 0) b8 rfl
    have fz0 := free_of_block (j := 0) b8
    have z1 := cell_of_block (j := 1) b8 rfl
    have fz1 := free_of_block (j := 1) b8
    have z2 := cell_of_block (j := 2) b8 rfl
    have fz2 := free_of_block (j := 2) b8
    have z3 := cell_of_block (j := 3) b8 rfl
    have fz3 := free_of_block (j := 3) b8
    refine wpAnyH_ready (rs := [16]) (by kernel_rfl) (by simp) ?_
    refine AllReadyH.cons rfl (fun K hK => ?_) AllReadyH.nil
    go_simp
    have kx := ((((k8.setCell (p := ⟨W2.heap.size, 0, none⟩) (Nat.le_refl _) (.int .i64 (β : Int))).setCell (p := ⟨W2.heap.size, 1, none⟩) (Nat.le_refl _) (.int .i64 pb)).setCell (p := ⟨W2.heap.size, 2, none⟩) (Nat.le_refl _) (.int .i64 (i : Int))).setCell (p := ⟨W2.heap.size, 3, none⟩) (Nat.le_refl _) (.int .i64 0))
    have bx : ((((w8.setCell ⟨W2.heap.size, 0, none⟩ (.int .i64 (β : Int))).setCell ⟨W2.heap.size, 1, none⟩ (.int .i64 pb)).setCell ⟨W2.heap.size, 2, none⟩ (.int .i64 (i : Int))).setCell ⟨W2.heap.size, 3, none⟩ (.int .i64 0)).heap[W2.heap.size]? = some (.cells #[.int .i64 (β : Int), .int .i64 pb, .int .i64 (i : Int), .int .i64 0] 54 (0, 0)) := (heap_store (j := 3) (v := .int .i64 0) (heap_store (j := 2) (v := .int .i64 (i : Int)) (heap_store (j := 1) (v := .int .i64 pb) (heap_store (j := 0) (v := .int .i64 (β : Int)) b8))))
    refine hK.out _ _ (KG.out _ kx) (fun hH => ?_)
    clear hK K
    try simp only [Act.put, List.setIfInBounds_toArray, List.set_cons_zero, List.set_cons_succ]
    refine wpAnyH_done (by kernel_rfl) ?_ _
    clear k8 hb8 b1 b8 z0 z1 z2 z3 fz0 fz1 fz2 fz3
    generalize ((((w8.setCell ⟨W2.heap.size, 0, none⟩ (.int .i64 (β : Int))).setCell ⟨W2.heap.size, 1, none⟩ (.int .i64 pb)).setCell ⟨W2.heap.size, 2, none⟩ (.int .i64 (i : Int))).setCell ⟨W2.heap.size, 3, none⟩ (.int .i64 0)) = WX at kx bx hH ⊢
    clear hH
    have KX := Lib.hid (show Below w.heap.size w WX from by have k1 := KW.out.trans (kx.mono KW.out.size); rw [heb] at k1 ⊢; exact k1)
    have HRX := Lib.hid (below_block kx (lt_of_block HR.out) HR.out)
    have HMX := Lib.hid (h.below KX.out)
    have v3 : WX.cell? ⟨m, 3, none⟩ = some (.slice (some ⟨bv, offv, none⟩) bst.length capv) := cell_of_block HMX.out.mesh rfl
    have v0 : WX.cell? ⟨m, 0, none⟩ = some (.slice (some ⟨bi, offi, none⟩) ids.length capi) := cell_of_block HMX.out.mesh rfl
    have c0 : WX.cell? ⟨bv, offv + β * 4, none⟩ = some (.int .u64 r) := gcell_below KX.out (hcv β _ hb 0 _ rfl)
    have c1 : WX.cell? ⟨bv, offv + β * 4 + 1, none⟩ = some (.int .i64 c) := gcell_below KX.out (hcv β _ hb 1 _ rfl)
    have c2 : WX.cell? ⟨bv, offv + β * 4 + 2, none⟩ = some (.int .u64 g) := gcell_below KX.out (hcv β _ hb 2 _ rfl)
    have c3 : WX.cell? ⟨bv, offv + β * 4 + 3, none⟩ = some (.int .i64 q) := gcell_below KX.out (hcv β _ hb 3 _ rfl)
    have o0 : WX.cell? ⟨W2.heap.size, 0, none⟩ = some (.int .i64 (β : Int)) := cell_of_block bx rfl
    have o1 : WX.cell? ⟨W2.heap.size, 1, none⟩ = some (.int .i64 pb) := cell_of_block bx rfl
    have lt1 : m < WX.heap.size := gcell_lt v3
    have lt2 : bv < WX.heap.size := gcell_lt c0
    have lt3 : W2.heap.size < WX.heap.size := gcell_lt o0
    have f1 : decide ((β : Int) < (bst.length : Int)) = true := decide_eq_true (by omega)
    have f2 : decide (β < bst.length) = true := decide_eq_true hβb
    have f3 : decide (bst.length ≤ β) = false := decide_eq_false (by omega)
    have f4 : decide (0 ≤ (β : Int)) = true := decide_eq_true (by omega)
    clear d1 d2 d3 d4 KG CE k0 IX e2 e3
    go_wp2_with fail
    go_region
    all_goals
      have KY0 := Lib.hid (show Below WX.heap.size WX ((WX.alloc (.cells #[.int .u64 r, .int .i64 c, .int .u64 g, .int .i64 q] 79)).drew) from ((Below.refl _ WX).alloc (Nat.le_refl _) _).drew)
      have BY := Lib.hid (show ((WX.alloc (.cells #[.int .u64 r, .int .i64 c, .int .u64 g, .int .i64 q] 79)).drew).heap[WX.heap.size]? = some (.cells #[.int .u64 r, .int .i64 c, .int .u64 g, .int .i64 q] 79 (0, 0)) from heap_new WX _)
      clear lt1 lt2 lt3 v3 c0 c1 c2 c3 f1 f2 f3
      generalize ((WX.alloc (.cells #[.int .u64 r, .int .i64 c, .int .u64 g, .int .i64 q] 79)).drew) = WY at KY0 BY ⊢
      have KY := Lib.hid (KX.out.trans (KY0.out.mono KX.out.size))
      have HRY := Lib.hid (below_block KY0.out (lt_of_block HRX.out) HRX.out)
      have u0 : WY.cell? ⟨WX.heap.size, 0, none⟩ = some (.int .u64 r) := cell_of_block BY.out rfl
      have u1 : WY.cell? ⟨WX.heap.size, 1, none⟩ = some (.int .i64 c) := cell_of_block BY.out rfl
      have y0 : WY.cell? ⟨m, 0, none⟩ = some (.slice (some ⟨bi, offi, none⟩) ids.length capi) := gcell_below KY0.out v0
      have y1 : WY.cell? ⟨W2.heap.size, 0, none⟩ = some (.int .i64 (β : Int)) := gcell_below KY0.out o0
      have y2 : WY.cell? ⟨W2.heap.size, 1, none⟩ = some (.int .i64 pb) := gcell_below KY0.out o1
      have yi : WY.cell? ⟨bi, offi + β, none⟩ = some (.int .u64 id) := gcell_below KY.out (show w.cell? ⟨bi, offi + β, none⟩ = some (.int .u64 id) by have := hci β _ hid 0 _ rfl; simpa using this)
      have s0 : WY.cell? ⟨rb, 0, none⟩ = some (.int .u64 0) := cell_of_block HRY.out rfl
      have s1 : WY.cell? ⟨rb, 1, none⟩ = some (.int .i64 0) := cell_of_block HRY.out rfl
      have s2 : WY.cell? ⟨rb, 2, none⟩ = some (.int .u64 0) := cell_of_block HRY.out rfl
      have s3 : WY.cell? ⟨rb, 3, none⟩ = some (.int .i64 0) := cell_of_block HRY.out rfl
      have t0 := free_of_block (j := 0) HRY.out
      have t1 := free_of_block (j := 1) HRY.out
      have t2 := free_of_block (j := 2) HRY.out
      have t3 := free_of_block (j := 3) HRY.out
      have f1 : decide ((β : Int) < (ids.length : Int)) = true := decide_eq_true (by omega)
      have f2 : decide (β < ids.length) = true := decide_eq_true hβi
      have f3 : decide (ids.length ≤ β) = false := decide_eq_false (by omega)
      generalize WX.heap.size = vx at u0 u1 ⊢
      go_wp2_with fail
      go_still_tail 15, (by kernel_rfl)
      change wpList _ _ _ _ _ WY.drew
      go_wp2_with fail
      have BZ := Lib.hid (show (((((WY.setCell ⟨rb, 0, none⟩ (.int .u64 r)).setCell ⟨rb, 1, none⟩ (.int .i64 c)).setCell ⟨rb, 2, none⟩ (.int .u64 id)).setCell ⟨rb, 3, none⟩ (.int .i64 pb)).drew).heap[rb]? = some (.cells #[.int .u64 r, .int .i64 c, .int .u64 id, .int .i64 pb] 79 (0, 0)) from heap_store (j := 3) (v := .int .i64 pb) (heap_store (j := 2) (v := .int .u64 id) (heap_store (j := 1) (v := .int .i64 c) (heap_store (j := 0) (v := .int .u64 r) HRY.out))))
      have KZ := Lib.hid (show Below w.heap.size w (((((WY.setCell ⟨rb, 0, none⟩ (.int .u64 r)).setCell ⟨rb, 1, none⟩ (.int .i64 c)).setCell ⟨rb, 2, none⟩ (.int .u64 id)).setCell ⟨rb, 3, none⟩ (.int .i64 pb)).drew) from (((((KY.out.setCell (p := ⟨rb, 0, none⟩) (by show w.heap.size ≤ rb; omega) _).setCell (p := ⟨rb, 1, none⟩) (by show w.heap.size ≤ rb; omega) _).setCell (p := ⟨rb, 2, none⟩) (by show w.heap.size ≤ rb; omega) _).setCell (p := ⟨rb, 3, none⟩) (by show w.heap.size ≤ rb; omega) _)).drew)
      generalize ((((WY.setCell ⟨rb, 0, none⟩ (.int .u64 r)).setCell ⟨rb, 1, none⟩ (.int .i64 c)).setCell ⟨rb, 2, none⟩ (.int .u64 id)).setCell ⟨rb, 3, none⟩ (.int .i64 pb)).drew = W9 at BZ KZ ⊢
      have w0 : W9.cell? ⟨rb, 0, none⟩ = some (.int .u64 r) := cell_of_block BZ.out rfl
      have w1 : W9.cell? ⟨rb, 1, none⟩ = some (.int .i64 c) := cell_of_block BZ.out rfl
      have w2 : W9.cell? ⟨rb, 2, none⟩ = some (.int .u64 id) := cell_of_block BZ.out rfl
      have w3 : W9.cell? ⟨rb, 3, none⟩ = some (.int .i64 pb) := cell_of_block BZ.out rfl
      refine bodyPost_ret (v := .agg #[.int .u64 r, .int .i64 c, .int .u64 id, .int .i64 pb]) (by simp [results, Try.results42, go_sem, w0, w1, w2, w3]) rfl ⟨rfl, KZ.out⟩
end Go.Proofs.Ytolmkflhddlcnaa
