/-
  The document's Best. A contract over the translated program.
-/
import Derived.Test.YtolmkflhddlcnaaPrC
import Derived.Deep.RegionHeld3
namespace Go.Proofs.Ytolmkflhddlcnaa
open Go.RowKit
set_option linter.unusedVariables false
set_option linter.unusedSimpArgs false

set_option maxHeartbeats 8000000 in
set_option maxRecDepth 100000 in
theorem rbest_c (b : Int) (v : Value) (L : List Hd) (w : World) (hl : L.length ≤ 1000000000) (h : RowsAt 6 cellsHd w v L) :
    Calls Try.prog 45 #[.int .u64 b, v] w fun e w' => e = .returned (.tuple #[.int .i64 (bestL b L).1, .agg #[.int .u64 (bestL b L).2.1, .int .i64 (bestL b L).2.2.1, .int .u64 (bestL b L).2.2.2.1, .int .i64 (bestL b L).2.2.2.2]]) ∧ Below w.heap.size w w' := by
  obtain ⟨p, cap, bb, off, rfl, hp, hc⟩ := h
  have HP := Lib.hid hp
  have HC := Lib.hid hc
  clear hp hc
  have B0 := Lib.hid (Bx.start w #[.int .u64 0, .int .i64 0, .int .u64 0, .int .i64 0] 79)
  have HO := fun U => Lib.hid (rown_c b U)
  go_enter Try.func45, Try.ntmps45
  go_wp2_with fail
  ((with_reducible refine (HO _).out.mono ?_); rintro e w1 ⟨rfl, h1⟩)
  have hne : w.heap.size ≠ w1.heap.size := by have := h1.size; simp at this; omega
  replace B0 := Lib.hid (B0.out.below h1)
  clear h1 HO
  have B1 := Lib.hid (Bx.mk' B0.out.bel #[.int .u64 b, .int .i64 0, .int .u64 b, .int .i64 0] 79)
  replace B0 := Lib.hid (B0.out.alloc (.cells #[.int .u64 b, .int .i64 0, .int .u64 b, .int .i64 0] 79))
  go_upto_region 3 with fail
  generalize w1.alloc (.cells #[.int .u64 b, .int .i64 0, .int .u64 b, .int .i64 0] 79) = w2 at B0 B1 ⊢
  generalize w1.heap.size = bx at hne B1 ⊢
  go_wp2_with fail
  go_loopw [6, 8, 9, 10] (fun s6 i _ _ wr => ∃ k : Nat, k ≤ L.length ∧ i = .int .i64 k ∧ s6 = .int .i64 (bestL b (L.take k)).1 ∧ Hid (Bx w wr w.heap.size #[.int .u64 0, .int .i64 0, .int .u64 0, .int .i64 0] 79) ∧ Hid (Bx w wr bx #[.int .u64 (bestL b (L.take k)).2.1, .int .i64 (bestL b (L.take k)).2.2.1, .int .u64 (bestL b (L.take k)).2.2.2.1, .int .i64 (bestL b (L.take k)).2.2.2.2] 79))
    (fun _ i _ _ _ => L.length - (intOf i).toNat)
  case atStart => exact ⟨0, Nat.zero_le _, rfl, rfl, B0, B1⟩
  case round =>
    obtain ⟨k, hk, rfl, rfl, C0, C1⟩ := hrel
    by_cases hlt : k < L.length
    · have hne' : L ≠ [] := by rintro rfl; simp at hlt
      obtain rfl := HP.out hne'
      have KB := Lib.hid C0.out.bel
      have HT := Lib.hid (best_take b L k hlt)
      have x0 : wr.cell? ⟨bb, off + k * 6, none⟩ = some _ := gcell_below KB.out (HC.out k _ (List.getElem?_eq_getElem hlt) 0 _ rfl)
      have x1 : wr.cell? ⟨bb, off + k * 6 + 1, none⟩ = some _ := gcell_below KB.out (HC.out k _ (List.getElem?_eq_getElem hlt) 1 _ rfl)
      have x2 : wr.cell? ⟨bb, off + k * 6 + 2, none⟩ = some _ := gcell_below KB.out (HC.out k _ (List.getElem?_eq_getElem hlt) 2 _ rfl)
      have x3 : wr.cell? ⟨bb, off + k * 6 + 3, none⟩ = some _ := gcell_below KB.out (HC.out k _ (List.getElem?_eq_getElem hlt) 3 _ rfl)
      have x4 : wr.cell? ⟨bb, off + k * 6 + 4, none⟩ = some _ := gcell_below KB.out (HC.out k _ (List.getElem?_eq_getElem hlt) 4 _ rfl)
      have x5 : wr.cell? ⟨bb, off + k * 6 + 5, none⟩ = some _ := gcell_below KB.out (HC.out k _ (List.getElem?_eq_getElem hlt) 5 _ rfl)
      generalize bestL b (L.take k) = s at HT C1 ⊢
      generalize L[k] = hd at HT x0 x1 x2 x3 x4 x5
      obtain ⟨sp, s1, s2, s3, s4⟩ := s
      obtain ⟨x, r, c, g, q, kk⟩ := hd
      simp only at x0 x1 x2 x3 x4 x5 C1
      clear hne' KB
      have hlt' : (k : Int) < (L.length : Int) := by omega
      rcases hx : x with _ | _
      · subst hx
        have HS := Lib.hid (step_no1 b k (false, r, c, g, q, kk) (sp, s1, s2, s3, s4) rfl)
        go_wp2_with fail
        go_roundw
        case rel => exact ⟨k + 1, by omega, by go_num, by rw [HT.out, HS.out], C0, by rw [HT.out, HS.out]; exact C1⟩
        case measure => simp [intOf]; omega
      · subst hx
        by_cases hg : g = b
        · have HS := Lib.hid (step_no1 b k (true, r, c, g, q, kk) (sp, s1, s2, s3, s4) (by simp [leadB, hg]))
          obtain ⟨k2, k3⟩ := eq_t hg
          clear hg
          go_wp2_with fail
          go_roundw
          case rel => exact ⟨k + 1, by omega, by go_num, by rw [HT.out, HS.out], C0, by rw [HT.out, HS.out]; exact C1⟩
          case measure => simp [intOf]; omega
        · obtain ⟨k2, k3⟩ := ne_t hg
          go_upto_region 7 with fail
          have KF := Lib.hid fun (U : World) (kz : Below wr.heap.size wr U) => (⟨gcell_below kz x1, gcell_below kz x2, gcell_below kz x3, gcell_below kz x4, gcell_below kz x5, kz⟩ : U.cell? ⟨bb, off + k * 6 + 1, none⟩ = some (.int .u64 r) ∧ U.cell? ⟨bb, off + k * 6 + 2, none⟩ = some (.int .i64 c) ∧ U.cell? ⟨bb, off + k * 6 + 3, none⟩ = some (.int .u64 g) ∧ U.cell? ⟨bb, off + k * 6 + 4, none⟩ = some (.int .i64 q) ∧ U.cell? ⟨bb, off + k * 6 + 5, none⟩ = some (.int .i64 kk) ∧ Below wr.heap.size wr U)
          have k0 := Below.refl wr.heap.size wr
          have kl : wr.heap.size ≤ wr.heap.size := Nat.le_refl _
          have hV0 := C0.out.lt
          have hV1 := C1.out.lt
          replace C0 := Lib.hid fun (U : World) (k : Below wr.heap.size wr U) => C0.out.below k
          replace C1 := Lib.hid fun (U : World) (k : Below wr.heap.size wr U) => C1.out.below k
          rcases hb : badW c kk with _ | _
          · have hld : leadB b (true, r, c, g, q, kk) = true := by simp [leadB, hg, hb]
            have HL := fun U => Lib.hid (rthr_ok r c g q kk U hb)
            have HS2 := Lib.hid (fun h => step_no2 b k (true, r, c, g, q, kk) (sp, s1, s2, s3, s4) hld h)
            have HS3 := Lib.hid (fun h => step_yes b k (true, r, c, g, q, kk) (sp, s1, s2, s3, s4) hld h)
            clear hld hb hg k2 k3
            unfold leadV thrV vecH costH at HS2 HS3
            simp only at HS2 HS3
            generalize farC c kk = f at HL HS2 HS3
            go_region_held3 (fun U => U.cell? ⟨bb, off + k * 6 + 1, none⟩ = some (.int .u64 r) ∧ U.cell? ⟨bb, off + k * 6 + 2, none⟩ = some (.int .i64 c) ∧ U.cell? ⟨bb, off + k * 6 + 3, none⟩ = some (.int .u64 g) ∧ U.cell? ⟨bb, off + k * 6 + 4, none⟩ = some (.int .i64 q) ∧ U.cell? ⟨bb, off + k * 6 + 5, none⟩ = some (.int .i64 kk) ∧ Below wr.heap.size wr U)
              (first | with_reducible exact KF.out _ (k_wr4 k4 kl _ _ _ _) | with_reducible exact KF.out _ (k_alloc k4 _) | with_reducible exact KF.out _ k4 | with_reducible exact KF.out _ (k_alloc k0 _).drew | with_reducible exact KF.out _ k0.drew)
              (first
                | (go_at_call 54; (with_reducible refine (HL _).out.mono ?_); rintro e w4 ⟨rfl, h4⟩; have k4 := k_call (k_alloc k0 _).drew h4; have hb4 : w4.heap[wr.heap.size]? = some (.cells #[.int .u64 0, .int .i64 0, .int .u64 0, .int .i64 0] 79 (0, 0)) := below_block h4 (by simp [World.drew]) (heap_new wr _); have y0 := cell_of_block hb4 (j := 0) rfl; have y1 := cell_of_block hb4 (j := 1) rfl; have y2 := cell_of_block hb4 (j := 2) rfl; have y3 := cell_of_block hb4 (j := 3) rfl; have fr4 := fun j => free_of_block (j := j) hb4; have hz4 := lt_of_block hb4)
                | (go_at_call 54; (with_reducible refine (HL _).out.mono ?_); rintro e w4 ⟨rfl, h4⟩; have k4 := k_call k0.drew h4))
            · rename_i hh
              clear hh
              replace C0 := Lib.hid (C0.out w4 k4)
              replace C1 := Lib.hid (C1.out w4 k4)
              clear k4 h4 k0 kl KF HL
              go_upto_region 8 with fail
              replace C0 := Lib.hid (C0.out.alloc (.cells #[.int .u64 r, .int .i64 f, .int .u64 g, .int .i64 q] 79))
              replace C1 := Lib.hid (C1.out.alloc (.cells #[.int .u64 r, .int .i64 f, .int .u64 g, .int .i64 q] 79))
              have V := Lib.hid (show Bx w4 (w4.alloc (.cells #[.int .u64 r, .int .i64 f, .int .u64 g, .int .i64 q] 79)) w4.heap.size #[.int .u64 r, .int .i64 f, .int .u64 g, .int .i64 q] 79 from Bx.start _ _ _)
              generalize w4.alloc (.cells #[.int .u64 r, .int .i64 f, .int .u64 g, .int .i64 q] 79) = w5 at C0 C1 V ⊢
              generalize w4.heap.size = vb at V ⊢
              have x0 := V.out.cell 0 rfl
              have x1 := V.out.cell 1 rfl
              have x2 := V.out.cell 2 rfl
              have x3 := V.out.cell 3 rfl
              have u0 := C1.out.cell 0 rfl
              have u1 := C1.out.cell 1 rfl
              have u2 := C1.out.cell 2 rfl
              have u3 := C1.out.cell 3 rfl
              have HC5 := Lib.hid (rcmp_c r f g q s1 s2 s3 s4 w5)
              go_wp2_with fail
              ((with_reducible refine HC5.out.mono ?_); rintro e w6 ⟨rfl, h6⟩)
              replace C0 := Lib.hid (C0.out.below h6)
              replace C1 := Lib.hid (C1.out.below h6)
              replace V := Lib.hid (V.out.below h6)
              clear h6 HC5 x0 x1 x2 x3 u0 u1 u2 u3
              by_cases hq : cmpV (r, f, g, q) (s1, s2, s3, s4) < 0
              · have HS := Lib.hid (HS3.out hq)
                have d1 : decide (cmpV (r, f, g, q) (s1, s2, s3, s4) < 0) = true := decide_eq_true hq
                generalize cmpV (r, f, g, q) (s1, s2, s3, s4) = cc at d1 ⊢
                clear hq HS2 HS3
                have x0 := V.out.cell 0 rfl
                have x1 := V.out.cell 1 rfl
                have x2 := V.out.cell 2 rfl
                have x3 := V.out.cell 3 rfl
                have u0 := C1.out.cell 0 rfl
                have u1 := C1.out.cell 1 rfl
                have u2 := C1.out.cell 2 rfl
                have u3 := C1.out.cell 3 rfl
                have fr := fun j => C1.out.free j
                have hz := C1.out.lt
                go_wp2_with fail
                go_roundw
                case rel => exact ⟨k + 1, by omega, by go_num, by rw [HT.out, HS.out], Lib.hid (C0.out.far4 C1.out.ge hne _ _ _ _), by rw [HT.out, HS.out]; exact Lib.hid (C1.out.put4 _ _ _ _)⟩
                case measure => simp [intOf]; omega
              · have HS := Lib.hid (HS2.out (by omega))
                have d1 : decide (cmpV (r, f, g, q) (s1, s2, s3, s4) < 0) = false := decide_eq_false hq
                generalize cmpV (r, f, g, q) (s1, s2, s3, s4) = cc at d1 ⊢
                clear hq HS2 HS3
                go_wp2_with fail
                go_roundw
                case rel => exact ⟨k + 1, by omega, by go_num, by rw [HT.out, HS.out], C0, by rw [HT.out, HS.out]; exact C1⟩
                case measure => simp [intOf]; omega
            · rename_i hh
              clear hh
              have V : Hid (Bx wr ((((w4.setCell ⟨wr.heap.size, 0, none⟩ (.int .u64 r)).setCell ⟨wr.heap.size, 1, none⟩ (.int .i64 f)).setCell ⟨wr.heap.size, 2, none⟩ (.int .u64 g)).setCell ⟨wr.heap.size, 3, none⟩ (.int .i64 q)) wr.heap.size #[.int .u64 r, .int .i64 f, .int .u64 g, .int .i64 q] 79) := Lib.hid (Bx.put4 ⟨hb4, Nat.le_refl _, k4⟩ _ _ _ _)
              replace C0 : Hid (Bx w ((((w4.setCell ⟨wr.heap.size, 0, none⟩ (.int .u64 r)).setCell ⟨wr.heap.size, 1, none⟩ (.int .i64 f)).setCell ⟨wr.heap.size, 2, none⟩ (.int .u64 g)).setCell ⟨wr.heap.size, 3, none⟩ (.int .i64 q)) w.heap.size #[.int .u64 0, .int .i64 0, .int .u64 0, .int .i64 0] 79) := Lib.hid ((C0.out w4 k4).far4 (by omega) (by omega) _ _ _ _)
              replace C1 : Hid (Bx w ((((w4.setCell ⟨wr.heap.size, 0, none⟩ (.int .u64 r)).setCell ⟨wr.heap.size, 1, none⟩ (.int .i64 f)).setCell ⟨wr.heap.size, 2, none⟩ (.int .u64 g)).setCell ⟨wr.heap.size, 3, none⟩ (.int .i64 q)) bx #[.int .u64 s1, .int .i64 s2, .int .u64 s3, .int .i64 s4] 79) := Lib.hid ((C1.out w4 k4).far4 (by omega) (by omega) _ _ _ _)
              generalize ((((w4.setCell ⟨wr.heap.size, 0, none⟩ (.int .u64 r)).setCell ⟨wr.heap.size, 1, none⟩ (.int .i64 f)).setCell ⟨wr.heap.size, 2, none⟩ (.int .u64 g)).setCell ⟨wr.heap.size, 3, none⟩ (.int .i64 q)) = w5 at C0 C1 V ⊢
              generalize wr.heap.size = vb at V ⊢
              clear hb4 y0 y1 y2 y3 fr4 hz4 hV0 hV1
              clear k4 h4 k0 kl KF HL
              go_upto_region 8 with fail
              have x0 := V.out.cell 0 rfl
              have x1 := V.out.cell 1 rfl
              have x2 := V.out.cell 2 rfl
              have x3 := V.out.cell 3 rfl
              have u0 := C1.out.cell 0 rfl
              have u1 := C1.out.cell 1 rfl
              have u2 := C1.out.cell 2 rfl
              have u3 := C1.out.cell 3 rfl
              have HC5 := Lib.hid (rcmp_c r f g q s1 s2 s3 s4 w5)
              go_wp2_with fail
              ((with_reducible refine HC5.out.mono ?_); rintro e w6 ⟨rfl, h6⟩)
              replace C0 := Lib.hid (C0.out.below h6)
              replace C1 := Lib.hid (C1.out.below h6)
              replace V := Lib.hid (V.out.below h6)
              clear h6 HC5 x0 x1 x2 x3 u0 u1 u2 u3
              by_cases hq : cmpV (r, f, g, q) (s1, s2, s3, s4) < 0
              · have HS := Lib.hid (HS3.out hq)
                have d1 : decide (cmpV (r, f, g, q) (s1, s2, s3, s4) < 0) = true := decide_eq_true hq
                generalize cmpV (r, f, g, q) (s1, s2, s3, s4) = cc at d1 ⊢
                clear hq HS2 HS3
                have x0 := V.out.cell 0 rfl
                have x1 := V.out.cell 1 rfl
                have x2 := V.out.cell 2 rfl
                have x3 := V.out.cell 3 rfl
                have u0 := C1.out.cell 0 rfl
                have u1 := C1.out.cell 1 rfl
                have u2 := C1.out.cell 2 rfl
                have u3 := C1.out.cell 3 rfl
                have fr := fun j => C1.out.free j
                have hz := C1.out.lt
                go_wp2_with fail
                go_roundw
                case rel => exact ⟨k + 1, by omega, by go_num, by rw [HT.out, HS.out], Lib.hid (C0.out.far4 C1.out.ge hne _ _ _ _), by rw [HT.out, HS.out]; exact Lib.hid (C1.out.put4 _ _ _ _)⟩
                case measure => simp [intOf]; omega
              · have HS := Lib.hid (HS2.out (by omega))
                have d1 : decide (cmpV (r, f, g, q) (s1, s2, s3, s4) < 0) = false := decide_eq_false hq
                generalize cmpV (r, f, g, q) (s1, s2, s3, s4) = cc at d1 ⊢
                clear hq HS2 HS3
                go_wp2_with fail
                go_roundw
                case rel => exact ⟨k + 1, by omega, by go_num, by rw [HT.out, HS.out], C0, by rw [HT.out, HS.out]; exact C1⟩
                case measure => simp [intOf]; omega
          · have HL := fun U => Lib.hid (rthr_no r c g q kk U hb)
            have HS := Lib.hid (step_no1 b k (true, r, c, g, q, kk) (sp, s1, s2, s3, s4) (by simp [leadB, hb]))
            clear hb hg k2 k3
            go_region_held3 (fun U => U.cell? ⟨bb, off + k * 6 + 1, none⟩ = some (.int .u64 r) ∧ U.cell? ⟨bb, off + k * 6 + 2, none⟩ = some (.int .i64 c) ∧ U.cell? ⟨bb, off + k * 6 + 3, none⟩ = some (.int .u64 g) ∧ U.cell? ⟨bb, off + k * 6 + 4, none⟩ = some (.int .i64 q) ∧ U.cell? ⟨bb, off + k * 6 + 5, none⟩ = some (.int .i64 kk) ∧ Below wr.heap.size wr U)
              (first | with_reducible exact KF.out _ (k_wr4 k4 kl _ _ _ _) | with_reducible exact KF.out _ (k_alloc k4 _) | with_reducible exact KF.out _ k4 | with_reducible exact KF.out _ (k_alloc k0 _).drew | with_reducible exact KF.out _ k0.drew)
              (first
                | (go_at_call 54; (with_reducible refine (HL _).out.mono ?_); rintro e w4 ⟨rfl, h4⟩; have k4 := k_call (k_alloc k0 _).drew h4; have hb4 : w4.heap[wr.heap.size]? = some (.cells #[.int .u64 0, .int .i64 0, .int .u64 0, .int .i64 0] 79 (0, 0)) := below_block h4 (by simp [World.drew]) (heap_new wr _); have y0 := cell_of_block hb4 (j := 0) rfl; have y1 := cell_of_block hb4 (j := 1) rfl; have y2 := cell_of_block hb4 (j := 2) rfl; have y3 := cell_of_block hb4 (j := 3) rfl; have fr4 := fun j => free_of_block (j := j) hb4; have hz4 := lt_of_block hb4)
                | (go_at_call 54; (with_reducible refine (HL _).out.mono ?_); rintro e w4 ⟨rfl, h4⟩; have k4 := k_call k0.drew h4))
            · rename_i hh
              clear hh
              replace C0 := Lib.hid (C0.out w4 k4)
              replace C1 := Lib.hid (C1.out w4 k4)
              replace C0 := Lib.hid (C0.out.alloc (.cells #[.int .u64 0, .int .i64 0, .int .u64 0, .int .i64 0] 79))
              replace C1 := Lib.hid (C1.out.alloc (.cells #[.int .u64 0, .int .i64 0, .int .u64 0, .int .i64 0] 79))
              clear k4 h4 k0 kl KF HL
              go_wp2_with fail
              go_roundw
              case rel => exact ⟨k + 1, by omega, by go_num, by rw [HT.out, HS.out], C0, by rw [HT.out, HS.out]; exact C1⟩
              case measure => simp [intOf]; omega
            · rename_i hh
              clear hh
              have V : Hid (Bx wr ((((w4.setCell ⟨wr.heap.size, 0, none⟩ (.int .u64 0)).setCell ⟨wr.heap.size, 1, none⟩ (.int .i64 0)).setCell ⟨wr.heap.size, 2, none⟩ (.int .u64 0)).setCell ⟨wr.heap.size, 3, none⟩ (.int .i64 0)) wr.heap.size #[.int .u64 0, .int .i64 0, .int .u64 0, .int .i64 0] 79) := Lib.hid (Bx.put4 ⟨hb4, Nat.le_refl _, k4⟩ _ _ _ _)
              replace C0 : Hid (Bx w ((((w4.setCell ⟨wr.heap.size, 0, none⟩ (.int .u64 0)).setCell ⟨wr.heap.size, 1, none⟩ (.int .i64 0)).setCell ⟨wr.heap.size, 2, none⟩ (.int .u64 0)).setCell ⟨wr.heap.size, 3, none⟩ (.int .i64 0)) w.heap.size #[.int .u64 0, .int .i64 0, .int .u64 0, .int .i64 0] 79) := Lib.hid ((C0.out w4 k4).far4 (by omega) (by omega) _ _ _ _)
              replace C1 : Hid (Bx w ((((w4.setCell ⟨wr.heap.size, 0, none⟩ (.int .u64 0)).setCell ⟨wr.heap.size, 1, none⟩ (.int .i64 0)).setCell ⟨wr.heap.size, 2, none⟩ (.int .u64 0)).setCell ⟨wr.heap.size, 3, none⟩ (.int .i64 0)) bx #[.int .u64 s1, .int .i64 s2, .int .u64 s3, .int .i64 s4] 79) := Lib.hid ((C1.out w4 k4).far4 (by omega) (by omega) _ _ _ _)
              generalize ((((w4.setCell ⟨wr.heap.size, 0, none⟩ (.int .u64 0)).setCell ⟨wr.heap.size, 1, none⟩ (.int .i64 0)).setCell ⟨wr.heap.size, 2, none⟩ (.int .u64 0)).setCell ⟨wr.heap.size, 3, none⟩ (.int .i64 0)) = w5 at C0 C1 V ⊢
              generalize wr.heap.size = vb at V ⊢
              clear hb4 y0 y1 y2 y3 fr4 hz4 hV0 hV1
              clear k4 h4 k0 kl KF HL
              go_wp2_with fail
              go_roundw
              case rel => exact ⟨k + 1, by omega, by go_num, by rw [HT.out, HS.out], C0, by rw [HT.out, HS.out]; exact C1⟩
              case measure => simp [intOf]; omega
    · obtain rfl : k = L.length := by omega
      rw [List.take_length] at C1 ⊢
      generalize hS : bestL b L = s at C1 ⊢
      have HS := Lib.hid hS
      clear hS
      obtain ⟨sp, s1, s2, s3, s4⟩ := s
      simp only at C1 ⊢
      have y0 := C0.out.cell 0 rfl
      have y1 := C0.out.cell 1 rfl
      have y2 := C0.out.cell 2 rfl
      have y3 := C0.out.cell 3 rfl
      have u0 := C1.out.cell 0 rfl
      have u1 := C1.out.cell 1 rfl
      have u2 := C1.out.cell 2 rfl
      have u3 := C1.out.cell 3 rfl
      have fr := fun j => C0.out.free j
      have hz := C0.out.lt
      have hz1 := C1.out.lt
      go_wp2_with fail
      go_region
      go_wp2_with fail
      refine bodyPost_ret (v := .tuple #[.int .i64 sp, .agg #[.int .u64 s1, .int .i64 s2, .int .u64 s3, .int .i64 s4]]) (by simp [results, Try.results45, go_sem, y0, y1, y2, y3]) rfl ⟨by rw [HS.out], ?_⟩
      exact below_wr4d C0.out.bel (Nat.le_refl _) _ _ _ _

end Go.Proofs.Ytolmkflhddlcnaa
