/-
  Best of prio, and the document's. Contracts over the translated program.
-/
import Derived.Test.YtolmkflhddlcnaaPrB
import Derived.StillTailTactics
import Derived.BigQuiet
import Derived.Deep.QuietTactic
namespace Go.Proofs.Ytolmkflhddlcnaa
open Go.RowKit
set_option linter.unusedVariables false
set_option linter.unusedSimpArgs false

theorem step_no1 (b i : Int) (h : Hd) (s : Bst) (k : leadB b h = false) : stepB b i h s = s := by unfold stepB; rw [k]; rfl
theorem step_no2 (b i : Int) (h : Hd) (s : Bst) (k : leadB b h = true) (q : ¬ cmpV (leadV h) s.2 < 0) : stepB b i h s = s := by unfold stepB; rw [k, decide_eq_false q]; rfl
theorem step_yes (b i : Int) (h : Hd) (s : Bst) (k : leadB b h = true) (q : cmpV (leadV h) s.2 < 0) : stepB b i h s = (i, leadV h) := by unfold stepB; rw [k, decide_eq_true q]; rfl
theorem k_alloc {W w : World} (h : Below W.heap.size W w) (o : Obj) : Below W.heap.size W (w.alloc o) := h.alloc h.size o
theorem k_call {W w w' : World} (h : Below W.heap.size W w) (k : Below w.heap.size w w') : Below W.heap.size W w' := h.trans (k.mono h.size)
theorem k_wr4 {W w : World} (h : Below W.heap.size W w) {b : Nat} (hb : W.heap.size ≤ b) (v0 v1 v2 v3 : Value) : Below W.heap.size W ((((w.setCell ⟨b, 0, none⟩ v0).setCell ⟨b, 1, none⟩ v1).setCell ⟨b, 2, none⟩ v2).setCell ⟨b, 3, none⟩ v3) := below_put4 h hb v0 v1 v2 v3
theorem below_wr4d {B : Nat} {w0 w : World} (h : Below B w0 w) {b : Nat} (hb : B ≤ b) (v0 v1 v2 v3 : Value) : Below B w0 (wr4 w.drew b v0 v1 v2 v3) := below_put4 h.drew hb v0 v1 v2 v3

set_option maxHeartbeats 8000000 in
set_option maxRecDepth 100000 in
theorem pbest_c (b : Int) (v : Value) (L : List Hd) (w : World) (hl : L.length ≤ 1000000000) (h : RowsAt 6 cellsHd w v L) :
    Calls Try.prog 40 #[.int .u64 b, v] w fun e w' => e = .returned (.tuple #[.int .i64 (bestL b L).1, .agg #[.int .u64 (bestL b L).2.1, .int .i64 (bestL b L).2.2.1, .int .u64 (bestL b L).2.2.2.1, .int .i64 (bestL b L).2.2.2.2]]) ∧ Below w.heap.size w w' := by
  obtain ⟨p, cap, bb, off, rfl, hp, hc⟩ := h
  have HP := Lib.hid hp
  have HC := Lib.hid hc
  clear hp hc
  have B0 := Lib.hid (Bx.start w #[.int .u64 0, .int .i64 0, .int .u64 0, .int .i64 0] 79)
  have HO := fun U => Lib.hid (pown_c b U)
  go_enter Try.func40, Try.ntmps40
  go_wp2_with fail
  ((with_reducible refine (HO _).out.mono ?_); rintro e w1 ⟨rfl, h1⟩)
  have hne : w.heap.size ≠ w1.heap.size := by have := h1.size; simp at this; omega
  replace B0 := Lib.hid (B0.out.below h1)
  clear h1 HO
  have B1 := Lib.hid (Bx.mk' B0.out.bel #[.int .u64 b, .int .i64 0, .int .u64 b, .int .i64 0] 79)
  replace B0 := Lib.hid (B0.out.alloc (.cells #[.int .u64 b, .int .i64 0, .int .u64 b, .int .i64 0] 79))
  go_upto_region 2 with fail
  generalize w1.alloc (.cells #[.int .u64 b, .int .i64 0, .int .u64 b, .int .i64 0] 79) = w2 at B0 B1 ⊢
  generalize w1.heap.size = bx at hne B1 ⊢
  go_wp2_with fail
  go_loopw [6, 8, 9, 10, 11, 16] (fun s6 _ _ _ _ i wr => ∃ k : Nat, k ≤ L.length ∧ i = .int .i64 k ∧ s6 = .int .i64 (bestL b (L.take k)).1 ∧ Hid (Bx w wr w.heap.size #[.int .u64 0, .int .i64 0, .int .u64 0, .int .i64 0] 79) ∧ Hid (Bx w wr bx #[.int .u64 (bestL b (L.take k)).2.1, .int .i64 (bestL b (L.take k)).2.2.1, .int .u64 (bestL b (L.take k)).2.2.2.1, .int .i64 (bestL b (L.take k)).2.2.2.2] 79))
    (fun _ _ _ _ _ i _ => L.length - (intOf i).toNat)
  case atStart => exact ⟨0, Nat.zero_le _, rfl, rfl, B0, B1⟩
  case round =>
    obtain ⟨k, hk, rfl, rfl, C0, C1⟩ := hrel
    by_cases hlt : k < L.length
    · have hne' : L ≠ [] := by rintro rfl; simp at hlt
      obtain rfl := HP.out hne'
      have KB := Lib.hid C0.out.bel
      have HT := Lib.hid (best_take b L k hlt)
      have x0 : wr.cell? ⟨bb, off + k * 6, none⟩ = some _ := gcell_below KB.out (HC.out k _ (List.getElem?_eq_getElem hlt) 0 _ rfl)
      have x1 : wr.cell? ⟨bb, off + k * 6 + 1, none⟩ = some _ := gcell_below KB.out (HC.out k _ (List.getElem?_eq_getElem hlt) 1 _ rfl)
      have x2 : wr.cell? ⟨bb, off + k * 6 + 2, none⟩ = some _ := gcell_below KB.out (HC.out k _ (List.getElem?_eq_getElem hlt) 2 _ rfl)
      have x3 : wr.cell? ⟨bb, off + k * 6 + 3, none⟩ = some _ := gcell_below KB.out (HC.out k _ (List.getElem?_eq_getElem hlt) 3 _ rfl)
      have x4 : wr.cell? ⟨bb, off + k * 6 + 4, none⟩ = some _ := gcell_below KB.out (HC.out k _ (List.getElem?_eq_getElem hlt) 4 _ rfl)
      have x5 : wr.cell? ⟨bb, off + k * 6 + 5, none⟩ = some _ := gcell_below KB.out (HC.out k _ (List.getElem?_eq_getElem hlt) 5 _ rfl)
      generalize bestL b (L.take k) = s at HT C1 ⊢
      generalize L[k] = hd at HT x0 x1 x2 x3 x4 x5
      obtain ⟨sp, s1, s2, s3, s4⟩ := s
      obtain ⟨x, r, c, g, q, kk⟩ := hd
      simp only at x0 x1 x2 x3 x4 x5 C1
      clear hne' KB
      have hlt' : (k : Int) < (L.length : Int) := by omega
      go_upto_region 5 with fail
      replace C0 := Lib.hid (C0.out.alloc (.cells #[.bool x, .int .u64 r, .int .i64 c, .int .u64 g, .int .i64 q, .int .i64 kk] 84))
      replace C1 := Lib.hid (C1.out.alloc (.cells #[.bool x, .int .u64 r, .int .i64 c, .int .u64 g, .int .i64 q, .int .i64 kk] 84))
      have z : ∀ j v, (#[.bool x, .int .u64 r, .int .i64 c, .int .u64 g, .int .i64 q, .int .i64 kk] : Array Value)[j]? = some v → (wr.alloc (.cells #[.bool x, .int .u64 r, .int .i64 c, .int .u64 g, .int .i64 q, .int .i64 kk] 84)).cell? ⟨wr.heap.size, j, none⟩ = some v := fun j v hj => cell_of_block (heap_new _ _) hj
      generalize wr.alloc (.cells #[.bool x, .int .u64 r, .int .i64 c, .int .u64 g, .int .i64 q, .int .i64 kk] 84) = w3 at C0 C1 z ⊢
      clear x0 x1 x2 x3 x4 x5
      have x0 := z 0 _ rfl
      have x1 := z 1 _ rfl
      have x2 := z 2 _ rfl
      have x3 := z 3 _ rfl
      have x4 := z 4 _ rfl
      have x5 := z 5 _ rfl
      clear z
      have HLn := fun h => Lib.hid (lead_no b x r c g q kk w3 h)
      have HLy := fun h => Lib.hid (lead_ok b x r c g q kk w3 h)
      rcases hld : leadB b (x, r, c, g, q, kk) with _ | _
      · have HS := Lib.hid (step_no1 b k _ (sp, s1, s2, s3, s4) hld)
        have HL := HLn hld
        clear HLn HLy hld
        go_wp2_with fail
        ((with_reducible refine HL.out.mono ?_); rintro e w4 ⟨rfl, h4⟩)
        replace C0 := Lib.hid (C0.out.below h4)
        replace C1 := Lib.hid (C1.out.below h4)
        clear h4 HL x0 x1 x2 x3 x4 x5
        replace C0 := Lib.hid (C0.out.alloc (.cells #[.int .u64 0, .int .i64 0, .int .u64 0, .int .i64 0] 79))
        replace C1 := Lib.hid (C1.out.alloc (.cells #[.int .u64 0, .int .i64 0, .int .u64 0, .int .i64 0] 79))
        go_wp2_with fail
        go_roundw
        case rel => exact ⟨k + 1, by omega, by go_num, by rw [HT.out, HS.out], C0, by rw [HT.out, HS.out]; exact C1⟩
        case measure => simp [intOf]; omega
      · have HL := HLy hld
        have HS2 := Lib.hid (fun h => step_no2 b k (x, r, c, g, q, kk) (sp, s1, s2, s3, s4) hld h)
        have HS3 := Lib.hid (fun h => step_yes b k (x, r, c, g, q, kk) (sp, s1, s2, s3, s4) hld h)
        clear HLn HLy hld
        go_wp2_with fail
        ((with_reducible refine HL.out.mono ?_); rintro e w4 ⟨rfl, h4⟩)
        replace C0 := Lib.hid (C0.out.below h4)
        replace C1 := Lib.hid (C1.out.below h4)
        clear h4 HL x0 x1 x2 x3 x4 x5
        unfold leadV thrV vecH costH at HS2 HS3
        simp only at HS2 HS3
        generalize farC c kk = f at HS2 HS3 ⊢
        go_upto_region 6 with fail
        replace C0 := Lib.hid (C0.out.alloc (.cells #[.int .u64 r, .int .i64 f, .int .u64 g, .int .i64 q] 79))
        replace C1 := Lib.hid (C1.out.alloc (.cells #[.int .u64 r, .int .i64 f, .int .u64 g, .int .i64 q] 79))
        have V := Lib.hid (show Bx w4 (w4.alloc (.cells #[.int .u64 r, .int .i64 f, .int .u64 g, .int .i64 q] 79)) w4.heap.size #[.int .u64 r, .int .i64 f, .int .u64 g, .int .i64 q] 79 from Bx.start _ _ _)
        generalize w4.alloc (.cells #[.int .u64 r, .int .i64 f, .int .u64 g, .int .i64 q] 79) = w5 at C0 C1 V ⊢
        generalize w4.heap.size = vb at V ⊢
        have x0 := V.out.cell 0 rfl
        have x1 := V.out.cell 1 rfl
        have x2 := V.out.cell 2 rfl
        have x3 := V.out.cell 3 rfl
        have u0 := C1.out.cell 0 rfl
        have u1 := C1.out.cell 1 rfl
        have u2 := C1.out.cell 2 rfl
        have u3 := C1.out.cell 3 rfl
        have HC5 := Lib.hid (pcmp_c r f g q s1 s2 s3 s4 w5)
        go_wp2_with fail
        ((with_reducible refine HC5.out.mono ?_); rintro e w6 ⟨rfl, h6⟩)
        replace C0 := Lib.hid (C0.out.below h6)
        replace C1 := Lib.hid (C1.out.below h6)
        replace V := Lib.hid (V.out.below h6)
        clear h6 HC5 x0 x1 x2 x3 u0 u1 u2 u3
        by_cases hq : cmpV (r, f, g, q) (s1, s2, s3, s4) < 0
        · have HS := Lib.hid (HS3.out hq)
          have d1 : decide (cmpV (r, f, g, q) (s1, s2, s3, s4) < 0) = true := decide_eq_true hq
          generalize cmpV (r, f, g, q) (s1, s2, s3, s4) = cc at d1 ⊢
          clear hq HS2 HS3
          have x0 := V.out.cell 0 rfl
          have x1 := V.out.cell 1 rfl
          have x2 := V.out.cell 2 rfl
          have x3 := V.out.cell 3 rfl
          have u0 := C1.out.cell 0 rfl
          have u1 := C1.out.cell 1 rfl
          have u2 := C1.out.cell 2 rfl
          have u3 := C1.out.cell 3 rfl
          have fr := fun j => C1.out.free j
          have hz := C1.out.lt
          go_wp2_with fail
          go_region
          go_wp2_with fail
          go_roundw
          case rel => exact ⟨k + 1, by omega, by go_num, by rw [HT.out, HS.out], Lib.hid (C0.out.drew.far4 C1.out.ge hne _ _ _ _), by rw [HT.out, HS.out]; exact Lib.hid (C1.out.drew.put4 _ _ _ _)⟩
          case measure => simp [intOf]; omega
        · have HS := Lib.hid (HS2.out (by omega))
          have d1 : decide (cmpV (r, f, g, q) (s1, s2, s3, s4) < 0) = false := decide_eq_false hq
          generalize cmpV (r, f, g, q) (s1, s2, s3, s4) = cc at d1 ⊢
          clear hq HS2 HS3
          go_wp2_with fail
          go_roundw
          case rel => exact ⟨k + 1, by omega, by go_num, by rw [HT.out, HS.out], C0, by rw [HT.out, HS.out]; exact C1⟩
          case measure => simp [intOf]; omega
    · obtain rfl : k = L.length := by omega
      rw [List.take_length] at C1 ⊢
      generalize hS : bestL b L = s at C1 ⊢
      have HS := Lib.hid hS
      clear hS
      obtain ⟨sp, s1, s2, s3, s4⟩ := s
      simp only at C1 ⊢
      have y0 := C0.out.cell 0 rfl
      have y1 := C0.out.cell 1 rfl
      have y2 := C0.out.cell 2 rfl
      have y3 := C0.out.cell 3 rfl
      have u0 := C1.out.cell 0 rfl
      have u1 := C1.out.cell 1 rfl
      have u2 := C1.out.cell 2 rfl
      have u3 := C1.out.cell 3 rfl
      have fr := fun j => C0.out.free j
      have hz := C0.out.lt
      have hz1 := C1.out.lt
      go_wp2_with fail
      go_region
      go_wp2_with fail
      refine bodyPost_ret (v := .tuple #[.int .i64 sp, .agg #[.int .u64 s1, .int .i64 s2, .int .u64 s3, .int .i64 s4]]) (by simp [results, Try.results40, go_sem, y0, y1, y2, y3]) rfl ⟨by rw [HS.out], ?_⟩
      exact below_wr4d C0.out.bel (Nat.le_refl _) _ _ _ _

end Go.Proofs.Ytolmkflhddlcnaa
