/-
  SameInts, Tells; Roles of prio. Contracts over the translated program.
-/
import Derived.Test.YtolmkflhddlcnaaPrC
import Derived.Test.YtolmkflhddlcnaaMemI
import Derived.Maps.AppendAt
import Derived.OwnWalk
import Derived.Deep.Onto
namespace Go.Proofs.Ytolmkflhddlcnaa
open Go.RowKit
set_option linter.unusedVariables false
set_option linter.unusedSimpArgs false

set_option maxHeartbeats 1000000 in
set_option maxRecDepth 100000 in
theorem sameI_c (v1 v2 : Value) (l : List Int) (w : World) (hl : l.length ≤ 9223372036854775807) (h1 : IntsAt w v1 l) (h2 : IntsAt w v2 l) :
    Calls Try.prog 17 #[v1, v2] w fun e w' => e = .returned (.bool true) ∧ ∃ n, w' = w.drewN n := by
  obtain ⟨p1, c1, b1, o1, rfl, hp1, hc1⟩ := h1
  obtain ⟨p2, c2, b2, o2, rfl, hp2, hc2⟩ := h2
  have HP1 := Lib.hid hp1
  have HP2 := Lib.hid hp2
  have HC1 := Lib.hid hc1
  have HC2 := Lib.hid hc2
  clear hp1 hp2 hc1 hc2
  go_enter Try.func17, Try.ntmps17
  go_wp2
  go_loopw [5] (fun i wr => ∃ k n : Nat, k ≤ l.length ∧ i = .int .i64 k ∧ wr = w.drewN n) (fun i _ => l.length - (intOf i).toNat)
  case atStart => exact ⟨0, 0, Nat.zero_le _, rfl, rfl⟩
  case round =>
    obtain ⟨k, n, hk, rfl, rfl⟩ := hrel
    by_cases hlt : k < l.length
    · have hne : l ≠ [] := by rintro rfl; simp at hlt
      obtain rfl := HP1.out hne
      obtain rfl := HP2.out hne
      have hs : l[k]? = some l[k] := List.getElem?_eq_getElem hlt
      have x1 := HC1.out k _ hs
      have x2 := HC2.out k _ hs
      generalize l[k] = s at x1 x2
      clear hs hne
      have hlt' : (k : Int) < (l.length : Int) := by omega
      go_wp2
      go_quiet (fail)
      go_wp2
      go_roundw
      case rel => exact ⟨k + 1, _, by omega, by go_num, rfl⟩
      case measure => simp [intOf]; omega
    · obtain rfl : k = l.length := by omega
      go_wp2
      go_ret
      exact ⟨rfl, _, rfl⟩

theorem info_I : (Try.prog.info? 3).map (fun i => (i.zero, i.size, i.bytes)) = some (some (.int .i64 0), 1, 8) := by kernel_rfl

theorem rtells_c (b r c g p k : Int) (w : World) : Calls Try.prog 47 #[.int .u64 b, .agg #[.int .u64 r, .int .i64 c, .int .u64 g, .int .i64 p], .int .i64 k] w fun e w' => e = .returned (.agg #[.int .u64 r, .int .i64 c, .int .u64 b, .int .i64 k]) ∧ Below w.heap.size w w' := by
  have hB := fun o1 o2 => Lib.hid (((Below.refl w.heap.size w).alloc (Nat.le_refl _) o1).alloc (by simp) o2)
  go_enter Try.func47, Try.ntmps47
  go_wp2_with fail
  refine bodyPost_ret (v := .agg #[.int .u64 r, .int .i64 c, .int .u64 b, .int .i64 k]) (by simp [results, Try.results47, go_sem]) rfl ⟨rfl, ?_⟩
  exact (hB _ _).out

theorem Bx.grown {w0 w w' : World} {b : Nat} {xs : Array Value} {t : TypeId} {row : Option Nat} (h : Bx w0 w b xs t) (hg : w.grownBy w' row) (hr : ∀ j, row = some j → w0.heap.size ≤ j ∧ j ≠ b) : Bx w0 w' b xs t :=
  ⟨(hg.block b h.lt (fun e => (hr b e.symm).2 rfl)).trans h.blk, h.ge, h.bel.grown hg h.bel.size (fun j hj => (hr j hj).1)⟩
theorem one_int (n : Int) : ∀ u ∈ [Value.int .i64 n], u.oneCell' = true := by intro u hu; simp at hu; subst hu; rfl
theorem role1 (b : Int) (s : Bst) (h : Hd) : roleH b s s.1 h = 1 := by unfold roleH; rw [if_pos rfl]
theorem role2 (b : Int) (s : Bst) (i : Int) (h : Hd) (hi : i ≠ s.1) (k : h.1 = false ∨ cmpV (s.2.1, s.2.2.1, b, i) (vecH h) ≤ 0) : roleH b s i h = 2 := by
  unfold roleH
  rw [if_neg hi, if_pos]
  rcases k with k | k
  · rw [k]; rfl
  · rw [decide_eq_true k]; simp
theorem role3 (b : Int) (s : Bst) (i : Int) (h : Hd) (hi : i ≠ s.1) (k : h.1 = true) (q : ¬ cmpV (s.2.1, s.2.2.1, b, i) (vecH h) ≤ 0) : roleH b s i h = 3 := by
  unfold roleH
  rw [if_neg hi, if_neg]
  rw [k, decide_eq_false q]; simp

set_option maxHeartbeats 8000000 in
set_option maxRecDepth 100000 in
theorem proles_o (b : Int) (v : Value) (L : List Hd) (w : World) (hl : L.length ≤ 1000000) (h : RowsAt 6 cellsHd w v L) :
    Calls Try.prog 27 #[.int .u64 b, v] w fun e w' => ∃ u, e = .returned u ∧ w'.ownsRow w.heap.size 3 1 u L.length ((rolesL b L).map (Value.int .i64)) ∧ Below w.heap.size w w' := by
  have HB := Lib.hid (pbest_c b v L w (by omega) h)
  unfold rolesL
  obtain ⟨p, cap, bb, off, rfl, hp, hc⟩ := h
  have HP := Lib.hid hp
  have HC := Lib.hid hc
  clear hp hc
  obtain ⟨i0, hi, hz0, hz1, hz2⟩ := info_parts info_I
  generalize bestL b L = s at HB ⊢
  obtain ⟨sp, s1, s2, s3, s4⟩ := s
  simp only at HB
  go_enter Try.func27, Try.ntmps27
  go_wp2_with fail
  ((with_reducible refine HB.out.mono ?_); rintro e w1 ⟨rfl, h1⟩)
  have B := Lib.hid (Bx.mk' h1 #[.int .u64 s1, .int .i64 s2, .int .u64 s3, .int .i64 s4] 79)
  clear HB h1
  go_upto_region 2 with fail
  generalize w1.alloc (.cells #[.int .u64 s1, .int .i64 s2, .int .u64 s3, .int .i64 s4] 79) = w2 at B ⊢
  generalize w1.heap.size = bx at B ⊢
  have hb2 := Lib.hid (And.intro B.out.lt (And.intro B.out.bel.size B.out.ge))
  go_wp2_with fail
  go_loopw [7, 8, 9, 10, 19, 34, 41] (fun s7 _ _ _ i _ _ wr => ∃ k : Nat, k ≤ L.length ∧ i = .int .i64 k ∧ Hid (wr.ownsRow w2.heap.size 3 1 s7 k ((rolesGo b (sp, s1, s2, s3, s4) 0 (L.take k)).map (Value.int .i64))) ∧ Hid (Bx w wr bx #[.int .u64 s1, .int .i64 s2, .int .u64 s3, .int .i64 s4] 79) ∧ Hid (w2.heap.size ≤ wr.heap.size))
    (fun _ _ _ _ i _ _ _ => L.length - (intOf i).toNat)
  case atStart => exact ⟨0, Nat.zero_le _, rfl, Lib.hid (World.ownsRow_nil _ _ _ _), B, Lib.hid (Nat.le_refl _)⟩
  case round =>
    obtain ⟨k, hk, rfl, HO, C1, HS⟩ := hrel
    by_cases hlt : k < L.length
    · have hne' : L ≠ [] := by rintro rfl; simp at hlt
      obtain rfl := HP.out hne'
      have KB := Lib.hid C1.out.bel
      have HT := Lib.hid (roles_take b (sp, s1, s2, s3, s4) L k hlt)
      generalize rolesGo b (sp, s1, s2, s3, s4) 0 (L.take k) = acc at HT HO
      have x0 : wr.cell? ⟨bb, off + k * 6, none⟩ = some _ := gcell_below KB.out (HC.out k _ (List.getElem?_eq_getElem hlt) 0 _ rfl)
      have x1 : wr.cell? ⟨bb, off + k * 6 + 1, none⟩ = some _ := gcell_below KB.out (HC.out k _ (List.getElem?_eq_getElem hlt) 1 _ rfl)
      have x2 : wr.cell? ⟨bb, off + k * 6 + 2, none⟩ = some _ := gcell_below KB.out (HC.out k _ (List.getElem?_eq_getElem hlt) 2 _ rfl)
      have x3 : wr.cell? ⟨bb, off + k * 6 + 3, none⟩ = some _ := gcell_below KB.out (HC.out k _ (List.getElem?_eq_getElem hlt) 3 _ rfl)
      have x4 : wr.cell? ⟨bb, off + k * 6 + 4, none⟩ = some _ := gcell_below KB.out (HC.out k _ (List.getElem?_eq_getElem hlt) 4 _ rfl)
      have x5 : wr.cell? ⟨bb, off + k * 6 + 5, none⟩ = some _ := gcell_below KB.out (HC.out k _ (List.getElem?_eq_getElem hlt) 5 _ rfl)
      generalize L[k] = hd at HT x0 x1 x2 x3 x4 x5
      obtain ⟨x, r, c, g, q, kk⟩ := hd
      simp only at x0 x1 x2 x3 x4 x5
      have u0 := C1.out.cell 0 rfl
      have u1 := C1.out.cell 1 rfl
      have u2 := C1.out.cell 2 rfl
      have u3 := C1.out.cell 3 rfl
      clear hne' KB
      have hlt' : (k : Int) < (L.length : Int) := by omega
      have hB4 := Lib.hid ((Below.refl wr.heap.size wr).alloc (Nat.le_refl _) (.cells #[.bool x, .int .u64 r, .int .i64 c, .int .u64 g, .int .i64 q, .int .i64 kk] 84))
      have y := Lib.hid (heap_new wr (.cells #[.bool x, .int .u64 r, .int .i64 c, .int .u64 g, .int .i64 q, .int .i64 kk] 84))
      go_upto_region 6 with fail
      clear x0 x1 x2 x3 x4 x5 u0 u1 u2 u3
      generalize wr.alloc (.cells #[.bool x, .int .u64 r, .int .i64 c, .int .u64 g, .int .i64 q, .int .i64 kk] 84) = w4 at hB4 y ⊢
      generalize wr.heap.size = hx at y ⊢
      replace C1 := Lib.hid (C1.out.below hB4.out)
      have u0 := C1.out.cell 0 rfl
      have u1 := C1.out.cell 1 rfl
      go_upto_region 8 with fail
      clear u0 u1
      have hB5 := Lib.hid ((Below.refl w4.heap.size w4).alloc (Nat.le_refl _) (.cells #[.int .u64 s1, .int .i64 s2, .int .u64 b, .int .i64 k] 79))
      have z := Lib.hid (heap_new w4 (.cells #[.int .u64 s1, .int .i64 s2, .int .u64 b, .int .i64 k] 79))
      replace y := Lib.hid (heap_old (p := .cells #[.int .u64 s1, .int .i64 s2, .int .u64 b, .int .i64 k] 79) y.out)
      generalize w4.alloc (.cells #[.int .u64 s1, .int .i64 s2, .int .u64 b, .int .i64 k] 79) = w5 at hB5 y z ⊢
      generalize w4.heap.size = tx at z ⊢
      have x0 := cell_of_block (j := 0) y.out rfl
      have x1 := cell_of_block (j := 1) y.out rfl
      have x2 := cell_of_block (j := 2) y.out rfl
      have x3 := cell_of_block (j := 3) y.out rfl
      have x4 := cell_of_block (j := 4) y.out rfl
      have x5 := cell_of_block (j := 5) y.out rfl
      have v0 := cell_of_block (j := 0) z.out rfl
      have v1 := cell_of_block (j := 1) z.out rfl
      have v2 := cell_of_block (j := 2) z.out rfl
      have v3 := cell_of_block (j := 3) z.out rfl
      clear y z
      replace HO := Lib.hid (iowns_below HO.out hB4.out)
      replace HS := Lib.hid (Nat.le_trans HS.out hB4.out.size)
      clear hB4
      replace HO := Lib.hid (iowns_below HO.out hB5.out)
      replace C1 := Lib.hid (C1.out.below hB5.out)
      have HS5 := Lib.hid (Nat.le_trans HS.out hB5.out.size)
      clear hB5 HS
      by_cases hq : (k : Int) = sp
      · obtain ⟨k1, k2⟩ := eq_t hq
        have HR := Lib.hid (show roleH b (sp, s1, s2, s3, s4) k (x, r, c, g, q, kk) = 1 by rw [hq]; exact role1 _ _ _)
        clear hq x0 x1 x2 x3 x4 x5 v0 v1 v2 v3
        have A3 := Lib.hid (show k + 1 ≤ maxLen by unfold maxLen; omega)
        have A4 := Lib.hid (show (k + 1) * 8 ≤ 140737488355328 by omega)
        have A5 := Lib.hid (show w2.heap.size ≤ (w5.alloc (.cells #[.int .i64 1] 3)).heap.size by have := HS5.out; simp; omega)
        go_wp2_with (at_builtin; refine wpList_append_own _ rfl _ _ 33 rfl w2.heap.size 3 i0 (.int .i64 0) 1 8 Try.underlying33 hi hz0 hz1 hz2 rfl (by decide) _ _ _ rfl (HO.out.alloc _) ⟨w5.heap.size, 0, none⟩ 1 1 [.int .i64 1] rfl rfl (cell_one_new _ _ _) (one_int _) A3.out A4.out A5.out ?_)
        intro v' w6 hown' hgrow _
        have HO6 := Lib.hid hown'
        have hfar := Lib.hid (fun j hj => (HO.out.lt j hj).1)
        have C6 := Lib.hid ((C1.out.alloc (.cells #[.int .i64 1] 3)).grown hgrow (fun j hj => ⟨by have := hfar.out j hj; have := hb2.out; omega, by have := hfar.out j hj; have := hb2.out; omega⟩))
        have HS6 := Lib.hid (show w2.heap.size ≤ w6.heap.size by have := hgrow.size; have := HS5.out; simp at *; omega)
        clear hown' hgrow HO hfar C1 HS5
        go_wp2_with fail
        go_roundw
        case rel => exact ⟨k + 1, by omega, by go_num, Lib.hid (by rw [HT.out, HR.out, List.map_append]; exact HO6.out), C6, HS6⟩
        case measure => simp [intOf]; omega
      · obtain ⟨k1, k2⟩ := ne_t hq
        cases x with
        | false =>
          have HR := Lib.hid (role2 b (sp, s1, s2, s3, s4) k (false, r, c, g, q, kk) hq (Or.inl rfl))
          clear hq
          go_upto_region 11 with fail
          clear x0 x1 x2 x3 x4 x5 v0 v1 v2 v3
          have A3 := Lib.hid (show k + 1 ≤ maxLen by unfold maxLen; omega)
          have A4 := Lib.hid (show (k + 1) * 8 ≤ 140737488355328 by omega)
          have A5 := Lib.hid (show w2.heap.size ≤ (w5.alloc (.cells #[.int .i64 2] 3)).heap.size by have := HS5.out; simp; omega)
          go_wp2_with (at_builtin; refine wpList_append_own _ rfl _ _ 33 rfl w2.heap.size 3 i0 (.int .i64 0) 1 8 Try.underlying33 hi hz0 hz1 hz2 rfl (by decide) _ _ _ rfl (HO.out.alloc _) ⟨w5.heap.size, 0, none⟩ 1 1 [.int .i64 2] rfl rfl (cell_one_new _ _ _) (one_int _) A3.out A4.out A5.out ?_)
          intro v' w6 hown' hgrow _
          have HO6 := Lib.hid hown'
          have hfar := Lib.hid (fun j hj => (HO.out.lt j hj).1)
          have C6 := Lib.hid ((C1.out.alloc (.cells #[.int .i64 2] 3)).grown hgrow (fun j hj => ⟨by have := hfar.out j hj; have := hb2.out; omega, by have := hfar.out j hj; have := hb2.out; omega⟩))
          have HS6 := Lib.hid (show w2.heap.size ≤ w6.heap.size by have := hgrow.size; have := HS5.out; simp at *; omega)
          clear hown' hgrow HO hfar C1 HS5
          go_wp2_with fail
          go_roundw
          case rel => exact ⟨k + 1, by omega, by go_num, Lib.hid (by rw [HT.out, HR.out, List.map_append]; exact HO6.out), C6, HS6⟩
          case measure => simp [intOf]; omega
        | true =>
          have HC5 := Lib.hid (pcmp_c s1 s2 b k r c g q w5)
          go_wp2_with fail
          ((with_reducible refine HC5.out.mono ?_); rintro e w7 ⟨rfl, h7⟩)
          replace HO := Lib.hid (iowns_below HO.out h7)
          replace C1 := Lib.hid (C1.out.below h7)
          replace HS5 := Lib.hid (Nat.le_trans HS5.out h7.size)
          clear h7 HC5 x0 x1 x2 x3 x4 x5 v0 v1 v2 v3
          by_cases hcc : cmpV (s1, s2, b, (k : Int)) (r, c, g, q) ≤ 0
          · have HR := Lib.hid (role2 b (sp, s1, s2, s3, s4) k (true, r, c, g, q, kk) hq (Or.inr hcc))
            have d1 : decide (cmpV (s1, s2, b, (k : Int)) (r, c, g, q) ≤ 0) = true := decide_eq_true hcc
            generalize cmpV (s1, s2, b, (k : Int)) (r, c, g, q) = cc at d1 ⊢
            clear hq hcc
            have A3 := Lib.hid (show k + 1 ≤ maxLen by unfold maxLen; omega)
            have A4 := Lib.hid (show (k + 1) * 8 ≤ 140737488355328 by omega)
            have A5 := Lib.hid (show w2.heap.size ≤ (w7.alloc (.cells #[.int .i64 2] 3)).heap.size by have := HS5.out; simp; omega)
            go_wp2_with (at_builtin; refine wpList_append_own _ rfl _ _ 33 rfl w2.heap.size 3 i0 (.int .i64 0) 1 8 Try.underlying33 hi hz0 hz1 hz2 rfl (by decide) _ _ _ rfl (HO.out.alloc _) ⟨w7.heap.size, 0, none⟩ 1 1 [.int .i64 2] rfl rfl (cell_one_new _ _ _) (one_int _) A3.out A4.out A5.out ?_)
            intro v' w6 hown' hgrow _
            have HO6 := Lib.hid hown'
            have hfar := Lib.hid (fun j hj => (HO.out.lt j hj).1)
            have C6 := Lib.hid ((C1.out.alloc (.cells #[.int .i64 2] 3)).grown hgrow (fun j hj => ⟨by have := hfar.out j hj; have := hb2.out; omega, by have := hfar.out j hj; have := hb2.out; omega⟩))
            have HS6 := Lib.hid (show w2.heap.size ≤ w6.heap.size by have := hgrow.size; have := HS5.out; simp at *; omega)
            clear hown' hgrow HO hfar C1 HS5
            go_wp2_with fail
            go_roundw
            case rel => exact ⟨k + 1, by omega, by go_num, Lib.hid (by rw [HT.out, HR.out, List.map_append]; exact HO6.out), C6, HS6⟩
            case measure => simp [intOf]; omega
          · have HR := Lib.hid (role3 b (sp, s1, s2, s3, s4) k (true, r, c, g, q, kk) hq rfl hcc)
            have d1 : decide (cmpV (s1, s2, b, (k : Int)) (r, c, g, q) ≤ 0) = false := decide_eq_false hcc
            generalize cmpV (s1, s2, b, (k : Int)) (r, c, g, q) = cc at d1 ⊢
            clear hq hcc
            have A3 := Lib.hid (show k + 1 ≤ maxLen by unfold maxLen; omega)
            have A4 := Lib.hid (show (k + 1) * 8 ≤ 140737488355328 by omega)
            have A5 := Lib.hid (show w2.heap.size ≤ (w7.alloc (.cells #[.int .i64 3] 3)).heap.size by have := HS5.out; simp; omega)
            go_wp2_with (at_builtin; refine wpList_append_own _ rfl _ _ 33 rfl w2.heap.size 3 i0 (.int .i64 0) 1 8 Try.underlying33 hi hz0 hz1 hz2 rfl (by decide) _ _ _ rfl (HO.out.alloc _) ⟨w7.heap.size, 0, none⟩ 1 1 [.int .i64 3] rfl rfl (cell_one_new _ _ _) (one_int _) A3.out A4.out A5.out ?_)
            intro v' w6 hown' hgrow _
            have HO6 := Lib.hid hown'
            have hfar := Lib.hid (fun j hj => (HO.out.lt j hj).1)
            have C6 := Lib.hid ((C1.out.alloc (.cells #[.int .i64 3] 3)).grown hgrow (fun j hj => ⟨by have := hfar.out j hj; have := hb2.out; omega, by have := hfar.out j hj; have := hb2.out; omega⟩))
            have HS6 := Lib.hid (show w2.heap.size ≤ w6.heap.size by have := hgrow.size; have := HS5.out; simp at *; omega)
            clear hown' hgrow HO hfar C1 HS5
            go_wp2_with fail
            go_roundw
            case rel => exact ⟨k + 1, by omega, by go_num, Lib.hid (by rw [HT.out, HR.out, List.map_append]; exact HO6.out), C6, HS6⟩
            case measure => simp [intOf]; omega
    · obtain rfl : k = L.length := by omega
      rw [List.take_length] at HO
      clear hlt
      go_wp2_with fail
      go_ret
      exact ⟨_, rfl, HO.out.mono hb2.out.2.1, C1.out.bel⟩

theorem proles_c (b : Int) (v : Value) (L : List Hd) (w : World) (hl : L.length ≤ 1000000) (h : RowsAt 6 cellsHd w v L) :
    Calls Try.prog 27 #[.int .u64 b, v] w fun e w' => ∃ u, e = .returned u ∧ IntsAt w' u (rolesL b L) ∧ Below w.heap.size w w' :=
  (proles_o b v L w hl h).mono fun _ _ ⟨u, h1, h2, h3⟩ => ⟨u, h1, IntsAt.of_owns h2, h3⟩

end Go.Proofs.Ytolmkflhddlcnaa
