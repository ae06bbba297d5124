/-
  The document's Roles. A contract over the translated program.
-/
import Derived.Test.YtolmkflhddlcnaaPrD
import Derived.Test.YtolmkflhddlcnaaPrE
import Derived.Deep.Onto
namespace Go.Proofs.Ytolmkflhddlcnaa
open Go.RowKit
set_option linter.unusedVariables false
set_option linter.unusedSimpArgs false

set_option maxHeartbeats 8000000 in
set_option maxRecDepth 100000 in
theorem rroles_o (b : Int) (v : Value) (L : List Hd) (w : World) (hl : L.length ≤ 1000000) (h : RowsAt 6 cellsHd w v L) :
    Calls Try.prog 31 #[.int .u64 b, v] w fun e w' => ∃ u, e = .returned u ∧ w'.ownsRow w.heap.size 3 1 u L.length ((rolesL b L).map (Value.int .i64)) ∧ Below w.heap.size w w' := by
  have HB := Lib.hid (rbest_c b v L w (by omega) h)
  unfold rolesL
  obtain ⟨p, cap, bb, off, rfl, hp, hc⟩ := h
  have HP := Lib.hid hp
  have HC := Lib.hid hc
  clear hp hc
  obtain ⟨i0, hi, hz0, hz1, hz2⟩ := info_parts info_I
  generalize bestL b L = s at HB ⊢
  obtain ⟨sp, s1, s2, s3, s4⟩ := s
  simp only at HB
  go_enter Try.func31, Try.ntmps31
  go_wp2_with fail
  ((with_reducible refine HB.out.mono ?_); rintro e w1 ⟨rfl, h1⟩)
  have B := Lib.hid (Bx.mk' h1 #[.int .u64 s1, .int .i64 s2, .int .u64 s3, .int .i64 s4] 79)
  clear HB h1
  go_upto_region 2 with fail
  generalize w1.alloc (.cells #[.int .u64 s1, .int .i64 s2, .int .u64 s3, .int .i64 s4] 79) = w2 at B ⊢
  generalize w1.heap.size = bx at B ⊢
  have hb2 := Lib.hid (And.intro B.out.lt (And.intro B.out.bel.size B.out.ge))
  go_wp2_with fail
  go_loopw [7, 8, 9] (fun s7 i _ wr => ∃ k : Nat, k ≤ L.length ∧ i = .int .i64 k ∧ Hid (wr.ownsRow w2.heap.size 3 1 s7 k ((rolesGo b (sp, s1, s2, s3, s4) 0 (L.take k)).map (Value.int .i64))) ∧ Hid (Bx w wr bx #[.int .u64 s1, .int .i64 s2, .int .u64 s3, .int .i64 s4] 79) ∧ Hid (w2.heap.size ≤ wr.heap.size))
    (fun _ i _ _ => L.length - (intOf i).toNat)
  case atStart => exact ⟨0, Nat.zero_le _, rfl, Lib.hid (World.ownsRow_nil _ _ _ _), B, Lib.hid (Nat.le_refl _)⟩
  case round =>
    obtain ⟨k, hk, rfl, HO, C1, HS⟩ := hrel
    by_cases hlt : k < L.length
    · have hne' : L ≠ [] := by rintro rfl; simp at hlt
      obtain rfl := HP.out hne'
      have KB := Lib.hid C1.out.bel
      have HT := Lib.hid (roles_take b (sp, s1, s2, s3, s4) L k hlt)
      generalize rolesGo b (sp, s1, s2, s3, s4) 0 (L.take k) = acc at HT HO
      have x0 : wr.cell? ⟨bb, off + k * 6, none⟩ = some _ := gcell_below KB.out (HC.out k _ (List.getElem?_eq_getElem hlt) 0 _ rfl)
      have x1 : wr.cell? ⟨bb, off + k * 6 + 1, none⟩ = some _ := gcell_below KB.out (HC.out k _ (List.getElem?_eq_getElem hlt) 1 _ rfl)
      have x2 : wr.cell? ⟨bb, off + k * 6 + 2, none⟩ = some _ := gcell_below KB.out (HC.out k _ (List.getElem?_eq_getElem hlt) 2 _ rfl)
      have x3 : wr.cell? ⟨bb, off + k * 6 + 3, none⟩ = some _ := gcell_below KB.out (HC.out k _ (List.getElem?_eq_getElem hlt) 3 _ rfl)
      have x4 : wr.cell? ⟨bb, off + k * 6 + 4, none⟩ = some _ := gcell_below KB.out (HC.out k _ (List.getElem?_eq_getElem hlt) 4 _ rfl)
      have x5 : wr.cell? ⟨bb, off + k * 6 + 5, none⟩ = some _ := gcell_below KB.out (HC.out k _ (List.getElem?_eq_getElem hlt) 5 _ rfl)
      generalize L[k] = hd at HT x0 x1 x2 x3 x4 x5
      obtain ⟨x, r, c, g, q, kk⟩ := hd
      simp only at x0 x1 x2 x3 x4 x5
      have u0 := C1.out.cell 0 rfl
      have u1 := C1.out.cell 1 rfl
      have u2 := C1.out.cell 2 rfl
      have u3 := C1.out.cell 3 rfl
      clear hne' KB
      have hlt' : (k : Int) < (L.length : Int) := by omega
      cases x with
      | false =>
        go_upto_region 7 with fail
        go_quiet (fail)
        have hB5 := Lib.hid (below_drewN (Below.refl wr.heap.size wr) nq)
        clear x0 x1 x2 x3 x4 x5 u0 u1 u2 u3
        generalize wr.drewN nq = w5 at hB5 ⊢
        replace HO := Lib.hid (iowns_below HO.out hB5.out)
        replace C1 := Lib.hid (C1.out.below hB5.out)
        have HS5 := Lib.hid (Nat.le_trans HS.out hB5.out.size)
        clear hB5 HS
        by_cases hq : (k : Int) = sp
        · obtain ⟨k1, k2⟩ := eq_t hq
          have HR := Lib.hid (show roleH b (sp, s1, s2, s3, s4) k (false, r, c, g, q, kk) = 1 by rw [hq]; exact role1 _ _ _)
          clear hq
          have A3 := Lib.hid (show k + 1 ≤ maxLen by unfold maxLen; omega)
          have A4 := Lib.hid (show (k + 1) * 8 ≤ 140737488355328 by omega)
          have A5 := Lib.hid (show w2.heap.size ≤ (w5.alloc (.cells #[.int .i64 1] 3)).heap.size by have := HS5.out; simp; omega)
          go_wp2_with (at_builtin; refine wpList_append_own _ rfl _ _ 33 rfl w2.heap.size 3 i0 (.int .i64 0) 1 8 Try.underlying33 hi hz0 hz1 hz2 rfl (by decide) _ _ _ rfl (HO.out.alloc _) ⟨w5.heap.size, 0, none⟩ 1 1 [.int .i64 1] rfl rfl (cell_one_new _ _ _) (one_int _) A3.out A4.out A5.out ?_)
          intro v' w6 hown' hgrow _
          have HO6 := Lib.hid hown'
          have hfar := Lib.hid (fun j hj => (HO.out.lt j hj).1)
          have C6 := Lib.hid ((C1.out.alloc (.cells #[.int .i64 1] 3)).grown hgrow (fun j hj => ⟨by have := hfar.out j hj; have := hb2.out; omega, by have := hfar.out j hj; have := hb2.out; omega⟩))
          have HS6 := Lib.hid (show w2.heap.size ≤ w6.heap.size by have := hgrow.size; have := HS5.out; simp at *; omega)
          clear hown' hgrow HO hfar C1 HS5
          go_wp2_with fail
          go_roundw
          case rel => exact ⟨k + 1, by omega, by go_num, Lib.hid (by rw [HT.out, HR.out, List.map_append]; exact HO6.out), C6, HS6⟩
          case measure => simp [intOf]; omega
        · obtain ⟨k1, k2⟩ := ne_t hq
          have HR := Lib.hid (role2 b (sp, s1, s2, s3, s4) k (false, r, c, g, q, kk) hq (Or.inl rfl))
          clear hq
          have A3 := Lib.hid (show k + 1 ≤ maxLen by unfold maxLen; omega)
          have A4 := Lib.hid (show (k + 1) * 8 ≤ 140737488355328 by omega)
          have A5 := Lib.hid (show w2.heap.size ≤ (w5.alloc (.cells #[.int .i64 2] 3)).heap.size by have := HS5.out; simp; omega)
          go_wp2_with (at_builtin; refine wpList_append_own _ rfl _ _ 33 rfl w2.heap.size 3 i0 (.int .i64 0) 1 8 Try.underlying33 hi hz0 hz1 hz2 rfl (by decide) _ _ _ rfl (HO.out.alloc _) ⟨w5.heap.size, 0, none⟩ 1 1 [.int .i64 2] rfl rfl (cell_one_new _ _ _) (one_int _) A3.out A4.out A5.out ?_)
          intro v' w6 hown' hgrow _
          have HO6 := Lib.hid hown'
          have hfar := Lib.hid (fun j hj => (HO.out.lt j hj).1)
          have C6 := Lib.hid ((C1.out.alloc (.cells #[.int .i64 2] 3)).grown hgrow (fun j hj => ⟨by have := hfar.out j hj; have := hb2.out; omega, by have := hfar.out j hj; have := hb2.out; omega⟩))
          have HS6 := Lib.hid (show w2.heap.size ≤ w6.heap.size by have := hgrow.size; have := HS5.out; simp at *; omega)
          clear hown' hgrow HO hfar C1 HS5
          go_wp2_with fail
          go_roundw
          case rel => exact ⟨k + 1, by omega, by go_num, Lib.hid (by rw [HT.out, HR.out, List.map_append]; exact HO6.out), C6, HS6⟩
          case measure => simp [intOf]; omega
      | true =>
        go_upto_region 7 with fail
        have q0 := cell_regrown x0
        have q1 := cell_regrown x1
        have q2 := cell_regrown x2
        have q3 := cell_regrown x3
        have q4 := cell_regrown x4
        have q5 := cell_regrown x5
        have p0 := cell_regrown u0
        have p1 := cell_regrown u1
        have p2 := cell_regrown u2
        have p3 := cell_regrown u3
        have D1 := fun d os => Calls.regrown_of (rtells_c b s1 s2 s3 s4 k (Go.Sort.grow (redrawn wr d) os))
        have D2 := fun d os => Calls.regrown_of (rcmp_c s1 s2 b k r c g q (Go.Sort.grow (redrawn wr d) os))
        clear x0 x1 x2 x3 x4 x5 u0 u1 u2 u3
        refine wp_region_quiet_below (by kernel_rfl) (by kernel_rfl) ?_
        repeat (quiet_step (first | with_reducible exact D1 _ _ | with_reducible exact D2 _ _))
        refine wpQuiet_nil ?_
        intro _ hw
        obtain ⟨⟨dq, osq⟩, hw2⟩ := hw
        subst hw2
        have hB5 := Lib.hid (below_regrown wr dq osq)
        clear q0 q1 q2 q3 q4 q5 p0 p1 p2 p3 D1 D2
        generalize Go.Sort.grow (redrawn wr dq) osq = w5 at hB5 ⊢
        replace HO := Lib.hid (iowns_below HO.out hB5.out)
        replace C1 := Lib.hid (C1.out.below hB5.out)
        have HS5 := Lib.hid (Nat.le_trans HS.out hB5.out.size)
        clear hB5 HS
        have hcr : (k : Int) ≠ sp → cmpV (s1, s2, b, (k : Int)) (r, c, g, q) ≤ 0 → Hid (roleH b (sp, s1, s2, s3, s4) k (true, r, c, g, q, kk) = 2) := fun hq hcc => Lib.hid (role2 b (sp, s1, s2, s3, s4) k (true, r, c, g, q, kk) hq (Or.inr hcc))
        have hcs : (k : Int) ≠ sp → ¬ cmpV (s1, s2, b, (k : Int)) (r, c, g, q) ≤ 0 → Hid (roleH b (sp, s1, s2, s3, s4) k (true, r, c, g, q, kk) = 3) := fun hq hcc => Lib.hid (role3 b (sp, s1, s2, s3, s4) k (true, r, c, g, q, kk) hq rfl hcc)
        generalize cmpV (s1, s2, b, (k : Int)) (r, c, g, q) = cc at hcr hcs ⊢
        by_cases hcc : cc ≤ 0
        · have d1 : decide (cc ≤ 0) = true := decide_eq_true hcc
          have d2 : decide (0 < cc) = false := decide_eq_false (by omega)
          by_cases hq : (k : Int) = sp
          · obtain ⟨k1, k2⟩ := eq_t hq
            have HR := Lib.hid (show roleH b (sp, s1, s2, s3, s4) k (true, r, c, g, q, kk) = 1 by rw [hq]; exact role1 _ _ _)
            clear hq hcr hcs
            have A3 := Lib.hid (show k + 1 ≤ maxLen by unfold maxLen; omega)
            have A4 := Lib.hid (show (k + 1) * 8 ≤ 140737488355328 by omega)
            have A5 := Lib.hid (show w2.heap.size ≤ (w5.alloc (.cells #[.int .i64 1] 3)).heap.size by have := HS5.out; simp; omega)
            go_wp2_with (at_builtin; refine wpList_append_own _ rfl _ _ 33 rfl w2.heap.size 3 i0 (.int .i64 0) 1 8 Try.underlying33 hi hz0 hz1 hz2 rfl (by decide) _ _ _ rfl (HO.out.alloc _) ⟨w5.heap.size, 0, none⟩ 1 1 [.int .i64 1] rfl rfl (cell_one_new _ _ _) (one_int _) A3.out A4.out A5.out ?_)
            intro v' w6 hown' hgrow _
            have HO6 := Lib.hid hown'
            have hfar := Lib.hid (fun j hj => (HO.out.lt j hj).1)
            have C6 := Lib.hid ((C1.out.alloc (.cells #[.int .i64 1] 3)).grown hgrow (fun j hj => ⟨by have := hfar.out j hj; have := hb2.out; omega, by have := hfar.out j hj; have := hb2.out; omega⟩))
            have HS6 := Lib.hid (show w2.heap.size ≤ w6.heap.size by have := hgrow.size; have := HS5.out; simp at *; omega)
            clear hown' hgrow HO hfar C1 HS5
            go_wp2_with fail
            go_roundw
            case rel => exact ⟨k + 1, by omega, by go_num, Lib.hid (by rw [HT.out, HR.out, List.map_append]; exact HO6.out), C6, HS6⟩
            case measure => simp [intOf]; omega
          · obtain ⟨k1, k2⟩ := ne_t hq
            have HR := hcr hq hcc
            clear hq hcr hcs
            have A3 := Lib.hid (show k + 1 ≤ maxLen by unfold maxLen; omega)
            have A4 := Lib.hid (show (k + 1) * 8 ≤ 140737488355328 by omega)
            have A5 := Lib.hid (show w2.heap.size ≤ (w5.alloc (.cells #[.int .i64 2] 3)).heap.size by have := HS5.out; simp; omega)
            go_wp2_with (at_builtin; refine wpList_append_own _ rfl _ _ 33 rfl w2.heap.size 3 i0 (.int .i64 0) 1 8 Try.underlying33 hi hz0 hz1 hz2 rfl (by decide) _ _ _ rfl (HO.out.alloc _) ⟨w5.heap.size, 0, none⟩ 1 1 [.int .i64 2] rfl rfl (cell_one_new _ _ _) (one_int _) A3.out A4.out A5.out ?_)
            intro v' w6 hown' hgrow _
            have HO6 := Lib.hid hown'
            have hfar := Lib.hid (fun j hj => (HO.out.lt j hj).1)
            have C6 := Lib.hid ((C1.out.alloc (.cells #[.int .i64 2] 3)).grown hgrow (fun j hj => ⟨by have := hfar.out j hj; have := hb2.out; omega, by have := hfar.out j hj; have := hb2.out; omega⟩))
            have HS6 := Lib.hid (show w2.heap.size ≤ w6.heap.size by have := hgrow.size; have := HS5.out; simp at *; omega)
            clear hown' hgrow HO hfar C1 HS5
            go_wp2_with fail
            go_roundw
            case rel => exact ⟨k + 1, by omega, by go_num, Lib.hid (by rw [HT.out, HR.out, List.map_append]; exact HO6.out), C6, HS6⟩
            case measure => simp [intOf]; omega
        · have d1 : decide (cc ≤ 0) = false := decide_eq_false hcc
          have d2 : decide (0 < cc) = true := decide_eq_true (by omega)
          by_cases hq : (k : Int) = sp
          · obtain ⟨k1, k2⟩ := eq_t hq
            have HR := Lib.hid (show roleH b (sp, s1, s2, s3, s4) k (true, r, c, g, q, kk) = 1 by rw [hq]; exact role1 _ _ _)
            clear hq hcr hcs
            have A3 := Lib.hid (show k + 1 ≤ maxLen by unfold maxLen; omega)
            have A4 := Lib.hid (show (k + 1) * 8 ≤ 140737488355328 by omega)
            have A5 := Lib.hid (show w2.heap.size ≤ (w5.alloc (.cells #[.int .i64 1] 3)).heap.size by have := HS5.out; simp; omega)
            go_wp2_with (at_builtin; refine wpList_append_own _ rfl _ _ 33 rfl w2.heap.size 3 i0 (.int .i64 0) 1 8 Try.underlying33 hi hz0 hz1 hz2 rfl (by decide) _ _ _ rfl (HO.out.alloc _) ⟨w5.heap.size, 0, none⟩ 1 1 [.int .i64 1] rfl rfl (cell_one_new _ _ _) (one_int _) A3.out A4.out A5.out ?_)
            intro v' w6 hown' hgrow _
            have HO6 := Lib.hid hown'
            have hfar := Lib.hid (fun j hj => (HO.out.lt j hj).1)
            have C6 := Lib.hid ((C1.out.alloc (.cells #[.int .i64 1] 3)).grown hgrow (fun j hj => ⟨by have := hfar.out j hj; have := hb2.out; omega, by have := hfar.out j hj; have := hb2.out; omega⟩))
            have HS6 := Lib.hid (show w2.heap.size ≤ w6.heap.size by have := hgrow.size; have := HS5.out; simp at *; omega)
            clear hown' hgrow HO hfar C1 HS5
            go_wp2_with fail
            go_roundw
            case rel => exact ⟨k + 1, by omega, by go_num, Lib.hid (by rw [HT.out, HR.out, List.map_append]; exact HO6.out), C6, HS6⟩
            case measure => simp [intOf]; omega
          · obtain ⟨k1, k2⟩ := ne_t hq
            have HR := hcs hq hcc
            clear hq hcr hcs
            have A3 := Lib.hid (show k + 1 ≤ maxLen by unfold maxLen; omega)
            have A4 := Lib.hid (show (k + 1) * 8 ≤ 140737488355328 by omega)
            have A5 := Lib.hid (show w2.heap.size ≤ (w5.alloc (.cells #[.int .i64 3] 3)).heap.size by have := HS5.out; simp; omega)
            go_wp2_with (at_builtin; refine wpList_append_own _ rfl _ _ 33 rfl w2.heap.size 3 i0 (.int .i64 0) 1 8 Try.underlying33 hi hz0 hz1 hz2 rfl (by decide) _ _ _ rfl (HO.out.alloc _) ⟨w5.heap.size, 0, none⟩ 1 1 [.int .i64 3] rfl rfl (cell_one_new _ _ _) (one_int _) A3.out A4.out A5.out ?_)
            intro v' w6 hown' hgrow _
            have HO6 := Lib.hid hown'
            have hfar := Lib.hid (fun j hj => (HO.out.lt j hj).1)
            have C6 := Lib.hid ((C1.out.alloc (.cells #[.int .i64 3] 3)).grown hgrow (fun j hj => ⟨by have := hfar.out j hj; have := hb2.out; omega, by have := hfar.out j hj; have := hb2.out; omega⟩))
            have HS6 := Lib.hid (show w2.heap.size ≤ w6.heap.size by have := hgrow.size; have := HS5.out; simp at *; omega)
            clear hown' hgrow HO hfar C1 HS5
            go_wp2_with fail
            go_roundw
            case rel => exact ⟨k + 1, by omega, by go_num, Lib.hid (by rw [HT.out, HR.out, List.map_append]; exact HO6.out), C6, HS6⟩
            case measure => simp [intOf]; omega
    · obtain rfl : k = L.length := by omega
      rw [List.take_length] at HO
      clear hlt
      go_wp2_with fail
      go_ret
      exact ⟨_, rfl, HO.out.mono hb2.out.2.1, C1.out.bel⟩

theorem rroles_c (b : Int) (v : Value) (L : List Hd) (w : World) (hl : L.length ≤ 1000000) (h : RowsAt 6 cellsHd w v L) :
    Calls Try.prog 31 #[.int .u64 b, v] w fun e w' => ∃ u, e = .returned u ∧ IntsAt w' u (rolesL b L) ∧ Below w.heap.size w w' :=
  (rroles_o b v L w hl h).mono fun _ _ ⟨u, h1, h2, h3⟩ => ⟨u, h1, IntsAt.of_owns h2, h3⟩

end Go.Proofs.Ytolmkflhddlcnaa
