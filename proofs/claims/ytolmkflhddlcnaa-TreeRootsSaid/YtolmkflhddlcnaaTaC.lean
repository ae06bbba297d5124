/-
  Bridges and links: allEnds; slices.Contains; mayBe, meets. Contracts over the translated program.
-/
import Derived.Test.YtolmkflhddlcnaaTaB
import Derived.Test.YtolmkflhddlcnaaRowU64
import Derived.Test.YtolmkflhddlcnaaTst
namespace Go.Proofs.Ytolmkflhddlcnaa
open Go.RowKit
set_option linter.unusedVariables false
set_option linter.unusedSimpArgs false

theorem info_Pe : (Try.prog.info? 54).map (fun i => (i.zero, i.size, i.bytes)) = some (some (.agg #[.int .i64 0, .int .i64 0, .int .i64 0, .int .i64 0]), 4, 32) := by kernel_rfl
theorem RowsAt.take {α : Type} {size : Nat} {cells : α → List Value} {w : World} {p : Option Addr} {n cap : Nat} {l : List α} (h : RowsAt size cells w (.slice p n cap) l) (k : Nat) (hk : k ≤ l.length) (cap' : Nat) : RowsAt size cells w (.slice p k cap') (l.take k) := by
  obtain ⟨p', cap2, b, off, hv, hp, hc⟩ := h
  cases hv
  refine ⟨p, cap', b, off, by rw [List.length_take, Nat.min_eq_left hk], fun hne => hp (by rintro rfl; simp at hne), fun j x hx i u hu => ?_⟩
  have hj := (List.getElem?_eq_some_iff.1 hx).1
  rw [List.length_take] at hj
  rw [List.getElem?_take_of_lt (by omega)] at hx
  exact hc j x hx i u hu

set_option maxHeartbeats 4000000 in
set_option maxRecDepth 100000 in
theorem allEnds_c (v : Value) (L : List Lk) (w : World) (hl : L.length ≤ 1000000) (h : RowsAt 5 cellsLk w v L) : Calls Try.prog 22 #[v] w fun e w' => ∃ u R, e = .returned u ∧ R.Perm (pendsL L) ∧ UpP R ∧ RowsAt 4 cellsPe w' u R ∧ Below w.heap.size w w' := by
  obtain ⟨p, cap, bb, off, rfl, hp, hc⟩ := h
  have HP := Lib.hid hp
  have HC := Lib.hid hc
  clear hp hc
  obtain ⟨i0, hi, hz0, hz1, hz2⟩ := info_parts info_Pe
  go_enter Try.func22, Try.ntmps22
  go_wp2_with fail
  go_loopw [3, 4, 5, 6, 9] (fun s3 _ _ _ i wr => ∃ k : Nat, k ≤ L.length ∧ i = .int .i64 k ∧ Hid (wr.ownsRow w.heap.size 54 4 s3 (2 * k) ((pendsL (L.take k)).flatMap cellsPe)) ∧ Hid (Below w.heap.size w wr)) (fun _ _ _ _ i _ => L.length - (intOf i).toNat)
  case atStart => exact ⟨0, Nat.zero_le _, rfl, Lib.hid (World.ownsRow_nil _ _ _ _), Lib.hid (Below.refl _ _)⟩
  case round =>
    obtain ⟨k, hk, rfl, HO, KB⟩ := hrel
    by_cases hlt : k < L.length
    · have hne : L ≠ [] := by rintro rfl; simp at hlt
      obtain rfl := HP.out hne
      have hx : L[k]? = some L[k] := List.getElem?_eq_getElem hlt
      have HT := Lib.hid (congrArg (fun l : List Pe => l.flatMap cellsPe) (pends_take hx))
      have x0 : wr.cell? ⟨bb, off + k * 5, none⟩ = some _ := gcell_below KB.out (HC.out k _ hx 0 _ rfl)
      have x1 : wr.cell? ⟨bb, off + k * 5 + 1, none⟩ = some _ := gcell_below KB.out (HC.out k _ hx 1 _ rfl)
      have x2 : wr.cell? ⟨bb, off + k * 5 + 2, none⟩ = some _ := gcell_below KB.out (HC.out k _ hx 2 _ rfl)
      have x3 : wr.cell? ⟨bb, off + k * 5 + 3, none⟩ = some _ := gcell_below KB.out (HC.out k _ hx 3 _ rfl)
      have x4 : wr.cell? ⟨bb, off + k * 5 + 4, none⟩ = some _ := gcell_below KB.out (HC.out k _ hx 4 _ rfl)
      clear hx hne
      generalize L[k] = l at x0 x1 x2 x3 x4 HT
      obtain ⟨a, pa, b, pb, c⟩ := l
      simp only at x0 x1 x2 x3 x4
      replace HT : Hid ((pendsL (L.take (k + 1))).flatMap cellsPe = (pendsL (L.take k)).flatMap cellsPe ++ [.int .i64 a, .int .i64 pa, .int .i64 (k : Int), .int .i64 0, .int .i64 b, .int .i64 pb, .int .i64 (k : Int), .int .i64 1]) := Lib.hid (by have h := HT.out; rw [List.flatMap_append] at h; exact h)
      generalize (pendsL (L.take k)).flatMap cellsPe = acc at HT HO
      have hk1 : decide (L.length ≤ k) = false := decide_eq_false (by omega)
      have HE := Lib.hid fun U => endsOf_c (k : Int) a pa b pb c U
      go_upto_region 5 with fail
      have K1 := Lib.hid (KB.out.alloc KB.out.size (.cells #[.int .i64 a, .int .i64 pa, .int .i64 b, .int .i64 pb, .int .i64 c] 45))
      have HO1 := Lib.hid (HO.out.alloc (.cells #[.int .i64 a, .int .i64 pa, .int .i64 b, .int .i64 pb, .int .i64 c] 45))
      have HB1 := Lib.hid (heap_new wr (.cells #[.int .i64 a, .int .i64 pa, .int .i64 b, .int .i64 pb, .int .i64 c] 45))
      clear x0 x1 x2 x3 x4 hk1 HO KB
      generalize wr.alloc (.cells #[.int .i64 a, .int .i64 pa, .int .i64 b, .int .i64 pb, .int .i64 c] 45) = W1 at K1 HO1 HB1 ⊢
      generalize wr.heap.size = b1 at HB1 ⊢
      have z0 : W1.cell? ⟨b1, 0, none⟩ = some (.int .i64 a) := cell_of_block HB1.out rfl
      have z1 : W1.cell? ⟨b1, 1, none⟩ = some (.int .i64 pa) := cell_of_block HB1.out rfl
      have z2 : W1.cell? ⟨b1, 2, none⟩ = some (.int .i64 b) := cell_of_block HB1.out rfl
      have z3 : W1.cell? ⟨b1, 3, none⟩ = some (.int .i64 pb) := cell_of_block HB1.out rfl
      have z4 : W1.cell? ⟨b1, 4, none⟩ = some (.int .i64 c) := cell_of_block HB1.out rfl
      go_wp2_with fail
      ((with_reducible refine (HE.out _).mono ?_); rintro e w2 ⟨rfl, h2⟩)
      have K2 := Lib.hid (K1.out.trans (h2.mono K1.out.size))
      have HO2 := Lib.hid (iowns_below HO1.out h2)
      clear z0 z1 z2 z3 z4 HB1 h2 K1 HO1 HE
      have NEW := Lib.hid (cells_new w2 [.int .i64 a, .int .i64 pa, .int .i64 (k : Int), .int .i64 0, .int .i64 b, .int .i64 pb, .int .i64 (k : Int), .int .i64 1] 72)
      have HO3 := Lib.hid (HO2.out.alloc (.cells #[.int .i64 a, .int .i64 pa, .int .i64 (k : Int), .int .i64 0, .int .i64 b, .int .i64 pb, .int .i64 (k : Int), .int .i64 1] 72))
      have K3 := Lib.hid (K2.out.alloc K2.out.size (.cells #[.int .i64 a, .int .i64 pa, .int .i64 (k : Int), .int .i64 0, .int .i64 b, .int .i64 pb, .int .i64 (k : Int), .int .i64 1] 72))
      have n1 := Lib.hid (show 2 * k + 2 ≤ maxLen by unfold maxLen; omega)
      have n2 := Lib.hid (show (2 * k + 2) * 32 ≤ 140737488355328 by omega)
      have n3 := Lib.hid (show w.heap.size ≤ (w2.alloc (.cells #[.int .i64 a, .int .i64 pa, .int .i64 (k : Int), .int .i64 0, .int .i64 b, .int .i64 pb, .int .i64 (k : Int), .int .i64 1] 72)).heap.size by have := K3.out.size; exact this)
      have oc := Lib.hid (show ∀ u ∈ ([.int .i64 a, .int .i64 pa, .int .i64 (k : Int), .int .i64 0, .int .i64 b, .int .i64 pb, .int .i64 (k : Int), .int .i64 1] : List Value), u.oneCell' = true from fun u hu => by simp at hu; rcases hu with rfl | rfl | rfl | rfl | rfl | rfl | rfl | rfl <;> rfl)
      clear HO2 K2
      go_wp2_with (at_builtin; refine wpList_append_own _ rfl _ _ 51 rfl w.heap.size 54 i0 (.agg #[.int .i64 0, .int .i64 0, .int .i64 0, .int .i64 0]) 4 32 Try.underlying51 hi hz0 hz1 hz2 rfl (by decide) _ _ _ rfl HO3.out ⟨w2.heap.size, 0, none⟩ 2 2 [.int .i64 a, .int .i64 pa, .int .i64 (k : Int), .int .i64 0, .int .i64 b, .int .i64 pb, .int .i64 (k : Int), .int .i64 1] rfl rfl NEW.out oc.out n1.out n2.out n3.out ?_)
      intro v' w6 hown' hgrow _
      have HO6 := Lib.hid hown'
      have K6 := Lib.hid (K3.out.grown hgrow n3.out (fun j hj => (HO3.out.lt j hj).1))
      clear hown' hgrow HO3 K3 NEW
      go_wp2_with fail
      go_roundw
      case rel => exact ⟨k + 1, by omega, by go_num, Lib.hid (by rw [HT.out]; exact HO6.out), K6⟩
      case measure => simp [intOf]; omega
    · obtain rfl : k = L.length := by omega
      rw [List.take_of_length_le (Nat.le_refl _), ← pends_len] at HO
      have HS := Lib.hid (sortP_c HO.out (by rw [pends_len]; omega))
      clear hlt HO
      go_wp2_with fail
      ((with_reducible refine HS.out.mono ?_); rintro e w7 ⟨rfl, R, r1, r2, r3, r4⟩)
      go_wp2_with fail
      go_ret
      exact ⟨_, R, rfl, r1, r2, r3, KB.out.trans r4⟩

set_option maxHeartbeats 2000000 in
set_option maxRecDepth 100000 in
theorem indexU_c (v : Value) (l : List Int) (x : Int) (w : World) (hl : l.length ≤ 1000000) (h : RowsAt 1 cellsU64 w v l) : Calls Try.prog 33 #[v, .int .u64 x] w fun e w' => ∃ j : Int, e = .returned (.int .i64 j) ∧ (0 ≤ j ↔ x ∈ l) ∧ w = w' := by
  obtain ⟨p, cap, bb, off, rfl, hp, hc⟩ := h
  have HP := Lib.hid hp
  have HC := Lib.hid hc
  clear hp hc
  go_enter Try.func33, Try.ntmps33
  go_wp2
  go_loopw [5, 8] (fun _ i wr => ∃ k : Nat, k ≤ l.length ∧ i = .int .i64 k ∧ Hid (x ∉ l.take k) ∧ w = wr) (fun _ i _ => l.length - (intOf i).toNat)
  case atStart => exact ⟨0, Nat.zero_le _, rfl, Lib.hid (by simp), by trivial⟩
  case round =>
    obtain ⟨k, hk, rfl, HN, rfl⟩ := hrel
    by_cases hlt : k < l.length
    · have hne : l ≠ [] := by rintro rfl; simp at hlt
      obtain rfl := HP.out hne
      have xc := HC.out k _ (List.getElem?_eq_getElem hlt) 0 _ rfl
      have HT := Lib.hid (show l.take (k + 1) = l.take k ++ [l[k]] from List.take_succ_eq_append_getElem hlt)
      have HM := Lib.hid (List.getElem_mem hlt)
      generalize l[k] = y at xc HT HM
      simp only [Nat.mul_one, Nat.add_zero] at xc
      have hk1 : decide (l.length ≤ k) = false := decide_eq_false (by omega)
      clear hne
      by_cases hxy : x = y
      · obtain ⟨e1, e2⟩ := eq_t hxy
        have E := Lib.hid (show x ∈ l by rw [hxy]; exact HM.out)
        clear hxy
        go_wp2
        go_ret
        exact ⟨_, rfl, ⟨fun _ => E.out, fun _ => by omega⟩, by trivial⟩
      · obtain ⟨e1, e2⟩ := ne_t hxy
        have HN1 := Lib.hid (show x ∉ l.take (k + 1) by rw [HT.out]; intro hx; rcases List.mem_append.1 hx with hx | hx; exact HN.out hx; simp at hx; exact hxy hx)
        clear hxy
        go_wp2
        go_roundw
        case rel => exact ⟨k + 1, by omega, by go_num, HN1, by trivial⟩
        case measure => simp [intOf]; omega
    · obtain rfl : k = l.length := by omega
      rw [List.take_of_length_le (Nat.le_refl _)] at HN
      clear hlt
      go_wp2
      go_ret
      exact ⟨_, rfl, ⟨fun h => absurd h (by decide), fun h => absurd h HN.out⟩, by trivial⟩
set_option maxHeartbeats 2000000 in
set_option maxRecDepth 100000 in
theorem containsU_c (v : Value) (l : List Int) (x : Int) (w : World) (hl : l.length ≤ 1000000) (h : RowsAt 1 cellsU64 w v l) : Calls Try.prog 21 #[v, .int .u64 x] w fun e w' => e = .returned (.bool (decide (x ∈ l))) ∧ w = w' := by
  have HI := Lib.hid fun U (hU : w = U) => indexU_c v l x U hl (by rw [← hU]; exact h)
  go_enter Try.func21, Try.ntmps21
  go_wp2_with fail
  ((with_reducible refine (HI.out _ rfl).mono ?_); rintro e w1 ⟨j, rfl, hj, rfl⟩)
  by_cases hx : 0 ≤ j
  · have d1 : decide (0 ≤ j) = true := decide_eq_true hx
    have E := Lib.hid (hj.1 hx)
    clear hj hx
    go_wp2_with fail
    go_ret
    exact ⟨by rw [decide_eq_true E.out]; rfl, rfl⟩
  · have d1 : decide (0 ≤ j) = false := decide_eq_false hx
    have E := Lib.hid (fun h => hx (hj.2 h))
    clear hj hx
    go_wp2_with fail
    go_ret
    exact ⟨by rw [decide_eq_false E.out]; rfl, rfl⟩

def cellsI64 (x : Int) : List Value := [.int .i64 x]
set_option maxHeartbeats 2000000 in
set_option maxRecDepth 100000 in
theorem indexI_c (v : Value) (l : List Int) (x : Int) (w : World) (hl : l.length ≤ 1000000) (h : RowsAt 1 cellsI64 w v l) : Calls Try.prog 43 #[v, .int .i64 x] w fun e w' => ∃ j : Int, e = .returned (.int .i64 j) ∧ (0 ≤ j ↔ x ∈ l) ∧ w = w' := by
  obtain ⟨p, cap, bb, off, rfl, hp, hc⟩ := h
  have HP := Lib.hid hp
  have HC := Lib.hid hc
  clear hp hc
  go_enter Try.func43, Try.ntmps43
  go_wp2
  go_loopw [5, 8] (fun _ i wr => ∃ k : Nat, k ≤ l.length ∧ i = .int .i64 k ∧ Hid (x ∉ l.take k) ∧ w = wr) (fun _ i _ => l.length - (intOf i).toNat)
  case atStart => exact ⟨0, Nat.zero_le _, rfl, Lib.hid (by simp), by trivial⟩
  case round =>
    obtain ⟨k, hk, rfl, HN, rfl⟩ := hrel
    by_cases hlt : k < l.length
    · have hne : l ≠ [] := by rintro rfl; simp at hlt
      obtain rfl := HP.out hne
      have xc := HC.out k _ (List.getElem?_eq_getElem hlt) 0 _ rfl
      have HT := Lib.hid (show l.take (k + 1) = l.take k ++ [l[k]] from List.take_succ_eq_append_getElem hlt)
      have HM := Lib.hid (List.getElem_mem hlt)
      generalize l[k] = y at xc HT HM
      simp only [Nat.mul_one, Nat.add_zero] at xc
      have hk1 : decide (l.length ≤ k) = false := decide_eq_false (by omega)
      clear hne
      by_cases hxy : x = y
      · obtain ⟨e1, e2⟩ := eq_t hxy
        have E := Lib.hid (show x ∈ l by rw [hxy]; exact HM.out)
        clear hxy
        go_wp2
        go_ret
        exact ⟨_, rfl, ⟨fun _ => E.out, fun _ => by omega⟩, by trivial⟩
      · obtain ⟨e1, e2⟩ := ne_t hxy
        have HN1 := Lib.hid (show x ∉ l.take (k + 1) by rw [HT.out]; intro hx; rcases List.mem_append.1 hx with hx | hx; exact HN.out hx; simp at hx; exact hxy hx)
        clear hxy
        go_wp2
        go_roundw
        case rel => exact ⟨k + 1, by omega, by go_num, HN1, by trivial⟩
        case measure => simp [intOf]; omega
    · obtain rfl : k = l.length := by omega
      rw [List.take_of_length_le (Nat.le_refl _)] at HN
      clear hlt
      go_wp2
      go_ret
      exact ⟨_, rfl, ⟨fun h => absurd h (by decide), fun h => absurd h HN.out⟩, by trivial⟩
set_option maxHeartbeats 2000000 in
set_option maxRecDepth 100000 in
theorem containsI_c (v : Value) (l : List Int) (x : Int) (w : World) (hl : l.length ≤ 1000000) (h : RowsAt 1 cellsI64 w v l) : Calls Try.prog 29 #[v, .int .i64 x] w fun e w' => e = .returned (.bool (decide (x ∈ l))) ∧ w = w' := by
  have HI := Lib.hid fun U (hU : w = U) => indexI_c v l x U hl (by rw [← hU]; exact h)
  go_enter Try.func29, Try.ntmps29
  go_wp2_with fail
  ((with_reducible refine (HI.out _ rfl).mono ?_); rintro e w1 ⟨j, rfl, hj, rfl⟩)
  by_cases hx : 0 ≤ j
  · have d1 : decide (0 ≤ j) = true := decide_eq_true hx
    have E := Lib.hid (hj.1 hx)
    clear hj hx
    go_wp2_with fail
    go_ret
    exact ⟨by rw [decide_eq_true E.out]; rfl, rfl⟩
  · have d1 : decide (0 ≤ j) = false := decide_eq_false hx
    have E := Lib.hid (fun h => hx (hj.2 h))
    clear hj hx
    go_wp2_with fail
    go_ret
    exact ⟨by rw [decide_eq_false E.out]; rfl, rfl⟩

def mayP (n : Nat) (e : Pe) : Bool := decide (0 ≤ e.1) && (decide (e.1 < n) && (decide (0 ≤ e.2.1) && decide (e.2.1 < 16)))
def meetP (e f : Pe) : Bool := e.1 == f.1 && e.2.1 == f.2.1
set_option maxHeartbeats 2000000 in
set_option maxRecDepth 100000 in
theorem mayBe_c (b1 p1 l1 s1 : Int) (n : Nat) (w : World) : Calls Try.prog 23 #[.agg #[.int .i64 b1, .int .i64 p1, .int .i64 l1, .int .i64 s1], .int .i64 (n : Int)] w fun e w' => e = .returned (.bool (mayP n (b1, p1, l1, s1))) ∧ Below w.heap.size w w' := by
  have hB := Lib.hid ((Below.refl w.heap.size w).alloc (Nat.le_refl _) (.cells #[.int .i64 b1, .int .i64 p1, .int .i64 l1, .int .i64 s1] 54))
  unfold mayP
  simp only
  cases d1 : decide (0 ≤ b1) with
  | false =>
    go_enter Try.func23, Try.ntmps23
    go_wp2
    go_ret
    exact ⟨rfl, hB.out⟩
  | true =>
    cases d2 : decide (b1 < (n : Int)) with
    | false =>
      go_enter Try.func23, Try.ntmps23
      go_wp2
      go_ret
      exact ⟨rfl, hB.out⟩
    | true =>
      cases d3 : decide (0 ≤ p1) with
      | false =>
        go_enter Try.func23, Try.ntmps23
        go_wp2
        go_ret
        exact ⟨rfl, hB.out⟩
      | true =>
        go_enter Try.func23, Try.ntmps23
        go_wp2
        go_ret
        exact ⟨by simp, hB.out⟩
set_option maxHeartbeats 2000000 in
set_option maxRecDepth 100000 in
theorem meets_c (b1 p1 l1 s1 b2 p2 l2 s2 : Int) (w : World) : Calls Try.prog 24 #[.agg #[.int .i64 b1, .int .i64 p1, .int .i64 l1, .int .i64 s1], .agg #[.int .i64 b2, .int .i64 p2, .int .i64 l2, .int .i64 s2]] w fun e w' => e = .returned (.bool (meetP (b1, p1, l1, s1) (b2, p2, l2, s2))) ∧ Below w.heap.size w w' := by
  have hB := Lib.hid (((Below.refl w.heap.size w).alloc (Nat.le_refl _) (.cells #[.int .i64 b1, .int .i64 p1, .int .i64 l1, .int .i64 s1] 54)).alloc (by simp) (.cells #[.int .i64 b2, .int .i64 p2, .int .i64 l2, .int .i64 s2] 54))
  unfold meetP
  simp only
  cases d1 : (b1 == b2) with
  | false =>
    go_enter Try.func24, Try.ntmps24
    go_wp2
    go_ret
    exact ⟨rfl, hB.out⟩
  | true =>
    go_enter Try.func24, Try.ntmps24
    go_wp2
    go_ret
    exact ⟨by simp, hB.out⟩

end Go.Proofs.Ytolmkflhddlcnaa
