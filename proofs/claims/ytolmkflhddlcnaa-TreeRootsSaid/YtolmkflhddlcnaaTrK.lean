/-
  What the laws of trees count, plainly: links by their numbers, groups, Root ends, lesser bridges.
-/
import Derived.Test.YtolmkflhddlcnaaTaL
import Derived.Test.YtolmkflhddlcnaaTaQ
import Derived.Test.YtolmkflhddlcnaaTrN
import Derived.Test.YtolmkflhddlcnaaTrC
namespace Go.Proofs.Ytolmkflhddlcnaa
open Go.RowKit
set_option linter.unusedVariables false
set_option linter.unusedSimpArgs false

theorem conn_tog {n : Nat} {L : List Lk} (hok : OkL n L) {b c : Nat} (hb : b < n) (hc : c < n) : togT L n c = togT L n b ↔ Conn L c b := by
  obtain ⟨mn, h⟩ := mn_ex L
  rw [tog_is hok h b hb, tog_is hok h c hc]
  constructor
  · intro e
    exact conn_trans (conn_symm (h c).1) (by rw [e]; exact (h b).1)
  · exact mn_same h
theorem all_links (L : List Lk) : ((List.range L.length).map fun i : Nat => (i : Int)).map (lkAt L) = L := by
  apply List.ext_getElem?
  intro j
  rw [List.getElem?_map, List.getElem?_map]
  by_cases hj : j < L.length
  · rw [List.getElem?_range hj, List.getElem?_eq_getElem hj]
    show some ((L[j]?).getD _) = _
    rw [List.getElem?_eq_getElem hj]
    rfl
  · rw [List.getElem?_eq_none (by simpa using hj), List.getElem?_eq_none (by omega)]
    rfl
theorem act_take (ids : List Int) (L : List Lk) : ∀ n, n ≤ L.length → (actN (restL ids L) n).map (lkAt L) = (L.take n).filter (actE ids L)
  | 0, _ => by simp [actN]
  | n + 1, h => by
    have hn : n < L.length := by omega
    have hl : L[n]? = some L[n] := List.getElem?_eq_getElem hn
    have hr : (restL ids L)[n]? = some (roleE ids L (endA L[n]), roleE ids L (endB L[n])) := by unfold restL; rw [List.getElem?_map, hl]; rfl
    have hk : okR (restL ids L) n = actE ids L L[n] := by unfold okR; rw [hr]; rfl
    have ih := act_take ids L n (by omega)
    rw [List.take_succ_eq_append_getElem hn, List.filter_append, ← ih]
    cases he : actE ids L L[n] with
    | true =>
      rw [actN_yes (hk.trans he), List.map_append]
      congr 1
      rw [List.filter_cons_of_pos he]
      show [lkAt L (n : Int)] = [L[n]]
      show [(L[n]?).getD _] = _
      rw [hl]
      rfl
    | false =>
      rw [actN_no (hk.trans he), List.filter_cons_of_neg (by rw [he]; decide)]
      simp
theorem act_links (ids : List Int) (L : List Lk) : (actN (restL ids L) L.length).map (lkAt L) = actL ids L := by
  rw [act_take ids L _ (Nat.le_refl _), List.take_length]
  rfl
theorem act_len (ids : List Int) (L : List Lk) : (actN (restL ids L) L.length).length = (actL ids L).length := by
  rw [← act_links, List.length_map]
theorem act_bound {r : List (Int × Int)} {n : Nat} : ∀ i ∈ actN r n, 0 ≤ i ∧ i < n := by
  intro i hi
  unfold actN at hi
  obtain ⟨j, hj, rfl⟩ := List.mem_map.1 hi
  have := List.mem_range.1 (List.mem_filter.1 hj).1
  omega
theorem range_bound {n : Nat} : ∀ i ∈ (List.range n).map (fun i : Nat => (i : Int)), 0 ≤ i ∧ i < n := by
  intro i hi
  obtain ⟨j, hj, rfl⟩ := List.mem_map.1 hi
  have := List.mem_range.1 hj
  omega
theorem range_snoc (k : Nat) : ((List.range (k + 1)).map fun i : Nat => (i : Int)) = ((List.range k).map fun i : Nat => (i : Int)) ++ [(k : Int)] := by
  rw [List.range_succ, List.map_append]
  rfl
def allV (k : Nat) : List Value := ((List.range k).map fun i : Nat => (i : Int)).map (Value.int .i64)
theorem allV_snoc (k : Nat) : allV (k + 1) = allV k ++ [.int .i64 (k : Int)] := by
  unfold allV
  rw [range_snoc, map_snoc]
/-- How many of the first k bridges are the least of theirs. -/
def grpT (L : List Lk) (n k : Nat) : Nat := (List.range k).countP fun b => decide (togT L n b = b)
theorem grp_yes {L : List Lk} {n k : Nat} (h : togT L n k = k) : grpT L n (k + 1) = grpT L n k + 1 := by
  unfold grpT
  rw [List.range_succ, List.countP_append]
  simp [h]
theorem grp_no {L : List Lk} {n k : Nat} (h : ¬ togT L n k = k) : grpT L n (k + 1) = grpT L n k := by
  unfold grpT
  rw [List.range_succ, List.countP_append]
  simp [h]
theorem grp_le (L : List Lk) (n k : Nat) : grpT L n k ≤ k := by
  unfold grpT
  have := List.countP_le_length (p := fun b => decide (togT L n b = b)) (l := List.range k)
  simpa using this

/-- Root ends at a bridge, of the first k links. -/
def rootB (ids : List Int) (L : List Lk) (b : Nat) (e : En) : Bool := e.1 == (b : Int) && roleE ids L e == 1
def cntT (ids : List Int) (L : List Lk) (b k : Nat) : Nat := (endsL (L.take k)).countP (rootB ids L b)
def oneB (x : Bool) : Nat := if x then 1 else 0
theorem cnt_step {ids : List Int} {L : List Lk} {b k : Nat} {l : Lk} (h : L[k]? = some l) : cntT ids L b (k + 1) = cntT ids L b k + oneB (rootB ids L b (endA l)) + oneB (rootB ids L b (endB l)) := by
  unfold cntT endsL
  rw [List.take_succ_eq_append_getElem (List.getElem?_eq_some_iff.1 h).1, (List.getElem?_eq_some_iff.1 h).2, List.flatMap_append, List.countP_append]
  simp only [List.flatMap_cons, List.flatMap_nil, List.append_nil, List.countP_cons, List.countP_nil, oneB]
  omega
theorem cnt_le (ids : List Int) (L : List Lk) (b k : Nat) : cntT ids L b k ≤ 2 * k := by
  unfold cntT
  refine Nat.le_trans List.countP_le_length ?_
  rw [ends_len, List.length_take]
  omega
theorem cnt_all (ids : List Int) (L : List Lk) (b : Nat) : cntT ids L b L.length = cntR ids L b := by
  unfold cntT cntR
  rw [List.take_length]
  rfl
/-- Does one of the first k bridges that hang together with b have a lesser id? -/
def lesT (ids : List Int) (L : List Lk) (b k : Nat) : Bool := (List.range k).any fun c => togT L ids.length c == togT L ids.length b && decide (idAt ids c < idAt ids b)
theorem les_step (ids : List Int) (L : List Lk) (b k : Nat) : lesT ids L b (k + 1) = (lesT ids L b k || (togT L ids.length k == togT L ids.length b && decide (idAt ids k < idAt ids b))) := by
  unfold lesT
  rw [List.range_succ, List.any_append]
  simp
theorem les_all {ids : List Int} {L : List Lk} (hM : MayT ids L) (hid : ∀ x ∈ ids, 0 ≤ x) {b : Nat} (hb : b < ids.length) : cntR ids L b = oneB (lesT ids L b ids.length) := by
  rw [cnt_root hM hid hb]
  have e : lesT ids L b ids.length = hasRoot ids L b := by
    rw [Bool.eq_iff_iff, has_root hM hid hb]
    unfold lesT
    rw [List.any_eq_true]
    constructor
    · rintro ⟨c, hc, h⟩
      rw [Bool.and_eq_true, beq_iff_eq, decide_eq_true_iff] at h
      have hc' := List.mem_range.1 hc
      exact ⟨c, hc', (conn_tog (ok_links hM) hb hc').1 h.1, h.2⟩
    · rintro ⟨c, hc, h1, h2⟩
      exact ⟨c, List.mem_range.2 hc, by rw [Bool.and_eq_true, beq_iff_eq, decide_eq_true_iff]; exact ⟨(conn_tog (ok_links hM) hb hc).2 h1, h2⟩⟩
  rw [e]
  rfl

/-! rows of one's own beside answers -/
theorem rows_far {α : Type} {size : Nat} {cells : α → List Value} {w w' : World} {ga n c : Nat} {row : Option Nat} {l : List α} (h : RowsAt size cells w (.slice (some ⟨ga, 0, none⟩) n c) l) (hg : w.grownBy w' row) (hne : row ≠ some ga) : RowsAt size cells w' (.slice (some ⟨ga, 0, none⟩) n c) l := by
  obtain ⟨p, cap, b, off, hs, hp, hc⟩ := h
  refine ⟨p, cap, b, off, hs, hp, fun j x hj i u hu => ?_⟩
  have hl : l ≠ [] := by rintro rfl; simp at hj
  have h1 := hp hl
  have h2 : some (⟨ga, 0, none⟩ : Addr) = p := by cases hs; rfl
  rw [h1] at h2
  have h3 : ga = b := by cases h2; rfl
  subst h3
  have h0 := hc j x hj i u hu
  exact (hg.cell_far ⟨ga, off + j * size + i, none⟩ (gcell_lt h0) (fun e => hne e.symm)).trans h0
theorem rows_at0 {U : World} {g n c : Nat} {l : List (Int × Int)} (h : RowsAt 2 cellsPr U (.slice (some ⟨g, 0, none⟩) n c) l) {j : Nat} {x : Int × Int} (hj : l[j]? = some x) : U.cell? ⟨g, j * 2, none⟩ = some (.int .i64 x.1) ∧ U.cell? ⟨g, j * 2 + 1, none⟩ = some (.int .i64 x.2) := by
  obtain ⟨p, cap, b, off, hs, hp, hc⟩ := h
  have hl : l ≠ [] := by rintro rfl; simp at hj
  have h1 := hp hl
  have h2 : some (⟨g, 0, none⟩ : Addr) = p := by cases hs; rfl
  rw [h1] at h2
  obtain ⟨rfl, rfl⟩ : g = b ∧ 0 = off := by cases h2; exact ⟨rfl, rfl⟩
  have a0 := hc j x hj 0 _ rfl
  have a1 := hc j x hj 1 _ rfl
  simp only [Nat.zero_add, Nat.add_zero] at a0 a1
  exact ⟨a0, a1⟩
theorem cap_own {w : World} {base e size n : Nat} {v : Value} {xs : List Value} (h : w.ownsRow base e size v n xs) : CapOk v := by
  intro p m c hv
  rcases h.2 with ⟨h1, -⟩ | ⟨g, cap, cur, h1, -, -, h2, -⟩
  · rw [h1] at hv; cases hv; exact Nat.le_refl _
  · rw [h1] at hv; cases hv; exact h2
theorem own_lt {w : World} {base e size n g : Nat} {v : Value} {xs : List Value} (h : w.ownsRow base e size v n xs) (hg : w.heap.size ≤ g) : v.ownBlock ≠ some g := fun e1 => by
  have := owns_lt h e1
  omega
theorem u64_len (x : U64) : (cellsU64 x).length = 1 := rfl
theorem one_u64 (n : Int) : ∀ u ∈ [Value.int .u64 n], u.oneCell' = true := by intro u hu; simp at hu; subst hu; rfl
theorem phi_snoc {la : List Int} {k : Nat} (h : k < la.length) : ((la.map phi).take (k + 1)).flatMap cellsU64 = ((la.map phi).take k).flatMap cellsU64 ++ [.int .u64 (phi (idAt la k))] := by
  have hk : k < (la.map phi).length := by simpa using h
  rw [List.take_succ_eq_append_getElem hk, List.flatMap_append, List.getElem_map, id_at h]
  simp [cellsU64]
theorem info_U : (Try.prog.info? 44).map (fun i => (i.zero, i.size, i.bytes)) = some (some (.int .u64 0), 1, 8) := by kernel_rfl

end Go.Proofs.Ytolmkflhddlcnaa
