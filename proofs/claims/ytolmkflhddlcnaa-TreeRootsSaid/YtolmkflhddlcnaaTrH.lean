/-
  What a bridge's ends hear, plainly: the program's list is the beginning of the document's. It speaks of no program but for the lists.
-/
import Derived.Test.YtolmkflhddlcnaaTaE
import Derived.Test.YtolmkflhddlcnaaTrM
import Derived.Test.YtolmkflhddlcnaaTrO
namespace Go.Proofs.Ytolmkflhddlcnaa
open Go.RowKit
set_option linter.unusedVariables false
set_option linter.unusedSimpArgs false

/-- An end of the program's and one of the document's are the same. -/
def EnOf (L : List Lk) (e : Pe) (en : En) : Prop := ∃ (i : Nat) (l : Lk), L[i]? = some l ∧ ((e = peA i l ∧ en = endA l) ∨ (e = peB i l ∧ en = endB l))
theorem pendsGo_mem : ∀ (L : List Lk) (s : Int) (e : Pe), e ∈ pendsGo s L → ∃ (i : Nat) (l : Lk), L[i]? = some l ∧ (e = peA (s + i) l ∨ e = peB (s + i) l)
  | [], s, e, h => by simp [pendsGo] at h
  | x :: r, s, e, h => by
    simp only [pendsGo, List.mem_cons] at h
    rcases h with h | h | h
    · exact ⟨0, x, rfl, Or.inl (by simpa using h)⟩
    · exact ⟨0, x, rfl, Or.inr (by simpa using h)⟩
    · obtain ⟨i, l, h1, h2⟩ := pendsGo_mem r (s + 1) e h
      refine ⟨i + 1, l, by simpa using h1, ?_⟩
      have e1 : s + 1 + (i : Int) = s + ((i + 1 : Nat) : Int) := by omega
      rw [← e1]
      exact h2
theorem pendsGo_in : ∀ (L : List Lk) (s : Int) (i : Nat) (l : Lk), L[i]? = some l → peA (s + i) l ∈ pendsGo s L ∧ peB (s + i) l ∈ pendsGo s L
  | [], s, i, l, h => by simp at h
  | x :: r, s, 0, l, h => by
    obtain rfl : x = l := by simpa using h
    simp [pendsGo]
  | x :: r, s, i + 1, l, h => by
    obtain ⟨h1, h2⟩ := pendsGo_in r (s + 1) i l (by simpa using h)
    have e1 : s + 1 + (i : Int) = s + ((i + 1 : Nat) : Int) := by omega
    rw [e1] at h1 h2
    exact ⟨by simp only [pendsGo, List.mem_cons]; exact Or.inr (Or.inr h1), by simp only [pendsGo, List.mem_cons]; exact Or.inr (Or.inr h2)⟩
theorem EnOf.key {L : List Lk} {e : Pe} {en : En} (h : EnOf L e en) : en.1 = e.1 ∧ en.2.1 = e.2.1 := by
  obtain ⟨i, l, -, h | h⟩ := h <;> rw [h.1, h.2] <;> exact ⟨rfl, rfl⟩
theorem EnOf.mem {L : List Lk} {e : Pe} {en : En} (h : EnOf L e en) : en ∈ endsL L := by
  obtain ⟨i, l, hl, h | h⟩ := h
  · exact mem_ends.2 ⟨l, List.mem_of_getElem? hl, Or.inl h.2⟩
  · exact mem_ends.2 ⟨l, List.mem_of_getElem? hl, Or.inr h.2⟩
theorem EnOf.pe {L : List Lk} {e : Pe} {en : En} (h : EnOf L e en) : e ∈ pendsL L := by
  obtain ⟨i, l, hl, h | h⟩ := h
  · have := (pendsGo_in L 0 i l hl).1
    rw [Int.zero_add] at this
    rw [h.1]; exact this
  · have := (pendsGo_in L 0 i l hl).2
    rw [Int.zero_add] at this
    rw [h.1]; exact this
theorem en_of {L : List Lk} {e : Pe} (h : e ∈ pendsL L) : ∃ en, EnOf L e en := by
  obtain ⟨i, l, hl, h1 | h1⟩ := pendsGo_mem L 0 e h
  · rw [Int.zero_add] at h1
    exact ⟨_, i, l, hl, Or.inl ⟨h1, rfl⟩⟩
  · rw [Int.zero_add] at h1
    exact ⟨_, i, l, hl, Or.inr ⟨h1, rfl⟩⟩
theorem pe_of {L : List Lk} {en : En} (h : en ∈ endsL L) : ∃ e, EnOf L e en := by
  obtain ⟨l, hl, h1⟩ := mem_ends.1 h
  obtain ⟨i, hi⟩ := List.mem_iff_getElem?.1 hl
  rcases h1 with h1 | h1
  · exact ⟨_, i, l, hi, Or.inl ⟨rfl, h1⟩⟩
  · exact ⟨_, i, l, hi, Or.inr ⟨rfl, h1⟩⟩

/-- The sorted ends of links that may be. -/
structure RowR (ids : List Int) (L : List Lk) (R : List Pe) : Prop where
  may : MayT ids L
  perm : R.Perm (pendsL L)
  up : R.Pairwise lssP
theorem rowR_of {ids : List Int} {L : List Lk} {R : List Pe} (hM : MayT ids L) (hp : R.Perm (pendsL L)) (hu : UpP R) : RowR ids L R := by
  have hk := (perm_meet hp).2 ((pair_keys L).2 hM.keys)
  refine ⟨hM, hp, ?_⟩
  rw [List.pairwise_iff_getElem] at hk ⊢
  have hu' := List.pairwise_iff_getElem.1 hu
  intro i j hi hj hij
  exact meet_not (hu' i j hi hj hij) (by rw [meet_symm]; exact hk i j hi hj hij)
theorem at_mem {R : List Pe} {b : Nat} {e : Pe} : e ∈ atP R b ↔ e ∈ R ∧ e.1 = (b : Int) := by
  unfold atP
  rw [List.mem_filter, beq_iff_eq]

section
variable {ids : List Int} {L : List Lk} {R : List Pe} {b : Nat} {id : Nat → Int} {bst : Nat → V4}
theorem RowR.at_up (h : RowR ids L R) : (atP R b).Pairwise fun e f => e.2.1 < f.2.1 := by
  have h1 : (atP R b).Pairwise lssP := h.up.sublist List.filter_sublist
  rw [List.pairwise_iff_getElem] at h1 ⊢
  intro i j hi hj hij
  have h2 := h1 i j hi hj hij
  have e1 := (at_mem.1 (List.getElem_mem hi)).2
  have e2 := (at_mem.1 (List.getElem_mem hj)).2
  unfold lssP at h2
  omega
theorem RowR.at_ok (h : RowR ids L R) {e : Pe} (he : e ∈ atP R b) : ∃ en, EnOf L e en ∧ EndOk ids.length en ∧ en.1 = (b : Int) ∧ en.2.1 = e.2.1 := by
  obtain ⟨h1, h2⟩ := at_mem.1 he
  obtain ⟨en, hen⟩ := en_of (h.perm.mem_iff.1 h1)
  exact ⟨en, hen, end_ok h.may hen.mem, hen.key.1.trans h2, hen.key.2⟩
theorem RowR.port (h : RowR ids L R) {e : Pe} (he : e ∈ atP R b) : 0 ≤ e.2.1 ∧ e.2.1 ≤ 15 := by
  obtain ⟨en, -, h1, -, h2⟩ := h.at_ok he
  rw [← h2]
  exact ⟨h1.p0, h1.p1⟩
theorem RowR.hd_at (h : RowR ids L R) {e : Pe} {en : En} (he : e ∈ atP R b) (hen : EnOf L e en) {p : Nat} (hp : e.2.1 = (p : Int)) : hdAt id (endsL L) bst b p = hearH id bst en := by
  obtain ⟨h1, h2⟩ := at_mem.1 he
  obtain ⟨k1, k2⟩ := hen.key
  have hf := find_mem (p := fun e => e.1 == (b : Int) && e.2.1 == (p : Int)) h.may.keys hen.mem (by simp only [Bool.and_eq_true, beq_iff_eq]; exact ⟨k1.trans h2, k2.trans hp⟩) (fun f _ hq => by
    simp only [Bool.and_eq_true, beq_iff_eq] at hq
    unfold sameE
    simp only [Bool.and_eq_true, beq_iff_eq]
    exact ⟨k1.trans (h2.trans hq.1.symm), k2.trans (hp.trans hq.2.symm)⟩)
  unfold hdAt
  rw [hf]
theorem RowR.hd_blank (h : RowR ids L R) {p : Nat} (hno : ∀ e ∈ atP R b, e.2.1 ≠ (p : Int)) : hdAt id (endsL L) bst b p = blankH := by
  unfold hdAt
  cases hf : List.find? (fun e : En => e.1 == (b : Int) && e.2.1 == (p : Int)) (endsL L) with
  | none => rfl
  | some en =>
    exfalso
    have h1 := List.find?_some hf
    have h2 := List.mem_of_find?_eq_some hf
    simp only [Bool.and_eq_true, beq_iff_eq] at h1
    obtain ⟨e, he⟩ := pe_of h2
    obtain ⟨k1, k2⟩ := he.key
    exact hno e (at_mem.2 ⟨h.perm.mem_iff.2 he.pe, k1.symm.trans h1.1⟩) (k2.symm.trans h1.2)
end

/-- How many places the first k ends of a row take. -/
def lastP (D : List Pe) : Nat → Nat
  | 0 => 0
  | k + 1 => ((D[k]?.getD (0, 0, 0, 0)).2.1).toNat + 1
theorem lastP_succ {D : List Pe} {k : Nat} {e : Pe} (h : D[k]? = some e) : lastP D (k + 1) = e.2.1.toNat + 1 := by
  show ((D[k]?.getD (0, 0, 0, 0)).2.1).toNat + 1 = _
  rw [h]
  rfl
section
variable {ids : List Int} {L : List Lk} {R : List Pe} {b : Nat} {id : Nat → Int} {bst : Nat → V4}
theorem RowR.last_lt (h : RowR ids L R) {k i : Nat} {e : Pe} (hi : (atP R b)[i]? = some e) (hik : i < k) (hk : k ≤ (atP R b).length) : e.2.1.toNat < lastP (atP R b) k := by
  obtain ⟨k, rfl⟩ : ∃ m, k = m + 1 := ⟨k - 1, by omega⟩
  have hf : (atP R b)[k]? = some ((atP R b)[k]'(by omega)) := List.getElem?_eq_getElem _
  rw [lastP_succ hf]
  obtain ⟨hi', ei⟩ := List.getElem?_eq_some_iff.1 hi
  have pf := h.port (List.getElem_mem (l := atP R b) (n := k) (by omega))
  by_cases hik2 : i = k
  · subst hik2
    rw [ei]; omega
  · have h1 := (List.pairwise_iff_getElem.1 (h.at_up (b := b))) i k hi' (by omega) (by omega)
    rw [ei] at h1
    omega
theorem RowR.gap (h : RowR ids L R) {k : Nat} {e : Pe} (hk : (atP R b)[k]? = some e) : lastP (atP R b) k ≤ e.2.1.toNat ∧ ∀ j, lastP (atP R b) k ≤ j → j < e.2.1.toNat → hdAt id (endsL L) bst b j = blankH := by
  obtain ⟨hk', ek⟩ := List.getElem?_eq_some_iff.1 hk
  have hu := List.pairwise_iff_getElem.1 (h.at_up (b := b))
  have pe := h.port (List.mem_of_getElem? hk)
  refine ⟨?_, fun j h1 h2 => h.hd_blank fun f hf hj => ?_⟩
  · cases k with
    | zero => exact Nat.zero_le _
    | succ k =>
      have hf : (atP R b)[k]? = some ((atP R b)[k]'(by omega)) := List.getElem?_eq_getElem _
      rw [lastP_succ hf]
      have h1 := hu k (k + 1) (by omega) hk' (by omega)
      rw [ek] at h1
      have pf := h.port (List.getElem_mem (l := atP R b) (n := k) (by omega))
      omega
  · obtain ⟨i, hi⟩ := List.mem_iff_getElem?.1 hf
    obtain ⟨hi', ei⟩ := List.getElem?_eq_some_iff.1 hi
    by_cases hik : i < k
    · have h3 := h.last_lt hi hik (by omega)
      omega
    · by_cases hik2 : i = k
      · subst hik2
        rw [ek] at ei
        subst ei
        omega
      · have h3 := hu k i hk' hi' (by omega)
        rw [ek, ei] at h3
        omega
theorem RowR.last_blank (h : RowR ids L R) {j : Nat} (hj : lastP (atP R b) (atP R b).length ≤ j) : hdAt id (endsL L) bst b j = blankH := h.hd_blank fun f hf hp => by
  obtain ⟨i, hi⟩ := List.mem_iff_getElem?.1 hf
  have := h.last_lt hi (List.getElem?_eq_some_iff.1 hi).1 (Nat.le_refl _)
  omega
theorem RowR.last_le (h : RowR ids L R) {k : Nat} (hk : k ≤ (atP R b).length) : lastP (atP R b) k ≤ 16 := by
  cases k with
  | zero => exact Nat.zero_le _
  | succ k =>
    have hf : (atP R b)[k]? = some ((atP R b)[k]'(by omega)) := List.getElem?_eq_getElem _
    rw [lastP_succ hf]
    have := h.port (List.getElem_mem (l := atP R b) (n := k) (by omega))
    omega
end

theorem hds_len (id : Nat → Int) (E : List En) (bst : Nat → V4) (b : Nat) : (hdsT id E bst b).length = 16 := by simp [hdsT]
theorem hds_take (id : Nat → Int) (E : List En) (bst : Nat → V4) (b : Nat) {j : Nat} (h : j < 16) : (hdsT id E bst b).take (j + 1) = (hdsT id E bst b).take j ++ [hdAt id E bst b j] := by
  have hj : j < (hdsT id E bst b).length := by rw [hds_len]; exact h
  rw [List.take_succ_eq_append_getElem hj, (List.getElem?_eq_some_iff.1 (hds_at id E bst b h)).2]
theorem hds_take_len (id : Nat → Int) (E : List En) (bst : Nat → V4) (b : Nat) {j : Nat} (h : j ≤ 16) : ((hdsT id E bst b).take j).length = j := by
  rw [List.length_take, hds_len]
  omega
theorem best_blank (x : Int) (A : List Hd) : ∀ (n : Nat), bestL x (A ++ List.replicate n blankH) = bestL x A
  | 0 => by simp
  | n + 1 => by
    rw [List.replicate_succ', ← List.append_assoc]
    unfold bestL
    rw [bestGo_snoc]
    have ih := best_blank x A n
    unfold bestL at ih
    rw [ih]
    exact step_no1 _ _ _ _ rfl
section
variable {ids : List Int} {L : List Lk} {R : List Pe} {b : Nat} {id : Nat → Int} {bst : Nat → V4}
/-- What the program's bridge hears. -/
def heardP (id : Nat → Int) (L : List Lk) (R : List Pe) (bst : Nat → V4) (b : Nat) : List Hd := (hdsT id (endsL L) bst b).take (lastP (atP R b) (atP R b).length)
theorem RowR.pads (h : RowR ids L R) : hdsT id (endsL L) bst b = heardP id L R bst b ++ List.replicate (16 - lastP (atP R b) (atP R b).length) blankH := by
  have hl := h.last_le (b := b) (Nat.le_refl _)
  have hb := fun j hj => h.last_blank (b := b) (id := id) (bst := bst) (j := j) hj
  unfold heardP
  generalize lastP (atP R b) (atP R b).length = m at hl hb ⊢
  apply List.ext_getElem?
  intro j
  by_cases hj : j < m
  · rw [List.getElem?_append_left (by rw [hds_take_len _ _ _ _ hl]; exact hj), List.getElem?_take_of_lt hj]
  · rw [List.getElem?_append_right (by rw [hds_take_len _ _ _ _ hl]; omega), hds_take_len _ _ _ _ hl]
    by_cases hj2 : j < 16
    · rw [hds_at _ _ _ _ hj2, hb j (by omega), List.getElem?_replicate, if_pos (by omega)]
    · rw [List.getElem?_eq_none (by rw [hds_len]; omega), List.getElem?_replicate, if_neg (by omega)]
theorem RowR.best (h : RowR ids L R) (x : Int) : bestL x (heardP id L R bst b) = bestL x (hdsT id (endsL L) bst b) := by
  rw [h.pads, best_blank]
theorem RowR.role (h : RowR ids L R) (x : Int) {e : Pe} (he : e ∈ atP R b) : ∃ r, (rolesL x (heardP id L R bst b))[e.2.1.toNat]? = some r ∧ (rolesL x (hdsT id (endsL L) bst b))[e.2.1.toNat]? = some r := by
  obtain ⟨i, hi⟩ := List.mem_iff_getElem?.1 he
  have hlt := h.last_lt hi (List.getElem?_eq_some_iff.1 hi).1 (Nat.le_refl _)
  have hp := h.port he
  refine ⟨roleH x (bestL x (hdsT id (endsL L) bst b)) (e.2.1.toNat : Int) (hdAt id (endsL L) bst b e.2.1.toNat), ?_, ?_⟩
  · rw [rolesL_at, h.best, heardP, List.getElem?_take_of_lt hlt, hds_at _ _ _ _ (by omega)]
    rfl
  · rw [rolesL_at, hds_at _ _ _ _ (by omega)]
    rfl
theorem RowR.len (h : RowR ids L R) : (heardP id L R bst b).length = lastP (atP R b) (atP R b).length := hds_take_len _ _ _ _ (h.last_le (Nat.le_refl _))
theorem RowR.role_end (h : RowR ids L R) {e : Pe} {en : En} (he : e ∈ atP R b) (hen : EnOf L e en) : (rolesL (idAt ids b) (heardP (idAt ids) L R (restB ids L) b))[e.2.1.toNat]? = some (roleE ids L en) := by
  obtain ⟨r, h1, h2⟩ := h.role (id := idAt ids) (bst := restB ids L) (idAt ids b) he
  obtain ⟨k1, k2⟩ := hen.key
  have e1 := (at_mem.1 he).2
  have eb : en.1.toNat = b := by omega
  rw [h1]
  unfold roleE restH
  rw [eb, k2, h2]
  rfl
end

end Go.Proofs.Ytolmkflhddlcnaa
