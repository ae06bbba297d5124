/-
  The program's ends and the document's, plainly: when bridges and links may be; what sorted ends tell. It speaks of no program but for the lists.
-/
import Derived.Test.YtolmkflhddlcnaaTaC
import Derived.Test.YtolmkflhddlcnaaTrP
namespace Go.Proofs.Ytolmkflhddlcnaa
open Go.RowKit
set_option linter.unusedVariables false
set_option linter.unusedSimpArgs false

def keyP (e : Pe) : Int × Int := (e.1, e.2.1)
def keyE (e : En) : Int × Int := (e.1, e.2.1)
theorem pends_keysGo : ∀ (L : List Lk) (i : Int), (pendsGo i L).map keyP = (endsL L).map keyE
  | [], _ => rfl
  | l :: r, i => by
    show keyP (peA i l) :: keyP (peB i l) :: (pendsGo (i + 1) r).map keyP = (endsL (l :: r)).map keyE
    rw [pends_keysGo r (i + 1)]
    rfl
theorem pends_keys (L : List Lk) : (pendsL L).map keyP = (endsL L).map keyE := pends_keysGo L 0
theorem meet_key (e f : Pe) : meetP e f = decide (keyP e = keyP f) := by
  unfold meetP keyP
  rw [Bool.eq_iff_iff]
  simp
theorem same_key (e f : En) : sameE e f = decide (keyE e = keyE f) := by
  unfold sameE keyE
  rw [Bool.eq_iff_iff]
  simp
theorem pair_meet (L : List Pe) : (L.Pairwise fun e f => meetP e f = false) ↔ (L.map keyP).Pairwise (· ≠ ·) := by
  rw [List.pairwise_map]
  refine List.Pairwise.iff fun {e f} => ?_
  rw [meet_key, decide_eq_false_iff_not]
theorem pair_same (L : List En) : (L.Pairwise fun e f => sameE e f = false) ↔ (L.map keyE).Pairwise (· ≠ ·) := by
  rw [List.pairwise_map]
  refine List.Pairwise.iff fun {e f} => ?_
  rw [same_key, decide_eq_false_iff_not]
theorem pair_keys (L : List Lk) : ((pendsL L).Pairwise fun e f => meetP e f = false) ↔ ((endsL L).Pairwise fun e f => sameE e f = false) := by
  rw [pair_meet, pair_same, pends_keys]

def keyOk (n : Nat) (k : Int × Int) : Prop := 0 ≤ k.1 ∧ k.1 < n ∧ 0 ≤ k.2 ∧ k.2 < 16
theorem may_key (n : Nat) (e : Pe) : mayP n e = true ↔ keyOk n (keyP e) := by
  unfold mayP keyOk keyP
  simp
theorem ok_key (n : Nat) (e : En) : okE n e = true ↔ keyOk n (keyE e) ∧ 1 ≤ e.2.2.2.2 ∧ e.2.2.2.2 ≤ 200000000 := by
  rw [okE_iff]
  unfold keyOk keyE
  simp only
  omega
theorem all_keys (n : Nat) (L : List Lk) : (∀ e ∈ pendsL L, mayP n e = true) ↔ ∀ e ∈ endsL L, keyOk n (keyE e) := by
  have h : (∀ k ∈ (pendsL L).map keyP, keyOk n k) ↔ (∀ k ∈ (endsL L).map keyE, keyOk n k) := by rw [pends_keys]
  constructor
  · intro k e he
    refine h.1 (fun x hx => ?_) _ (List.mem_map_of_mem he)
    obtain ⟨f, hf, rfl⟩ := List.mem_map.1 hx
    exact (may_key n f).1 (k f hf)
  · intro k e he
    refine (may_key n e).2 (h.2 (fun x hx => ?_) _ (List.mem_map_of_mem he))
    obtain ⟨f, hf, rfl⟩ := List.mem_map.1 hx
    exact k f hf
theorem ends_cost {L : List Lk} : (∀ l ∈ L, 1 ≤ l.2.2.2.2 ∧ l.2.2.2.2 ≤ 200000000) ↔ ∀ e ∈ endsL L, 1 ≤ e.2.2.2.2 ∧ e.2.2.2.2 ≤ 200000000 := by
  constructor
  · intro h e he
    obtain ⟨l, hl, rfl | rfl⟩ := mem_ends.1 he
    · exact h l hl
    · exact h l hl
  · intro h l hl
    exact h (endA l) (mem_ends.2 ⟨l, hl, Or.inl rfl⟩)
/-- When bridges and links may be, as the program asks. -/
theorem may_iff (ids : List Int) (L : List Lk) : MayT ids L ↔ 1 ≤ ids.length ∧ ids.length ≤ 12 ∧ L.length ≤ 40 ∧ ids.Nodup ∧ (∀ l ∈ L, 1 ≤ l.2.2.2.2 ∧ l.2.2.2.2 ≤ 200000000) ∧ (∀ e ∈ pendsL L, mayP ids.length e = true) ∧ (pendsL L).Pairwise fun e f => meetP e f = false := by
  rw [all_keys, pair_keys, ends_cost]
  constructor
  · intro h
    exact ⟨h.n1, h.n12, h.l40, h.nd, fun e he => ((ok_key _ e).1 (h.ok e he)).2, fun e he => ((ok_key _ e).1 (h.ok e he)).1, h.keys⟩
  · rintro ⟨h1, h2, h3, h4, h5, h6, h7⟩
    exact ⟨h1, h2, h3, h4, fun e he => (ok_key _ e).2 ⟨h6 e he, h5 e he⟩, h7⟩

theorem meet_symm (e f : Pe) : meetP e f = meetP f e := by
  rw [meet_key, meet_key]
  exact decide_eq_decide.2 eq_comm
theorem meet_not {e f : Pe} (h : ¬ lssP f e) (k : meetP f e = false) : lssP e f := by
  unfold lssP meetP at *
  simp at k
  omega
theorem lss_trans {e f g : Pe} (h : lssP e f) (k : lssP f g) : lssP e g := by unfold lssP at *; omega
theorem lss_meet {e f : Pe} (h : lssP e f) : meetP e f = false := by
  unfold lssP at h
  unfold meetP
  rw [Bool.and_eq_false_iff]
  simp only [beq_eq_false_iff_ne]
  omega
/-- Sorted, and neighbours apart: strictly sorted. -/
theorem up_strict {R : List Pe} (hu : UpP R) (hn : ∀ (i : Nat) (x y : Pe), R[i]? = some x → R[i + 1]? = some y → meetP y x = false) : R.Pairwise lssP := by
  have key : ∀ (d i : Nat) (x y : Pe), R[i]? = some x → R[i + d + 1]? = some y → lssP x y := by
    intro d
    induction d with
    | zero =>
      intro i x y hx hy
      have h1 := hn i x y hx hy
      obtain ⟨hi, e1⟩ := List.getElem?_eq_some_iff.1 hx
      obtain ⟨hj, e2⟩ := List.getElem?_eq_some_iff.1 hy
      have h2 := (List.pairwise_iff_getElem.1 hu) i (i + 1) hi hj (by omega)
      rw [e1] at h2
      have e2' : R[i + 1] = y := e2
      rw [e2'] at h2
      exact meet_not h2 h1
    | succ d ih =>
      intro i x y hx hy
      have hy' : R[i + d + 1 + 1]? = some y := by rw [show i + d + 1 + 1 = i + (d + 1) + 1 by omega]; exact hy
      have hj := (List.getElem?_eq_some_iff.1 hy').1
      have hz : R[i + d + 1]? = some (R[i + d + 1]'(by omega)) := List.getElem?_eq_getElem _
      refine lss_trans (ih i x _ hx hz) ?_
      have h1 := hn (i + d + 1) _ y hz hy'
      have h2 := (List.pairwise_iff_getElem.1 hu) (i + d + 1) (i + d + 1 + 1) (by omega) hj (by omega)
      rw [(List.getElem?_eq_some_iff.1 hy').2] at h2
      exact meet_not h2 h1
  rw [List.pairwise_iff_getElem]
  intro i j hi hj hij
  refine key (j - i - 1) i _ _ (List.getElem?_eq_getElem hi) ?_
  rw [show i + (j - i - 1) + 1 = j by omega]
  exact List.getElem?_eq_getElem hj
theorem up_pairs {R : List Pe} (hu : UpP R) (hn : ∀ (i : Nat) (x y : Pe), R[i]? = some x → R[i + 1]? = some y → meetP y x = false) : R.Pairwise fun e f => meetP e f = false := (up_strict hu hn).imp lss_meet
theorem perm_meet {R D : List Pe} (h : R.Perm D) : (R.Pairwise fun e f => meetP e f = false) ↔ D.Pairwise fun e f => meetP e f = false :=
  h.pairwise_iff (fun {e f} k => by rw [meet_symm]; exact k)
/-- Where two neighbours meet, the links may not be. -/
theorem not_pairs {R : List Pe} {i : Nat} {x y : Pe} (hx : R[i]? = some x) (hy : R[i + 1]? = some y) (h : meetP y x = true) : ¬ R.Pairwise fun e f => meetP e f = false := by
  intro hp
  obtain ⟨hi, e1⟩ := List.getElem?_eq_some_iff.1 hx
  obtain ⟨hj, e2⟩ := List.getElem?_eq_some_iff.1 hy
  have h1 := (List.pairwise_iff_getElem.1 hp) i (i + 1) hi hj (by omega)
  rw [e1, e2, meet_symm, h] at h1
  cases h1

end Go.Proofs.Ytolmkflhddlcnaa
