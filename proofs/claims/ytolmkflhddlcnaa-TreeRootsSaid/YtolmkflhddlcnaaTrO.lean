/-
  Bridges and links at rest: one end of each link is Designated; who has a Root. It speaks of no program.
-/
import Derived.Test.YtolmkflhddlcnaaTrP
namespace Go.Proofs.Ytolmkflhddlcnaa
set_option linter.unusedVariables false
set_option linter.unusedSimpArgs false

theorem rc_two {a b : V4} (h : rc a = rc b) : a.1 = b.1 ∧ a.2.1 = b.2.1 := ⟨congrArg (fun x : Rc => x.1) h, congrArg (fun x : Rc => x.2) h⟩
theorem rc_add {a b : V4} {c : Int} (h : rc a = addR (rc b) c) : a.1 = b.1 ∧ a.2.1 = b.2.1 + c := ⟨congrArg (fun x : Rc => x.1) h, congrArg (fun x : Rc => x.2) h⟩
def restB (ids : List Int) (L : List Lk) (b : Nat) : V4 := bstT (idAt ids) (endsL L) ids.length b
def restH (ids : List Int) (L : List Lk) (b : Nat) : List Hd := hdsT (idAt ids) (endsL L) (restB ids L) b
def restS (ids : List Int) (L : List Lk) (b : Nat) : Bst := bestL (idAt ids b) (restH ids L b)
/-- The role of an end. -/
def roleE (ids : List Int) (L : List Lk) (e : En) : Int := ((rolesL (idAt ids e.1.toNat) (restH ids L e.1.toNat))[e.2.1.toNat]?).getD 0
def restL (ids : List Int) (L : List Lk) : List (Int × Int) := L.map fun l => (roleE ids L (endA l), roleE ids L (endB l))
/-- What an end tells. -/
def tellE (ids : List Int) (L : List Lk) (e : En) : V4 := ((restB ids L e.1.toNat).1, (restB ids L e.1.toNat).2.1, idAt ids e.1.toNat, e.2.1)

theorem rolesGo_at (b : Int) (s : Bst) : ∀ (L : List Hd) (i : Int) (k : Nat), (rolesGo b s i L)[k]? = (L[k]?).map (roleH b s (i + k))
  | [], i, k => by simp [rolesGo]
  | x :: r, i, 0 => by simp [rolesGo]
  | x :: r, i, k + 1 => by
    show (rolesGo b s (i + 1) r)[k]? = _
    rw [rolesGo_at b s r (i + 1) k]
    simp only [List.getElem?_cons_succ]
    congr 2
    omega
theorem rolesL_at (b : Int) (L : List Hd) (k : Nat) : (rolesL b L)[k]? = (L[k]?).map (roleH b (bestL b L) k) := by
  unfold rolesL
  rw [rolesGo_at]
  congr 2
  omega

section
variable {ids : List Int} {L : List Lk}
theorem rest_far (hM : MayT ids L) : Far ids.length (restB ids L) (ids.length * 200000000) := far_all hM _ (by have := hM.n12; omega)
theorem rest_low (hM : MayT ids L) : (ids.length : Int) * 200000000 ≤ 4000000000 := by have := hM.n12; omega
theorem restS_rc (hM : MayT ids L) (hid : ∀ x ∈ ids, 0 ≤ x) {b : Nat} (hb : b < ids.length) : rc (restS ids L b).2 = rc (restB ids L b) := rest_more hM hid hb
theorem role_is (hM : MayT ids L) (hid : ∀ x ∈ ids, 0 ≤ x) {e : En} (he : e ∈ endsL L) : roleE ids L e = if e.2.1 = (restS ids L e.1.toNat).1 then 1 else if cmpV (tellE ids L e) (tellE ids L (flipE e)) ≤ 0 then 2 else 3 := by
  have ho := end_ok hM he
  have h1 := ho.a0
  have h2 := ho.p0
  have h3 := ho.p1
  have h4 := ho.a1
  have hb : e.1 = (e.1.toNat : Nat) := by omega
  have hp : e.2.1 = (e.2.1.toNat : Nat) := by omega
  have hrc := restS_rc hM hid (b := e.1.toNat) (by omega)
  unfold roleE
  rw [rolesL_at]
  unfold restH
  rw [hds_at _ _ _ _ (by omega), hd_of hM he (restB ids L) hb hp]
  show roleH (idAt ids e.1.toNat) (restS ids L e.1.toNat) _ _ = _
  unfold roleH
  rw [← hp]
  obtain ⟨hr1, hr2⟩ := rc_two hrc
  rw [hr1, hr2]
  have e1 : (!(hearH (idAt ids) (restB ids L) e).1 || decide (cmpV ((restB ids L e.1.toNat).1, (restB ids L e.1.toNat).2.1, idAt ids e.1.toNat, e.2.1) (vecH (hearH (idAt ids) (restB ids L) e)) ≤ 0)) = decide (cmpV (tellE ids L e) (tellE ids L (flipE e)) ≤ 0) := rfl
  rw [e1]
  by_cases hc : cmpV (tellE ids L e) (tellE ids L (flipE e)) ≤ 0
  · simp only [decide_eq_true hc, if_pos hc, if_true]
  · simp only [decide_eq_false hc, if_neg hc, Bool.false_eq_true, if_false]
/-- The Root of a bridge, if it has one. -/
theorem root_is (hM : MayT ids L) (hid : ∀ x ∈ ids, 0 ≤ x) {b : Nat} (hb : b < ids.length) : (restS ids L b).1 = -1 ∧ (restB ids L b).1 = idAt ids b ∨ ∃ e ∈ endsL L, e.1 = b ∧ e.2.1 = (restS ids L b).1 ∧ e.1 ≠ e.2.2.1 ∧ rc (restB ids L b) = addR (rc (restB ids L e.2.2.1.toNat)) e.2.2.2.2 ∧ (restB ids L b).1 < idAt ids b := by
  have hrc := restS_rc hM hid hb
  obtain ⟨h1, h2, h3⟩ := bestL_min (idAt ids b) (restH ids L b)
  rcases h1 with h | ⟨k, x, k1, k2, k3, k4⟩
  · left
    have hs : restS ids L b = (-1, ownV (idAt ids b)) := h
    rw [hs] at hrc ⊢
    exact ⟨rfl, (rc_two hrc).1.symm⟩
  · right
    obtain ⟨hk, rfl⟩ := hds_lt k1
    have hx : (hdAt (idAt ids) (endsL L) (restB ids L) b k).1 = true := by
      unfold leadB at k2
      simp at k2
      exact k2.1.1
    obtain ⟨e, he, e1, e2, e3⟩ := hd_some hx
    rw [e3] at k2 k3 k4
    obtain ⟨l1, l2⟩ := lead_hear hM (rest_far hM) (rest_low hM) he e1
    have hs : restS ids L b = ((k : Int), leadV (hearH (idAt ids) (restB ids L) e)) := k3
    rw [hs, l2] at hrc
    obtain ⟨hrc1, hrc2⟩ := rc_two hrc
    simp only at hrc1 hrc2
    refine ⟨e, he, e1, ?_, l1.1 k2, hrc.symm, ?_⟩
    · rw [hs]; exact e2
    · rw [l2, cmpV_lt] at k4
      have ho := end_ok hM he
      have := ho.c0
      have := (rest_far hM e.2.2.1.toNat (by have := ho.t1; have := ho.t0; omega)).1
      unfold ownV at k4
      simp only at k4
      omega
theorem tell_two {e : En} (hM : MayT ids L) (he : e ∈ endsL L) (hne : sameE e (flipE e) = false) : cmpV (tellE ids L e) (tellE ids L (flipE e)) < 0 ∨ cmpV (tellE ids L (flipE e)) (tellE ids L e) < 0 := by
  have ho := end_ok hM he
  have h1 := ho.a0
  have h2 := ho.a1
  have h3 := ho.t0
  have h4 := ho.t1
  rw [cmpV_lt, cmpV_lt]
  unfold tellE flipE
  simp only
  by_cases h : idAt ids e.1.toNat = idAt ids e.2.2.1.toNat
  · have := id_inj hM (by omega) (by omega) h
    unfold sameE flipE at hne
    simp at hne
    have := hne (by omega)
    omega
  · omega
theorem flip_two {l : Lk} {L : List Lk} (hM : MayT ids L) (hl : l ∈ L) : sameE (endA l) (endB l) = false := by
  have hk := hM.keys
  obtain ⟨s, t, rfl⟩ := List.append_of_mem hl
  unfold endsL at hk
  rw [List.flatMap_append, List.pairwise_append] at hk
  have := hk.2.1
  rw [List.flatMap_cons, List.pairwise_append] at this
  have := this.1
  rw [List.pairwise_cons] at this
  exact this.1 (endB l) (by simp)
/-- ONE END OF EACH LINK IS DESIGNATED: the other one Root or Alternate. -/
theorem one_des (hM : MayT ids L) (hid : ∀ x ∈ ids, 0 ≤ x) {e : En} (he : e ∈ endsL L) (hne : sameE e (flipE e) = false) (hlt : cmpV (tellE ids L e) (tellE ids L (flipE e)) < 0) : roleE ids L e = 2 ∧ (roleE ids L (flipE e) = 1 ∨ roleE ids L (flipE e) = 3) := by
  have ho := end_ok hM he
  have h1 := ho.a0
  have h2 := ho.a1
  have hnot : ¬ cmpV (tellE ids L (flipE e)) (tellE ids L e) ≤ 0 := by
    rw [cmpV_lt] at hlt
    rw [cmpV_le]
    omega
  constructor
  · rw [role_is hM hid he, if_neg, if_pos (Int.le_of_lt hlt)]
    intro hroot
    rcases root_is hM hid (b := e.1.toNat) (by omega) with ⟨h, _⟩ | ⟨f, hf, f1, f2, f3, f4, -⟩
    · have := ho.p0
      omega
    · have hef : f = e := by
        have hk := hM.keys
        have h3 := find_mem (p := fun g => g.1 == e.1 && g.2.1 == e.2.1) hk he (by simp) (fun g hg h => by simp at h; unfold sameE; simp [h.1, h.2])
        have h4 := find_mem (p := fun g => g.1 == e.1 && g.2.1 == e.2.1) hk hf (by simp; omega) (fun g hg h => by simp at h; unfold sameE; simp; omega)
        rw [h3] at h4
        exact (Option.some.inj h4).symm
      subst hef
      obtain ⟨g1, g2⟩ := rc_add f4
      have := ho.c0
      rw [cmpV_lt] at hlt
      unfold tellE flipE at hlt
      simp only at hlt
      omega
  · have hfl : flipE (flipE e) = e := rfl
    rw [role_is hM hid (flip_mem he), hfl]
    split
    · exact Or.inl rfl
    · exact Or.inr rfl
theorem one_each (hM : MayT ids L) (hid : ∀ x ∈ ids, 0 ≤ x) {l : Lk} (hl : l ∈ L) : (roleE ids L (endA l) = 2 ∧ (roleE ids L (endB l) = 1 ∨ roleE ids L (endB l) = 3)) ∨ (roleE ids L (endB l) = 2 ∧ (roleE ids L (endA l) = 1 ∨ roleE ids L (endA l) = 3)) := by
  have ha : endA l ∈ endsL L := mem_ends.2 ⟨l, hl, Or.inl rfl⟩
  have hb : endB l ∈ endsL L := mem_ends.2 ⟨l, hl, Or.inr rfl⟩
  have hne := flip_two hM hl
  have hfa : flipE (endA l) = endB l := rfl
  have hfb : flipE (endB l) = endA l := rfl
  have hne' : sameE (endB l) (endA l) = false := by unfold sameE at *; simp at *; omega
  rcases tell_two hM ha hne with h | h
  · exact Or.inl (one_des hM hid ha hne h)
  · exact Or.inr (one_des hM hid hb hne' h)
end

end Go.Proofs.Ytolmkflhddlcnaa
