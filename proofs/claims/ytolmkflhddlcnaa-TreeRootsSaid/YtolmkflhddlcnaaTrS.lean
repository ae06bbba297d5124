/-
  Bridges and links, plainly: what comes to rest. It speaks of no program.
-/
import Derived.Test.YtolmkflhddlcnaaTrG
import Derived.Test.YtolmkflhddlcnaaPrS
namespace Go.Proofs.Ytolmkflhddlcnaa
set_option linter.unusedVariables false
set_option linter.unusedSimpArgs false

/-- A link: A, PortA, B, PortB, Cost. An end: at, port, to, far, cost. -/
abbrev Lk := Int × Int × Int × Int × Int
abbrev En := Int × Int × Int × Int × Int
def endA (l : Lk) : En := (l.1, l.2.1, l.2.2.1, l.2.2.2.1, l.2.2.2.2)
def endB (l : Lk) : En := (l.2.2.1, l.2.2.2.1, l.1, l.2.1, l.2.2.2.2)
def endsL (L : List Lk) : List En := L.flatMap fun l => [endA l, endB l]
/-- Do two ends have the same place? -/
def sameE (e f : En) : Bool := e.1 == f.1 && e.2.1 == f.2.1
def okE (n : Nat) (e : En) : Bool := decide (0 ≤ e.1) && decide (e.1 < n) && decide (0 ≤ e.2.1) && decide (e.2.1 ≤ 15) && decide (1 ≤ e.2.2.2.2) && decide (e.2.2.2.2 ≤ 200000000)
structure MayT (ids : List Int) (L : List Lk) : Prop where
  n1 : 1 ≤ ids.length
  n12 : ids.length ≤ 12
  l40 : L.length ≤ 40
  nd : ids.Nodup
  ok : ∀ e ∈ endsL L, okE ids.length e = true
  keys : (endsL L).Pairwise fun e f => sameE e f = false

def blankH : Hd := (false, 0, 0, 0, 0, 0)
def idAt (ids : List Int) (b : Nat) : Int := ids[b]?.getD 0
def hearH (id : Nat → Int) (bst : Nat → V4) (e : En) : Hd := (true, (bst e.2.2.1.toNat).1, (bst e.2.2.1.toNat).2.1, id e.2.2.1.toNat, e.2.2.2.1, e.2.2.2.2)
def hdAt (id : Nat → Int) (E : List En) (bst : Nat → V4) (b p : Nat) : Hd :=
  match E.find? (fun e => e.1 == (b : Int) && e.2.1 == (p : Int)) with
  | none => blankH
  | some e => hearH id bst e
def hdsT (id : Nat → Int) (E : List En) (bst : Nat → V4) (b : Nat) : List Hd := (List.range 16).map (hdAt id E bst b)
def bstT (id : Nat → Int) (E : List En) : Nat → Nat → V4
  | 0, b => ownV (id b)
  | t + 1, b => (bestL (id b) (hdsT id E (bstT id E t) b)).2

theorem cmpV_le (a b : V4) : cmpV a b ≤ 0 ↔ a.1 < b.1 ∨ (a.1 = b.1 ∧ (a.2.1 < b.2.1 ∨ (a.2.1 = b.2.1 ∧ (a.2.2.1 < b.2.2.1 ∨ (a.2.2.1 = b.2.2.1 ∧ a.2.2.2 ≤ b.2.2.2))))) := by
  unfold cmpV fst4 cmpN
  repeat' split
  all_goals omega
theorem cmpV_lt (a b : V4) : cmpV a b < 0 ↔ a.1 < b.1 ∨ (a.1 = b.1 ∧ (a.2.1 < b.2.1 ∨ (a.2.1 = b.2.1 ∧ (a.2.2.1 < b.2.2.1 ∨ (a.2.2.1 = b.2.2.1 ∧ a.2.2.2 < b.2.2.2))))) := by
  unfold cmpV fst4 cmpN
  repeat' split
  all_goals omega
theorem cmpV_tr {a b c : V4} (h : cmpV a b ≤ 0) (k : cmpV b c ≤ 0) : cmpV a c ≤ 0 := by
  rw [cmpV_le] at *
  omega
theorem cmpV_rf (a : V4) : cmpV a a ≤ 0 := by rw [cmpV_le]; omega
theorem cmpV_not {a b : V4} (h : ¬ cmpV a b < 0) : cmpV b a ≤ 0 := by
  rw [cmpV_lt] at h
  rw [cmpV_le]
  omega
theorem cmpV_le_lt {a b c : V4} (h : cmpV a b ≤ 0) (k : cmpV b c < 0) : cmpV a c < 0 := by
  rw [cmpV_le] at h
  rw [cmpV_lt] at *
  omega
def rc (v : V4) : Rc := (v.1, v.2.1)
theorem rc_le {a b : V4} (h : cmpV a b ≤ 0) : leR (rc a) (rc b) := by
  rw [cmpV_le] at h
  unfold leR ltR rc
  simp only
  omega

/-- The best of all. -/
theorem bestGo_min (b : Int) : ∀ (L : List Hd) (i : Int) (s : Bst), (bestGo b i L s = s ∨ ∃ (k : Nat) (h : Hd), L[k]? = some h ∧ leadB b h = true ∧ bestGo b i L s = (i + k, leadV h)) ∧ cmpV (bestGo b i L s).2 s.2 ≤ 0 ∧ ((bestGo b i L s).1 ≠ s.1 → cmpV (bestGo b i L s).2 s.2 < 0 ∨ s.1 ≥ i) ∧ ∀ (k : Nat) (h : Hd), L[k]? = some h → leadB b h = true → cmpV (bestGo b i L s).2 (leadV h) ≤ 0
  | [], i, s => ⟨Or.inl rfl, cmpV_rf _, fun h => absurd rfl h, fun k h hk => by simp at hk⟩
  | x :: r, i, s => by
    obtain ⟨h1, h2, h3, h4⟩ := bestGo_min b r (i + 1) (stepB b i x s)
    have hs : stepB b i x s = s ∨ (stepB b i x s = (i, leadV x) ∧ leadB b x = true ∧ cmpV (leadV x) s.2 < 0) := by
      unfold stepB
      split
      · next hc => simp at hc; exact Or.inr ⟨rfl, hc.1, hc.2⟩
      · exact Or.inl rfl
    have hsl : cmpV (stepB b i x s).2 s.2 ≤ 0 := by
      rcases hs with e | ⟨e, _, hlt⟩
      · rw [e]; exact cmpV_rf _
      · rw [e]; exact Int.le_of_lt hlt
    show (bestGo b (i + 1) r (stepB b i x s) = s ∨ _) ∧ cmpV (bestGo b (i + 1) r (stepB b i x s)).2 s.2 ≤ 0 ∧ ((bestGo b (i + 1) r (stepB b i x s)).1 ≠ s.1 → cmpV (bestGo b (i + 1) r (stepB b i x s)).2 s.2 < 0 ∨ s.1 ≥ i) ∧ _
    refine ⟨?_, cmpV_tr h2 hsl, ?_, ?_⟩
    · rcases h1 with e | ⟨k, h, k1, k2, k3⟩
      · rcases hs with e2 | ⟨e2, hl, _⟩
        · exact Or.inl (e.trans e2)
        · refine Or.inr ⟨0, x, rfl, hl, ?_⟩
          show bestGo b (i + 1) r (stepB b i x s) = _
          rw [e, e2]
          simp
      · refine Or.inr ⟨k + 1, h, k1, k2, ?_⟩
        show bestGo b (i + 1) r (stepB b i x s) = _
        rw [k3]
        congr 1
        omega
    · intro hne
      rcases hs with e2 | ⟨e2, hl, hlt⟩
      · rw [e2] at h3 hne ⊢
        rcases h3 hne with h | h
        · exact Or.inl h
        · exact Or.inr (by omega)
      · refine Or.inl ?_
        rw [e2] at h2 ⊢
        exact cmpV_le_lt h2 hlt
    · intro k h hk hl
      cases k with
      | zero =>
        simp at hk
        subst hk
        refine cmpV_tr h2 ?_
        unfold stepB
        by_cases hc : cmpV (leadV x) s.2 < 0
        · rw [if_pos (by simp [hl, hc])]
          exact cmpV_rf _
        · rw [if_neg (by simp [hc])]
          exact cmpV_not hc
      | succ k => exact h4 k h (by simpa using hk) hl
/-- What is best: nothing but the bridge itself, or what leads, better than itself; and none leads to a better one. -/
theorem bestL_min (b : Int) (L : List Hd) : (bestL b L = (-1, ownV b) ∨ ∃ (k : Nat) (h : Hd), L[k]? = some h ∧ leadB b h = true ∧ bestL b L = ((k : Int), leadV h) ∧ cmpV (leadV h) (ownV b) < 0) ∧ cmpV (bestL b L).2 (ownV b) ≤ 0 ∧ ∀ (k : Nat) (h : Hd), L[k]? = some h → leadB b h = true → cmpV (bestL b L).2 (leadV h) ≤ 0 := by
  obtain ⟨h1, h2, h3, h4⟩ := bestGo_min b L 0 (-1, ownV b)
  refine ⟨?_, h2, h4⟩
  rcases h1 with e | ⟨k, h, k1, k2, k3⟩
  · exact Or.inl e
  · refine Or.inr ⟨k, h, k1, k2, ?_, ?_⟩
    · unfold bestL
      rw [k3]
      congr 1
      omega
    · rw [k3] at h3
      simp only at h3
      rcases h3 (by omega) with h | h
      · exact h
      · omega

end Go.Proofs.Ytolmkflhddlcnaa
