/-
  Rounds on a graph: what is told comes to rest behind as many rounds as there are bridges. It speaks of no program.
-/
import Derived.WalkKit
namespace Go.Proofs.Ytolmkflhddlcnaa
set_option linter.unusedVariables false
set_option linter.unusedSimpArgs false

/-- A root and what it costs. -/
abbrev Rc := Int × Int
def ltR (a b : Rc) : Prop := a.1 < b.1 ∨ (a.1 = b.1 ∧ a.2 < b.2)
def leR (a b : Rc) : Prop := ¬ ltR b a
def addR (a : Rc) (c : Int) : Rc := (a.1, a.2 + c)

theorem leR_refl (a : Rc) : leR a a := by unfold leR ltR; omega
theorem leR_trans {a b c : Rc} (h : leR a b) (k : leR b c) : leR a c := by unfold leR ltR at *; omega
theorem leR_anti {a b : Rc} (h : leR a b) (k : leR b a) : a = b := by
  obtain ⟨a1, a2⟩ := a
  obtain ⟨b1, b2⟩ := b
  unfold leR ltR at *
  simp only at *
  have h1 : a1 = b1 := by omega
  have h2 : a2 = b2 := by omega
  rw [h1, h2]
theorem leR_total (a b : Rc) : leR a b ∨ leR b a := by unfold leR ltR; omega
theorem leR_of_lt {a b : Rc} (h : ltR a b) : leR a b := by unfold leR ltR at *; omega
theorem ltR_add (a : Rc) {c : Int} (h : 1 ≤ c) : ltR a (addR a c) := by unfold ltR addR; simp; omega
theorem addR_mono {a b : Rc} (h : leR a b) (c : Int) : leR (addR a c) (addR b c) := by unfold leR ltR addR at *; simp at *; omega
theorem ltR_irrefl (a : Rc) : ¬ ltR a a := by unfold ltR; omega

/-- An edge: at, to, cost. -/
abbrev Ed := Nat × Nat × Int
/-- One round: each takes the least of what it is itself and what comes to it. -/
def StepR (n : Nat) (E : List Ed) (own : Nat → Int) (x y : Nat → Rc) : Prop :=
  ∀ b, b < n → (y b = (own b, 0) ∨ ∃ e ∈ E, e.1 = b ∧ y b = addR (x e.2.1) e.2.2) ∧ leR (y b) (own b, 0) ∧ ∀ e ∈ E, e.1 = b → leR (y b) (addR (x e.2.1) e.2.2)

structure GoodE (n : Nat) (E : List Ed) : Prop where
  at_ : ∀ e ∈ E, e.1 < n
  to_ : ∀ e ∈ E, e.2.1 < n
  c : ∀ e ∈ E, 1 ≤ e.2.2

section
variable {n : Nat} {E : List Ed} {own : Nat → Int} {v : Nat → Nat → Rc}
theorem v_down (hg : GoodE n E) (h0 : ∀ b, v 0 b = (own b, 0)) (hs : ∀ t, StepR n E own (v t) (v (t + 1))) : ∀ t b, b < n → leR (v (t + 1) b) (v t b) := by
  intro t
  induction t with
  | zero => intro b hb; rw [h0 b]; exact (hs 0 b hb).2.1
  | succ t ih =>
    intro b hb
    rcases (hs t b hb).1 with h | ⟨e, he, h1, h2⟩
    · rw [h]; exact (hs (t + 1) b hb).2.1
    · rw [h2]
      exact leR_trans ((hs (t + 1) b hb).2.2 e he h1) (addR_mono (ih e.2.1 (hg.to_ e he)) _)
theorem v_down_le (hg : GoodE n E) (h0 : ∀ b, v 0 b = (own b, 0)) (hs : ∀ t, StepR n E own (v t) (v (t + 1))) {b : Nat} (hb : b < n) : ∀ k t, leR (v (t + k) b) (v t b)
  | 0, t => leR_refl _
  | k + 1, t => leR_trans (v_down hg h0 hs (t + k) b hb) (v_down_le hg h0 hs hb k t)
theorem v_nonneg (hg : GoodE n E) (ho : ∀ b, 0 ≤ own b) (h0 : ∀ b, v 0 b = (own b, 0)) (hs : ∀ t, StepR n E own (v t) (v (t + 1))) : ∀ t b, b < n → 0 ≤ (v t b).1 ∧ 0 ≤ (v t b).2 := by
  intro t
  induction t with
  | zero => intro b hb; rw [h0 b]; exact ⟨ho b, Int.le_refl 0⟩
  | succ t ih =>
    intro b hb
    rcases (hs t b hb).1 with h | ⟨e, he, h1, h2⟩
    · rw [h]; exact ⟨ho b, Int.le_refl 0⟩
    · rw [h2]
      have := ih e.2.1 (hg.to_ e he)
      have := hg.c e he
      unfold addR
      simp only
      omega

/-- What goes down, and not below 0, comes to rest. -/
theorem comes_to_rest (f : Nat → Rc) (hd : ∀ k t, leR (f (t + k)) (f t)) (h0 : ∀ t, 0 ≤ (f t).1 ∧ 0 ≤ (f t).2) : ∃ T, ∀ s, T ≤ s → f s = f T := by
  have key : ∀ p : Nat × Nat, ∀ t, ((f t).1.toNat, (f t).2.toNat) = p → ∃ T, ∀ s, T ≤ s → f s = f T := by
    intro p
    refine WellFounded.induction (C := fun p => ∀ t, ((f t).1.toNat, (f t).2.toNat) = p → ∃ T, ∀ s, T ≤ s → f s = f T) (Prod.lex Nat.lt_wfRel Nat.lt_wfRel).wf p ?_
    intro p ih t ht
    by_cases h : ∃ s, t ≤ s ∧ f s ≠ f t
    · obtain ⟨s, hs, hne⟩ := h
      have hle := hd (s - t) t
      rw [show t + (s - t) = s by omega] at hle
      have hlt : ltR (f s) (f t) := by
        apply Classical.byContradiction
        intro hn
        exact hne (leR_anti hle hn)
      refine ih ((f s).1.toNat, (f s).2.toNat) ?_ s rfl
      rw [← ht]
      have a := h0 s
      have b := h0 t
      show Prod.Lex _ _ _ _
      unfold ltR at hlt
      rcases hlt with h | ⟨h1, h2⟩
      · exact Prod.Lex.left _ _ (show (f s).1.toNat < (f t).1.toNat by omega)
      · rw [h1]
        exact Prod.Lex.right _ (show (f s).2.toNat < (f t).2.toNat by omega)
    · refine ⟨t, fun s hs => ?_⟩
      apply Classical.byContradiction
      intro hn
      exact h ⟨s, hs, hn⟩
  exact key _ 0 rfl
theorem rest_all (hg : GoodE n E) (ho : ∀ b, 0 ≤ own b) (h0 : ∀ b, v 0 b = (own b, 0)) (hs : ∀ t, StepR n E own (v t) (v (t + 1))) : ∃ T, ∀ b, b < n → ∀ s, T ≤ s → v s b = v T b := by
  have key : ∀ m, m ≤ n → ∃ T, ∀ b, b < m → ∀ s, T ≤ s → v s b = v T b := by
    intro m
    induction m with
    | zero => intro _; exact ⟨0, fun b hb => by omega⟩
    | succ m ih =>
      intro hm
      obtain ⟨T1, h1⟩ := ih (by omega)
      obtain ⟨T2, h2⟩ := comes_to_rest (fun t => v t m) (fun k t => v_down_le hg h0 hs (by omega) k t) (fun t => v_nonneg hg ho h0 hs t m (by omega))
      refine ⟨max T1 T2, fun b hb s hs' => ?_⟩
      by_cases e : b = m
      · subst e
        exact (h2 s (by omega)).trans (h2 (max T1 T2) (by omega)).symm
      · exact (h1 b (by omega) s (by omega)).trans (h1 b (by omega) (max T1 T2) (by omega)).symm
  exact key n (Nat.le_refl n)

/-- The least of some. -/
theorem least_of (L : Nat → Rc) (p : Nat → Prop) : ∀ n, (∃ b, b < n ∧ p b) → ∃ b, b < n ∧ p b ∧ ∀ c, c < n → p c → leR (L b) (L c)
  | 0, ⟨b, h, _⟩ => by omega
  | n + 1, ⟨b, hb, hp⟩ => by
    by_cases h : ∃ b, b < n ∧ p b
    · obtain ⟨a, ha, pa, hmin⟩ := least_of L p n h
      by_cases hn : p n
      · rcases leR_total (L a) (L n) with k | k
        · refine ⟨a, by omega, pa, fun c hc pc => ?_⟩
          by_cases e : c = n
          · rw [e]; exact k
          · exact hmin c (by omega) pc
        · refine ⟨n, by omega, hn, fun c hc pc => ?_⟩
          by_cases e : c = n
          · rw [e]; exact leR_refl _
          · exact leR_trans k (hmin c (by omega) pc)
      · refine ⟨a, by omega, pa, fun c hc pc => ?_⟩
        by_cases e : c = n
        · exact absurd (e ▸ pc) hn
        · exact hmin c (by omega) pc
    · have hbn : b = n := by
        apply Classical.byContradiction
        intro hne
        exact h ⟨b, by omega, hp⟩
      subst hbn
      refine ⟨b, by omega, hp, fun c hc pc => ?_⟩
      by_cases e : c = b
      · rw [e]; exact leR_refl _
      · exact absurd ⟨c, by omega, pc⟩ h

theorem countP_lt {α : Type} {p q : α → Bool} : ∀ {l : List α}, (∀ x ∈ l, p x = true → q x = true) → (∃ x ∈ l, q x = true ∧ p x = false) → l.countP p < l.countP q
  | [], _, ⟨x, hx, _⟩ => by cases hx
  | a :: l, h, ⟨x, hx, hq, hp⟩ => by
    rw [List.countP_cons, List.countP_cons]
    have hmono : l.countP p ≤ l.countP q := List.countP_mono_left (fun y hy => h y (List.mem_cons_of_mem _ hy))
    by_cases e : x = a
    · subst e
      rw [hq, hp]
      simp
      omega
    · have hx' : x ∈ l := by
        rcases List.mem_cons.1 hx with h1 | h1
        · exact absurd h1 e
        · exact h1
      have := countP_lt (p := p) (q := q) (l := l) (fun y hy => h y (List.mem_cons_of_mem _ hy)) ⟨x, hx', hq, hp⟩
      have h1 : (if p a = true then 1 else 0) ≤ (if q a = true then 1 else 0) := by
        by_cases hpa : p a = true
        · rw [if_pos hpa, if_pos (h a (by simp) hpa)]
          exact Nat.le_refl 1
        · rw [if_neg hpa]
          exact Nat.zero_le _
      omega
/-- What grows till it is all is all behind n steps. -/
theorem grows (n : Nat) (g : Nat → Nat → Bool) (h1 : ∀ t b, b < n → g t b = true → g (t + 1) b = true) (h2 : ∀ t, (∃ b, b < n ∧ g t b = false) → ∃ b, b < n ∧ g t b = false ∧ g (t + 1) b = true) : ∀ b, b < n → g n b = true := by
  have key : ∀ t, t ≤ n → t ≤ (List.range n).countP (g t) := by
    intro t
    induction t with
    | zero => intro _; exact Nat.zero_le _
    | succ t ih =>
      intro ht
      have h := ih (by omega)
      have hmono : (List.range n).countP (g t) ≤ (List.range n).countP (g (t + 1)) := List.countP_mono_left (fun y hy => h1 t y (List.mem_range.1 hy))
      by_cases hall : ∃ b, b < n ∧ g t b = false
      · obtain ⟨b, hb, hb1, hb2⟩ := h2 t hall
        have := countP_lt (p := g t) (q := g (t + 1)) (l := List.range n) (fun x hx => h1 t x (List.mem_range.1 hx)) ⟨b, List.mem_range.2 hb, hb2, hb1⟩
        omega
      · have : (List.range n).countP (g t) = (List.range n).length := by
          rw [List.countP_eq_length]
          intro b hb
          rw [List.mem_range] at hb
          cases hg : g t b with
          | true => rfl
          | false => exact absurd ⟨b, hb, hg⟩ hall
        rw [List.length_range] at this
        omega
  have hn := key n (Nat.le_refl n)
  have h3 : (List.range n).countP (g n) = (List.range n).length := by
    have := List.countP_le_length (p := g n) (l := List.range n)
    rw [List.length_range] at *
    omega
  rw [List.countP_eq_length] at h3
  intro b hb
  exact h3 b (List.mem_range.2 hb)

/-- BEHIND n ROUNDS NOTHING CHANGES ANY MORE. -/
theorem rest_fix (hg : GoodE n E) (ho : ∀ b, 0 ≤ own b) (h0 : ∀ b, v 0 b = (own b, 0)) (hs : ∀ t, StepR n E own (v t) (v (t + 1))) : ∀ t, n ≤ t → ∀ b, b < n → v t b = v n b := by
  obtain ⟨T, hT⟩ := rest_all hg ho h0 hs
  have hlow : ∀ t b, b < n → leR (v T b) (v t b) := by
    intro t b hb
    by_cases h : t ≤ T
    · have := v_down_le hg h0 hs hb (T - t) t
      rwa [show t + (T - t) = T by omega] at this
    · rw [hT b hb t (by omega)]
      exact leR_refl _
  have hfix : StepR n E own (v T) (v T) := by
    intro b hb
    have := hs T b hb
    rw [hT b hb (T + 1) (by omega)] at this
    exact this
  have hgood : ∀ b, b < n → decide (v n b = v T b) = true := by
    refine grows n (fun t b => decide (v t b = v T b)) ?_ ?_
    · intro t b hb h
      simp only [decide_eq_true_eq] at h ⊢
      refine leR_anti ?_ (hlow _ b hb)
      rw [← h]
      exact v_down hg h0 hs t b hb
    · intro t ⟨b0, hb0, hn0⟩
      obtain ⟨b, hb, hnb, hmin⟩ := least_of (v T) (fun b => decide (v t b = v T b) = false) n ⟨b0, hb0, hn0⟩
      refine ⟨b, hb, hnb, ?_⟩
      simp only [decide_eq_true_eq]
      have hne : v t b ≠ v T b := of_decide_eq_false hnb
      rcases (hfix b hb).1 with h | ⟨e, he, h1, h2⟩
      · exfalso
        apply hne
        refine leR_anti ?_ (hlow t b hb)
        rw [h, ← h0 b]
        have := v_down_le hg h0 hs hb t 0
        rwa [Nat.zero_add] at this
      · have hto := hg.to_ e he
        have hgt : v t e.2.1 = v T e.2.1 := by
          apply Classical.byContradiction
          intro hn
          have := hmin e.2.1 hto (decide_eq_false hn)
          rw [h2] at this
          exact this (ltR_add _ (hg.c e he))
        refine leR_anti ?_ (hlow _ b hb)
        rw [h2, ← hgt]
        exact (hs t b hb).2.2 e he h1
  intro t ht b hb
  have h1 : v n b = v T b := of_decide_eq_true (hgood b hb)
  rw [h1]
  refine leR_anti ?_ (hlow t b hb)
  rw [← h1]
  have := v_down_le hg h0 hs hb (t - n) n
  rwa [show n + (t - n) = t by omega] at this
theorem rest_step (hg : GoodE n E) (ho : ∀ b, 0 ≤ own b) (h0 : ∀ b, v 0 b = (own b, 0)) (hs : ∀ t, StepR n E own (v t) (v (t + 1))) : StepR n E own (v n) (v n) := by
  intro b hb
  have := hs n b hb
  rw [rest_fix hg ho h0 hs (n + 1) (by omega) b hb] at this
  exact this
end

end Go.Proofs.Ytolmkflhddlcnaa
