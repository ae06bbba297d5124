/-
  Bridges and links, plainly: the rounds are rounds on a graph. It speaks of no program.
-/
import Derived.Test.YtolmkflhddlcnaaTrS
namespace Go.Proofs.Ytolmkflhddlcnaa
set_option linter.unusedVariables false
set_option linter.unusedSimpArgs false

theorem mem_ends {L : List Lk} {e : En} : e ∈ endsL L ↔ ∃ l ∈ L, e = endA l ∨ e = endB l := by
  unfold endsL
  rw [List.mem_flatMap]
  simp
def flipE (e : En) : En := (e.2.2.1, e.2.2.2.1, e.1, e.2.1, e.2.2.2.2)
theorem flip_mem {L : List Lk} {e : En} (h : e ∈ endsL L) : flipE e ∈ endsL L := by
  obtain ⟨l, hl, h | h⟩ := mem_ends.1 h
  · exact mem_ends.2 ⟨l, hl, Or.inr (by rw [h]; rfl)⟩
  · exact mem_ends.2 ⟨l, hl, Or.inl (by rw [h]; rfl)⟩
theorem okE_iff {n : Nat} {e : En} : okE n e = true ↔ 0 ≤ e.1 ∧ e.1 < n ∧ 0 ≤ e.2.1 ∧ e.2.1 ≤ 15 ∧ 1 ≤ e.2.2.2.2 ∧ e.2.2.2.2 ≤ 200000000 := by
  unfold okE
  simp only [Bool.and_eq_true, decide_eq_true_eq]
  constructor
  · rintro ⟨⟨⟨⟨⟨h1, h2⟩, h3⟩, h4⟩, h5⟩, h6⟩
    exact ⟨h1, h2, h3, h4, h5, h6⟩
  · rintro ⟨h1, h2, h3, h4, h5, h6⟩
    exact ⟨⟨⟨⟨⟨h1, h2⟩, h3⟩, h4⟩, h5⟩, h6⟩

theorem find_mem {l : List En} {p : En → Bool} {e : En} (hk : l.Pairwise fun e f => sameE e f = false) (he : e ∈ l) (hp : p e = true) (hu : ∀ f ∈ l, p f = true → sameE e f = true) : l.find? p = some e := by
  induction l with
  | nil => cases he
  | cons a l ih =>
    rw [List.pairwise_cons] at hk
    by_cases hpa : p a = true
    · rw [List.find?_cons_of_pos hpa]
      have h1 := hu a (by simp) hpa
      rcases List.mem_cons.1 he with h | h
      · rw [h]
      · have h2 := hk.1 e h
        exfalso
        unfold sameE at h1 h2
        simp at h1 h2
        exact h2 h1.1.symm h1.2.symm
    · rw [List.find?_cons_of_neg hpa]
      rcases List.mem_cons.1 he with h | h
      · exact absurd (h ▸ hp) hpa
      · exact ih hk.2 h fun f hf => hu f (List.mem_cons_of_mem _ hf)

def edgeOf (e : En) : Option Ed := if e.1 == e.2.2.1 then none else some (e.1.toNat, e.2.2.1.toNat, e.2.2.2.2)
def edgesT (L : List Lk) : List Ed := (endsL L).filterMap edgeOf
theorem mem_edges {L : List Lk} {d : Ed} : d ∈ edgesT L ↔ ∃ e ∈ endsL L, e.1 ≠ e.2.2.1 ∧ d = (e.1.toNat, e.2.2.1.toNat, e.2.2.2.2) := by
  unfold edgesT
  rw [List.mem_filterMap]
  constructor
  · rintro ⟨e, he, h⟩
    unfold edgeOf at h
    split at h
    · cases h
    · next hc => exact ⟨e, he, by simpa using hc, by simpa using h.symm⟩
  · rintro ⟨e, he, hne, rfl⟩
    refine ⟨e, he, ?_⟩
    unfold edgeOf
    rw [if_neg (by simpa using hne)]

/-- The next round, on a graph. -/
def lessR (a b : Rc) : Bool := decide (a.1 < b.1) || (decide (a.1 = b.1) && decide (a.2 < b.2))
theorem lessR_iff {a b : Rc} : lessR a b = true ↔ ltR a b := by unfold lessR ltR; simp
def nextR (own : Nat → Int) (E : List Ed) (x : Nat → Rc) (b : Nat) : Rc := E.foldl (fun m e => if e.1 == b && lessR (addR (x e.2.1) e.2.2) m then addR (x e.2.1) e.2.2 else m) (own b, 0)
theorem fold_min (x : Nat → Rc) (b : Nat) : ∀ (E : List Ed) (m : Rc), let r := E.foldl (fun m e => if e.1 == b && lessR (addR (x e.2.1) e.2.2) m then addR (x e.2.1) e.2.2 else m) m
    (r = m ∨ ∃ e ∈ E, e.1 = b ∧ r = addR (x e.2.1) e.2.2) ∧ leR r m ∧ ∀ e ∈ E, e.1 = b → leR r (addR (x e.2.1) e.2.2)
  | [], m => ⟨Or.inl rfl, leR_refl _, fun e he => by cases he⟩
  | a :: E, m => by
    have ih := fold_min x b E (if a.1 == b && lessR (addR (x a.2.1) a.2.2) m then addR (x a.2.1) a.2.2 else m)
    simp only [List.foldl_cons]
    simp only at ih
    obtain ⟨h1, h2, h3⟩ := ih
    generalize List.foldl (fun m e => if (e.1 == b && lessR (addR (x e.2.1) e.2.2) m) = true then addR (x e.2.1) e.2.2 else m) (if (a.1 == b && lessR (addR (x a.2.1) a.2.2) m) = true then addR (x a.2.1) a.2.2 else m) E = r at h1 h2 h3 ⊢
    by_cases hc : (a.1 == b && lessR (addR (x a.2.1) a.2.2) m) = true
    · rw [if_pos hc] at h1 h2
      simp only [Bool.and_eq_true, beq_iff_eq] at hc
      refine ⟨Or.inr ?_, leR_trans h2 (leR_of_lt (lessR_iff.1 hc.2)), fun e he hb => ?_⟩
      · rcases h1 with h | ⟨e, he, k1, k2⟩
        · exact ⟨a, by simp, hc.1, h⟩
        · exact ⟨e, List.mem_cons_of_mem _ he, k1, k2⟩
      · rcases List.mem_cons.1 he with h | h
        · rw [h]; exact h2
        · exact h3 e h hb
    · rw [if_neg hc] at h1 h2
      refine ⟨?_, h2, fun e he hb => ?_⟩
      · rcases h1 with h | ⟨e, he, k1, k2⟩
        · exact Or.inl h
        · exact Or.inr ⟨e, List.mem_cons_of_mem _ he, k1, k2⟩
      · rcases List.mem_cons.1 he with h | h
        · subst h
          refine leR_trans h2 ?_
          intro hlt
          exact hc (by simp [hb, lessR_iff.2 hlt])
        · exact h3 e h hb
theorem next_step (n : Nat) (E : List Ed) (own : Nat → Int) (x : Nat → Rc) : StepR n E own x (nextR own E x) := fun b hb => fold_min x b E (own b, 0)
theorem step_one {n : Nat} {E : List Ed} {own : Nat → Int} {x y z : Nat → Rc} (hy : StepR n E own x y) (hz : StepR n E own x z) {b : Nat} (hb : b < n) : y b = z b := by
  have key : ∀ {y z : Nat → Rc}, StepR n E own x y → StepR n E own x z → leR (z b) (y b) := fun {y z} hy hz => by
    rcases (hy b hb).1 with h | ⟨e, he, h1, h2⟩
    · rw [h]; exact (hz b hb).2.1
    · rw [h2]; exact (hz b hb).2.2 e he h1
  exact leR_anti (key hz hy) (key hy hz)
def seqR (own : Nat → Int) (E : List Ed) : Nat → Nat → Rc
  | 0, b => (own b, 0)
  | t + 1, b => nextR own E (seqR own E t) b

section
variable {ids : List Int} {L : List Lk}
theorem id_at {b : Nat} (h : b < ids.length) : idAt ids b = ids[b] := by unfold idAt; rw [List.getElem?_eq_getElem h]; rfl
theorem id_inj (hM : MayT ids L) {b c : Nat} (hb : b < ids.length) (hc : c < ids.length) (h : idAt ids b = idAt ids c) : b = c := by
  rw [id_at hb, id_at hc] at h
  exact (List.getElem?_inj hb hM.nd).1 (by rw [List.getElem?_eq_getElem hb, List.getElem?_eq_getElem hc, h])
/-- What is known of an end. -/
structure EndOk (n : Nat) (e : En) : Prop where
  a0 : 0 ≤ e.1
  a1 : e.1 < n
  p0 : 0 ≤ e.2.1
  p1 : e.2.1 ≤ 15
  t0 : 0 ≤ e.2.2.1
  t1 : e.2.2.1 < n
  f0 : 0 ≤ e.2.2.2.1
  f1 : e.2.2.2.1 ≤ 15
  c0 : 1 ≤ e.2.2.2.2
  c1 : e.2.2.2.2 ≤ 200000000
theorem end_ok (hM : MayT ids L) {e : En} (h : e ∈ endsL L) : EndOk ids.length e := by
  obtain ⟨h1, h2, h3, h4, h5, h6⟩ := okE_iff.1 (hM.ok e h)
  obtain ⟨k1, k2, k3, k4, -, -⟩ := okE_iff.1 (hM.ok _ (flip_mem h))
  exact ⟨h1, h2, h3, h4, k1, k2, k3, k4, h5, h6⟩
theorem edges_good (hM : MayT ids L) : GoodE ids.length (edgesT L) := by
  refine ⟨fun d hd => ?_, fun d hd => ?_, fun d hd => ?_⟩ <;>
  · obtain ⟨e, he, hne, rfl⟩ := mem_edges.1 hd
    obtain ⟨h1, h2, h3, h4, h5, h6, h7, h8, h9, h10⟩ := end_ok hM he
    simp only
    omega
theorem hd_of (hM : MayT ids L) {e : En} (he : e ∈ endsL L) (bst : Nat → V4) {b p : Nat} (hb : e.1 = b) (hp : e.2.1 = p) : hdAt (idAt ids) (endsL L) bst b p = hearH (idAt ids) bst e := by
  unfold hdAt
  rw [find_mem (e := e) hM.keys he (by simp [hb, hp]) (fun f hf h => by
    simp at h
    unfold sameE
    simp [hb, hp, h.1, h.2])]
theorem hd_some {id : Nat → Int} {E : List En} {bst : Nat → V4} {b p : Nat} (h : (hdAt id E bst b p).1 = true) : ∃ e ∈ E, e.1 = b ∧ e.2.1 = p ∧ hdAt id E bst b p = hearH id bst e := by
  unfold hdAt at h ⊢
  cases hf : E.find? (fun e => e.1 == (b : Int) && e.2.1 == (p : Int)) with
  | none => rw [hf] at h; cases h
  | some e =>
    have h1 := List.find?_some hf
    simp at h1
    exact ⟨e, List.mem_of_find?_eq_some hf, h1.1, h1.2, rfl⟩
theorem hds_at (id : Nat → Int) (E : List En) (bst : Nat → V4) (b : Nat) {p : Nat} (h : p < 16) : (hdsT id E bst b)[p]? = some (hdAt id E bst b p) := by
  unfold hdsT
  rw [List.getElem?_map, List.getElem?_range h]
  rfl
theorem hds_lt {id : Nat → Int} {E : List En} {bst : Nat → V4} {b p : Nat} {x : Hd} (h : (hdsT id E bst b)[p]? = some x) : p < 16 ∧ x = hdAt id E bst b p := by
  have hp : p < (hdsT id E bst b).length := (List.getElem?_eq_some_iff.1 h).1
  unfold hdsT at hp
  rw [List.length_map, List.length_range] at hp
  rw [hds_at id E bst b hp] at h
  cases h
  exact ⟨hp, rfl⟩

/-- Costs that are far from the most. -/
def Far (n : Nat) (bst : Nat → V4) (m : Int) : Prop := ∀ b, b < n → 0 ≤ (bst b).2.1 ∧ (bst b).2.1 ≤ m
theorem lead_hear (hM : MayT ids L) {bst : Nat → V4} {m : Int} (hf : Far ids.length bst m) (hm : m ≤ 4000000000) {e : En} (he : e ∈ endsL L) {b : Nat} (hb : e.1 = b) : (leadB (idAt ids b) (hearH (idAt ids) bst e) = true ↔ e.1 ≠ e.2.2.1) ∧ leadV (hearH (idAt ids) bst e) = ((bst e.2.2.1.toNat).1, (bst e.2.2.1.toNat).2.1 + e.2.2.2.2, idAt ids e.2.2.1.toNat, e.2.2.2.1) := by
  obtain ⟨h1, h2, h3, h4, h5, h6, h7, h8, h9, h10⟩ := end_ok hM he
  obtain ⟨f0, f1⟩ := hf e.2.2.1.toNat (by omega)
  have hbw : badW (bst e.2.2.1.toNat).2.1 e.2.2.2.2 = false := by
    unfold badW
    simp
    omega
  constructor
  · unfold leadB hearH
    simp only [Bool.true_and, hbw, Bool.not_false, Bool.and_true, decide_eq_true_eq]
    constructor
    · intro hne heq
      apply hne
      rw [← heq, hb]
      simp
    · intro hne heq
      apply hne
      have := id_inj hM (b := e.2.2.1.toNat) (c := b) (by omega) (by omega) heq
      omega
  · unfold leadV thrV vecH costH hearH farC
    simp only
    rw [if_pos (by omega)]
theorem best_step (hM : MayT ids L) {bst nxt : Nat → V4} {m : Int} (hf : Far ids.length bst m) (hm : m ≤ 4000000000) (hn : ∀ b, nxt b = (bestL (idAt ids b) (hdsT (idAt ids) (endsL L) bst b)).2) : StepR ids.length (edgesT L) (idAt ids) (fun b => rc (bst b)) (fun b => rc (nxt b)) := by
  intro b hb
  obtain ⟨h1, h2, h3⟩ := bestL_min (idAt ids b) (hdsT (idAt ids) (endsL L) bst b)
  simp only
  rw [hn b]
  refine ⟨?_, rc_le h2, fun d hd hdb => ?_⟩
  · rcases h1 with h | ⟨k, x, k1, k2, k3, -⟩
    · rw [h]; exact Or.inl rfl
    · refine Or.inr ?_
      obtain ⟨hk, rfl⟩ := hds_lt k1
      have hx : (hdAt (idAt ids) (endsL L) bst b k).1 = true := by
        unfold leadB at k2
        simp at k2
        exact k2.1.1
      obtain ⟨e, he, e1, e2, e3⟩ := hd_some hx
      rw [e3] at k2 k3
      obtain ⟨l1, l2⟩ := lead_hear hM hf hm he e1
      refine ⟨_, mem_edges.2 ⟨e, he, l1.1 k2, rfl⟩, by simp [e1], ?_⟩
      rw [k3, l2]
      rfl
  · obtain ⟨e, he, hne, rfl⟩ := mem_edges.1 hd
    simp only at hdb
    have ho := end_ok hM he
    have hb' : e.1 = b := by have := ho.a0; omega
    obtain ⟨l1, l2⟩ := lead_hear hM hf hm he hb'
    have hp : e.2.1 = (e.2.1.toNat : Nat) := by have := ho.p0; omega
    have hx := hds_at (idAt ids) (endsL L) bst b (p := e.2.1.toNat) (by have := ho.p1; have := ho.p0; omega)
    rw [hd_of hM he bst hb' hp] at hx
    have h4 := rc_le (h3 _ _ hx (l1.2 hne))
    rw [l2] at h4
    exact h4
theorem far_next (hM : MayT ids L) {bst nxt : Nat → V4} {m : Int} (hf : Far ids.length bst m) (h0 : 0 ≤ m) (hm : m ≤ 4000000000) (hn : ∀ b, nxt b = (bestL (idAt ids b) (hdsT (idAt ids) (endsL L) bst b)).2) : Far ids.length nxt (m + 200000000) := by
  intro b hb
  have hs := (best_step hM hf hm hn b hb).1
  rcases hs with h | ⟨d, hd, h1, h2⟩
  · have : (nxt b).2.1 = 0 := congrArg Prod.snd h
    omega
  · have e1 : (nxt b).2.1 = (bst d.2.1).2.1 + d.2.2 := congrArg Prod.snd h2
    have hg := edges_good hM
    have := hf d.2.1 (hg.to_ d hd)
    have := hg.c d hd
    obtain ⟨e, he, -, rfl⟩ := mem_edges.1 hd
    have := (end_ok hM he).c1
    simp only at *
    omega
theorem far_all (hM : MayT ids L) : ∀ t : Nat, t ≤ 14 → Far ids.length (bstT (idAt ids) (endsL L) t) (t * 200000000)
  | 0, _ => fun b hb => by simp [bstT, ownV]
  | t + 1, ht => by
    have := far_next hM (far_all hM t (by omega)) (by omega) (by omega) (nxt := bstT (idAt ids) (endsL L) (t + 1)) (fun b => rfl)
    intro b hb
    have := this b hb
    omega
theorem seq_is (hM : MayT ids L) : ∀ t : Nat, t ≤ 14 → ∀ b, b < ids.length → rc (bstT (idAt ids) (endsL L) t b) = seqR (idAt ids) (edgesT L) t b
  | 0, _, b, hb => rfl
  | t + 1, ht, b, hb => by
    have h1 := best_step hM (far_all hM t (by omega)) (by omega) (nxt := bstT (idAt ids) (endsL L) (t + 1)) (fun b => rfl)
    have h2 : StepR ids.length (edgesT L) (idAt ids) (fun b => rc (bstT (idAt ids) (endsL L) t b)) (seqR (idAt ids) (edgesT L) (t + 1)) := by
      intro c hc
      have h3 := next_step ids.length (edgesT L) (idAt ids) (seqR (idAt ids) (edgesT L) t) c hc
      have hg := edges_good hM
      refine ⟨?_, h3.2.1, fun e he hb => ?_⟩
      · rcases h3.1 with k | ⟨e, he, k1, k2⟩
        · exact Or.inl k
        · refine Or.inr ⟨e, he, k1, ?_⟩
          simp only
          rw [seq_is hM t (by omega) e.2.1 (hg.to_ e he)]
          exact k2
      · simp only
        rw [seq_is hM t (by omega) e.2.1 (hg.to_ e he)]
        exact h3.2.2 e he hb
    exact step_one h1 h2 hb
theorem id_pos (hid : ∀ x ∈ ids, 0 ≤ x) (b : Nat) : 0 ≤ idAt ids b := by
  unfold idAt
  cases h : ids[b]? with
  | none => exact Int.le_refl 0
  | some x => exact hid x (List.mem_of_getElem? h)
/-- AT REST a round changes nothing. -/
theorem at_rest (hM : MayT ids L) (hid : ∀ x ∈ ids, 0 ≤ x) : StepR ids.length (edgesT L) (idAt ids) (fun b => rc (bstT (idAt ids) (endsL L) ids.length b)) (fun b => rc (bstT (idAt ids) (endsL L) ids.length b)) := by
  have hn := hM.n12
  have h := rest_step (edges_good hM) (id_pos hid) (v := seqR (idAt ids) (edgesT L)) (fun b => rfl) (fun t => next_step _ _ _ _)
  have hg := edges_good hM
  intro b hb
  simp only
  rw [seq_is hM _ (by omega) b hb]
  have h3 := h b hb
  refine ⟨?_, h3.2.1, fun e he hb => ?_⟩
  · rcases h3.1 with k | ⟨e, he, k1, k2⟩
    · exact Or.inl k
    · refine Or.inr ⟨e, he, k1, ?_⟩
      rw [seq_is hM _ (by omega) e.2.1 (hg.to_ e he)]
      exact k2
  · rw [seq_is hM _ (by omega) e.2.1 (hg.to_ e he)]
    exact h3.2.2 e he hb
theorem rest_more (hM : MayT ids L) (hid : ∀ x ∈ ids, 0 ≤ x) {b : Nat} (hb : b < ids.length) : rc (bstT (idAt ids) (endsL L) (ids.length + 1) b) = rc (bstT (idAt ids) (endsL L) ids.length b) := by
  have hn := hM.n12
  rw [seq_is hM _ (by omega) b hb, seq_is hM _ (by omega) b hb]
  exact rest_fix (edges_good hM) (id_pos hid) (v := seqR (idAt ids) (edgesT L)) (fun b => rfl) (fun t => next_step _ _ _ _) _ (by omega) b hb
end

end Go.Proofs.Ytolmkflhddlcnaa
