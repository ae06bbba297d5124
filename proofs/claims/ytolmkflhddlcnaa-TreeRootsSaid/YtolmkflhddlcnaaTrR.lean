/-
  What hangs together, and where the roots are. It speaks of no program.
-/
import Derived.Test.YtolmkflhddlcnaaTrO
namespace Go.Proofs.Ytolmkflhddlcnaa
set_option linter.unusedVariables false
set_option linter.unusedSimpArgs false

def adjL (M : List Lk) (x y : Nat) : Prop := ∃ l ∈ M, (l.1 = x ∧ l.2.2.1 = y) ∨ (l.1 = y ∧ l.2.2.1 = x)
/-- Two hang together: the least that is so for neighbours, and goes on. -/
def Conn (M : List Lk) (a b : Nat) : Prop := ∀ P : Nat → Nat → Prop, (∀ x, P x x) → (∀ x y, P x y → P y x) → (∀ x y z, P x y → P y z → P x z) → (∀ x y, adjL M x y → P x y) → P a b
theorem conn_refl (M : List Lk) (a : Nat) : Conn M a a := fun P h1 _ _ _ => h1 a
theorem conn_symm {M : List Lk} {a b : Nat} (h : Conn M a b) : Conn M b a := fun P h1 h2 h3 h4 => h2 _ _ (h P h1 h2 h3 h4)
theorem conn_trans {M : List Lk} {a b c : Nat} (h : Conn M a b) (k : Conn M b c) : Conn M a c := fun P h1 h2 h3 h4 => h3 _ _ _ (h P h1 h2 h3 h4) (k P h1 h2 h3 h4)
theorem conn_adj {M : List Lk} {a b : Nat} (h : adjL M a b) : Conn M a b := fun P _ _ _ h4 => h4 _ _ h
theorem conn_sub {M N : List Lk} (hs : ∀ l ∈ M, l ∈ N) {a b : Nat} (h : Conn M a b) : Conn N a b :=
  h (Conn N) (conn_refl N) (fun _ _ => conn_symm) (fun _ _ _ => conn_trans) (fun x y ⟨l, hl, k⟩ => conn_adj ⟨l, hs l hl, k⟩)

def actE (ids : List Int) (L : List Lk) (l : Lk) : Bool := roleE ids L (endA l) != 3 && roleE ids L (endB l) != 3
def actL (ids : List Int) (L : List Lk) : List Lk := L.filter (actE ids L)

section
variable {ids : List Int} {L : List Lk}
theorem adj_end {x y : Nat} : adjL L x y ↔ ∃ e ∈ endsL L, e.1 = x ∧ e.2.2.1 = y := by
  constructor
  · rintro ⟨l, hl, ⟨h1, h2⟩ | ⟨h1, h2⟩⟩
    · exact ⟨endA l, mem_ends.2 ⟨l, hl, Or.inl rfl⟩, h1, h2⟩
    · exact ⟨endB l, mem_ends.2 ⟨l, hl, Or.inr rfl⟩, h2, h1⟩
  · rintro ⟨e, he, h1, h2⟩
    obtain ⟨l, hl, rfl | rfl⟩ := mem_ends.1 he
    · exact ⟨l, hl, Or.inl ⟨h1, h2⟩⟩
    · exact ⟨l, hl, Or.inr ⟨h2, h1⟩⟩
theorem adj_root (hM : MayT ids L) (hid : ∀ x ∈ ids, 0 ≤ x) {x y : Nat} (h : adjL L x y) : (restB ids L x).1 = (restB ids L y).1 := by
  have key : ∀ {e : En}, e ∈ endsL L → e.1 ≠ e.2.2.1 → (restB ids L e.1.toNat).1 ≤ (restB ids L e.2.2.1.toNat).1 := by
    intro e he hne
    have ho := end_ok hM he
    have h1 := (at_rest hM hid e.1.toNat (by have := ho.a0; have := ho.a1; omega)).2.2 _ (mem_edges.2 ⟨e, he, hne, rfl⟩) rfl
    simp only at h1
    unfold leR ltR addR rc at h1
    simp only at h1
    have h2 : (restB ids L e.1.toNat) = bstT (idAt ids) (endsL L) ids.length e.1.toNat := rfl
    have h3 : (restB ids L e.2.2.1.toNat) = bstT (idAt ids) (endsL L) ids.length e.2.2.1.toNat := rfl
    rw [h2, h3]
    omega
  obtain ⟨e, he, h1, h2⟩ := adj_end.1 h
  by_cases hne : e.1 = e.2.2.1
  · have : x = y := by omega
    rw [this]
  · have k1 := key he hne
    have k2 := key (flip_mem he) (fun h => hne h.symm)
    unfold flipE at k2
    simp only at k2
    rw [h1, h2] at k1 k2
    simp only [Int.toNat_natCast] at k1 k2
    omega
theorem conn_root (hM : MayT ids L) (hid : ∀ x ∈ ids, 0 ≤ x) {x y : Nat} (h : Conn L x y) : (restB ids L x).1 = (restB ids L y).1 :=
  h (fun x y => (restB ids L x).1 = (restB ids L y).1) (fun _ => rfl) (fun _ _ h => h.symm) (fun _ _ _ h k => h.trans k) (fun _ _ h => adj_root hM hid h)
theorem role_root (hM : MayT ids L) (hid : ∀ x ∈ ids, 0 ≤ x) {e : En} (he : e ∈ endsL L) : roleE ids L e = 1 ↔ e.2.1 = (restS ids L e.1.toNat).1 := by
  rw [role_is hM hid he]
  constructor
  · intro h
    split at h
    · assumption
    · split at h <;> omega
  · intro h
    rw [if_pos h]
theorem act_of_root (hM : MayT ids L) (hid : ∀ x ∈ ids, 0 ≤ x) {l : Lk} (hl : l ∈ L) (h : roleE ids L (endA l) = 1 ∨ roleE ids L (endB l) = 1) : l ∈ actL ids L := by
  unfold actL
  rw [List.mem_filter]
  refine ⟨hl, ?_⟩
  unfold actE
  simp only [Bool.and_eq_true, bne_iff_ne]
  have := one_each hM hid hl
  omega
/-- Each one leads over active links to a root. -/
theorem to_root (hM : MayT ids L) (hid : ∀ x ∈ ids, 0 ≤ x) : ∀ (d b : Nat), b < ids.length → (restB ids L b).2.1.toNat ≤ d → ∃ r, r < ids.length ∧ Conn (actL ids L) b r ∧ (restB ids L r).1 = idAt ids r
  | 0, b, hb, hd => by
    rcases root_is hM hid hb with ⟨h1, h2⟩ | ⟨e, he, e1, e2, e3, e4, -⟩
    · exact ⟨b, hb, conn_refl _ _, h2⟩
    · obtain ⟨g1, g2⟩ := rc_add e4
      have ho := end_ok hM he
      have := (rest_far hM e.2.2.1.toNat (by have := ho.t0; have := ho.t1; omega)).1
      have := ho.c0
      omega
  | d + 1, b, hb, hd => by
    rcases root_is hM hid hb with ⟨h1, h2⟩ | ⟨e, he, e1, e2, e3, e4, -⟩
    · exact ⟨b, hb, conn_refl _ _, h2⟩
    · obtain ⟨g1, g2⟩ := rc_add e4
      have ho := end_ok hM he
      have hto : e.2.2.1.toNat < ids.length := by have := ho.t0; have := ho.t1; omega
      have h0 := (rest_far hM e.2.2.1.toNat hto).1
      have hc := ho.c0
      obtain ⟨r, hr, hcn, hroot⟩ := to_root hM hid d e.2.2.1.toNat hto (by omega)
      refine ⟨r, hr, conn_trans ?_ hcn, hroot⟩
      have hb' : e.1.toNat = b := by omega
      have hrole := (role_root hM hid he).2 (by rw [hb']; exact e2)
      obtain ⟨l, hl, h | h⟩ := mem_ends.1 he
      · refine conn_adj ⟨l, act_of_root hM hid hl (Or.inl (h ▸ hrole)), Or.inl ⟨?_, ?_⟩⟩
        · rw [← e1, h]; rfl
        · have h5 : l.2.2.1 = e.2.2.1 := by rw [h]; rfl
          have := ho.t0
          omega
      · refine conn_adj ⟨l, act_of_root hM hid hl (Or.inr (h ▸ hrole)), Or.inr ⟨?_, ?_⟩⟩
        · have h5 : l.1 = e.2.2.1 := by rw [h]; rfl
          have := ho.t0
          omega
        · rw [← e1, h]; rfl
theorem act_sub : ∀ l ∈ actL ids L, l ∈ L := fun l hl => (List.mem_filter.1 hl).1
theorem conn_act (hM : MayT ids L) (hid : ∀ x ∈ ids, 0 ≤ x) {a b : Nat} (ha : a < ids.length) (hb : b < ids.length) : Conn L a b ↔ Conn (actL ids L) a b := by
  constructor
  · intro h
    obtain ⟨r, hr, h1, h2⟩ := to_root hM hid _ a ha (Nat.le_refl _)
    obtain ⟨s, hs, k1, k2⟩ := to_root hM hid _ b hb (Nat.le_refl _)
    have e1 := conn_root hM hid (conn_sub act_sub h1)
    have e2 := conn_root hM hid (conn_sub act_sub k1)
    have e3 := conn_root hM hid h
    have : r = s := id_inj hM hr hs (by rw [← h2, ← k2, ← e1, ← e2, e3])
    subst this
    exact conn_trans h1 (conn_symm k1)
  · exact conn_sub act_sub
def hasRoot (ids : List Int) (L : List Lk) (b : Nat) : Bool := decide ((restB ids L b).1 < idAt ids b)
theorem root_le (hM : MayT ids L) (hid : ∀ x ∈ ids, 0 ≤ x) {b : Nat} (hb : b < ids.length) : (restB ids L b).1 ≤ idAt ids b := by
  rcases root_is hM hid hb with ⟨-, h⟩ | ⟨e, -, -, -, -, -, h⟩ <;> omega
theorem has_root (hM : MayT ids L) (hid : ∀ x ∈ ids, 0 ≤ x) {b : Nat} (hb : b < ids.length) : hasRoot ids L b = true ↔ ∃ c, c < ids.length ∧ Conn L c b ∧ idAt ids c < idAt ids b := by
  unfold hasRoot
  rw [decide_eq_true_eq]
  constructor
  · intro h
    obtain ⟨r, hr, h1, h2⟩ := to_root hM hid _ b hb (Nat.le_refl _)
    have h3 := conn_sub act_sub h1
    have e1 := conn_root hM hid h3
    exact ⟨r, hr, conn_symm h3, by omega⟩
  · rintro ⟨c, hc, h1, h2⟩
    have e1 := conn_root hM hid h1
    have := root_le hM hid hc
    omega
theorem no_root (hM : MayT ids L) (hid : ∀ x ∈ ids, 0 ≤ x) {b : Nat} (hb : b < ids.length) : hasRoot ids L b = false ↔ (restB ids L b).1 = idAt ids b := by
  unfold hasRoot
  rw [decide_eq_false_iff_not]
  have := root_le hM hid hb
  omega

theorem countP_key {p : En → Bool} : ∀ {l : List En}, (l.Pairwise fun e f => sameE e f = false) → (∀ e ∈ l, ∀ f ∈ l, p e = true → p f = true → sameE e f = true) → l.countP p = if l.any p then 1 else 0
  | [], _, _ => rfl
  | a :: l, hk, hu => by
    rw [List.pairwise_cons] at hk
    rw [List.countP_cons, countP_key hk.2 (fun e he f hf => hu e (List.mem_cons_of_mem _ he) f (List.mem_cons_of_mem _ hf)), List.any_cons]
    by_cases ha : p a = true
    · have : l.any p = false := by
        rw [List.any_eq_false]
        intro f hf hp
        have h1 := hk.1 f hf
        have h2 := hu a (by simp) f (List.mem_cons_of_mem _ hf) ha hp
        rw [h1] at h2
        cases h2
      rw [this, ha]
      rfl
    · have ha' : p a = false := by simpa using ha
      rw [ha', Bool.false_or]
      simp
/-- How many Root ends a bridge has. -/
def cntR (ids : List Int) (L : List Lk) (b : Nat) : Nat := (endsL L).countP fun e => e.1 == (b : Int) && roleE ids L e == 1
theorem cnt_root (hM : MayT ids L) (hid : ∀ x ∈ ids, 0 ≤ x) {b : Nat} (hb : b < ids.length) : cntR ids L b = if hasRoot ids L b then 1 else 0 := by
  unfold cntR
  rw [countP_key hM.keys]
  · suffices e : (endsL L).any (fun e => e.1 == (b : Int) && roleE ids L e == 1) = hasRoot ids L b by rw [e]
    refine Bool.eq_iff_iff.2 ?_
    rw [List.any_eq_true]
    constructor
    · rintro ⟨e, he, h⟩
      simp at h
      have hb' : e.1.toNat = b := by omega
      have hr := (role_root hM hid he).1 h.2
      rw [hb'] at hr
      have := (end_ok hM he).p0
      rcases root_is hM hid hb with ⟨h1, -⟩ | ⟨f, -, -, -, -, -, h2⟩
      · omega
      · unfold hasRoot
        exact decide_eq_true h2
    · intro h
      rcases root_is hM hid hb with ⟨h1, h2⟩ | ⟨e, he, e1, e2, -, -, -⟩
      · rw [(no_root hM hid hb).2 h2] at h
        cases h
      · refine ⟨e, he, ?_⟩
        have hb' : e.1.toNat = b := by omega
        have := (role_root hM hid he).2 (by rw [hb']; exact e2)
        simp [e1, this]
  · intro e he f hf h1 h2
    simp at h1 h2
    have a1 := (role_root hM hid he).1 h1.2
    have a2 := (role_root hM hid hf).1 h2.2
    unfold sameE
    have hb1 : e.1.toNat = f.1.toNat := by omega
    rw [← hb1] at a2
    simp
    omega
end

end Go.Proofs.Ytolmkflhddlcnaa
