/-
  The document's part and the program's: calls, and what they tell. It speaks of no program.
-/
import Derived.Test.YtdjeifbbbpbhoaaRrS
namespace Go.Proofs.Ytdjeifbbbpbhoaa
open Go.RowKit
set_option linter.unusedVariables false
set_option linter.unusedSimpArgs false

theorem rel_at {T : Part} {R : RPart} (h : Rel T R) (n : Int) : (T.at? n = none ∧ R.at? n = none) ∨ ∃ p q, T.at? n = some p ∧ R.at? n = some q ∧ RelP p q := by
  unfold Part.at? RPart.at?
  by_cases hn : 0 ≤ n
  · rw [if_pos hn, if_pos hn]
    cases e1 : T.ps[n.toNat]? with
    | none =>
      left
      refine ⟨rfl, ?_⟩
      rw [List.getElem?_eq_none_iff] at e1 ⊢
      rw [← h.len]
      exact e1
    | some p =>
      cases e2 : R.ps[n.toNat]? with
      | none =>
        exfalso
        rw [List.getElem?_eq_none_iff] at e2
        have := (List.getElem?_eq_some_iff.1 e1).1
        rw [h.len] at this
        omega
      | some q => exact Or.inr ⟨p, q, rfl, rfl, h.ps _ p q e1 e2⟩
  · rw [if_neg hn, if_neg hn]
    exact Or.inl ⟨rfl, rfl⟩
theorem timeR_pos {now : Int} (h : timeR now = true) : 0 ≤ now := by unfold timeR at h; simp at h; omega
theorem full_new (b : Int) (cs : List Int) : Full (newPart b cs) (newRPart b cs) := by
  have hp : ∀ (k : Nat) (p : Prt) (q : RPrt), (newPart b cs).ps[k]? = some p → (newRPart b cs).ps[k]? = some q → RelP p q ∧ p.learns = q.learns 0 := by
    intro k p q hp hq
    replace hp : (cs.map newPrt)[k]? = some p := hp
    replace hq : (cs.map newRPrt)[k]? = some q := hq
    rw [List.getElem?_map] at hp hq
    cases e : cs[k]? with
    | none => rw [e] at hp; cases hp
    | some c =>
      rw [e] at hp hq
      cases hp
      cases hq
      exact ⟨⟨rfl, rfl, rfl, rfl, fun _ => rfl, fun m h => (by cases h), fun h => (by cases h), fun _ => rfl, Int.le_refl 0⟩, rfl⟩
  exact ⟨⟨rfl, rfl, rfl, rfl, by show (cs.map newPrt).length = (cs.map newRPrt).length; rw [List.length_map, List.length_map], fun k p q h1 h2 => (hp k p q h1 h2).1, Int.le_refl 0⟩, fun k p q h1 h2 => (hp k p q h1 h2).2⟩
theorem rel_link {p : Prt} {q : RPrt} (h : RelP p q) (up : Bool) : RelP (p.link up) (q.link up) := by
  refine ⟨h.cost, rfl, h.role, h.fwd, fun hk => ?_, fun m hm => ?_, h.s1, h.s0, h.s2⟩
  · cases up with
    | false => rfl
    | true => exact h.none hk
  · cases up with
    | false => cases hm
    | true =>
      obtain ⟨k1, k2, k3, k4, k5⟩ := h.some m hm
      exact ⟨k1, k2, k3, k4, rfl⟩
theorem full_link {T : Part} {R : RPart} (h : Full T R) (n : Int) (up : Bool) (now : Int) : Full (T.link n up now) (R.link n up now) := by
  unfold Part.link RPart.link
  rcases rel_at h.rel n with ⟨h1, h2⟩ | ⟨p, q, h1, h2, h3⟩
  · rw [h1, h2]
    exact h
  · rw [h1, h2]
    simp only
    cases ht : timeR now with
    | false => exact h
    | true => exact (((h.rel.goes (timeR_pos ht)).put n.toNat (rel_link h3 up)).right).1
theorem takes_rel {p : Prt} {q : RPrt} (h : RelP p q) (v : V4) : p.takes v = q.takes v := by
  unfold Prt.takes RPrt.takes
  cases hk : p.kept with
  | none => rw [h.none hk]; rfl
  | some m =>
    obtain ⟨k1, k2, -, -, -⟩ := h.some m hk
    rw [k1, k2]
    simp only [Bool.not_true, Bool.false_or]
    exact Bool.or_comm _ _
theorem full_hear {T : Part} {R : RPart} (h : Full T R) (n : Int) (b : Tell) (now : Int) : Full (T.hear n b now) (R.hear n b now) := by
  unfold Part.hear RPart.hear
  rcases rel_at h.rel n with ⟨h1, h2⟩ | ⟨p, q, h1, h2, h3⟩
  · rw [h1, h2]
    exact h
  · rw [h1, h2]
    simp only
    rw [← h3.up]
    cases hu : p.up with
    | false => exact h
    | true =>
      cases ht : timeR now with
      | false => exact h
      | true =>
        simp only [Bool.and_self, if_true]
        have hF := (h.rel.goes (timeR_pos ht)).drop
        have hq := rel_forget h3 (T.goOn now).forget.time
        have e0 : (T.goOn now).forget.time = (R.goes now).dropAll.now := hF.time
        rw [e0] at hq
        rw [e0, takes_rel hq]
        cases htk : (q.drop (R.goes now).dropAll.now).takes b.v with
        | false => exact hF.right.1
        | true =>
          simp only [if_true]
          have hup : (q.drop (R.goes now).dropAll.now).up = true := by
            have := h3.up
            unfold RPrt.drop
            split <;> simp [← this, hu]
          have hp2 : RelP { p.forget (R.goes now).dropAll.now with kept := some ⟨b.v, b.age, (R.goes now).dropAll.now⟩ } { q.drop (R.goes now).dropAll.now with keeps := true, v := b.v, age := b.age, on := (R.goes now).dropAll.now } :=
            ⟨hq.cost, hq.up, hq.role, hq.fwd, fun e => (by cases e), fun m e => by cases e; exact ⟨rfl, rfl, rfl, rfl, hup⟩, hq.s1, hq.s0, hq.s2⟩
          have hG := hF.put n.toNat hp2
          have hbr : T.br = R.br := h.rel.br
          rw [hbr]
          cases (b.chg && b.v.2.2.1 != R.br) with
          | false => exact hG.right.1
          | true => exact hG.note.right.1
theorem full_tick {T : Part} {R : RPart} (h : Full T R) (now : Int) : Full (T.tick now) (R.tick now) := by
  unfold Part.tick RPart.tick
  cases ht : timeR now with
  | false => exact h
  | true => exact (h.rel.goes (timeR_pos ht)).right.1

theorem age_right {T : Part} {R : RPart} (h : Rel T R) : T.right.age = R.right.age := by
  obtain ⟨hf, hb⟩ := h.right
  have hroot : R.right.root = (bestL T.br T.forget.hds).1 := by rw [hb]; rfl
  have hrole : ∀ (k : Nat) (q : Prt), T.right.ps[k]? = some q → q.role = 1 → (k : Int) = (bestL T.br T.forget.hds).1 := by
    intro k q hq h1
    obtain ⟨p, hp, rfl⟩ := right_at hq
    have h1' : (if (p.forget T.time).up then roleH T.br (bestL T.br T.forget.hds) k (p.forget T.time).hd else 0) = 1 := h1
    split at h1'
    · exact role_one h1'
    · omega
  rcases bestL_one T.br T.forget.hds with hn | ⟨k, x, k1, k2, k3⟩
  · have e1 : T.right.age = 0 := by
      unfold Part.age
      rw [find_no]
      intro j q hj hq
      cases hr : (q.role == 1) with
      | false => rfl
      | true =>
        have := hrole j q hq (by simpa using hr)
        rw [hn] at this
        simp only at this
        omega
    have e2 : R.right.age = 0 := by
      unfold RPart.age
      rw [hroot, hn]
      rfl
    rw [e1, e2]
  · have hk0 : k < T.forget.ps.length := by
      have := (List.getElem?_eq_some_iff.1 k1).1
      unfold Part.hds at this
      rwa [List.length_map] at this
    have hk : k < T.right.ps.length := by
      rw [right_len]
      have e : T.forget.ps.length = T.ps.length := by unfold Part.forget; rw [List.length_map]
      omega
    have hkR : k < R.right.ps.length := by rw [← hf.rel.len]; exact hk
    obtain ⟨p, hp, hq⟩ := right_at (List.getElem?_eq_getElem hk)
    have hx : x = (p.forget T.time).hd := by
      have e2 : T.forget.hds[k]? = some (p.forget T.time).hd := by
        unfold Part.hds
        rw [List.getElem?_map]
        show ((T.ps.map _)[k]?).map _ = _
        rw [List.getElem?_map, hp]
        rfl
      rw [k1] at e2
      exact Option.some.inj e2
    have his : (p.forget T.time).hd.1 = true := by
      rw [← hx]
      unfold leadB at k2
      simp at k2
      exact k2.1.1
    obtain ⟨m, hm, -⟩ := hd_is his
    have hkept : (T.right.ps[k]).kept = some m := by rw [hq]; exact hm
    have hrel := hf.rel.ps k _ _ (List.getElem?_eq_getElem hk) (List.getElem?_eq_getElem hkR)
    obtain ⟨j1, j2, j3, j4, j5⟩ := hrel.some m hkept
    have hup : (p.forget T.time).up = true := by
      have e1 : (T.right.ps[k]).up = (p.forget T.time).up := by rw [hq]; rfl
      rw [← e1, hrel.up]
      exact j5
    have hr1 : (T.right.ps[k]).role = 1 := by
      rw [hq]
      show (if (p.forget T.time).up then roleH T.br (bestL T.br T.forget.hds) k (p.forget T.time).hd else 0) = 1
      rw [hup, if_pos rfl]
      unfold roleH
      rw [if_pos (by rw [k3])]
    have e1 : T.right.age = m.age + 1 := by
      unfold Part.age
      rw [find_at (k := k) (p := T.right.ps[k]) (fun j q hj hq' => ?_) (List.getElem?_eq_getElem hk) (by simp [hr1])]
      · simp only [hkept]
      · cases hr : (q.role == 1) with
        | false => rfl
        | true =>
          have := hrole j q hq' (by simpa using hr)
          rw [k3] at this
          simp only at this
          omega
    have e2 : R.right.age = m.age + 1 := by
      unfold RPart.age
      rw [hroot, k3]
      simp only
      rw [if_pos (by omega), Int.toNat_natCast, List.getElem?_eq_getElem hkR]
      simp [j3]
    rw [e1, e2]
theorem outGo_same {T : Part} {R : RPart} (h : Full T R) (ha : T.age = R.age) : ∀ (L : List Prt) (M : List RPrt) (i : Nat), L.length = M.length → (∀ (k : Nat) (p : Prt) (q : RPrt), L[k]? = some p → M[k]? = some q → RelP p q ∧ p.learns = q.learns R.now) → outGo T i L = routGo R i M
  | [], [], _, _, _ => rfl
  | [], _ :: _, _, h, _ => by simp at h
  | _ :: _, [], _, h, _ => by simp at h
  | p :: L, q :: M, i, hl, hk => by
    have hn : T.news = R.news := by
      unfold Part.news RPart.news
      rw [h.rel.chg, h.rel.time]
      congr 1
      · exact decide_eq_decide.2 (by omega)
      · exact decide_eq_decide.2 (by omega)
    obtain ⟨h1, h2⟩ := hk 0 p q rfl rfl
    show (if p.role == 2 then _ else []) ++ outGo T (i + 1) L = (if q.role == 2 then _ else []) ++ routGo R (i + 1) M
    rw [outGo_same h ha L M (i + 1) (by simpa using hl) fun k x y hx hy => hk (k + 1) x y (by simpa using hx) (by simpa using hy), h1.role, h.rel.best, h.rel.br, ha, hn, h2, h1.fwd]
theorem told_same {T : Part} {R : RPart} (h : Full T R) (now : Int) : T.told now = R.told now := by
  unfold Part.told RPart.told
  cases ht : timeR now with
  | false => rfl
  | true =>
    simp only [if_true]
    have hg := h.rel.goes (timeR_pos ht)
    have ha := age_right hg
    have hf := hg.right.1
    have e1 : (now % 2 != 0) = (now % 2 == 1) := by
      have : now % 2 = 0 ∨ now % 2 = 1 := by omega
      rcases this with h | h <;> rw [h] <;> rfl
    unfold Part.outs RPart.outs
    rw [ha, e1]
    split
    · rfl
    · exact outGo_same hf ha _ _ 0 hf.rel.len fun k p q hp hq => ⟨hf.rel.ps k p q hp hq, hf.learns k p q hp hq⟩

end Go.Proofs.Ytdjeifbbbpbhoaa
