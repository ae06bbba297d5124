/-
  What holds of a part whatever happens, plainly. It speaks of no program.
-/
import Derived.Test.YtdjeifbbbpbhoaaRsJ
namespace Go.Proofs.Ytdjeifbbbpbhoaa
open Go.RowKit
set_option linter.unusedVariables false
set_option linter.unusedSimpArgs false

structure InvS (T : Part) : Prop where
  each : ∀ p ∈ T.ps, (p.fwd = true → p.learns = true ∧ actv p.role = true) ∧ (p.up = false → p.role = 0)
  one : ∀ (j k : Nat) (p q : Prt), T.ps[j]? = some p → T.ps[k]? = some q → p.role = 1 → q.role = 1 → j = k

def Part.ups (T : Part) : List Bool := T.ps.map Prt.up

theorem right_inv (T : Part) : InvS T.right := by
  refine ⟨fun q hq => ?_, fun j k q q' hj hk h1 h2 => ?_⟩
  · obtain ⟨k, hk, e⟩ := List.getElem_of_mem hq
    obtain ⟨p, hp, rfl⟩ := right_at (k := k) (by rw [List.getElem?_eq_getElem hk, e])
    generalize roleH T.br (bestL T.br T.forget.hds) k (p.forget T.time).hd = r
    generalize p.forget T.time = p'
    refine ⟨fun hf => ?_, fun hu => ?_⟩
    · unfold Prt.play at hf ⊢
      simp only [Bool.and_eq_true, decide_eq_true_eq] at hf ⊢
      exact ⟨⟨hf.1, by omega⟩, hf.1⟩
    · unfold Prt.play at hu ⊢
      simp only at hu ⊢
      simp [hu]
  · obtain ⟨p, hp, rfl⟩ := right_at hj
    obtain ⟨p', hp', rfl⟩ := right_at hk
    have h1' : (if (p.forget T.time).up then roleH T.br (bestL T.br T.forget.hds) j (p.forget T.time).hd else 0) = 1 := h1
    have h2' : (if (p'.forget T.time).up then roleH T.br (bestL T.br T.forget.hds) k (p'.forget T.time).hd else 0) = 1 := h2
    split at h1'
    · split at h2'
      · have e1 := role_one h1'
        have e2 := role_one h2'
        omega
      · omega
    · omega
theorem new_inv (b : Int) (cs : List Int) : InvS (newPart b cs) := by
  refine ⟨fun p hp => ?_, fun j k p q hj hk h1 h2 => ?_⟩
  · obtain ⟨c, hc, rfl⟩ := List.mem_map.1 hp
    exact ⟨fun h => (by cases h), fun _ => rfl⟩
  · have hj' : (cs.map newPrt)[j]? = some p := hj
    rw [List.getElem?_map] at hj'
    cases hc : cs[j]? with
    | none => rw [hc] at hj'; cases hj'
    | some c =>
      rw [hc] at hj'
      cases hj'
      cases h1
theorem link_inv {T : Part} (h : InvS T) (n : Int) (up : Bool) (now : Int) : InvS (T.link n up now) := by
  unfold Part.link
  split
  · exact h
  · split
    · exact right_inv _
    · exact h
theorem hear_inv {T : Part} (h : InvS T) (n : Int) (b : Tell) (now : Int) : InvS (T.hear n b now) := by
  unfold Part.hear
  split
  · exact h
  · split
    · simp only
      split
      · exact right_inv _
      · exact right_inv _
    · exact h
theorem tick_inv {T : Part} (h : InvS T) (now : Int) : InvS (T.tick now) := by
  unfold Part.tick
  split
  · exact right_inv _
  · exact h

theorem forget_up (p : Prt) (t : Int) : (p.forget t).up = p.up := by
  unfold Prt.forget
  split
  · rfl
  · split <;> rfl
theorem right_len (T : Part) : T.right.ps.length = T.ps.length := by
  show (List.zipWith _ _ _).length = _
  have hl : (rolesL T.br T.forget.hds).length = T.forget.ps.length := by unfold rolesL Part.hds; rw [rolesGo_len, List.length_map]
  rw [zlen _ hl]
  show (T.ps.map _).length = _
  rw [List.length_map]
theorem right_ups (T : Part) : T.right.ups = T.ups := by
  apply List.ext_getElem?
  intro k
  unfold Part.ups
  rw [List.getElem?_map, List.getElem?_map]
  cases hk : T.right.ps[k]? with
  | none =>
    have : T.ps[k]? = none := by rw [List.getElem?_eq_none_iff, right_len] at hk; rw [List.getElem?_eq_none_iff]; exact hk
    rw [this]
  | some q =>
    obtain ⟨p, hp, rfl⟩ := right_at hk
    rw [hp]
    show some ((p.forget T.time).up) = some p.up
    rw [forget_up]
theorem put_ups (T : Part) (k : Nat) (p : Prt) : (T.put k p).ups = T.ups.set k p.up := by
  unfold Part.ups Part.put
  rw [List.map_set]
theorem set_self {α : Type} {l : List α} {k : Nat} {a : α} (h : l[k]? = some a) : l.set k a = l := by
  obtain ⟨hk, rfl⟩ := List.getElem?_eq_some_iff.1 h
  exact List.set_getElem_self hk
theorem forget_ups (T : Part) : T.forget.ups = T.ups := by
  unfold Part.ups Part.forget
  rw [List.map_map]
  refine List.map_congr_left fun p _ => forget_up p _
theorem link_ups_no {T : Part} {n : Int} (h : T.at? n = none) (up : Bool) (now : Int) : (T.link n up now).ups = T.ups := by unfold Part.link; rw [h]
theorem link_ups {T : Part} {n : Int} {p : Prt} (h : T.at? n = some p) (up : Bool) {now : Int} (ht : timeR now = true) : (T.link n up now).ups = T.ups.set n.toNat up := by
  unfold Part.link
  rw [h]
  simp only [ht, if_true]
  rw [right_ups, put_ups]
  rfl
theorem tick_ups (T : Part) (now : Int) : (T.tick now).ups = T.ups := by
  unfold Part.tick
  split
  · rw [right_ups]; rfl
  · rfl
theorem hear_ups (T : Part) (n : Int) (b : Tell) (now : Int) : (T.hear n b now).ups = T.ups := by
  unfold Part.hear
  cases hat : T.at? n with
  | none => rfl
  | some p =>
    simp only
    split
    · obtain ⟨k, rfl, hk, hp⟩ := at_some hat
      have e0 : ((T.goOn now).forget.put (k : Int).toNat { p.forget (T.goOn now).forget.time with kept := some ⟨b.v, b.age, (T.goOn now).forget.time⟩ }).ups = T.ups := by
        rw [put_ups, forget_ups]
        have e : (T.goOn now).ups = T.ups := rfl
        rw [e, hk]
        refine set_self ?_
        unfold Part.ups
        rw [List.getElem?_map, hp]
        show some p.up = some (p.forget (T.goOn now).forget.time).up
        rw [forget_up]
      split
      · rw [right_ups]
        split
        · exact e0
        · exact e0
      · rw [right_ups, forget_ups]
        rfl
    · rfl

/-- How many are Root. -/
def rootsL (l : List Prt) : Int := (l.countP (fun p => p.role == 1) : Nat)
theorem roots_take {l : List Prt} {k : Nat} {p : Prt} (h : l[k]? = some p) : rootsL (l.take (k + 1)) = rootsL (l.take k) + (if p.role == 1 then 1 else 0) := by
  obtain ⟨hk, rfl⟩ := List.getElem?_eq_some_iff.1 h
  unfold rootsL
  rw [List.take_succ_eq_append_getElem hk, List.countP_append, List.countP_singleton]
  split <;> simp
theorem roots_le (l : List Prt) : 0 ≤ rootsL l ∧ rootsL l ≤ l.length := by
  unfold rootsL
  have := List.countP_le_length (p := fun p : Prt => p.role == 1) (l := l)
  omega
theorem count_one {q : Prt → Bool} : ∀ {l : List Prt}, (∀ (j k : Nat) (a b : Prt), l[j]? = some a → l[k]? = some b → q a = true → q b = true → j = k) → l.countP q ≤ 1
  | [], _ => by simp
  | x :: r, h => by
    rw [List.countP_cons]
    by_cases hx : q x = true
    · have : r.countP q = 0 := by
        rw [List.countP_eq_zero]
        intro a ha hq
        obtain ⟨j, hj, e⟩ := List.getElem_of_mem ha
        have := h 0 (j + 1) x a rfl (by simp [List.getElem?_eq_getElem hj, e]) hx hq
        omega
      rw [this, if_pos hx]
      omega
    · rw [if_neg hx]
      have := count_one (q := q) (l := r) fun j k a b ha hb h1 h2 => by
        have := h (j + 1) (k + 1) a b (by simpa using ha) (by simpa using hb) h1 h2
        omega
      omega
theorem roots_one {T : Part} (h : InvS T) : rootsL T.ps ≤ 1 := by
  unfold rootsL
  have := count_one (q := fun p => p.role == 1) (l := T.ps) fun j k a b ha hb h1 h2 => h.one j k a b ha hb (by simpa using h1) (by simpa using h2)
  omega

def boolRow (l : List Bool) : Array Value := (l.map Value.bool).toArray
theorem boolRow_at {l : List Bool} {k : Nat} {b : Bool} (h : l[k]? = some b) : (boolRow l)[k]? = some (.bool b) := by
  unfold boolRow
  rw [List.getElem?_toArray, List.getElem?_map, h]
  rfl
theorem boolRow_set (l : List Bool) (k : Nat) (b : Bool) : (boolRow l).setIfInBounds k (.bool b) = boolRow (l.set k b) := by
  unfold boolRow
  rw [List.setIfInBounds_toArray, ← List.map_set]
theorem boolRow_made (n : Nat) : madeCells (Value.bool false).cells (n * 1) = boolRow (List.replicate n false) := by
  unfold boolRow
  apply Array.ext
  · simp [madeCells, Value.cells]
  · intro i h1 h2
    simp [madeCells, Value.cells, Nat.mod_one]

end Go.Proofs.Ytdjeifbbbpbhoaa
