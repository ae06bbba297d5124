/-
  Filters: what comes of two lists gone through at once; the laws of sets. It speaks of no function.
-/
import Derived.Test.YthpafojeadbjlaaFlS
namespace Go.Proofs.Ythpafojeadbjlaa
open Go.RowKit
set_option linter.unusedVariables false

theorem hasS_self (x : ByteArray) (l : List ByteArray) : hasS (x :: l) x = true := (hasS_iff _ _).2 (by simp)
theorem hasS_ne {x s : ByteArray} (l : List ByteArray) (h : s ≠ x) : hasS (x :: l) s = hasS l s := hasS_congr (by simp [h])
theorem up_not_mem {x : ByteArray} {l : List ByteArray} (h : Up (x :: l)) : x ∉ l := fun k => by
  have := up_head h x k
  rw [sl_irrefl] at this
  cases this
theorem lt_not_mem {x y : ByteArray} {l : List ByteArray} (h : Up (y :: l)) (k : sl x y = true) : x ∉ y :: l := fun hm => by
  rcases List.mem_cons.1 hm with rfl | hm
  · rw [sl_irrefl] at k; cases k
  · have := sl_asym (sl_trans k (up_head h x hm))
    rw [sl_trans k (up_head h x hm)] at this
    cases this
theorem mem_opt {x s : ByteArray} {b : Bool} {l : List ByteArray} : s ∈ (if b then [x] else []) ++ l ↔ (b = true ∧ s = x) ∨ s ∈ l := by
  cases b <;> simp

theorem mgo_mem (st : Bool → Bool → Bool) : ∀ (a b : List ByteArray), Up a → Up b → ∀ s, s ∈ mgo st a b ↔ (s ∈ a ∨ s ∈ b) ∧ st (hasS a s) (hasS b s) = true
  | [], [], _, _, s => by simp [mgo]
  | x :: a, [], ha, hb, s => by
    rw [mgo, mem_opt, mgo_mem st a [] (up_tail ha) hb s]
    by_cases e : s = x
    · subst e
      have := up_not_mem ha
      rw [hasS_self]
      simp [this, hasS]
    · rw [hasS_ne a e]
      simp [e]
  | [], y :: b, ha, hb, s => by
    rw [mgo, mem_opt, mgo_mem st [] b ha (up_tail hb) s]
    by_cases e : s = y
    · subst e
      have := up_not_mem hb
      rw [hasS_self]
      simp [this, hasS]
    · rw [hasS_ne b e]
      simp [e]
  | x :: a, y :: b, ha, hb, s => by
    rw [mgo]
    split
    · next h1 =>
      rw [mem_opt, mgo_mem st a (y :: b) (up_tail ha) hb s]
      by_cases e : s = x
      · subst e
        have n1 := up_not_mem ha
        have n2 := lt_not_mem hb h1
        rw [hasS_self, hasS_no n2, hasS_no n1]
        simp [n1, n2]
      · rw [hasS_ne a e]
        simp [e]
    · next h1 =>
      split
      · next h2 =>
        rw [mem_opt, mgo_mem st (x :: a) b ha (up_tail hb) s]
        by_cases e : s = y
        · subst e
          have n1 := up_not_mem hb
          have n2 := lt_not_mem ha h2
          rw [hasS_self, hasS_no n2, hasS_no n1]
          simp [n1, n2]
        · rw [hasS_ne b e]
          simp [e]
      · next h2 =>
        obtain rfl := sl_tri (by simpa using h1) (by simpa using h2)
        rw [mem_opt, mgo_mem st a b (up_tail ha) (up_tail hb) s]
        by_cases e : s = x
        · subst e
          have n1 := up_not_mem ha
          have n2 := up_not_mem hb
          rw [hasS_self, hasS_self, hasS_no n2, hasS_no n1]
          simp [n1, n2]
        · rw [hasS_ne a e, hasS_ne b e]
          simp [e]
termination_by a b => a.length + b.length

theorem up_opt {x : ByteArray} {b : Bool} {l : List ByteArray} (h : Up l) (k : ∀ s ∈ l, sl x s = true) : Up ((if b then [x] else []) ++ l) := by
  cases b
  · simpa using h
  · exact List.pairwise_cons.2 ⟨k, h⟩
theorem mgo_up (st : Bool → Bool → Bool) : ∀ (a b : List ByteArray), Up a → Up b → Up (mgo st a b)
  | [], [], _, _ => by rw [mgo]; exact List.Pairwise.nil
  | x :: a, [], ha, hb => by
    rw [mgo]
    refine up_opt (mgo_up st a [] (up_tail ha) hb) fun s hs => ?_
    rcases ((mgo_mem st a [] (up_tail ha) hb s).1 hs).1 with h | h
    · exact up_head ha s h
    · simp at h
  | [], y :: b, ha, hb => by
    rw [mgo]
    refine up_opt (mgo_up st [] b ha (up_tail hb)) fun s hs => ?_
    rcases ((mgo_mem st [] b ha (up_tail hb) s).1 hs).1 with h | h
    · simp at h
    · exact up_head hb s h
  | x :: a, y :: b, ha, hb => by
    rw [mgo]
    split
    · next h1 =>
      refine up_opt (mgo_up st a (y :: b) (up_tail ha) hb) fun s hs => ?_
      rcases ((mgo_mem st a (y :: b) (up_tail ha) hb s).1 hs).1 with h | h
      · exact up_head ha s h
      · rcases List.mem_cons.1 h with rfl | h
        · exact h1
        · exact sl_trans h1 (up_head hb s h)
    · next h1 =>
      split
      · next h2 =>
        refine up_opt (mgo_up st (x :: a) b ha (up_tail hb)) fun s hs => ?_
        rcases ((mgo_mem st (x :: a) b ha (up_tail hb) s).1 hs).1 with h | h
        · rcases List.mem_cons.1 h with rfl | h
          · exact h2
          · exact sl_trans h2 (up_head ha s h)
        · exact up_head hb s h
      · next h2 =>
        obtain rfl := sl_tri (by simpa using h1) (by simpa using h2)
        refine up_opt (mgo_up st a b (up_tail ha) (up_tail hb)) fun s hs => ?_
        rcases ((mgo_mem st a b (up_tail ha) (up_tail hb) s).1 hs).1 with h | h
        · exact up_head ha s h
        · exact up_head hb s h
termination_by a b => a.length + b.length

/-- What join's merge makes. -/
def stJ (h : Bool → Bool → Bool) (fe ge : Bool) (i j : Bool) : Bool := h (i != fe) (j != ge) != h fe ge
theorem mgo_join (h : Bool → Bool → Bool) (f g : Fl) : mgo (stJ h f.ex g.ex) (ris f.src) (ris g.src) = (joinF h f g).src := by
  refine up_unique _ _ (mgo_up _ _ _ (ris_up _) (ris_up _)) (up_join h f g) fun s => ?_
  rw [mgo_mem _ _ _ (ris_up _) (ris_up _)]
  show _ ↔ s ∈ (ris (f.src ++ g.src)).filter fun s => h (admB f s) (admB g s) != h f.ex g.ex
  rw [List.mem_filter, ris_mem, ris_mem, ris_mem, List.mem_append, has_ris, has_ris]
  rfl
def stW (i j : Bool) : Bool := i && !j
theorem mgo_less (a b : List ByteArray) : mgo stW (ris a) (ris b) = lessF a b := by
  refine up_unique _ _ (mgo_up _ _ _ (ris_up _) (ris_up _)) (up_filter (ris_up _) _) fun s => ?_
  rw [mgo_mem _ _ _ (ris_up _) (ris_up _)]
  show _ ↔ s ∈ (ris a).filter fun s => !hasS b s
  rw [List.mem_filter, ris_mem, ris_mem, has_ris, has_ris, ← hasS_iff a s, ← hasS_iff b s]
  unfold stW
  cases hasS a s <;> cases hasS b s <;> simp

end Go.Proofs.Ythpafojeadbjlaa
