/-
  Filters: lists of texts that rise, and what filter's functions answer, on plain data. It speaks of no function.
-/
import Derived.Test.YthpafojeadbjlaaMemL
import Derived.Sort.Walk0
namespace Go.Proofs.Ythpafojeadbjlaa
open Go.RowKit
set_option linter.unusedVariables false

/-- One text ahead of another. -/
def sl (a b : ByteArray) : Bool := Op.bytesLess a.toList b.toList
theorem sl_iff (a b : ByteArray) : sl a b = true ↔ a.data.toList < b.data.toList := by
  unfold sl
  rw [bytesLess_eq, Lib.toList_data, Lib.toList_data, decide_eq_true_iff]
theorem sl_irrefl (a : ByteArray) : sl a a = false := by
  rw [Bool.eq_false_iff, ne_eq, sl_iff]
  exact List.lt_irrefl _
theorem sl_trans {a b c : ByteArray} (h : sl a b = true) (k : sl b c = true) : sl a c = true := by
  rw [sl_iff] at *
  exact List.lt_trans h k
theorem ba_ext {a b : ByteArray} (h : a.data.toList = b.data.toList) : a = b := ByteArray.ext (Array.toList_inj.1 h)
theorem sl_tri {a b : ByteArray} (h : sl a b = false) (k : sl b a = false) : a = b := by
  rw [Bool.eq_false_iff, ne_eq, sl_iff] at *
  exact ba_ext (List.le_antisymm (List.not_lt.1 k) (List.not_lt.1 h))
theorem sl_asym {a b : ByteArray} (h : sl a b = true) : sl b a = false := by
  rcases k : sl b a with _ | _
  · rfl
  · have := sl_trans h k
    rw [sl_irrefl] at this
    cases this
theorem sl_ne {a b : ByteArray} (h : sl a b = true) : a ≠ b := by
  rintro rfl
  rw [sl_irrefl] at h
  cases h

def Up (l : List ByteArray) : Prop := l.Pairwise (fun a b => sl a b = true)
theorem up_head {x : ByteArray} {t : List ByteArray} (h : Up (x :: t)) : ∀ y ∈ t, sl x y = true := (List.pairwise_cons.1 h).1
theorem up_tail {x : ByteArray} {t : List ByteArray} (h : Up (x :: t)) : Up t := (List.pairwise_cons.1 h).2
theorem up_unique : ∀ (l m : List ByteArray), Up l → Up m → (∀ x, x ∈ l ↔ x ∈ m) → l = m
  | [], [], _, _, _ => rfl
  | [], y :: m, _, _, h => absurd ((h y).2 (by simp)) (by simp)
  | x :: l, [], _, _, h => absurd ((h x).1 (by simp)) (by simp)
  | x :: l, y :: m, hl, hm, h => by
    have e : x = y := by
      have hx := (h x).1 (by simp)
      have hy := (h y).2 (by simp)
      rcases List.mem_cons.1 hx with e | hx
      · exact e
      · rcases List.mem_cons.1 hy with e | hy
        · exact e.symm
        · have h1 := up_head hm x hx
          have h2 := up_head hl y hy
          have := sl_asym h1
          rw [h2] at this
          cases this
    subst e
    have hn : ∀ t : List ByteArray, Up (x :: t) → x ∉ t := fun t ht hxt => by
      have := up_head ht x hxt
      rw [sl_irrefl] at this
      cases this
    rw [up_unique l m (up_tail hl) (up_tail hm) fun z => ?_]
    constructor
    · intro hz
      rcases List.mem_cons.1 ((h z).1 (List.mem_cons_of_mem _ hz)) with rfl | h2
      · exact absurd hz (hn l hl)
      · exact h2
    · intro hz
      rcases List.mem_cons.1 ((h z).2 (List.mem_cons_of_mem _ hz)) with rfl | h2
      · exact absurd hz (hn m hm)
      · exact h2

def ins (x : ByteArray) : List ByteArray → List ByteArray
  | [] => [x]
  | y :: t => if sl x y then x :: y :: t else if sl y x then y :: ins x t else y :: t
theorem ins_mem (x : ByteArray) : ∀ (l : List ByteArray) (z : ByteArray), z ∈ ins x l ↔ z = x ∨ z ∈ l
  | [], z => by simp [ins]
  | y :: t, z => by
    unfold ins
    split
    · simp
    · next h1 =>
      split
      · simp only [List.mem_cons, ins_mem x t z]
        constructor
        · rintro (h | h | h)
          · exact .inr (.inl h)
          · exact .inl h
          · exact .inr (.inr h)
        · rintro (h | h | h)
          · exact .inr (.inl h)
          · exact .inl h
          · exact .inr (.inr h)
      · next h2 =>
        obtain rfl := sl_tri (by simpa using h1) (by simpa using h2)
        simp
theorem ins_up (x : ByteArray) : ∀ (l : List ByteArray), Up l → Up (ins x l)
  | [], _ => by simp [ins, Up]
  | y :: t, h => by
    unfold ins
    split
    · next h1 =>
      refine List.pairwise_cons.2 ⟨fun z hz => ?_, h⟩
      rcases List.mem_cons.1 hz with rfl | hz
      · exact h1
      · exact sl_trans h1 (up_head h z hz)
    · next h1 =>
      split
      · next h2 =>
        refine List.pairwise_cons.2 ⟨fun z hz => ?_, ins_up x t (up_tail h)⟩
        rcases (ins_mem x t z).1 hz with rfl | hz
        · exact h2
        · exact up_head h z hz
      · exact h
def ris : List ByteArray → List ByteArray
  | [] => []
  | x :: t => ins x (ris t)
theorem ris_mem : ∀ (l : List ByteArray) (z : ByteArray), z ∈ ris l ↔ z ∈ l
  | [], z => by simp [ris]
  | x :: t, z => by simp only [ris, ins_mem, ris_mem t z, List.mem_cons]
theorem ris_up : ∀ (l : List ByteArray), Up (ris l)
  | [] => List.Pairwise.nil
  | x :: t => ins_up x _ (ris_up t)
theorem ins_len (x : ByteArray) : ∀ l : List ByteArray, (ins x l).length ≤ l.length + 1
  | [] => Nat.le_refl _
  | y :: t => by
    unfold ins
    split
    · simp
    · split
      · have := ins_len x t
        simp only [List.length_cons]
        omega
      · simp
theorem ris_len : ∀ l : List ByteArray, (ris l).length ≤ l.length
  | [] => Nat.le_refl _
  | x :: t => by
    have h1 := ins_len x (ris t)
    have h2 := ris_len t
    simp only [ris, List.length_cons]
    omega
theorem ris_of_up {l : List ByteArray} (h : Up l) : ris l = l := up_unique _ _ (ris_up l) h (ris_mem l)
theorem up_filter {l : List ByteArray} (h : Up l) (p : ByteArray → Bool) : Up (l.filter p) := h.sublist List.filter_sublist

/-- Is a text one of a list? -/
def hasS : List ByteArray → ByteArray → Bool
  | [], _ => false
  | x :: t, s => decide (x.data.toList = s.data.toList) || hasS t s
theorem hasS_iff (l : List ByteArray) (s : ByteArray) : hasS l s = true ↔ s ∈ l := by
  induction l with
  | nil => simp [hasS]
  | cons x t ih =>
    simp only [hasS, Bool.or_eq_true, decide_eq_true_iff, ih, List.mem_cons]
    constructor
    · rintro (h | h)
      · exact .inl (ba_ext h.symm)
      · exact .inr h
    · rintro (h | h)
      · exact .inl (by rw [h])
      · exact .inr h
theorem hasS_congr {l m : List ByteArray} {s : ByteArray} (h : s ∈ l ↔ s ∈ m) : hasS l s = hasS m s := by
  rw [Bool.eq_iff_iff, hasS_iff, hasS_iff]; exact h
theorem hasS_no {l : List ByteArray} {s : ByteArray} (h : s ∉ l) : hasS l s = false := by
  rw [Bool.eq_false_iff, ne_eq, hasS_iff]; exact h

/-- A filter. -/
structure Fl where
  ex : Bool
  src : List ByteArray
def admB (f : Fl) (s : ByteArray) : Bool := hasS f.src s != f.ex
def normF (f : Fl) : Fl := ⟨f.ex, ris f.src⟩
def notF (f : Fl) : Fl := ⟨!f.ex, ris f.src⟩
def joinF (h : Bool → Bool → Bool) (f g : Fl) : Fl := ⟨h f.ex g.ex, (ris (f.src ++ g.src)).filter fun s => h (admB f s) (admB g s) != h f.ex g.ex⟩
def orF : Fl → Fl → Fl := joinF (· || ·)
def andF : Fl → Fl → Fl := joinF (· && ·)
def lessF (a b : List ByteArray) : List ByteArray := (ris a).filter fun s => !hasS b s
def changeF (g : ByteArray) (more less : List ByteArray) : List Rec :=
  (if more = [] then [] else [⟨5, g, more⟩]) ++ (if less = [] then [] else [⟨6, g, less⟩])
def diffF (gr : ByteArray) (f g : Fl) : List Rec :=
  if f.ex ≠ g.ex then [⟨if g.ex then 4 else 3, gr, ris g.src⟩]
  else if g.ex then changeF gr (lessF f.src g.src) (lessF g.src f.src) else changeF gr (lessF g.src f.src) (lessF f.src g.src)
/-- Whether a list rises: 0, or 3. -/
def upB : List ByteArray → Bool
  | [] => true
  | [_] => true
  | a :: b :: t => sl a b && upB (b :: t)
def chkF (f : Fl) : Int := if upB f.src then 0 else 3

theorem upB_iff : ∀ l : List ByteArray, upB l = true ↔ Up l
  | [] => by simp [upB, Up]
  | [a] => by simp [upB, Up]
  | a :: b :: t => by
    simp only [upB, Bool.and_eq_true, upB_iff (b :: t)]
    constructor
    · rintro ⟨h1, h2⟩
      refine List.pairwise_cons.2 ⟨fun z hz => ?_, h2⟩
      rcases List.mem_cons.1 hz with rfl | hz
      · exact h1
      · exact sl_trans h1 (up_head h2 z hz)
    · intro h
      exact ⟨up_head h b (by simp), up_tail h⟩
theorem chk_norm (f : Fl) : chkF (normF f) = 0 := by
  unfold chkF normF
  rw [(upB_iff _).2 (ris_up f.src)]
  rfl

/-- What two filters admit tells them, where both rise. -/
theorem fl_ext (f g : Fl) (hf : Up f.src) (hg : Up g.src) (he : f.ex = g.ex) (h : ∀ s, admB f s = admB g s) : f = g := by
  obtain ⟨e, l⟩ := f
  obtain ⟨e', m⟩ := g
  simp only at he hf hg
  subst he
  have : l = m := up_unique l m hf hg fun s => by
    have h2 := h s
    unfold admB at h2
    simp only at h2
    have h3 : hasS l s = hasS m s := by
      revert h2
      cases hasS l s <;> cases hasS m s <;> cases e <;> simp
    rw [← hasS_iff, ← hasS_iff, h3]
  rw [this]
theorem has_ris (l : List ByteArray) (s : ByteArray) : hasS (ris l) s = hasS l s := hasS_congr (ris_mem l s)
theorem adm_norm (f : Fl) (s : ByteArray) : admB (normF f) s = admB f s := by
  unfold admB normF
  rw [has_ris]
theorem adm_not (f : Fl) (s : ByteArray) : admB (notF f) s = !admB f s := by
  unfold admB notF
  rw [has_ris]
  cases hasS f.src s <;> cases f.ex <;> rfl
theorem has_filter (l : List ByteArray) (p : ByteArray → Bool) (s : ByteArray) : hasS (l.filter p) s = (hasS l s && p s) := by
  rw [Bool.eq_iff_iff, hasS_iff, List.mem_filter, Bool.and_eq_true, hasS_iff]
theorem has_append (l m : List ByteArray) (s : ByteArray) : hasS (l ++ m) s = (hasS l s || hasS m s) := by
  rw [Bool.eq_iff_iff, hasS_iff, List.mem_append, Bool.or_eq_true, hasS_iff, hasS_iff]
theorem adm_join (h : Bool → Bool → Bool) (f g : Fl) (s : ByteArray) : admB (joinF h f g) s = h (admB f s) (admB g s) := by
  have e : admB (joinF h f g) s = ((hasS (ris (f.src ++ g.src)) s && (h (admB f s) (admB g s) != h f.ex g.ex)) != h f.ex g.ex) := by
    show (hasS ((ris (f.src ++ g.src)).filter fun s => h (admB f s) (admB g s) != h f.ex g.ex) s != h f.ex g.ex) = _
    rw [has_filter]
  rw [e, has_ris, has_append]
  unfold admB
  have k1 : ∀ p r : Bool, ((true && (p != r)) != r) = p := by decide
  rcases hf : hasS f.src s with _ | _
  · rcases hg : hasS g.src s with _ | _
    · simp
    · rw [Bool.false_or, k1]
  · rw [Bool.true_or, k1]
theorem up_join (h : Bool → Bool → Bool) (f g : Fl) : Up (joinF h f g).src := up_filter (ris_up _) _
theorem up_not (f : Fl) : Up (notF f).src := ris_up _
theorem up_norm (f : Fl) : Up (normF f).src := ris_up _

/-- Two lists gone through at once. -/
def mgo (st : Bool → Bool → Bool) : List ByteArray → List ByteArray → List ByteArray
  | [], [] => []
  | x :: a, [] => (if st true false then [x] else []) ++ mgo st a []
  | [], y :: b => (if st false true then [y] else []) ++ mgo st [] b
  | x :: a, y :: b => if sl x y then (if st true false then [x] else []) ++ mgo st a (y :: b) else if sl y x then (if st false true then [y] else []) ++ mgo st (x :: a) b else (if st true true then [x] else []) ++ mgo st a b
termination_by a b => a.length + b.length

end Go.Proofs.Ythpafojeadbjlaa
