/-
  Sets of numbers, plainly: a map's entries made of a list; what is told of them, rising, each once. It speaks of no program.
-/
import Derived.Test.YtpaehbmhdjnofaaRtB
import Derived.Test.YtpaehbmhdjnofaaRtI
import Derived.Test.YtpaehbmhdjnofaaVlS
namespace Go.Proofs.Ytpaehbmhdjnofaa
open Go Go.Maps Go.RowKit
set_option linter.unusedVariables false
set_option linter.unusedSimpArgs false

theorem snoc_ind2 {α : Type} {P : List α → Prop} (h0 : P []) (h1 : ∀ l x, P l → P (l ++ [x])) (l : List α) : P l := by
  have h : ∀ m : List α, P m.reverse := by
    intro m
    induction m with
    | nil => exact h0
    | cons x m ih => rw [List.reverse_cons]; exact h1 _ _ ih
  have := h l.reverse
  rwa [List.reverse_reverse] at this
/-- A number as a key. -/
abbrev ki (x : Int) : Lit := .int .i64 x
theorem ki_same (a b : Int) : (ki a).sameKey (ki b) = decide (a = b) := by simp [ki, Lit.sameKey]
def setL (l : List Int) : List MB.T3 := l.foldl (fun T x => MB.putT T (ki x) true) []
theorem setL_take {l : List Int} {k : Nat} {x : Int} (h : l[k]? = some x) : setL (l.take (k + 1)) = MB.putT (setL (l.take k)) (ki x) true := by
  rw [List.take_succ_eq_append_getElem (List.getElem?_eq_some_iff.1 h).1, (List.getElem?_eq_some_iff.1 h).2]
  simp [setL]
theorem setL_snoc (l : List Int) (x : Int) : setL (l ++ [x]) = MB.putT (setL l) (ki x) true := by simp [setL]
theorem mb_put_len (L : List MB.T3) (k : Lit) (e : Bool) : (MB.putT L k e).length ≤ L.length + 1 := by
  unfold MB.putT MB.delT
  have := List.length_filter_le (fun x : MB.T3 => !x.1.sameKey k) L
  simp
  omega
theorem mb_get_put (L : List MB.T3) (a b : Int) : MB.getT (MB.putT L (ki a) true) (ki b) = (decide (a = b) || MB.getT L (ki b)) := by
  unfold MB.getT MB.putT MB.delT
  rw [List.find?_append]
  by_cases e : a = b
  · subst e
    have : (L.filter fun x => !x.1.sameKey (ki a)).find? (fun x => x.1.sameKey (ki a)) = none := by
      rw [List.find?_eq_none]
      intro x hx
      have := (List.mem_filter.1 hx).2
      simpa using this
    rw [this]
    simp [ki_same]
  · rw [decide_eq_false e]
    have h1 : (L.filter fun x => !x.1.sameKey (ki a)).find? (fun x => x.1.sameKey (ki b)) = L.find? (fun x => x.1.sameKey (ki b)) := by
      rw [List.find?_filter]
      congr 1
      funext x
      rcases h : x.1.sameKey (ki b) with _ | _
      · simp
      · have e1 : x.1 = ki b := WideAt.sameKey_eq h
        rw [e1, ki_same]
        simp [Ne.symm e]
    rw [h1]
    have h2 : List.find? (fun x : MB.T3 => x.1.sameKey (ki b)) [(ki a, true)] = none := by simp [ki_same, e]
    rw [h2]
    simp
theorem setL_len (l : List Int) : (setL l).length ≤ l.length := by
  refine snoc_ind2 (P := fun l => (setL l).length ≤ l.length) (by simp [setL]) (fun l x ih => ?_) l
  rw [setL_snoc, List.length_append]
  have := mb_put_len (setL l) (ki x) true
  simp
  omega
theorem setL_get (l : List Int) (b : Int) : MB.getT (setL l) (ki b) = hasB l b := by
  refine snoc_ind2 (P := fun l => MB.getT (setL l) (ki b) = hasB l b) rfl (fun l x ih => ?_) l
  rw [setL_snoc, mb_get_put, ih, hasB_snoc, Bool.or_comm]
theorem setL_mem (l : List Int) : ∀ y ∈ setL l, ∃ x ∈ l, y = (ki x, true) := by
  refine snoc_ind2 (P := fun l => ∀ y ∈ setL l, ∃ x ∈ l, y = (ki x, true)) (fun y hy => by cases hy) (fun l x ih => ?_) l
  rw [setL_snoc]
  intro y hy
  unfold MB.putT MB.delT at hy
  rcases List.mem_append.1 hy with hy | hy
  · obtain ⟨z, hz, rfl⟩ := ih y (List.mem_filter.1 hy).1
    exact ⟨z, by simp [hz], rfl⟩
  · simp at hy
    exact ⟨x, by simp, hy⟩
theorem setL_has (l : List Int) : ∀ x ∈ l, (ki x, true) ∈ setL l := by
  refine snoc_ind2 (P := fun l => ∀ x ∈ l, (ki x, true) ∈ setL l) (fun y hy => by cases hy) (fun l x ih => ?_) l
  rw [setL_snoc]
  intro y hy
  unfold MB.putT MB.delT
  by_cases e : y = x
  · subst e; simp
  · refine List.mem_append.2 (.inl (List.mem_filter.2 ⟨ih y ?_, by simp [ki_same, e]⟩))
    rcases List.mem_append.1 hy with h | h
    · exact h
    · simp at h; exact absurd h e
/-- Two lists that rise and hold the same are the same. -/
theorem upI_unique : ∀ {l m : List Int}, l.Pairwise (fun a b => a < b) → m.Pairwise (fun a b => a < b) → (∀ x, x ∈ l ↔ x ∈ m) → l = m
  | [], [], _, _, _ => rfl
  | [], y :: m, _, _, h => by have := (h y).2 (by simp); cases this
  | x :: l, [], _, _, h => by have := (h x).1 (by simp); cases this
  | x :: l, y :: m, hl, hm, h => by
    obtain ⟨l1, l2⟩ := List.pairwise_cons.1 hl
    obtain ⟨m1, m2⟩ := List.pairwise_cons.1 hm
    have e : x = y := by
      rcases List.mem_cons.1 ((h x).1 (by simp)) with e | e
      · exact e
      · rcases List.mem_cons.1 ((h y).2 (by simp)) with e' | e'
        · exact e'.symm
        · have := m1 x e; have := l1 y e'; omega
    subst e
    congr 1
    refine upI_unique l2 m2 fun z => ?_
    constructor
    · intro hz
      rcases List.mem_cons.1 ((h z).1 (by simp [hz])) with e | e
      · subst e; have := l1 z hz; omega
      · exact e
    · intro hz
      rcases List.mem_cons.1 ((h z).2 (by simp [hz])) with e | e
      · subst e; have := m1 z hz; omega
      · exact e
/-- What comes out of a set's range, sorted. -/
theorem srt_of {l : List Int} {f : Int → Bool} {D : List MB.T3} {ds : List Int} (hD : D.Perm (setL l)) (ha : (setL l).Pairwise (fun x y => x.1 ≠ y.1)) (he : D = ds.map fun x => (ki x, true)) : srtI (ds.filter f) = risI (l.filter f) := by
  have hnd : ds.Nodup := by
    have h1 : D.Pairwise (fun x y => x.1 ≠ y.1) := (hD.pairwise_iff (fun {_ _} hne => Ne.symm hne)).2 ha
    rw [he, List.pairwise_map] at h1
    exact h1.imp fun h e => h (by rw [e])
  refine upI_unique ?_ (risI_up _) fun x => ?_
  · have hs := srtI_sorted (ds.filter f)
    have hn : (srtI (ds.filter f)).Nodup := (List.mergeSort_perm _ _).nodup_iff.2 (hnd.filter _)
    refine (hs.and hn).imp fun {a b} h => ?_
    have h1 : a ≤ b := h.1
    have h2 : a ≠ b := h.2
    omega
  · rw [srtI_mem, risI_mem, List.mem_filter, List.mem_filter]
    have : x ∈ ds ↔ x ∈ l := by
      constructor
      · intro hx
        obtain ⟨z, hz, e⟩ := setL_mem l _ (hD.mem_iff.1 (by rw [he]; exact List.mem_map.2 ⟨x, hx, rfl⟩))
        simp [ki] at e
        subst e
        exact hz
      · intro hx
        have := hD.mem_iff.2 (setL_has l x hx)
        rw [he] at this
        obtain ⟨z, hz, e⟩ := List.mem_map.1 this
        simp [ki] at e
        subst e
        exact hz
    rw [this]
theorem risI_len (l : List Int) : (risI l).length ≤ l.length := by
  unfold risI
  have := Lib.compact_length_le (srtI l)
  rw [srtI_len] at this
  exact this

/-- What a case says, plainly. -/
structure Cs where
  port : Int
  mem : List Int
  opn : List Int
  rou : List Int
  wan : List Int
  loc : Bool
  ovr : Bool
  rcv : Bool
  knw : Bool
  fld : Bool
def floP (c : Cs) (x : Int) : Bool := hasB c.opn x && decide (x ≠ c.port)
def floL (c : Cs) : List Int := risI (c.mem.filter (floP c))
def allP (c : Cs) : Bool := c.loc || c.ovr || c.rcv || (!c.knw && c.fld)
def decP (c : Cs) (x : Int) : Bool := hasB c.rou x || (c.knw && hasB c.wan x)
def decL (c : Cs) : List Int := if allP c then floL c else risI ((floL c).filter (decP c))

end Go.Proofs.Ytpaehbmhdjnofaa
