/-
  Stations and where they were heard, plainly: what both tables hold, in order. It speaks of no function but by what a station reads as.
-/
import Derived.Test.YtodddahjibccoaaFdK
import Derived.Test.YtodddahjibccoaaManyA
namespace Go.Proofs.Ytodddahjibccoaa
open Go Go.Maps Go.WideMaps
open Go.RowKit
set_option linter.unusedVariables false
set_option linter.unusedSimpArgs false

/-- An entry: VLAN, address, port, time. -/
abbrev E4 := Int × ByteArray × Int × Int
def mF (R : List E4) : List T3 := R.map (fun e => (litE e.1 e.2.1, e.2.2))
def sameE (e : E4) (v : Int) (m : ByteArray) : Bool := decide (e.1 = v ∧ e.2.1 = m)
/-- One station ahead of another. -/
def ltS (v : Int) (m : ByteArray) (v' : Int) (m' : ByteArray) : Bool := decide (v < v') || (decide (v = v') && blt m m')
def WfE (R : List E4) : Prop := ∀ e ∈ R, WfK e.1 e.2.1
def UpF (R : List E4) : Prop := R.Pairwise (fun x y => ltS x.1 x.2.1 y.1 y.2.1 = true)
def hasF (R : List E4) (v : Int) (m : ByteArray) : Bool := R.any (fun e => sameE e v m)
def atF (R : List E4) (v : Int) (m : ByteArray) : Int × Int := ((R.find? (fun e => sameE e v m)).map (·.2.2)).getD (0, 0)
def delF (R : List E4) (v : Int) (m : ByteArray) : List E4 := R.filter (fun e => !sameE e v m)
def putF (R : List E4) (v : Int) (m : ByteArray) (q : Int × Int) : List E4 := delF R v m ++ [(v, m, q)]

theorem ltS_iff (v : Int) (m : ByteArray) (v' : Int) (m' : ByteArray) : ltS v m v' m' = true ↔ v < v' ∨ (v = v' ∧ blt m m' = true) := by
  unfold ltS; simp
theorem ltS_irrefl (v : Int) (m : ByteArray) : ltS v m v m = false := by
  rw [Bool.eq_false_iff, ne_eq, ltS_iff, blt_irrefl]
  simp
theorem ltS_trans {a c e : Int} {b d f : ByteArray} (h : ltS a b c d = true) (k : ltS c d e f = true) : ltS a b e f = true := by
  rw [ltS_iff] at *
  rcases h with h | ⟨h, h'⟩ <;> rcases k with k | ⟨k, k'⟩
  · exact Or.inl (by omega)
  · exact Or.inl (by omega)
  · exact Or.inl (by omega)
  · exact Or.inr ⟨by omega, blt_trans h' k'⟩
theorem ltS_tri {a c : Int} {b d : ByteArray} (h : ltS a b c d = false) (k : ltS c d a b = false) : a = c ∧ b = d := by
  rw [Bool.eq_false_iff, ne_eq, ltS_iff] at *
  have e : a = c := by
    rcases Int.lt_trichotomy a c with e | e | e
    · exact absurd (Or.inl e) h
    · exact e
    · exact absurd (Or.inl e) k
  subst e
  refine ⟨rfl, blt_tri ?_ ?_⟩
  · rw [Bool.eq_false_iff]; exact fun e => h (Or.inr ⟨rfl, e⟩)
  · rw [Bool.eq_false_iff]; exact fun e => k (Or.inr ⟨rfl, e⟩)
theorem ltS_asym {a c : Int} {b d : ByteArray} (h : ltS a b c d = true) : ltS c d a b = false := by
  rcases k : ltS c d a b with _ | _
  · rfl
  · have := ltS_trans h k
    rw [ltS_irrefl] at this
    cases this
theorem ltS_ne {a c : Int} {b d : ByteArray} (h : ltS a b c d = true) : ¬ (a = c ∧ b = d) := by
  rintro ⟨rfl, rfl⟩
  rw [ltS_irrefl] at h
  cases h

theorem len_mF (R : List E4) : (mF R).length = R.length := by unfold mF; rw [List.length_map]
theorem same_lit {v v' : Int} {m m' : ByteArray} (h : WfK v m) (k : WfK v' m') : (litE v m).sameKey (litE v' m') = decide (v = v' ∧ m = m') := by
  by_cases e : v = v' ∧ m = m'
  · obtain ⟨rfl, rfl⟩ := e
    rw [decide_eq_true ⟨rfl, rfl⟩]
    exact WideAt.sameKey_self (law_ST.key (keyE v m h))
  · rw [decide_eq_false e]
    exact Maps.sameKey_ne fun h' => e (litE_inj h k h')
theorem has_F {R : List E4} (hw : WfE R) {v : Int} {m : ByteArray} (h : WfK v m) : hasT (mF R) (litE v m) = hasF R v m := by
  unfold hasT mF hasF
  rw [List.any_map]
  induction R with
  | nil => rfl
  | cons x r ih =>
    rw [List.any_cons, List.any_cons, ih (fun e he => hw e (List.mem_cons_of_mem _ he))]
    congr 1
    exact same_lit (hw x (by simp)) h
theorem at_F {R : List E4} (hw : WfE R) {v : Int} {m : ByteArray} (h : WfK v m) : getT (mF R) (litE v m) = atF R v m := by
  unfold getT mF atF
  induction R with
  | nil => rfl
  | cons x r ih =>
    rw [List.map_cons, List.find?_cons, List.find?_cons]
    have e : (litE x.1 x.2.1).sameKey (litE v m) = sameE x v m := same_lit (hw x (by simp)) h
    simp only [e]
    cases sameE x v m
    · exact ih (fun e he => hw e (List.mem_cons_of_mem _ he))
    · rfl
theorem del_F {R : List E4} (hw : WfE R) {v : Int} {m : ByteArray} (h : WfK v m) : delT (mF R) (litE v m) = mF (delF R v m) := by
  unfold delT mF delF
  rw [List.filter_map]
  congr 1
  refine List.filter_congr fun x hx => ?_
  show (!(litE x.1 x.2.1).sameKey (litE v m)) = _
  rw [same_lit (hw x hx) h]
  rfl
theorem put_F {R : List E4} (hw : WfE R) {v : Int} {m : ByteArray} (h : WfK v m) (q : Int × Int) : putT (mF R) (litE v m) q = mF (putF R v m q) := by
  unfold putT putF
  rw [del_F hw h]
  unfold mF
  rw [List.map_append]
  rfl
theorem WfE.sub {R S : List E4} (h : WfE R) (hs : ∀ e ∈ S, e ∈ R) : WfE S := fun e he => h e (hs e he)
theorem WfE.del {R : List E4} (h : WfE R) (v : Int) (m : ByteArray) : WfE (delF R v m) := h.sub fun e he => (List.mem_filter.1 he).1
theorem WfE.put {R : List E4} (h : WfE R) {v : Int} {m : ByteArray} (k : WfK v m) (q : Int × Int) : WfE (putF R v m q) := by
  intro e he
  rcases List.mem_append.1 he with he | he
  · exact h.del v m e he
  · simp at he; subst he; exact k

/-! ### what the calls answer and leave -/
def timeB (now : Int) : Bool := decide (0 ≤ now) && decide (now ≤ 1099511627776)
def mayL (v : Int) (m : ByteArray) (p : Int) : Bool := decide (m.size = 6) && !mnyB m && decide (1 ≤ v) && decide (v ≤ 4094) && decide (0 ≤ p) && decide (p ≤ 15)
/-- An entry of a table. -/
def okE (e : E4) : Prop := 1 ≤ e.1 ∧ e.1 ≤ 4094 ∧ e.2.1.size = 6 ∧ 0 ≤ e.2.2.1 ∧ e.2.2.1 ≤ 15 ∧ 0 ≤ e.2.2.2 ∧ e.2.2.2 ≤ 1099511627776
structure GoodF (R : List E4) : Prop where
  up : UpF R
  ok : ∀ e ∈ R, okE e
theorem wf_ok {e : E4} (h : okE e) : WfK e.1 e.2.1 := by
  obtain ⟨h1, h2, h3, _⟩ := h
  refine ⟨?_, by rw [h3]; unfold maxLen; omega⟩
  simp [Lit.wf, IntKind.min, IntKind.max, IntKind.bits, IntKind.signed]
  omega
theorem GoodF.wf {R : List E4} (h : GoodF R) : WfE R := fun e he => wf_ok (h.ok e he)
theorem GoodF.sub {R S : List E4} (h : GoodF R) (hs : S.Sublist R) : GoodF S := ⟨h.up.sublist hs, fun e he => h.ok e (hs.subset he)⟩
theorem good_nil : GoodF [] := ⟨List.Pairwise.nil, fun e he => by cases he⟩

def oldB (age now : Int) (q : Int × Int) : Bool := decide (q.2 + age ≤ now)
def lookF (R : List E4) (age : Int) (v : Int) (m : ByteArray) (now : Int) : Int × Bool :=
  if timeB now && hasF R v m && !oldB age now (atF R v m) then ((atF R v m).1, true) else (0, false)
def expF (R : List E4) (age now : Int) : List E4 := if timeB now then R.filter (fun e => !oldB age now e.2.2) else R
def fluF (R : List E4) (p : Int) : List E4 := R.filter (fun e => !decide (e.2.2.1 = p))
/-- The place of the first of the least times. -/
def oldI (R : List E4) : Nat := R.findIdx (fun e => R.all (fun f => decide (e.2.2.2 ≤ f.2.2.2)))
def insF (R : List E4) (v : Int) (m : ByteArray) (q : Int × Int) : List E4 := R.filter (fun e => ltS e.1 e.2.1 v m) ++ (v, m, q) :: R.filter (fun e => !ltS e.1 e.2.1 v m)
def setF (R : List E4) (v : Int) (m : ByteArray) (q : Int × Int) : List E4 := R.map (fun e => if sameE e v m then (v, m, q) else e)
def drvF (room : Int) (R : List E4) : List E4 := if room ≤ (R.length : Int) then R.eraseIdx (oldI R) else R
def lrnF (room : Int) (R : List E4) (v : Int) (m : ByteArray) (p now : Int) : List E4 :=
  if mayL v m p && timeB now then (if hasF R v m then setF R v m (p, now) else insF (drvF room R) v m (p, now)) else R

end Go.Proofs.Ytodddahjibccoaa
