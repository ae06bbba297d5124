/-
  The document's states, plainly: a source put in its place, in a list that rises. It speaks of no program.
  The document's Rising, Both, Less. Contracts over the translated program.
  The document's at, put, all, kept, join. Contracts over the translated program.
  The document's all, kept, join. Contracts over the translated program.
  What the document makes of a state, plainly; facts on states and asks in memory.
  The document's asked: what comes of what is asked. Contract over the translated program.
-/
import Derived.Test.YtceilgeefegbmaaGrW
import Derived.Test.YtceilgeefegbmaaFlP
import Derived.Test.YtceilgeefegbmaaGrV
import Derived.Test.YtceilgeefegbmaaGrU
import Derived.Test.YtceilgeefegbmaaAppA
import Derived.IntWalk
import Derived.Deep.QuietTactic
import Derived.BigQuiet
import Derived.Test.YtceilgeefegbmaaRowO
import Derived.Deep.RegionHeld3
import Derived.Test.YtceilgeefegbmaaGrX
namespace Go.Proofs.Ytceilgeefegbmaa
open Go Go.Maps Go.WideMaps
open Go.RowKit
set_option linter.unusedSimpArgs false
set_option linter.unusedVariables false


theorem snocRec {α : Type} {P : List α → Prop} (h0 : P []) (h1 : ∀ l x, P l → P (l ++ [x])) (l : List α) : P l := by
  have h : ∀ m : List α, P m.reverse := by
    intro m
    induction m with
    | nil => exact h0
    | cons x m ih => rw [List.reverse_cons]; exact h1 _ _ ih
  have := h l.reverse
  rwa [List.reverse_reverse] at this
theorem sl_self (a : ByteArray) : sl a a = false := by
  rcases h : sl a a with _ | _
  · rfl
  · exact absurd rfl (sl_ne h)
/-- A list whose names rise. -/
def UpT (l : List Tm) : Prop := Up (nmS l)
def stepG (a : ByteArray) (t : Int) (o : List Tm × Bool) (x : Tm) : List Tm × Bool :=
  ((o.1 ++ if !o.2 && !sl x.1 a then [(a, t)] else []) ++ (if x.1 = a then [] else [x]), o.2 || !sl x.1 a)
def insG (a : ByteArray) (t : Int) (l : List Tm) : List Tm × Bool := l.foldl (stepG a t) ([], false)
/-- A source with its time, in its place. -/
def putS (l : List Tm) (a : ByteArray) (t : Int) : List Tm := (insG a t l).1 ++ if (insG a t l).2 then [] else [(a, t)]
theorem insG_take {a : ByteArray} {t : Int} {l : List Tm} {k : Nat} {x : Tm} (h : l[k]? = some x) : insG a t (l.take (k + 1)) = stepG a t (insG a t (l.take k)) x := by
  rw [List.take_succ_eq_append_getElem (List.getElem?_eq_some_iff.1 h).1, (List.getElem?_eq_some_iff.1 h).2]
  simp [insG]
theorem insG_len (a : ByteArray) (t : Int) (l : List Tm) : (insG a t l).1.length ≤ l.length + 1 ∧ ((insG a t l).2 = false → (insG a t l).1.length ≤ l.length) := by
  have gen : ∀ (l : List Tm) (o : List Tm × Bool) (n : Nat), (o.1.length ≤ n + 1 ∧ (o.2 = false → o.1.length ≤ n)) → ((l.foldl (stepG a t) o).1.length ≤ n + l.length + 1 ∧ ((l.foldl (stepG a t) o).2 = false → (l.foldl (stepG a t) o).1.length ≤ n + l.length)) := by
    intro l
    induction l with
    | nil => intro o n h; simpa using h
    | cons x r ih =>
      intro o n h
      have := ih (stepG a t o x) (n + 1) (by
        obtain ⟨o1, o2⟩ := o
        unfold stepG
        obtain ⟨h1, h2⟩ := h
        simp only at h1 h2
        rcases o2 with _ | _
        · have := h2 rfl
          rcases sl x.1 a with _ | _ <;> by_cases e : x.1 = a <;> simp [e] <;> omega
        · by_cases e : x.1 = a <;> simp [e] <;> omega)
      rw [List.foldl_cons, List.length_cons]
      constructor
      · have := this.1; omega
      · intro h9; have := this.2 h9; omega
  have := gen l ([], false) 0 (by simp)
  simpa [insG] using this
theorem putS_len (l : List Tm) (a : ByteArray) (t : Int) : (putS l a t).length ≤ l.length + 1 := by
  obtain ⟨h1, h2⟩ := insG_len a t l
  unfold putS
  rcases h : (insG a t l).2 with _ | _
  · have := h2 h; simp; omega
  · simp; omega
/-- Where the names rise: all that is less, the new one, all that is greater. -/
theorem insG_form (a : ByteArray) (t : Int) (l : List Tm) (h : UpT l) : insG a t l = ((l.filter fun x => sl x.1 a) ++ (if l.any (fun x => !sl x.1 a) then [(a, t)] else []) ++ (l.filter fun x => sl a x.1), l.any (fun x => !sl x.1 a)) := by
  have gen : ∀ r : List Tm, UpT r → insG a t r = ((r.filter fun x => sl x.1 a) ++ (if r.any (fun x => !sl x.1 a) then [(a, t)] else []) ++ (r.filter fun x => sl a x.1), r.any (fun x => !sl x.1 a)) := by
    intro r
    refine snocRec (P := fun r => UpT r → insG a t r = ((r.filter fun x => sl x.1 a) ++ (if r.any (fun x => !sl x.1 a) then [(a, t)] else []) ++ (r.filter fun x => sl a x.1), r.any (fun x => !sl x.1 a))) (fun _ => rfl) (fun r x ih hu => ?_) r
    unfold UpT nmS at hu
    rw [List.map_append] at hu
    obtain ⟨u1, -, u3⟩ := List.pairwise_append.1 hu
    have e : insG a t (r ++ [x]) = stepG a t (insG a t r) x := by simp [insG]
    rw [e, ih u1]
    unfold stepG
    simp only [List.filter_append, List.any_append, List.filter_cons, List.filter_nil, List.any_cons, List.any_nil, Bool.or_false]
    have big : r.any (fun y => !sl y.1 a) = true → sl a x.1 = true := by
      intro hb
      obtain ⟨y, hy, hn⟩ := List.any_eq_true.1 hb
      have h1 := u3 y.1 (List.mem_map.2 ⟨y, hy, rfl⟩) x.1 (by simp)
      have hn : sl y.1 a = false := by simpa using hn
      rcases h2 : sl a y.1 with _ | _
      · rw [← sl_tri hn h2]; exact h1
      · exact sl_trans h2 h1
    have none : sl x.1 a = true → ∀ y ∈ r, sl a y.1 = false := by
      intro hx y hy
      have h1 := u3 y.1 (List.mem_map.2 ⟨y, hy, rfl⟩) x.1 (by simp)
      exact sl_asym (sl_trans h1 hx)
    rcases hx : sl x.1 a with _ | _
    · rcases hb : r.any (fun y => !sl y.1 a) with _ | _
      · have hno : r.filter (fun y => sl a y.1) = [] := by
          rw [List.filter_eq_nil_iff]
          intro y hy
          have := (List.any_eq_false.1 hb) y hy
          simp at this
          rw [sl_asym this]; simp
        rw [hno]
        by_cases ea : x.1 = a
        · have : sl a x.1 = false := by rw [ea]; exact sl_self a
          simp [ea, this, sl_self]
        · have : sl a x.1 = true := by
            rcases h2 : sl a x.1 with _ | _
            · exact absurd (sl_tri hx h2) ea
            · rfl
          simp [ea, this]
      · have h2 := big hb
        have ea : ¬ x.1 = a := fun e => by rw [e, sl_self] at h2; cases h2
        simp [ea, h2]
    · have hb : r.any (fun y => !sl y.1 a) = false := by
        rcases hb : r.any (fun y => !sl y.1 a) with _ | _
        · rfl
        · have := sl_asym (big hb); rw [hx] at this; cases this
      have hno : r.filter (fun y => sl a y.1) = [] := by
        rw [List.filter_eq_nil_iff]
        intro y hy
        rw [none hx y hy]; simp
      have ea : ¬ x.1 = a := fun e => by rw [e, sl_self] at hx; cases hx
      rw [hb, hno, sl_asym hx]
      simp [ea]
  exact gen l h
theorem putS_form (l : List Tm) (a : ByteArray) (t : Int) (h : UpT l) : putS l a t = (l.filter fun x => sl x.1 a) ++ [(a, t)] ++ (l.filter fun x => sl a x.1) := by
  unfold putS
  rw [insG_form a t l h]
  rcases hb : l.any (fun y => !sl y.1 a) with _ | _
  · have hno : l.filter (fun y => sl a y.1) = [] := by
      rw [List.filter_eq_nil_iff]
      intro y hy
      have := (List.any_eq_false.1 hb) y hy
      simp at this
      rw [sl_asym this]; simp
    rw [hno]
    simp
  · simp
theorem putS_up (l : List Tm) (a : ByteArray) (t : Int) (h : UpT l) : UpT (putS l a t) := by
  rw [putS_form l a t h]
  unfold UpT nmS
  rw [List.map_append, List.map_append]
  have hs : ∀ q : Tm → Bool, Up ((l.filter q).map fun x => x.1) := fun q => by
    unfold UpT nmS at h
    exact h.sublist (List.filter_sublist.map _)
  refine List.pairwise_append.2 ⟨List.pairwise_append.2 ⟨hs _, by simp, ?_⟩, hs _, ?_⟩
  · intro x hx y hy
    obtain ⟨z, hz, rfl⟩ := List.mem_map.1 hx
    simp at hy
    subst hy
    simpa using (List.mem_filter.1 hz).2
  · intro x hx y hy
    obtain ⟨z, hz, rfl⟩ := List.mem_map.1 hy
    have h2 : sl a z.1 = true := by simpa using (List.mem_filter.1 hz).2
    rcases List.mem_append.1 hx with hx | hx
    · obtain ⟨u, hu, rfl⟩ := List.mem_map.1 hx
      have h1 : sl u.1 a = true := by simpa using (List.mem_filter.1 hu).2
      exact sl_trans h1 h2
    · simp at hx
      subst hx
      exact h2
theorem look_app2 (A B : List Tm) (s : ByteArray) : look (A ++ B) s = (look A s).or (look B s) := look_app A B s
theorem look_filter_not {l : List Tm} {q : Tm → Bool} {s : ByteArray} (h : ∀ x ∈ l, x.1 = s → q x = true) : look (l.filter q) s = look l s := by
  induction l with
  | nil => rfl
  | cons x r ih =>
    have ih := ih fun y hy => h y (List.mem_cons_of_mem _ hy)
    rw [List.filter_cons]
    by_cases e : x.1 = s
    · rw [if_pos (h x (List.mem_cons_self ..) e), look, look, if_pos e, if_pos e]
    · split
      · rw [look, look, if_neg e, if_neg e, ih]
      · rw [ih, look, if_neg e]
theorem look_filter_no {l : List Tm} {q : Tm → Bool} {s : ByteArray} (h : ∀ x ∈ l, x.1 = s → q x = false) : look (l.filter q) s = none := by
  induction l with
  | nil => rfl
  | cons x r ih =>
    have ih := ih fun y hy => h y (List.mem_cons_of_mem _ hy)
    rw [List.filter_cons]
    split
    · next hq =>
      have hne : ¬ x.1 = s := fun e => by rw [h x (List.mem_cons_self ..) e] at hq; cases hq
      rw [look, if_neg hne, ih]
    · exact ih
theorem look_putS (l : List Tm) (a b : ByteArray) (t : Int) (h : UpT l) : look (putS l a t) b = if b = a then some t else look l b := by
  rw [putS_form l a t h, look_app, look_app]
  by_cases e : b = a
  · subst e
    rw [if_pos rfl, look_filter_no (fun x _ hx => by rw [hx]; exact sl_self b)]
    simp [look]
  · rw [if_neg e]
    have h1 : look [(a, t)] b = none := by simp [look, Ne.symm e]
    rw [h1]
    rcases h2 : sl b a with _ | _
    · have h3 : sl a b = true := by
        rcases h3 : sl a b with _ | _
        · exact absurd (sl_tri h2 h3) e
        · rfl
      rw [look_filter_no (fun x _ hx => by rw [hx]; exact h2), look_filter_not (q := fun x => sl a x.1) (fun x _ hx => by rw [hx]; exact h3)]
      simp
    · rw [look_filter_not (q := fun x => sl x.1 a) (fun x _ hx => by rw [hx]; exact h2), look_filter_no (q := fun x => sl a x.1) (fun x _ hx => by rw [hx]; exact sl_asym h2)]
      simp
/-- All of a list with a time; all as they are in another list. -/
def allS (l : List Tm) (r : List ByteArray) (t : Int) : List Tm := r.foldl (fun l a => putS l a t) l
def keptS (l : List Tm) (r : List ByteArray) (o : List Tm) : List Tm := r.foldl (fun l a => putS l a (getR o a)) l
theorem allS_take {r : List ByteArray} {k : Nat} {a : ByteArray} (l : List Tm) (t : Int) (h : r[k]? = some a) : allS l (r.take (k + 1)) t = putS (allS l (r.take k) t) a t := by
  rw [List.take_succ_eq_append_getElem (List.getElem?_eq_some_iff.1 h).1, (List.getElem?_eq_some_iff.1 h).2]
  simp [allS]
theorem keptS_take {r : List ByteArray} {k : Nat} {a : ByteArray} (l o : List Tm) (h : r[k]? = some a) : keptS l (r.take (k + 1)) o = putS (keptS l (r.take k) o) a (getR o a) := by
  rw [List.take_succ_eq_append_getElem (List.getElem?_eq_some_iff.1 h).1, (List.getElem?_eq_some_iff.1 h).2]
  simp [keptS]
theorem allS_len (t : Int) : ∀ (r : List ByteArray) (l : List Tm), (allS l r t).length ≤ l.length + r.length
  | [], l => by simp [allS]
  | a :: r, l => by
    have h1 := allS_len t r (putS l a t)
    have h2 := putS_len l a t
    have h3 : allS l (a :: r) t = allS (putS l a t) r t := rfl
    rw [h3, List.length_cons]; omega
theorem keptS_len (o : List Tm) : ∀ (r : List ByteArray) (l : List Tm), (keptS l r o).length ≤ l.length + r.length
  | [], l => by simp [keptS]
  | a :: r, l => by
    have h1 := keptS_len o r (putS l a (getR o a))
    have h2 := putS_len l a (getR o a)
    have h3 : keptS l (a :: r) o = keptS (putS l a (getR o a)) r o := rfl
    rw [h3, List.length_cons]; omega
theorem allS_up (t : Int) : ∀ (r : List ByteArray) (l : List Tm), UpT l → UpT (allS l r t)
  | [], l, h => h
  | a :: r, l, h => allS_up t r _ (putS_up l a t h)
theorem keptS_up (o : List Tm) : ∀ (r : List ByteArray) (l : List Tm), UpT l → UpT (keptS l r o)
  | [], l, h => h
  | a :: r, l, h => keptS_up o r _ (putS_up l a _ h)
theorem look_allS (t : Int) (b : ByteArray) : ∀ (r : List ByteArray) (l : List Tm), UpT l → look (allS l r t) b = if hasS r b = true then some t else look l b
  | [], l, h => by simp [allS, hasS]
  | a :: r, l, h => by
    have e : allS l (a :: r) t = allS (putS l a t) r t := rfl
    rw [e, look_allS t b r _ (putS_up l a t h), look_putS l a b t h]
    by_cases h1 : hasS r b = true
    · rw [if_pos h1, if_pos (has_tail h1)]
    · by_cases h2 : b = a
      · rw [if_neg h1, if_pos h2, if_pos (by rw [h2]; exact has_head a r)]
      · rw [if_neg h1, if_neg h2, if_neg (has_not h2 h1)]
theorem look_keptS (o : List Tm) (b : ByteArray) : ∀ (r : List ByteArray) (l : List Tm), UpT l → look (keptS l r o) b = if hasS r b = true then some (getR o b) else look l b
  | [], l, h => by simp [keptS, hasS]
  | a :: r, l, h => by
    have e : keptS l (a :: r) o = keptS (putS l a (getR o a)) r o := rfl
    rw [e, look_keptS o b r _ (putS_up l a _ h), look_putS l a b _ h]
    by_cases h1 : hasS r b = true
    · rw [if_pos h1, if_pos (has_tail h1)]
    · by_cases h2 : b = a
      · rw [if_neg h1, if_pos h2, if_pos (by rw [h2]; exact has_head a r), h2]
      · rw [if_neg h1, if_neg h2, if_neg (has_not h2 h1)]
/-- Two rising lists that say the same are the same. -/
theorem up_look_eq {l m : List Tm} (hl : UpT l) (hm : UpT m) (h : ∀ a, look l a = look m a) : l = m := by
  have hn : nmS l = nmS m := up_unique _ _ hl hm fun x => by rw [look_mem, look_mem, h]
  refine List.ext_getElem? fun i => ?_
  have hlen : l.length = m.length := by rw [← nm_len l, ← nm_len m, hn]
  by_cases hi : i < l.length
  · have hi2 : i < m.length := by omega
    rw [List.getElem?_eq_getElem hi, List.getElem?_eq_getElem hi2]
    congr 1
    have e1 : (l[i]).1 = (m[i]).1 := by
      have h1 : (nmS l)[i]? = some (l[i]).1 := by simp [nmS, hi]
      have h2 : (nmS m)[i]? = some (m[i]).1 := by simp [nmS, hi2]
      rw [hn, h2] at h1
      exact (Option.some.inj h1).symm
    have e2 : look l (l[i]).1 = some (l[i]).2 := look_in (up_nodup hl) (List.getElem_mem hi)
    have e3 : look m (m[i]).1 = some (m[i]).2 := look_in (up_nodup hm) (List.getElem_mem hi2)
    rw [h, e1, e3] at e2
    exact Prod.ext e1 (Option.some.inj e2).symm
  · rw [List.getElem?_eq_none (by omega), List.getElem?_eq_none (by omega)]
theorem getR_no : ∀ {l : List Tm} {a : ByteArray}, (∀ x ∈ l, x.1 ≠ a) → getR l a = 0
  | [], a, h => rfl
  | x :: r, a, h => by
    unfold getR
    rw [look, if_neg (h x (List.mem_cons_self ..))]
    exact getR_no fun y hy => h y (List.mem_cons_of_mem _ hy)
theorem look_no : ∀ {l : List Tm} {a : ByteArray}, (∀ x ∈ l, x.1 ≠ a) → look l a = none
  | [], a, h => rfl
  | x :: r, a, h => by
    rw [look, if_neg (h x (List.mem_cons_self ..))]
    exact look_no fun y hy => h y (List.mem_cons_of_mem _ hy)
theorem getR_at {l : List Tm} {k : Nat} {x : Tm} {a : ByteArray} (h : l[k]? = some x) (hn : ∀ y ∈ l.take k, y.1 ≠ a) (e : x.1 = a) : getR l a = x.2 := by
  obtain ⟨hk, hx⟩ := List.getElem?_eq_some_iff.1 h
  unfold getR
  have : look l a = look (l.take k ++ l.drop k) a := by rw [List.take_append_drop]
  rw [this, look_app, look_no hn, List.drop_eq_getElem_cons hk, hx, look, if_pos e]
  rfl
theorem take_no17 {l : List Tm} {k : Nat} {x : Tm} {a : ByteArray} (h : l[k]? = some x) (hn : ∀ y ∈ l.take k, y.1 ≠ a) (e : x.1 ≠ a) : ∀ y ∈ l.take (k + 1), y.1 ≠ a := by
  intro y hy
  rw [List.take_succ_eq_append_getElem (List.getElem?_eq_some_iff.1 h).1, (List.getElem?_eq_some_iff.1 h).2] at hy
  rcases List.mem_append.1 hy with hy | hy
  · exact hn y hy
  · simp at hy; rw [hy]; exact e
theorem up_nilT : UpT [] := List.Pairwise.nil
def bothF (a b : List ByteArray) : List ByteArray := (ris a).filter fun s => hasS b s
theorem both_has (a b : List ByteArray) (s : ByteArray) : hasS (bothF a b) s = (hasS a s && hasS b s) := by
  rw [Bool.eq_iff_iff, Bool.and_eq_true, hasS_iff, hasS_iff, hasS_iff]
  unfold bothF
  rw [List.mem_filter, ris_mem, hasS_iff]
theorem less_has (a b : List ByteArray) (s : ByteArray) : hasS (lessF a b) s = (hasS a s && !hasS b s) := by
  rw [Bool.eq_iff_iff, Bool.and_eq_true, hasS_iff, hasS_iff]
  unfold lessF
  rw [List.mem_filter, ris_mem]
theorem both_len (a b : List ByteArray) : (bothF a b).length ≤ a.length := Nat.le_trans (List.length_filter_le _ _) (ris_len a)
theorem less_len2 (a b : List ByteArray) : (lessF a b).length ≤ a.length := Nat.le_trans (List.length_filter_le _ _) (ris_len a)


theorem keep_strG {f : ByteArray → Bool} {l : List ByteArray} {k : Nat} {s : ByteArray} (h : l[k]? = some s) : ((l.take (k + 1)).filter f).map Value.string = ((l.take k).filter f).map Value.string ++ (if f s then [.string s] else []) := by
  rw [List.take_succ_eq_append_getElem (List.getElem?_eq_some_iff.1 h).1, (List.getElem?_eq_some_iff.1 h).2, List.filter_append, List.filter_cons]
  split <;> simp
theorem fl_owns_slice {w : World} {base e size n : Nat} {v : Value} {xs : List Value} (h : w.ownsRow base e size v n xs) : ∃ p c, v = .slice p n c := by
  rcases h.2 with ⟨hv, h0⟩ | ⟨g, cap, cur, hv, _⟩
  · exact ⟨none, 0, by rw [hv, h0]⟩
  · exact ⟨_, _, hv⟩

theorem gtr_of {x y : ByteArray} {r : Bool} (h : sl y x = r) (t : TypeId) : binOp .gtr t (.string x) (.string y) = pure (.bool r) := by
  have e : (!Op.bytesLess x.toList y.toList && !(x.toList == y.toList)) = sl y x := by
    rcases h1 : sl x y with _ | _
    · rcases h2 : sl y x with _ | _
      · obtain rfl := sl_tri h1 h2
        simp
      · unfold sl at h1
        rw [h1]
        have : x.toList ≠ y.toList := fun e => sl_ne h2 (ba_ext (by rw [← Lib.toList_data, ← Lib.toList_data, e])).symm
        simp [this]
    · have h2 := sl_asym h1
      rw [h2]
      unfold sl at h1
      rw [h1]
      rfl
  rw [← h, ← e]
  simp [binOp, Op.stringOp]
theorem lss_of {x y : ByteArray} {r : Bool} (h : sl x y = r) (t : TypeId) : binOp .lss t (.string x) (.string y) = pure (.bool r) := by
  rw [← h]
  simp [binOp, Op.stringOp, sl]

theorem beh_nil (x : ByteArray) : behB [] x = true := rfl
theorem beh_last (out : List ByteArray) (z x : ByteArray) (h : out.getLast? = some z) : behB out x = sl z x := by
  unfold behB
  rw [h]

set_option maxHeartbeats 8000000 in
set_option maxRecDepth 100000 in
theorem rris_c (v : Value) (l : List ByteArray) (w : World) (hl : l.length ≤ 1000000) (ha : AddrsAt w v l) :
    Calls Try.prog 35 #[v] w (MPost (ris l) w) := by
  obtain ⟨i0, hi, hz0, hz1, hz2⟩ := info_parts infoAd
  obtain ⟨p, cap, b, off, rfl, hp, hc⟩ := ha
  have HP := Lib.hid hp
  have HC := Lib.hid hc
  have RL := Lib.hid (ris_len l)
  clear hp hc
  unfold MPost
  go_enter Try.func35, Try.ntmps35
  go_wp2_with fail
  go_loopw [3, 4, 5, 6] (fun o _ _ _ wr => ∃ (out rest : List ByteArray) (qo : Option Addr) (no co : Nat), o = .slice qo no co ∧ no ≤ l.length ∧ Hid (no = out.length) ∧ Hid (ris l = out ++ rest) ∧ Hid (wr.ownsRow w.heap.size 25 1 (.slice qo no co) no (out.map Value.string)) ∧ Hid (Below w.heap.size w wr)) (fun o _ _ _ _ => l.length + 1 - (match o with | .slice _ n _ => n | _ => 0))
  case atStart => exact ⟨[], ris l, none, 0, 0, rfl, Nat.zero_le _, Lib.hid rfl, Lib.hid rfl, Lib.hid (World.ownsRow_nil _ _ _ _), Lib.hid (Below.refl _ _)⟩
  case round =>
    obtain ⟨out, rest, qo, no, co, rfl, hno, HN, HR, OW, K⟩ := hrel
    obtain ⟨wo, rfl⟩ : ∃ wo : World, wo = wr := ⟨_, rfl⟩
    have hle : (no : Int) ≤ (l.length : Int) := by omega
    have hled : decide ((no : Int) ≤ (l.length : Int)) = true := decide_eq_true hle
    have hled2 : decide (no ≤ l.length) = true := decide_eq_true hno
    go_wp2_with fail
    go_loopw [4, 5, 6] (fun nx i _ wq => ∃ (k : Nat) (nxt : Int), k ≤ l.length ∧ i = .int .i64 k ∧ nx = .int .i64 nxt ∧ -1 ≤ nxt ∧ nxt < l.length ∧ Hid (LeastAt l out k nxt) ∧ Hid (∃ n, wq = wo.drewN n)) (fun _ i _ _ => l.length - (intOf i).toNat)
    case atStart => exact ⟨0, -1, Nat.zero_le _, rfl, rfl, by omega, by omega, Lib.hid (LeastAt.start _ _), Lib.hid ⟨0, rfl⟩⟩
    case round =>
      obtain ⟨k, nxt, hk, rfl, rfl, hx1, hx2, HL, HW⟩ := hrel
      by_cases hlt : k < l.length
      · have hne : l ≠ [] := by rintro rfl; simp at hlt
        obtain rfl := (HP.out hne).1
        have CE := Lib.hid (show ∀ j s, l[j]? = some s → wr.cell? ⟨b, off + j, none⟩ = some (.string s) from by
          obtain ⟨n, rfl⟩ := HW.out
          exact fun j s hj => cell_below (below_drewN K.out n) (HC.out j s hj))
        have hlk := Lib.hid (List.getElem?_eq_getElem hlt)
        generalize l[k] = x at hlk
        have x1 := CE.out k x hlk.out
        have hlt' : (k : Int) < (l.length : Int) := by omega
        clear hne hle hled hled2 hlt
        rcases hg : out.getLast? with _ | z
        · have he : out = [] := List.getLast?_eq_none_iff.1 hg
          have HB := Lib.hid (show behB out x = true by rw [he]; rfl)
          obtain rfl : no = 0 := by rw [HN.out, he]; rfl
          clear hg he
          by_cases hn : nxt < 0
          · obtain rfl : nxt = -1 := by omega
            clear hn
            go_wp2_with fail
            go_quiet (fail)
            go_wp2_with fail
            go_quiet (fail)
            go_wp2_with fail
            go_roundw
            case rel => first | exact ⟨k + 1, k, by omega, by go_num, rfl, by omega, by omega, Lib.hid (LeastAt.take HL.out hlk.out HB.out (.inl (by omega))), Lib.hid (by obtain ⟨n0, h0⟩ := HW.out; exact ⟨_, by first | rw [h0, World.drewN_drewN] | rw [h0, World.drewN_drewN, World.drewN_drewN]⟩)⟩ | ((repeat apply Exists.intro); exact ⟨⟨k + 1, k, by omega, by go_num, rfl, by omega, by omega, Lib.hid (LeastAt.take HL.out hlk.out HB.out (.inl (by omega))), Lib.hid (by obtain ⟨n0, h0⟩ := HW.out; exact ⟨_, by first | rw [h0, World.drewN_drewN] | rw [h0, World.drewN_drewN, World.drewN_drewN]⟩)⟩, rfl⟩)
            case measure => simp [intOf]; omega
          · obtain ⟨n, rfl⟩ : ∃ n : Nat, nxt = n := ⟨nxt.toNat, by omega⟩
            have hnl : n < l.length := by omega
            have hly := Lib.hid (List.getElem?_eq_getElem hnl)
            generalize l[n] = y at hly
            have y1 := CE.out n y hly.out
            have dn : decide ((n : Int) < 0) = false := decide_eq_false hn
            clear hnl
            rcases hs : sl x y with _ | _
            · have S := Lib.hid hs
              have g2 := fun t => lss_of hs t
              clear hs
              go_wp2_with fail
              go_quiet (fail)
              go_wp2_with fail
              go_quiet (fail)
              go_wp2_with fail
              go_roundw
              case rel => first | exact ⟨k + 1, n, by omega, by go_num, rfl, by omega, by omega, Lib.hid (LeastAt.skip HL.out hlk.out (.inr ⟨n, y, rfl, hly.out, S.out⟩)), Lib.hid (by obtain ⟨n0, h0⟩ := HW.out; exact ⟨_, by first | rw [h0, World.drewN_drewN] | rw [h0, World.drewN_drewN, World.drewN_drewN]⟩)⟩ | ((repeat apply Exists.intro); exact ⟨⟨k + 1, n, by omega, by go_num, rfl, by omega, by omega, Lib.hid (LeastAt.skip HL.out hlk.out (.inr ⟨n, y, rfl, hly.out, S.out⟩)), Lib.hid (by obtain ⟨n0, h0⟩ := HW.out; exact ⟨_, by first | rw [h0, World.drewN_drewN] | rw [h0, World.drewN_drewN, World.drewN_drewN]⟩)⟩, rfl⟩)
              case measure => simp [intOf]; omega
            · have S := Lib.hid hs
              have g2 := fun t => lss_of hs t
              clear hs
              go_wp2_with fail
              go_quiet (fail)
              go_wp2_with fail
              go_quiet (fail)
              go_wp2_with fail
              go_roundw
              case rel => first | exact ⟨k + 1, k, by omega, by go_num, rfl, by omega, by omega, Lib.hid (LeastAt.take HL.out hlk.out HB.out (.inr ⟨n, y, rfl, hly.out, S.out⟩)), Lib.hid (by obtain ⟨n0, h0⟩ := HW.out; exact ⟨_, by first | rw [h0, World.drewN_drewN] | rw [h0, World.drewN_drewN, World.drewN_drewN]⟩)⟩ | ((repeat apply Exists.intro); exact ⟨⟨k + 1, k, by omega, by go_num, rfl, by omega, by omega, Lib.hid (LeastAt.take HL.out hlk.out HB.out (.inr ⟨n, y, rfl, hly.out, S.out⟩)), Lib.hid (by obtain ⟨n0, h0⟩ := HW.out; exact ⟨_, by first | rw [h0, World.drewN_drewN] | rw [h0, World.drewN_drewN, World.drewN_drewN]⟩)⟩, rfl⟩)
              case measure => simp [intOf]; omega
        · have HG := Lib.hid hg
          have hpos : 0 < out.length := by rcases out with _ | ⟨q, t⟩ <;> simp at hg ⊢
          obtain ⟨m, rfl⟩ : ∃ m, no = m + 1 := ⟨no - 1, by have := HN.out; omega⟩
          have hzm : out[m]? = some z := by
            rw [List.getLast?_eq_getElem?] at hg
            have h := HN.out
            rw [show out.length - 1 = m from by omega] at hg
            exact hg
          obtain ⟨po, co2, bo, oo, hv, hpo, hco⟩ := AddrsG.of_owns (l := out) (by have h := HN.out; have := OW.out; exact this)
          rw [← HN.out] at hv
          cases hv
          obtain ⟨rfl, -, -⟩ := hpo (by rintro rfl; simp at hpos)
          have z1 : wr.cell? ⟨bo, oo + m, none⟩ = some (.string z) := by
            obtain ⟨n, rfl⟩ := HW.out
            exact hco m z hzm
          have HBE := Lib.hid (beh_last out z x hg)
          clear hg hpos hzm hpo hco
          have e0 : (((m : Int) + 1) == 0) = false := (ne_t (by omega)).1
          have e1 : (((m + 1 : Nat) : Int) == 0) = false := (ne_t (by omega)).1
          have hw : IntKind.i64.wrap (((m + 1 : Nat) : Int) - 1) = (m : Int) := by rw [show ((m + 1 : Nat) : Int) - 1 = (m : Int) from by omega]; exact IntWalk.i64_in _ (by omega)
          have hm0 : (0 : Int) ≤ (m : Int) := by omega
          have hm1 : (m : Int) < ((m + 1 : Nat) : Int) := by omega
          rcases hs : sl z x with _ | _
          · have HB := Lib.hid (show behB out x = false by rw [HBE.out]; exact hs)
            have g1 := fun t => gtr_of hs t
            clear hs
            go_wp2_with fail
            go_quiet (fail)
            go_wp2_with fail
            go_quiet (fail)
            go_wp2_with fail
            go_roundw
            case rel => first | exact ⟨k + 1, nxt, by omega, by go_num, rfl, by omega, by omega, Lib.hid (LeastAt.skip HL.out hlk.out (.inl HB.out)), Lib.hid (by obtain ⟨n0, h0⟩ := HW.out; exact ⟨_, by first | rw [h0, World.drewN_drewN] | rw [h0, World.drewN_drewN, World.drewN_drewN]⟩)⟩ | ((repeat apply Exists.intro); exact ⟨⟨k + 1, nxt, by omega, by go_num, rfl, by omega, by omega, Lib.hid (LeastAt.skip HL.out hlk.out (.inl HB.out)), Lib.hid (by obtain ⟨n0, h0⟩ := HW.out; exact ⟨_, by first | rw [h0, World.drewN_drewN] | rw [h0, World.drewN_drewN, World.drewN_drewN]⟩)⟩, rfl⟩)
            case measure => simp [intOf]; omega
          · have HB := Lib.hid (show behB out x = true by rw [HBE.out]; exact hs)
            have g1 := fun t => gtr_of hs t
            clear hs
            by_cases hn : nxt < 0
            · obtain rfl : nxt = -1 := by omega
              clear hn
              go_wp2_with fail
              go_quiet (fail)
              go_wp2_with fail
              go_quiet (fail)
              go_wp2_with fail
              go_roundw
              case rel => first | exact ⟨k + 1, k, by omega, by go_num, rfl, by omega, by omega, Lib.hid (LeastAt.take HL.out hlk.out HB.out (.inl (by omega))), Lib.hid (by obtain ⟨n0, h0⟩ := HW.out; exact ⟨_, by first | rw [h0, World.drewN_drewN] | rw [h0, World.drewN_drewN, World.drewN_drewN]⟩)⟩ | ((repeat apply Exists.intro); exact ⟨⟨k + 1, k, by omega, by go_num, rfl, by omega, by omega, Lib.hid (LeastAt.take HL.out hlk.out HB.out (.inl (by omega))), Lib.hid (by obtain ⟨n0, h0⟩ := HW.out; exact ⟨_, by first | rw [h0, World.drewN_drewN] | rw [h0, World.drewN_drewN, World.drewN_drewN]⟩)⟩, rfl⟩)
              case measure => simp [intOf]; omega
            · obtain ⟨n, rfl⟩ : ∃ n : Nat, nxt = n := ⟨nxt.toNat, by omega⟩
              have hnl : n < l.length := by omega
              have hly := Lib.hid (List.getElem?_eq_getElem hnl)
              generalize l[n] = y at hly
              have y1 := CE.out n y hly.out
              have dn : decide ((n : Int) < 0) = false := decide_eq_false hn
              clear hnl
              rcases hs : sl x y with _ | _
              · have S := Lib.hid hs
                have g2 := fun t => lss_of hs t
                clear hs
                go_wp2_with fail
                go_quiet (fail)
                go_wp2_with fail
                go_quiet (fail)
                go_wp2_with fail
                go_roundw
                case rel => first | exact ⟨k + 1, n, by omega, by go_num, rfl, by omega, by omega, Lib.hid (LeastAt.skip HL.out hlk.out (.inr ⟨n, y, rfl, hly.out, S.out⟩)), Lib.hid (by obtain ⟨n0, h0⟩ := HW.out; exact ⟨_, by first | rw [h0, World.drewN_drewN] | rw [h0, World.drewN_drewN, World.drewN_drewN]⟩)⟩ | ((repeat apply Exists.intro); exact ⟨⟨k + 1, n, by omega, by go_num, rfl, by omega, by omega, Lib.hid (LeastAt.skip HL.out hlk.out (.inr ⟨n, y, rfl, hly.out, S.out⟩)), Lib.hid (by obtain ⟨n0, h0⟩ := HW.out; exact ⟨_, by first | rw [h0, World.drewN_drewN] | rw [h0, World.drewN_drewN, World.drewN_drewN]⟩)⟩, rfl⟩)
                case measure => simp [intOf]; omega
              · have S := Lib.hid hs
                have g2 := fun t => lss_of hs t
                clear hs
                go_wp2_with fail
                go_quiet (fail)
                go_wp2_with fail
                go_quiet (fail)
                go_wp2_with fail
                go_roundw
                case rel => first | exact ⟨k + 1, k, by omega, by go_num, rfl, by omega, by omega, Lib.hid (LeastAt.take HL.out hlk.out HB.out (.inr ⟨n, y, rfl, hly.out, S.out⟩)), Lib.hid (by obtain ⟨n0, h0⟩ := HW.out; exact ⟨_, by first | rw [h0, World.drewN_drewN] | rw [h0, World.drewN_drewN, World.drewN_drewN]⟩)⟩ | ((repeat apply Exists.intro); exact ⟨⟨k + 1, k, by omega, by go_num, rfl, by omega, by omega, Lib.hid (LeastAt.take HL.out hlk.out HB.out (.inr ⟨n, y, rfl, hly.out, S.out⟩)), Lib.hid (by obtain ⟨n0, h0⟩ := HW.out; exact ⟨_, by first | rw [h0, World.drewN_drewN] | rw [h0, World.drewN_drewN, World.drewN_drewN]⟩)⟩, rfl⟩)
                case measure => simp [intOf]; omega
      · obtain rfl : k = l.length := by omega
        clear hlt hle hled hled2 hk
        have O3 := Lib.hid (show wr.ownsRow w.heap.size 25 1 (.slice qo no co) no (out.map Value.string) by obtain ⟨n, rfl⟩ := HW.out; exact OW.out)
        have K3 := Lib.hid (show Below w.heap.size w wr by obtain ⟨n, rfl⟩ := HW.out; exact below_drewN K.out n)
        clear OW K HW
        by_cases hn : nxt < 0
        · obtain rfl : nxt = -1 := by omega
          have HE := Lib.hid (show ris l = out by have h := LeastAt.none HR.out HL.out; have h2 := HR.out; rw [h, List.append_nil] at h2; exact h2)
          clear hn
          go_wp2_with fail
          go_ret
          exact ⟨_, rfl, by rw [HE.out]; exact AddrsG.of_owns O3.out, K3.out⟩
        · obtain ⟨n, rfl⟩ : ∃ n : Nat, nxt = n := ⟨nxt.toNat, by omega⟩
          have hnl : n < l.length := by omega
          have hne : l ≠ [] := by rintro rfl; simp at hnl
          obtain rfl := (HP.out hne).1
          have hly := Lib.hid (List.getElem?_eq_getElem hnl)
          generalize l[n] = y at hly
          have y1 := cell_below K3.out (HC.out n y hly.out)
          obtain ⟨t, ht⟩ := LeastAt.some HR.out HL.out hly.out
          have HR2 := Lib.hid (show ris l = (out ++ [y]) ++ t by rw [HR.out, ht]; simp)
          have hno2 : no + 1 ≤ l.length := by
            have h1 := RL.out
            rw [HR2.out] at h1
            have h2 := HN.out
            simp only [List.length_append, List.length_cons, List.length_nil] at h1
            omega
          have dn : decide ((n : Int) < 0) = false := decide_eq_false hn
          clear hne ht HR HL
          go_wp2_with (at_builtin; refine wpList_append_own _ rfl _ _ 35 rfl w.heap.size 25 i0 (.string ⟨#[]⟩) 1 16 Try.underlying35 hi hz0 hz1 hz2 rfl (by decide) _ _ _ rfl (O3.out.alloc _) ⟨wr.heap.size, 0, none⟩ 1 1 [.string y] rfl rfl ?d1 ?d2 ?d3 ?d4 ?d5 ?_)
          case d2 => first | rfl | (intro u hu; simp at hu; subst hu; rfl)
          case d3 => unfold maxLen; omega
          case d4 => omega
          case d5 => have := K3.out.size; simp at this ⊢; omega
          intro v9 w7 hown7 hg7 _
          obtain ⟨p9, c9, rfl⟩ := fl_owns_slice hown7
          have O9 := Lib.hid (show w7.ownsRow w.heap.size 25 1 (.slice p9 (no + 1) c9) (no + 1) ((out ++ [y]).map Value.string) by rw [List.map_append]; exact hown7)
          have K9 := Lib.hid ((K3.out.alloc K3.out.size _).grown hg7 (by have := K3.out.size; simp at this ⊢; omega) (fun j hj => (O3.out.lt j hj).1))
          clear hown7 hg7
          go_wp2_with fail
          go_roundw
          case rel => exact ⟨out ++ [y], t, p9, no + 1, c9, rfl, hno2, Lib.hid (by rw [List.length_append, ← HN.out]; rfl), HR2, O9, K9⟩
          case measure => simp; omega


set_option maxHeartbeats 4000000 in
set_option maxRecDepth 100000 in
theorem rboth_c (va vb : Value) (A B : List ByteArray) (w : World) (hA : A.length ≤ 1000000) (hB : B.length ≤ 1000000) (ha : AddrsAt w va A) (hb : AddrsAt w vb B) :
    Calls Try.prog 49 #[va, vb] w (MPost (bothF A B) w) := by
  have HR := Lib.hid (rris_c va A w hA ha)
  have HH := Lib.hid fun s U (hU : Below w.heap.size w U) => rhas_c vb B s U (by omega) (hb.below hU)
  have HLL := Lib.hid (Nat.le_trans (ris_len A) hA)
  obtain ⟨f, hf⟩ : ∃ f : ByteArray → Bool, f = fun s => hasS B s := ⟨_, rfl⟩
  have HFX := Lib.hid (show ∀ s, f s = (hasS B s) from fun s => by rw [hf])
  have HQ := Lib.hid (show ∀ u U, AddrsG w.heap.size true U u ((ris A).filter f) → Below w.heap.size w U → MPost (bothF A B) w (.returned u) U from fun u U h1 h2 => ⟨u, rfl, by rw [hf] at h1; exact h1, h2⟩)
  generalize MPost (bothF A B) w = Q at HQ ⊢
  unfold MPost at HR
  generalize ris A = l at HR HQ HLL
  generalize hasS B = hs at HH HFX
  obtain ⟨i0, hi0, hz0, hz1, hz2⟩ := info_parts info_Ad
  clear ha hb hf
  go_enter Try.func49, Try.ntmps49
  go_wp2_with fail
  ((with_reducible refine HR.out.mono ?_); rintro e w1 ⟨u1, rfl, a1, k1⟩)
  have K1 := Lib.hid k1
  obtain ⟨p, cap, b, off, rfl, hp, hc⟩ := a1
  have HP := Lib.hid hp
  have HC := Lib.hid hc
  obtain ⟨n, hn⟩ : ∃ n, n = l.length := ⟨_, rfl⟩
  have HNN := Lib.hid hn
  have hl : n ≤ 1000000 := by rw [hn]; exact HLL.out
  rw [← hn]
  clear hp hc hn k1 HR
  go_wp2_with fail
  go_loopw [5, 7] (fun s5 i wr => ∃ (k m : Nat), k ≤ n ∧ m ≤ k ∧ i = .int .i64 k ∧ Hid (wr.ownsRow w1.heap.size 25 1 s5 m (((l.take k).filter f).map Value.string)) ∧ Hid (Below w1.heap.size w1 wr)) (fun _ i _ => n - (intOf i).toNat)
  case atStart => exact ⟨0, 0, Nat.zero_le _, Nat.le_refl _, rfl, Lib.hid (World.ownsRow_nil _ _ _ _), Lib.hid (Below.refl _ _)⟩
  case round =>
    obtain ⟨k, m, hk, hmk, rfl, HO, KB⟩ := hrel
    by_cases hlt : k < n
    · obtain ⟨s, hx⟩ : ∃ s, l[k]? = some s := ⟨_, List.getElem?_eq_getElem (by rw [← HNN.out]; exact hlt)⟩
      have hne : l ≠ [] := by rintro rfl; simp at hx
      obtain rfl := (HP.out hne).1
      have HTK := Lib.hid (keep_strG (f := f) hx)
      have FC := Lib.hid (HH.out s wr (K1.out.trans (KB.out.mono K1.out.size)))
      have HF := Lib.hid (HFX.out s)
      have x0 : wr.cell? ⟨b, off + k, none⟩ = some (.string s) := cell_below KB.out (HC.out k s hx)
      have d1 : decide (k < n) = true := decide_eq_true hlt
      have d2 : decide ((k : Int) < (n : Int)) = true := decide_eq_true (by omega)
      have d4 : decide (0 ≤ (k : Int)) = true := decide_eq_true (by omega)
      have d5 : (0 : Int) ≤ (k : Int) := by omega
      have d6 : (k : Int) < (n : Int) := by omega
      clear hx hne
      generalize hs s = r at FC HF
      rcases Bool.eq_false_or_eq_true r with rfl | rfl
      · have HT2 := Lib.hid (show ((l.take (k + 1)).filter f).map Value.string = ((l.take k).filter f).map Value.string ++ [.string s] by rw [HTK.out, HF.out]; rfl)
        clear HTK HF
        go_wp2_with fail
        ((with_reducible refine FC.out.mono ?_); rintro e w3 ⟨rfl, h9⟩; replace h9 := h9.symm; subst h9)
        have NEW := Lib.hid (str_new wr [.string s] 25)
        have HO5 := Lib.hid (HO.out.alloc (.cells #[.string s] 25))
        have K5 := Lib.hid (KB.out.alloc KB.out.size (.cells #[.string s] 25))
        have n11 := Lib.hid (show m + 1 ≤ maxLen by unfold maxLen; omega)
        have n22 := Lib.hid (show (m + 1) * 16 ≤ 140737488355328 by omega)
        have n33 := Lib.hid (show w1.heap.size ≤ (wr.alloc (.cells #[.string s] 25)).heap.size from K5.out.size)
        have oc := Lib.hid (one_str s)
        clear HO KB FC
        go_wp2_with (at_builtin; refine wpList_append_own _ rfl _ _ 35 rfl w1.heap.size 25 i0 (.string ByteArray.empty) 1 16 Try.underlying35 hi0 hz0 hz1 hz2 rfl (by decide) _ _ _ rfl HO5.out ⟨wr.heap.size, 0, none⟩ 1 1 [.string s] rfl rfl NEW.out oc.out n11.out n22.out n33.out ?_)
        intro v' w6 hown' hgrow _
        have HO6 := Lib.hid hown'
        have K6 := Lib.hid (K5.out.grown hgrow n33.out (fun j hj => (HO5.out.lt j hj).1))
        clear hown' hgrow HO5 K5 NEW
        go_wp2_with fail
        go_roundw
        case rel => exact ⟨k + 1, m + 1, by omega, by omega, by go_num, Lib.hid (by rw [HT2.out]; exact HO6.out), K6⟩
        case measure => simp [intOf]; omega

      · have HT2 := Lib.hid (show ((l.take (k + 1)).filter f).map Value.string = ((l.take k).filter f).map Value.string by rw [HTK.out, HF.out]; simp)
        clear HTK HF
        go_wp2_with fail
        ((with_reducible refine FC.out.mono ?_); rintro e w3 ⟨rfl, h9⟩; replace h9 := h9.symm; subst h9)
        clear FC
        go_wp2_with fail
        go_roundw
        case rel => exact ⟨k + 1, m, by omega, by omega, by go_num, Lib.hid (by rw [HT2.out]; exact HO.out), KB⟩
        case measure => simp [intOf]; omega

    · obtain rfl : k = n := by omega
      rw [List.take_of_length_le (by rw [HNN.out]; exact Nat.le_refl _)] at HO
      have HF := Lib.hid (HQ.out _ wr ((AddrsG.of_owns HO.out).mono K1.out.size id) (K1.out.trans (KB.out.mono K1.out.size)))
      clear hlt HO HQ
      go_wp2_with fail
      exact HF.out

set_option maxHeartbeats 4000000 in
set_option maxRecDepth 100000 in
theorem rless17_c (va vb : Value) (A B : List ByteArray) (w : World) (hA : A.length ≤ 1000000) (hB : B.length ≤ 1000000) (ha : AddrsAt w va A) (hb : AddrsAt w vb B) :
    Calls Try.prog 52 #[va, vb] w (MPost (lessF A B) w) := by
  have HR := Lib.hid (rris_c va A w hA ha)
  have HH := Lib.hid fun s U (hU : Below w.heap.size w U) => rhas_c vb B s U (by omega) (hb.below hU)
  have HLL := Lib.hid (Nat.le_trans (ris_len A) hA)
  obtain ⟨f, hf⟩ : ∃ f : ByteArray → Bool, f = fun s => !hasS B s := ⟨_, rfl⟩
  have HFX := Lib.hid (show ∀ s, f s = (!hasS B s) from fun s => by rw [hf])
  have HQ := Lib.hid (show ∀ u U, AddrsG w.heap.size true U u ((ris A).filter f) → Below w.heap.size w U → MPost (lessF A B) w (.returned u) U from fun u U h1 h2 => ⟨u, rfl, by rw [hf] at h1; exact h1, h2⟩)
  generalize MPost (lessF A B) w = Q at HQ ⊢
  unfold MPost at HR
  generalize ris A = l at HR HQ HLL
  generalize hasS B = hs at HH HFX
  obtain ⟨i0, hi0, hz0, hz1, hz2⟩ := info_parts info_Ad
  clear ha hb hf
  go_enter Try.func52, Try.ntmps52
  go_wp2_with fail
  ((with_reducible refine HR.out.mono ?_); rintro e w1 ⟨u1, rfl, a1, k1⟩)
  have K1 := Lib.hid k1
  obtain ⟨p, cap, b, off, rfl, hp, hc⟩ := a1
  have HP := Lib.hid hp
  have HC := Lib.hid hc
  obtain ⟨n, hn⟩ : ∃ n, n = l.length := ⟨_, rfl⟩
  have HNN := Lib.hid hn
  have hl : n ≤ 1000000 := by rw [hn]; exact HLL.out
  rw [← hn]
  clear hp hc hn k1 HR
  go_wp2_with fail
  go_loopw [5, 7] (fun s5 i wr => ∃ (k m : Nat), k ≤ n ∧ m ≤ k ∧ i = .int .i64 k ∧ Hid (wr.ownsRow w1.heap.size 25 1 s5 m (((l.take k).filter f).map Value.string)) ∧ Hid (Below w1.heap.size w1 wr)) (fun _ i _ => n - (intOf i).toNat)
  case atStart => exact ⟨0, 0, Nat.zero_le _, Nat.le_refl _, rfl, Lib.hid (World.ownsRow_nil _ _ _ _), Lib.hid (Below.refl _ _)⟩
  case round =>
    obtain ⟨k, m, hk, hmk, rfl, HO, KB⟩ := hrel
    by_cases hlt : k < n
    · obtain ⟨s, hx⟩ : ∃ s, l[k]? = some s := ⟨_, List.getElem?_eq_getElem (by rw [← HNN.out]; exact hlt)⟩
      have hne : l ≠ [] := by rintro rfl; simp at hx
      obtain rfl := (HP.out hne).1
      have HTK := Lib.hid (keep_strG (f := f) hx)
      have FC := Lib.hid (HH.out s wr (K1.out.trans (KB.out.mono K1.out.size)))
      have HF := Lib.hid (HFX.out s)
      have x0 : wr.cell? ⟨b, off + k, none⟩ = some (.string s) := cell_below KB.out (HC.out k s hx)
      have d1 : decide (k < n) = true := decide_eq_true hlt
      have d2 : decide ((k : Int) < (n : Int)) = true := decide_eq_true (by omega)
      have d4 : decide (0 ≤ (k : Int)) = true := decide_eq_true (by omega)
      have d5 : (0 : Int) ≤ (k : Int) := by omega
      have d6 : (k : Int) < (n : Int) := by omega
      clear hx hne
      generalize hs s = r at FC HF
      rcases Bool.eq_false_or_eq_true r with rfl | rfl
      · have HT2 := Lib.hid (show ((l.take (k + 1)).filter f).map Value.string = ((l.take k).filter f).map Value.string by rw [HTK.out, HF.out]; simp)
        clear HTK HF
        go_wp2_with fail
        ((with_reducible refine FC.out.mono ?_); rintro e w3 ⟨rfl, h9⟩; replace h9 := h9.symm; subst h9)
        clear FC
        go_wp2_with fail
        go_roundw
        case rel => exact ⟨k + 1, m, by omega, by omega, by go_num, Lib.hid (by rw [HT2.out]; exact HO.out), KB⟩
        case measure => simp [intOf]; omega

      · have HT2 := Lib.hid (show ((l.take (k + 1)).filter f).map Value.string = ((l.take k).filter f).map Value.string ++ [.string s] by rw [HTK.out, HF.out]; rfl)
        clear HTK HF
        go_wp2_with fail
        ((with_reducible refine FC.out.mono ?_); rintro e w3 ⟨rfl, h9⟩; replace h9 := h9.symm; subst h9)
        have NEW := Lib.hid (str_new wr [.string s] 25)
        have HO5 := Lib.hid (HO.out.alloc (.cells #[.string s] 25))
        have K5 := Lib.hid (KB.out.alloc KB.out.size (.cells #[.string s] 25))
        have n11 := Lib.hid (show m + 1 ≤ maxLen by unfold maxLen; omega)
        have n22 := Lib.hid (show (m + 1) * 16 ≤ 140737488355328 by omega)
        have n33 := Lib.hid (show w1.heap.size ≤ (wr.alloc (.cells #[.string s] 25)).heap.size from K5.out.size)
        have oc := Lib.hid (one_str s)
        clear HO KB FC
        go_wp2_with (at_builtin; refine wpList_append_own _ rfl _ _ 35 rfl w1.heap.size 25 i0 (.string ByteArray.empty) 1 16 Try.underlying35 hi0 hz0 hz1 hz2 rfl (by decide) _ _ _ rfl HO5.out ⟨wr.heap.size, 0, none⟩ 1 1 [.string s] rfl rfl NEW.out oc.out n11.out n22.out n33.out ?_)
        intro v' w6 hown' hgrow _
        have HO6 := Lib.hid hown'
        have K6 := Lib.hid (K5.out.grown hgrow n33.out (fun j hj => (HO5.out.lt j hj).1))
        clear hown' hgrow HO5 K5 NEW
        go_wp2_with fail
        go_roundw
        case rel => exact ⟨k + 1, m + 1, by omega, by omega, by go_num, Lib.hid (by rw [HT2.out]; exact HO6.out), K6⟩
        case measure => simp [intOf]; omega

    · obtain rfl : k = n := by omega
      rw [List.take_of_length_le (by rw [HNN.out]; exact Nat.le_refl _)] at HO
      have HF := Lib.hid (HQ.out _ wr ((AddrsG.of_owns HO.out).mono K1.out.size id) (K1.out.trans (KB.out.mono K1.out.size)))
      clear hlt HO HQ
      go_wp2_with fail
      exact HF.out


/-- What a store into one block leaves of lists. -/
theorem tw_cell {w w' : World} {p b o : Nat} {v : Value} (k : Tw w w' p p) (h : w.cell? ⟨b, o, none⟩ = some v) (hne : b ≠ p) : w'.cell? ⟨b, o, none⟩ = some v := by
  have e := k.block b (gcell_lt h) hne hne
  unfold World.cell? at h ⊢
  simp only at h ⊢
  rw [e]
  exact h
/-- A STATE AT BLOCK p. -/
def HasS17 (w : World) (p : Nat) (ex : Bool) (tm : Int) (l : List Tm) : Prop :=
  ∃ v, w.heap[p]? = some (.cells #[.bool ex, .int .i64 tm, v] 24 (0, 0)) ∧ RowsAt 2 cellsTm w v l
theorem rows_tw {w w' : World} {p : Nat} {v : Value} {l : List Tm} {xs : Array Value} {t : TypeId} {f : Nat × Nat} (h : RowsAt 2 cellsTm w v l) (hp : w.heap[p]? = some (.cells xs t f)) (hx : ∀ (j : Nat) s, xs[j]? ≠ some (.string s)) (k : Tw w w' p p) : RowsAt 2 cellsTm w' v l := by
  obtain ⟨q, cap, b, off, hv, hq, hc⟩ := h
  refine ⟨q, cap, b, off, hv, hq, fun j x hj i u hu => ?_⟩
  have hb : b ≠ p := by
    rintro rfl
    have h0 := hc j x hj 0 (.string x.1) rfl
    simp only [World.cell?, hp] at h0
    exact hx _ _ (by simpa using h0)
  exact tw_cell k (hc j x hj i u hu) hb
theorem addrs_tw {w w' : World} {p : Nat} {v : Value} {l : List ByteArray} {xs : Array Value} {t : TypeId} {f : Nat × Nat} (h : AddrsAt w v l) (hp : w.heap[p]? = some (.cells xs t f)) (hx : ∀ (j : Nat) s, xs[j]? ≠ some (.string s)) (k : Tw w w' p p) : AddrsAt w' v l := by
  obtain ⟨q, cap, b, off, hv, hq, hc⟩ := h
  refine ⟨q, cap, b, off, hv, fun hne => ⟨(hq hne).1, (hq hne).2.1, fun h => by cases h⟩, fun j s hj => ?_⟩
  have hb : b ≠ p := by
    rintro rfl
    have h0 := hc j s hj
    simp only [World.cell?, hp] at h0
    exact hx _ _ (by simpa using h0)
  exact tw_cell k (hc j s hj) hb
theorem no_str {ex : Bool} {tm : Int} {p : Option Addr} {n c : Nat} : ∀ (j : Nat) s, (#[Value.bool ex, .int .i64 tm, .slice p n c] : Array Value)[j]? ≠ some (.string s) := by
  intro j s h
  rcases j with _ | _ | _ | j <;> simp at h
theorem HasS17.lt {w : World} {p : Nat} {ex : Bool} {tm : Int} {l : List Tm} (h : HasS17 w p ex tm l) : p < w.heap.size := by
  obtain ⟨v, h1, _⟩ := h
  exact lt_of_block h1
theorem HasS17.below {w w' : World} {p : Nat} {ex : Bool} {tm : Int} {l : List Tm} (h : HasS17 w p ex tm l) (k : Below w.heap.size w w') : HasS17 w' p ex tm l := by
  obtain ⟨v, h1, h2⟩ := h
  exact ⟨v, below_block k (lt_of_block h1) h1, h2.below k⟩
theorem HasS17.addrs {w w' : World} {p : Nat} {ex : Bool} {tm : Int} {l : List Tm} (h : HasS17 w p ex tm l) (k : Tw w w' p p) {v : Value} {r : List ByteArray} (ha : AddrsAt w v r) : AddrsAt w' v r := by
  obtain ⟨u, h1, h2⟩ := h
  obtain ⟨q, c, rfl⟩ := h2.slice
  exact addrs_tw ha h1 no_str k
theorem HasS17.rows {w w' : World} {p : Nat} {ex : Bool} {tm : Int} {l : List Tm} (h : HasS17 w p ex tm l) (k : Tw w w' p p) {v : Value} {r : List Tm} (ha : RowsAt 2 cellsTm w v r) : RowsAt 2 cellsTm w' v r := by
  obtain ⟨u, h1, h2⟩ := h
  obtain ⟨q, c, rfl⟩ := h2.slice
  exact rows_tw ha h1 no_str k
theorem HasS17.slice {w : World} {p : Nat} {ex : Bool} {tm : Int} {l : List Tm} (h : HasS17 w p ex tm l) : ∃ q c, w.heap[p]? = some (.cells #[.bool ex, .int .i64 tm, .slice q l.length c] 24 (0, 0)) ∧ RowsAt 2 cellsTm w (.slice q l.length c) l := by
  obtain ⟨u, h1, h2⟩ := h
  obtain ⟨q, c, rfl⟩ := h2.slice
  exact ⟨q, c, h1, h2⟩
theorem tm_new (w : World) (a : ByteArray) (t : Int) (ty : TypeId) : ∀ j u, [Value.string a, .int .i64 t][j]? = some u → (w.alloc (.cells #[.string a, .int .i64 t] ty)).cell? ((⟨w.heap.size, 0, none⟩ : Addr).add j) = some u := str_new w [.string a, .int .i64 t] ty
theorem rows_of_owns17 {w : World} {base n : Nat} {v : Value} {l : List Tm} {e : TypeId} (h : w.ownsRow base e 2 v n (l.flatMap cellsTm)) : RowsAt 2 cellsTm w v l := rowsAt_own (size := 2) (cells := cellsTm) (by decide) tm_len h
theorem tms_len (l : List Tm) : (l.flatMap cellsTm).length = l.length * 2 := by
  induction l with
  | nil => rfl
  | cons x r ih => rw [List.flatMap_cons, List.length_append, ih, List.length_cons, tm_len]; omega
theorem neq_of {x y : ByteArray} {r : Bool} (h : decide (x = y) = r) (t : TypeId) : binOp .neq t (.string x) (.string y) = pure (.bool (!r)) := by
  have e : (x.toList == y.toList) = r := by
    rw [← h, Bool.eq_iff_iff, beq_iff_eq, decide_eq_true_iff]
    exact ⟨fun e => ba_ext (by rw [← Lib.toList_data, ← Lib.toList_data, e]), fun e => by rw [e]⟩
  simp [binOp, Op.stringOp, Op.equal, e]

set_option maxHeartbeats 4000000 in
set_option maxRecDepth 100000 in
theorem at17_c (ex : Bool) (tm : Int) (v : Value) (l : List Tm) (a : ByteArray) (w : World) (hl : l.length ≤ 1000000) (h : RowsAt 2 cellsTm w v l) :
    Calls Try.prog 54 #[.agg #[.bool ex, .int .i64 tm, v], .string a] w fun e w' => e = .returned (.int .i64 (getR l a)) ∧ Below w.heap.size w w' := by
  obtain ⟨p, cap, b, off, rfl, hp, hc⟩ := h
  have HP := Lib.hid hp
  have HC := Lib.hid hc
  obtain ⟨n, hn⟩ : ∃ n, n = l.length := ⟨_, rfl⟩
  have HNN := Lib.hid hn
  rw [← hn] at hl ⊢
  have HE := Lib.hid (heap_new w (.cells #[.bool ex, .int .i64 tm, .slice p n cap] 24))
  have K0 := Lib.hid (show Below w.heap.size w (w.alloc (.cells #[.bool ex, .int .i64 tm, .slice p n cap] 24)) from (Below.refl _ _).alloc (Nat.le_refl _) _)
  obtain ⟨V, hV⟩ : ∃ V, V = getR l a := ⟨_, rfl⟩
  rw [← hV]
  have HV := Lib.hid hV
  clear hp hc hn hV
  go_enter Try.func54, Try.ntmps54
  go_upto_region 1 with fail
  generalize w.alloc (.cells #[.bool ex, .int .i64 tm, .slice p n cap] 24) = W at HE K0 ⊢
  have y2 : W.cell? ⟨w.heap.size, 2, none⟩ = some (.slice p n cap) := cell_of_block HE.out rfl
  go_wp2_with fail
  go_loopw [5] (fun i wr => ∃ k : Nat, k ≤ n ∧ i = .int .i64 k ∧ Hid (∀ x ∈ l.take k, x.1 ≠ a) ∧ wr = W) (fun i _ => n - (intOf i).toNat)
  case atStart => exact ⟨0, Nat.zero_le _, rfl, Lib.hid (fun x hx => by simp at hx), rfl⟩
  case round =>
    obtain ⟨k, hk, rfl, HN, h9⟩ := hrel
    subst h9
    by_cases hlt : k < n
    · obtain ⟨x, hx⟩ : ∃ x, l[k]? = some x := ⟨_, List.getElem?_eq_getElem (by rw [← HNN.out]; exact hlt)⟩
      have hne : l ≠ [] := by rintro rfl; simp at hx
      obtain rfl := HP.out hne
      have r1 : wr.cell? ⟨b, off + k * 2, none⟩ = some (.string x.1) := gcell_below K0.out (HC.out k _ hx 0 _ rfl)
      have r2 : wr.cell? ⟨b, off + k * 2 + 1, none⟩ = some (.int .i64 x.2) := gcell_below K0.out (HC.out k _ hx 1 _ rfl)
      have HG := Lib.hid (getR_at hx HN.out)
      have HT := Lib.hid (take_no17 hx HN.out)
      obtain ⟨xs, xt⟩ := x
      dsimp only at r1 r2 HG HT
      have d1 : decide (k < n) = true := decide_eq_true hlt
      have d2 : decide ((k : Int) < (n : Int)) = true := decide_eq_true (by omega)
      have d4 : decide (0 ≤ (k : Int)) = true := decide_eq_true (by omega)
      clear hx hne
      by_cases e : xs = a
      · subst e
        obtain rfl : V = xt := HV.out.trans (HG.out rfl)
        clear HN HG HT HV
        go_wp2_with fail
        go_ret
        exact ⟨rfl, K0.out⟩
      · have e1 : (xs.toList == a.toList) = false := by
          rw [beq_eq_false_iff_ne]
          exact fun h => e (ba_ext (by rw [← Lib.toList_data, ← Lib.toList_data, h]))
        have HN2 := Lib.hid (HT.out e)
        clear HN HG HT e
        go_wp2_with fail
        go_roundw
        case rel => first | exact ⟨k + 1, by omega, by go_num, HN2, rfl⟩ | exact ⟨k + 1, by omega, by go_num, HN2, trivial⟩
        case measure => simp [intOf]; omega
    · obtain rfl : k = n := by omega
      obtain rfl : V = 0 := HV.out.trans (getR_no (by have h := HN.out; rw [List.take_of_length_le (by rw [HNN.out]; exact Nat.le_refl _)] at h; exact h))
      have d1 : decide (k < k) = false := decide_eq_false (by omega)
      clear hlt HN
      go_wp2_with fail
      go_ret
      exact ⟨rfl, K0.out⟩

/-- What put leaves: the state at block p with the source in its place; all else as it was. -/
def PuPost (p : Nat) (ex : Bool) (tm : Int) (l : List Tm) (w : World) (e : Ending) (w' : World) : Prop := e = .returned (.tuple #[]) ∧ HasS17 w' p ex tm l ∧ Tw w w' p p

set_option maxHeartbeats 16000000 in
set_option maxRecDepth 100000 in
theorem put17_c {w : World} {p : Nat} {ex : Bool} {tm : Int} {l : List Tm} (h : HasS17 w p ex tm l) (hl : l.length ≤ 1000) (a : ByteArray) (t : Int) :
    Calls Try.prog 55 #[.pointer (some ⟨p, 0, none⟩), .string a, .int .i64 t] w (PuPost p ex tm (putS l a t) w) := by
  obtain ⟨q, cp, hE, hR⟩ := h.slice
  have HE := Lib.hid hE
  obtain ⟨q', cap, b, off, hv, hp, hc⟩ := hR
  cases hv
  have HP := Lib.hid hp
  have HC := Lib.hid hc
  obtain ⟨i0, hi0, hz0, hz1, hz2⟩ := info_parts info_Tm
  obtain ⟨n, hn⟩ : ∃ n, n = l.length := ⟨_, rfl⟩
  have HNN := Lib.hid hn
  rw [← hn] at hl HE
  have HPL := Lib.hid (lt_of_block hE)
  have HQ := Lib.hid (show ∀ (v : Value) (m : Nat) (U : World), U.ownsRow w.heap.size 56 2 v m ((putS l a t).flatMap cellsTm) → Below w.heap.size w U → PuPost p ex tm (putS l a t) w (.returned (.tuple #[])) (U.setCell ⟨p, 2, none⟩ v) from fun v m U ho hk => by
    have hB : U.heap[p]? = _ := below_block hk HPL.out HE.out
    have ho2 := g_set (t := p) (j := 2) (u := v) ho hB (by decide)
    refine ⟨rfl, ⟨v, heap_store (j := 2) (v := v) hB, rows_of_owns17 ho2⟩, ?_⟩
    exact ⟨hk.os, hk.tape, hk.output, by have := hk.size; simpa [World.setCell] using this, fun i hi h1 h2 => (Below.heap_setCell _ _ _ _ h1).trans (hk.block i hi)⟩)
  generalize PuPost p ex tm (putS l a t) w = Q at HQ ⊢
  have HFI := Lib.hid (show putS l a t = (insG a t l).1 ++ if (insG a t l).2 then [] else [(a, t)] from rfl)
  have HIL := Lib.hid (fun k => insG_len a t (l.take k))
  clear hE hp hc hn
  go_enter Try.func55, Try.ntmps55
  go_wp2_with fail
  go_loopw [6, 7, 8] (fun s6 s7 i wr => ∃ (k m : Nat) (dn : Bool), k ≤ n ∧ m ≤ k + 1 ∧ i = .int .i64 k ∧ s7 = .bool dn ∧ Hid (dn = (insG a t (l.take k)).2) ∧ Hid (wr.ownsRow w.heap.size 56 2 s6 m ((insG a t (l.take k)).1.flatMap cellsTm)) ∧ Hid (Below w.heap.size w wr)) (fun _ _ i _ => n - (intOf i).toNat)
  case atStart => exact ⟨0, 0, false, Nat.zero_le _, by omega, rfl, rfl, Lib.hid rfl, Lib.hid (World.ownsRow_nil _ _ _ _), Lib.hid (Below.refl _ _)⟩
  case round =>
    obtain ⟨k, m, dn, hk, hm, rfl, rfl, HD, HO, KB⟩ := hrel
    have HEr := Lib.hid (below_block KB.out HPL.out HE.out)
    have y2 : wr.cell? ⟨p, 2, none⟩ = some (.slice q n cp) := cell_of_block HEr.out rfl
    by_cases hlt : k < n
    · obtain ⟨x, hx⟩ : ∃ x, l[k]? = some x := ⟨_, List.getElem?_eq_getElem (by rw [← HNN.out]; exact hlt)⟩
      have hne : l ≠ [] := by rintro rfl; simp at hx
      obtain rfl := HP.out hne
      have r1 : wr.cell? ⟨b, off + k * 2, none⟩ = some (.string x.1) := gcell_below KB.out (HC.out k _ hx 0 _ rfl)
      have r2 : wr.cell? ⟨b, off + k * 2 + 1, none⟩ = some (.int .i64 x.2) := gcell_below KB.out (HC.out k _ hx 1 _ rfl)
      have HST := Lib.hid (insG_take (a := a) (t := t) hx)
      obtain ⟨xs, xt⟩ := x
      dsimp only at r1 r2
      have HML := Lib.hid (show m = (insG a t (l.take k)).1.length from by have h := HO.out.1; rw [tms_len] at h; omega)
      have hml2 := Lib.hid ((HIL.out k).2)
      have hml1 := Lib.hid ((HIL.out k).1)
      have hmi : m ≤ k + 1 ∧ (dn = false → m ≤ k) := ⟨hm, fun hd => by have h1 := hml2.out (by rw [← HD.out]; exact hd); rw [← HML.out, List.length_take] at h1; omega⟩
      clear hm hml1 hml2
      have HMI := Lib.hid hmi
      clear hmi
      generalize insG a t (l.take k) = o at HST HD HO HML
      obtain ⟨ol, od⟩ := o
      have hod : od = dn := HD.out.symm
      subst hod
      simp only at HO HML
      unfold stepG at HST
      simp only at HST
      have d1 : decide (k < n) = true := decide_eq_true hlt
      have d2 : decide ((k : Int) < (n : Int)) = true := decide_eq_true (by omega)
      have d4 : decide (0 ≤ (k : Int)) = true := decide_eq_true (by omega)
      clear hx hne HD HML
      go_upto_region 6 with fail
      have HB := Lib.hid (heap_new wr (.cells #[.string xs, .int .i64 xt] 56))
      have HO1 := Lib.hid (HO.out.alloc (.cells #[.string xs, .int .i64 xt] 56))
      have LTB := Lib.hid (fun g (hg : Value.ownBlock _ = some g) => (HO.out.lt g hg).2)
      replace KB := Lib.hid (KB.out.alloc KB.out.size (.cells #[.string xs, .int .i64 xt] 56))
      clear r1 r2 y2 HO HEr
      generalize wr.alloc (.cells #[.string xs, .int .i64 xt] 56) = W1 at HB HO1 KB ⊢
      generalize wr.heap.size = tb at HB LTB ⊢
      have t0 : W1.cell? ⟨tb, 0, none⟩ = some (.string xs) := cell_of_block HB.out rfl
      have t1 : W1.cell? ⟨tb, 1, none⟩ = some (.int .i64 xt) := cell_of_block HB.out rfl
      rcases Bool.eq_false_or_eq_true od with rfl | rfl
      · by_cases e : xs = a
        · subst e
          have e1 : (xs.toList == xs.toList) = true := by simp
          have hmm := HMI.out.1
          go_wp2_with fail
          go_roundw
          case rel => exact ⟨k + 1, m, true, by omega, by omega, by go_num, rfl, Lib.hid (by rw [HST.out]; simp), Lib.hid (by rw [HST.out]; simpa using HO1.out), KB⟩
          case measure => simp [intOf]; omega
        · have e1 : (xs.toList == a.toList) = false := by
            rw [beq_eq_false_iff_ne]
            exact fun h => e (ba_ext (by rw [← Lib.toList_data, ← Lib.toList_data, h]))
          have hmm := HMI.out.1
          have NEW := Lib.hid (tm_new W1 xs (xt) 56)
          have HO5 := Lib.hid (HO1.out.alloc (.cells #[.string xs, .int .i64 (xt)] 56))
          have kA : Below W1.heap.size W1 (W1.alloc (.cells #[.string xs, .int .i64 (xt)] 56)) := (Below.refl _ _).alloc (Nat.le_refl _) _
          have n11 := Lib.hid (show m + 1 ≤ maxLen by unfold maxLen; omega)
          have n22 := Lib.hid (show (m + 1) * 24 ≤ 140737488355328 by omega)
          have n33 := Lib.hid (show w.heap.size ≤ (W1.alloc (.cells #[.string xs, .int .i64 (xt)] 56)).heap.size from Nat.le_trans KB.out.size kA.size)
          have oc := Lib.hid (one_tm xs (xt))
          go_wp2_with (at_builtin; refine wpList_append_own _ rfl _ _ 22 rfl w.heap.size 56 i0 (.agg #[.string ByteArray.empty, .int .i64 0]) 2 24 Try.underlying22 hi0 hz0 hz1 hz2 rfl (by decide) _ _ _ rfl HO5.out ⟨W1.heap.size, 0, none⟩ 1 1 [.string xs, .int .i64 (xt)] rfl rfl NEW.out oc.out n11.out n22.out n33.out ?_)
          intro v' W2 hown' hgrow _
          have HO2 := Lib.hid (show W2.ownsRow w.heap.size 56 2 v' (m + 1) _ from hown')
          have HB2 := Lib.hid ((hgrow.block tb (Nat.lt_of_lt_of_le (lt_of_block HB.out) kA.size) (fun e => absurd (LTB.out tb e.symm) (Nat.lt_irrefl _))).trans (below_block kA (lt_of_block HB.out) HB.out))
          have KB2 := Lib.hid ((KB.out.trans (kA.mono KB.out.size)).grown hgrow n33.out (fun j hj => (HO5.out.lt j hj).1))
          obtain ⟨p2, c2, rfl⟩ := g_slice hown'
          clear hown' hgrow kA HO5 NEW
          go_wp2_with fail
          go_roundw
          case rel => exact ⟨k + 1, m + 1, true, by omega, by omega, by go_num, rfl, Lib.hid (by rw [HST.out]; simp), Lib.hid (by rw [HST.out]; simpa [e, cellsTm] using HO2.out), KB2⟩
          case measure => simp [intOf]; omega
      · have hmm := HMI.out.2 rfl
        rcases hs : sl xs a with _ | _
        · have g1 := fun t => geq_of (x := xs) (y := a) (r := true) (by rw [hs]; rfl) t
          have NEW := Lib.hid (tm_new W1 a (t) 56)
          have HO5 := Lib.hid (HO1.out.alloc (.cells #[.string a, .int .i64 (t)] 56))
          have kA : Below W1.heap.size W1 (W1.alloc (.cells #[.string a, .int .i64 (t)] 56)) := (Below.refl _ _).alloc (Nat.le_refl _) _
          have n11 := Lib.hid (show m + 1 ≤ maxLen by unfold maxLen; omega)
          have n22 := Lib.hid (show (m + 1) * 24 ≤ 140737488355328 by omega)
          have n33 := Lib.hid (show w.heap.size ≤ (W1.alloc (.cells #[.string a, .int .i64 (t)] 56)).heap.size from Nat.le_trans KB.out.size kA.size)
          have oc := Lib.hid (one_tm a (t))
          go_wp2_with (at_builtin; refine wpList_append_own _ rfl _ _ 22 rfl w.heap.size 56 i0 (.agg #[.string ByteArray.empty, .int .i64 0]) 2 24 Try.underlying22 hi0 hz0 hz1 hz2 rfl (by decide) _ _ _ rfl HO5.out ⟨W1.heap.size, 0, none⟩ 1 1 [.string a, .int .i64 (t)] rfl rfl NEW.out oc.out n11.out n22.out n33.out ?_)
          intro v' W2 hown' hgrow _
          have HO2 := Lib.hid (show W2.ownsRow w.heap.size 56 2 v' (m + 1) _ from hown')
          have HB2 := Lib.hid ((hgrow.block tb (Nat.lt_of_lt_of_le (lt_of_block HB.out) kA.size) (fun e => absurd (LTB.out tb e.symm) (Nat.lt_irrefl _))).trans (below_block kA (lt_of_block HB.out) HB.out))
          have KB2 := Lib.hid ((KB.out.trans (kA.mono KB.out.size)).grown hgrow n33.out (fun j hj => (HO5.out.lt j hj).1))
          obtain ⟨p2, c2, rfl⟩ := g_slice hown'
          clear hown' hgrow kA HO5 NEW t0 t1 HO1
          have t0 : W2.cell? ⟨tb, 0, none⟩ = some (.string xs) := cell_of_block HB2.out rfl
          have t1 : W2.cell? ⟨tb, 1, none⟩ = some (.int .i64 xt) := cell_of_block HB2.out rfl
          by_cases e : xs = a
          · subst e
            have e1 : (xs.toList == xs.toList) = true := by simp
            go_wp2_with fail
            go_roundw
            case rel => exact ⟨k + 1, m + 1, true, by omega, by omega, by go_num, rfl, Lib.hid (by rw [HST.out]; simp [hs]), Lib.hid (by rw [HST.out]; simpa [hs, cellsTm] using HO2.out), KB2⟩
            case measure => simp [intOf]; omega
          · have e1 : (xs.toList == a.toList) = false := by
              rw [beq_eq_false_iff_ne]
              exact fun h => e (ba_ext (by rw [← Lib.toList_data, ← Lib.toList_data, h]))
            have LTB2 := Lib.hid (show True from trivial)
            replace KB := KB2
            have NEW := Lib.hid (tm_new W2 xs (xt) 56)
            have HO5 := Lib.hid (HO2.out.alloc (.cells #[.string xs, .int .i64 (xt)] 56))
            have kA : Below W2.heap.size W2 (W2.alloc (.cells #[.string xs, .int .i64 (xt)] 56)) := (Below.refl _ _).alloc (Nat.le_refl _) _
            have n11 := Lib.hid (show (m + 1) + 1 ≤ maxLen by unfold maxLen; omega)
            have n22 := Lib.hid (show ((m + 1) + 1) * 24 ≤ 140737488355328 by omega)
            have n33 := Lib.hid (show w.heap.size ≤ (W2.alloc (.cells #[.string xs, .int .i64 (xt)] 56)).heap.size from Nat.le_trans KB.out.size kA.size)
            have oc := Lib.hid (one_tm xs (xt))
            go_wp2_with (at_builtin; refine wpList_append_own _ rfl _ _ 22 rfl w.heap.size 56 i0 (.agg #[.string ByteArray.empty, .int .i64 0]) 2 24 Try.underlying22 hi0 hz0 hz1 hz2 rfl (by decide) _ _ _ rfl HO5.out ⟨W2.heap.size, 0, none⟩ 1 1 [.string xs, .int .i64 (xt)] rfl rfl NEW.out oc.out n11.out n22.out n33.out ?_)
            intro v' W3 hown' hgrow _
            have HO3 := Lib.hid (show W3.ownsRow w.heap.size 56 2 v' (m + 1 + 1) _ from hown')
            have KB3 := Lib.hid ((KB.out.trans (kA.mono KB.out.size)).grown hgrow n33.out (fun j hj => (HO5.out.lt j hj).1))
            obtain ⟨p3, c3, rfl⟩ := g_slice hown'
            clear hown' hgrow kA HO5 NEW
            go_wp2_with fail
            go_roundw
            case rel => exact ⟨k + 1, m + 1 + 1, true, by omega, by omega, by go_num, rfl, Lib.hid (by rw [HST.out]; simp [hs]), Lib.hid (by rw [HST.out]; simpa [hs, e, cellsTm] using HO3.out), KB3⟩
            case measure => simp [intOf]; omega
        · have g1 := fun t => geq_of (x := xs) (y := a) (r := false) (by rw [hs]; rfl) t
          have e : ¬ xs = a := fun e => sl_ne hs e
          have e1 : (xs.toList == a.toList) = false := by
            rw [beq_eq_false_iff_ne]
            exact fun h => e (ba_ext (by rw [← Lib.toList_data, ← Lib.toList_data, h]))
          have NEW := Lib.hid (tm_new W1 xs (xt) 56)
          have HO5 := Lib.hid (HO1.out.alloc (.cells #[.string xs, .int .i64 (xt)] 56))
          have kA : Below W1.heap.size W1 (W1.alloc (.cells #[.string xs, .int .i64 (xt)] 56)) := (Below.refl _ _).alloc (Nat.le_refl _) _
          have n11 := Lib.hid (show m + 1 ≤ maxLen by unfold maxLen; omega)
          have n22 := Lib.hid (show (m + 1) * 24 ≤ 140737488355328 by omega)
          have n33 := Lib.hid (show w.heap.size ≤ (W1.alloc (.cells #[.string xs, .int .i64 (xt)] 56)).heap.size from Nat.le_trans KB.out.size kA.size)
          have oc := Lib.hid (one_tm xs (xt))
          go_wp2_with (at_builtin; refine wpList_append_own _ rfl _ _ 22 rfl w.heap.size 56 i0 (.agg #[.string ByteArray.empty, .int .i64 0]) 2 24 Try.underlying22 hi0 hz0 hz1 hz2 rfl (by decide) _ _ _ rfl HO5.out ⟨W1.heap.size, 0, none⟩ 1 1 [.string xs, .int .i64 (xt)] rfl rfl NEW.out oc.out n11.out n22.out n33.out ?_)
          intro v' W2 hown' hgrow _
          have HO2 := Lib.hid (show W2.ownsRow w.heap.size 56 2 v' (m + 1) _ from hown')
          have HB2 := Lib.hid ((hgrow.block tb (Nat.lt_of_lt_of_le (lt_of_block HB.out) kA.size) (fun e => absurd (LTB.out tb e.symm) (Nat.lt_irrefl _))).trans (below_block kA (lt_of_block HB.out) HB.out))
          have KB2 := Lib.hid ((KB.out.trans (kA.mono KB.out.size)).grown hgrow n33.out (fun j hj => (HO5.out.lt j hj).1))
          obtain ⟨p2, c2, rfl⟩ := g_slice hown'
          clear hown' hgrow kA HO5 NEW
          go_wp2_with fail
          go_roundw
          case rel => exact ⟨k + 1, m + 1, false, by omega, by omega, by go_num, rfl, Lib.hid (by rw [HST.out]; simp [hs]), Lib.hid (by rw [HST.out]; simpa [hs, e, cellsTm] using HO2.out), KB2⟩
          case measure => simp [intOf]; omega
    · obtain rfl : k = n := by omega
      have HTL : l.take k = l := List.take_of_length_le (by rw [HNN.out]; exact Nat.le_refl _)
      rw [HTL] at HD HO
      have d1 : decide (k < k) = false := decide_eq_false (by omega)
      have d2 : decide ((k : Int) < (k : Int)) = false := decide_eq_false (by omega)
      have fz : wr.frozen? ⟨p, 2, none⟩ = false := free_of_block HEr.out
      clear hlt HTL
      generalize insG a t l = o at HD HO HFI
      obtain ⟨ol, od⟩ := o
      have hod : od = dn := HD.out.symm
      subst hod
      simp only at HO HFI
      rcases Bool.eq_false_or_eq_true od with rfl | rfl
      · have HF := Lib.hid (HQ.out _ m wr (by rw [HFI.out]; simpa using HO.out) KB.out)
        obtain ⟨p6, c6, rfl⟩ := g_slice HO.out
        clear HO HQ HD
        go_wp2_with fail
        exact bodyPost_end (v := .tuple #[]) (by simp [results, Try.results55, go_sem]) rfl HF.out
      · clear HD
        have NEW := Lib.hid (tm_new wr a (t) 56)
        have HO5 := Lib.hid (HO.out.alloc (.cells #[.string a, .int .i64 (t)] 56))
        have kA : Below wr.heap.size wr (wr.alloc (.cells #[.string a, .int .i64 (t)] 56)) := (Below.refl _ _).alloc (Nat.le_refl _) _
        have n11 := Lib.hid (show m + 1 ≤ maxLen by unfold maxLen; omega)
        have n22 := Lib.hid (show (m + 1) * 24 ≤ 140737488355328 by omega)
        have n33 := Lib.hid (show w.heap.size ≤ (wr.alloc (.cells #[.string a, .int .i64 (t)] 56)).heap.size from Nat.le_trans KB.out.size kA.size)
        have oc := Lib.hid (one_tm a (t))
        go_wp2_with (at_builtin; refine wpList_append_own _ rfl _ _ 22 rfl w.heap.size 56 i0 (.agg #[.string ByteArray.empty, .int .i64 0]) 2 24 Try.underlying22 hi0 hz0 hz1 hz2 rfl (by decide) _ _ _ rfl HO5.out ⟨wr.heap.size, 0, none⟩ 1 1 [.string a, .int .i64 (t)] rfl rfl NEW.out oc.out n11.out n22.out n33.out ?_)
        intro v' w6 hown' hgrow _
        have hw6 : Below w.heap.size w w6 := (KB.out.trans (kA.mono KB.out.size)).grown hgrow n33.out (fun j hj => (HO5.out.lt j hj).1)
        have HF := Lib.hid (HQ.out v' (m + 1) w6 (by rw [HFI.out]; simpa [cellsTm] using hown') hw6)
        have z2 : w6.cell? ⟨p, 2, none⟩ = some (.slice q k cp) := cell_of_block (below_block hw6 HPL.out HE.out) rfl
        have fz6 : w6.frozen? ⟨p, 2, none⟩ = false := free_of_block (below_block hw6 HPL.out HE.out)
        obtain ⟨p6, c6, rfl⟩ := g_slice hown'
        clear hown' hgrow hw6 HO5 NEW kA y2 fz HQ
        go_wp2_with fail
        exact bodyPost_end (v := .tuple #[]) (by simp [results, Try.results55, go_sem]) rfl HF.out


theorem tw_of_below {w w' : World} {p : Nat} (k : Below w.heap.size w w') : Tw w w' p p := ⟨k.os, k.tape, k.output, k.size, fun i hi _ _ => k.block i hi⟩
theorem tw_of_drew {w w' : World} {p : Nat} (k : Tw w w' p p) : Tw w w'.drew p p := ⟨k.os, k.tape, k.output, k.size, k.block⟩
theorem bel_tw {p : Nat} {w a b : World} (h : Below w.heap.size w a) (hp : w.heap.size ≤ p) (k : Tw a b p p) : Below w.heap.size w b :=
  ⟨k.os.trans h.os, k.tape.trans h.tape, k.output.trans h.output, Nat.le_trans h.size k.size, fun i hi => (k.block i (Nat.lt_of_lt_of_le hi h.size) (by omega) (by omega)).trans (h.block i hi)⟩

set_option maxHeartbeats 4000000 in
set_option maxRecDepth 100000 in
theorem all17_c {w : World} {p : Nat} {ex : Bool} {tm : Int} {l : List Tm} (h : HasS17 w p ex tm l) (v : Value) (r : List ByteArray) (ha : AddrsAt w v r) (hl : l.length + r.length ≤ 900) (t : Int) :
    Calls Try.prog 51 #[.pointer (some ⟨p, 0, none⟩), v, .int .i64 t] w (PuPost p ex tm (allS l r t) w) := by
  have HS0 := Lib.hid h
  have HA := Lib.hid (fun U (k : Tw w U p p) => h.addrs k ha)
  obtain ⟨q, c, rfl⟩ := ha.slice
  obtain ⟨n, hn⟩ : ∃ n, n = r.length := ⟨_, rfl⟩
  have HNN := Lib.hid hn
  rw [← hn] at HA hl ⊢
  have HLN := Lib.hid (fun k => allS_len t (r.take k) l)
  have HQ := Lib.hid (show ∀ U, HasS17 U p ex tm (allS l r t) → Tw w U p p → PuPost p ex tm (allS l r t) w (.returned (.tuple #[])) U from fun U h1 h2 => ⟨rfl, h1, h2⟩)
  have HTK := Lib.hid (fun k s (hs : r[k]? = some s) => allS_take l t hs)
  have HFIN := Lib.hid (show allS l (r.take n) t = allS l r t by rw [List.take_of_length_le (by rw [hn]; exact Nat.le_refl _)])
  generalize PuPost p ex tm (allS l r t) w = Q at HQ ⊢
  clear h ha hn
  go_enter Try.func51, Try.ntmps51
  go_wp2_with fail
  go_loopw [6] (fun i wr => ∃ k : Nat, k ≤ n ∧ i = .int .i64 k ∧ Hid (HasS17 wr p ex tm (allS l (r.take k) t)) ∧ Hid (Tw w wr p p)) (fun i _ => n - (intOf i).toNat)
  case atStart => exact ⟨0, Nat.zero_le _, rfl, HS0, Lib.hid (Tw.refl _ _ _)⟩
  case round =>
    clear HS0
    obtain ⟨k, hk, rfl, HS, HT⟩ := hrel
    by_cases hlt : k < n
    · obtain ⟨s, hx⟩ : ∃ s, r[k]? = some s := ⟨_, List.getElem?_eq_getElem (by rw [← HNN.out]; exact hlt)⟩
      have hne : r ≠ [] := by rintro rfl; simp at hx
      obtain ⟨q1, c1, b, off, hv, hp, hc⟩ := HA.out wr HT.out
      rw [← HNN.out] at hv
      cases hv
      obtain rfl := (hp hne).1
      have x0 := hc k s hx
      have PC := Lib.hid (put17_c HS.out (by have h1 := HLN.out k; rw [List.length_take] at h1; omega) s t)
      have HTK1 := Lib.hid (HTK.out k s hx)
      unfold PuPost at PC
      have d1 : decide (k < n) = true := decide_eq_true hlt
      have d2 : decide ((k : Int) < (n : Int)) = true := decide_eq_true (by omega)
      have d4 : decide (0 ≤ (k : Int)) = true := decide_eq_true (by omega)
      clear hx hne hp hc HA
      go_wp2_with fail
      ((with_reducible refine PC.out.mono ?_); rintro e w3 ⟨rfl, h3, k3⟩)
      have H3 := Lib.hid (show HasS17 w3 p ex tm (allS l (r.take (k + 1)) t) by rw [HTK1.out]; exact h3)
      have T3 := Lib.hid (HT.out.trans k3)
      clear x0 PC h3 k3 HS HT HTK1
      go_wp2_with fail
      go_roundw
      case rel => exact ⟨k + 1, by omega, by go_num, H3, T3⟩
      case measure => simp [intOf]; omega
    · obtain rfl : k = n := by omega
      rw [HFIN.out] at HS
      have HF := Lib.hid (HQ.out _ HS.out HT.out)
      have d1 : decide (k < k) = false := decide_eq_false (by omega)
      clear hlt HQ HS
      go_wp2_with fail
      exact bodyPost_end (v := .tuple #[]) (by simp [results, Try.results51, go_sem]) rfl HF.out

set_option maxHeartbeats 8000000 in
set_option maxRecDepth 100000 in
theorem kept17_c {w : World} {p : Nat} {ex : Bool} {tm : Int} {l : List Tm} (h : HasS17 w p ex tm l) (v : Value) (r : List ByteArray) (ha : AddrsAt w v r) (hl : l.length + r.length ≤ 900) (ex2 : Bool) (tm2 : Int) (v2 : Value) (o : List Tm) (ho : o.length ≤ 1000000) (hr : RowsAt 2 cellsTm w v2 o) :
    Calls Try.prog 50 #[.pointer (some ⟨p, 0, none⟩), v, .agg #[.bool ex2, .int .i64 tm2, v2]] w (PuPost p ex tm (keptS l r o) w) := by
  obtain ⟨q, c, rfl⟩ := ha.slice
  obtain ⟨q2, c2, rfl⟩ := hr.slice
  obtain ⟨n, hn⟩ : ∃ n, n = r.length := ⟨_, rfl⟩
  obtain ⟨no, hno⟩ : ∃ no, no = o.length := ⟨_, rfl⟩
  have HNN := Lib.hid hn
  rw [← hn] at ha hl ⊢
  rw [← hno] at hr ⊢
  have B0 : Below w.heap.size w (w.alloc (.cells #[.bool ex2, .int .i64 tm2, .slice q2 no c2] 24)) := (Below.refl _ _).alloc (Nat.le_refl _) _
  have HS0 := Lib.hid (h.below B0)
  have HE := Lib.hid (heap_new w (.cells #[.bool ex2, .int .i64 tm2, .slice q2 no c2] 24))
  have HPB := Lib.hid (show w.heap.size ≠ p from Ne.symm (Nat.ne_of_lt h.lt))
  have HA0 := Lib.hid (ha.below B0)
  have HR0 := Lib.hid (hr.below B0)
  have HQ := Lib.hid (show ∀ U, HasS17 U p ex tm (keptS l r o) → Tw (w.alloc (.cells #[.bool ex2, .int .i64 tm2, .slice q2 no c2] 24)) U p p → PuPost p ex tm (keptS l r o) w (.returned (.tuple #[])) U from fun U h1 h2 => ⟨rfl, h1, (tw_of_below B0).trans h2⟩)
  have HLN := Lib.hid (fun k => keptS_len o (r.take k) l)
  have HTK := Lib.hid (fun k s (hs : r[k]? = some s) => keptS_take l o hs)
  have HFIN := Lib.hid (show keptS l (r.take n) o = keptS l r o by rw [List.take_of_length_le (by rw [hn]; exact Nat.le_refl _)])
  generalize PuPost p ex tm (keptS l r o) w = Q at HQ ⊢
  have HNO := Lib.hid hno
  clear h ha hn hr B0 hno
  go_enter Try.func50, Try.ntmps50
  go_upto_region 1 with fail
  generalize w.alloc (.cells #[.bool ex2, .int .i64 tm2, .slice q2 no c2] 24) = W at HS0 HE HA0 HR0 HQ ⊢
  generalize w.heap.size = sb at HE HPB ⊢
  have HA := Lib.hid (fun U (k : Tw W U p p) => HS0.out.addrs k HA0.out)
  have HR := Lib.hid (fun U (k : Tw W U p p) => HS0.out.rows k HR0.out)
  have HX := Lib.hid (fun U (k : Tw W U p p) => (k.block sb (lt_of_block HE.out) HPB.out HPB.out).trans HE.out)
  clear HA0 HR0 HE
  go_wp2_with fail
  go_loopw [6] (fun i wr => ∃ k : Nat, k ≤ n ∧ i = .int .i64 k ∧ Hid (HasS17 wr p ex tm (keptS l (r.take k) o)) ∧ Hid (Tw W wr p p)) (fun i _ => n - (intOf i).toNat)
  case atStart => exact ⟨0, Nat.zero_le _, rfl, HS0, Lib.hid (Tw.refl _ _ _)⟩
  case round =>
    clear HS0
    obtain ⟨k, hk, rfl, HS, HT⟩ := hrel
    by_cases hlt : k < n
    · obtain ⟨s, hx⟩ : ∃ s, r[k]? = some s := ⟨_, List.getElem?_eq_getElem (by rw [← HNN.out]; exact hlt)⟩
      have hne : r ≠ [] := by rintro rfl; simp at hx
      obtain ⟨q1, c1, b, off, hv, hp, hc⟩ := HA.out wr HT.out
      rw [← HNN.out] at hv
      cases hv
      obtain rfl := (hp hne).1
      have KF := Lib.hid (show ∀ U, Tw wr U p p → U.cell? ⟨b, off + k, none⟩ = some (.string s) ∧ U.cell? ⟨sb, 0, none⟩ = some (.bool ex2) ∧ U.cell? ⟨sb, 1, none⟩ = some (.int .i64 tm2) ∧ U.cell? ⟨sb, 2, none⟩ = some (.slice q2 no c2) from fun U kU => by
        have hB := HX.out U (HT.out.trans kU)
        obtain ⟨q9, c9, b9, off9, hv9, hp9, hc9⟩ := HA.out U (HT.out.trans kU)
        cases hv9
        have h9 := (hp9 hne).1
        cases h9
        exact ⟨hc9 k s hx, cell_of_block hB rfl, cell_of_block hB rfl, cell_of_block hB rfl⟩)
      have AT := Lib.hid (fun U (kU : Tw wr U p p) => at17_c ex2 tm2 (.slice q2 no c2) o s U ho (HR.out U (HT.out.trans kU)))
      have hlen : (keptS l (r.take k) o).length ≤ 1000 := by have h1 := HLN.out k; rw [List.length_take] at h1; omega
      have HTK1 := Lib.hid (HTK.out k s hx)
      have kk : Tw wr wr.drew p p := tw_of_drew (Tw.refl _ _ _)
      have d1 : decide (k < n) = true := decide_eq_true hlt
      have d2 : decide ((k : Int) < (n : Int)) = true := decide_eq_true (by omega)
      have d4 : decide (0 ≤ (k : Int)) = true := decide_eq_true (by omega)
      have d5 : (0 : Int) ≤ (k : Int) := by omega
      have d6 : (k : Int) < (n : Int) := by omega
      have HSn := HS.out.below (show Below wr.heap.size wr wr.drew from (Below.refl _ _).drew)
      generalize keptS l (r.take k) o = cur at HS HSn hlen HTK1
      clear hx hne hp hc
      go_upto_region 4 with fail
      refine wp_region_held_drew (S := fun U => U.cell? ⟨b, off + k, none⟩ = some (.string s) ∧ U.cell? ⟨sb, 0, none⟩ = some (.bool ex2) ∧ U.cell? ⟨sb, 1, none⟩ = some (.int .i64 tm2) ∧ U.cell? ⟨sb, 2, none⟩ = some (.slice q2 no c2)) (by kernel_rfl) (KF.out _ kk) (fun hH => ?_)
      generalize wr.drew = Y0 at hH kk HSn ⊢
      refine wpAnyH_take (i := 0) (oi := { dst := some 13, op := Op.move (Operand.tmp 0), type := 86, pos := "ref.go:81", after := #[], guard := none }) (v := .pointer (some ⟨p, 0, none⟩)) rfl (by kernel_rfl) (by kernel_rfl) (by kernel_rfl) (fun _ _ _ h => h) (Or.inl ⟨by kernel_rfl, ?_⟩) hH ?_
      · intro w hSw; (try dsimp only at hSw); go_simp; (try rfl)
      try simp only [Act.put, List.setIfInBounds_toArray, List.set_cons_zero, List.set_cons_succ]
      refine wpAnyH_take (i := 1) (oi := { dst := some 14, op := Op.move (Operand.tmp 1), type := 35, pos := "ref.go:81", after := #[], guard := none }) (v := .slice (some ⟨b, off, none⟩) n c) rfl (by kernel_rfl) (by kernel_rfl) (by kernel_rfl) (fun _ _ _ h => h) (Or.inl ⟨by kernel_rfl, ?_⟩) hH ?_
      · intro w hSw; (try dsimp only at hSw); go_simp; (try rfl)
      try simp only [Act.put, List.setIfInBounds_toArray, List.set_cons_zero, List.set_cons_succ]
      refine wpAnyH_take (i := 2) (oi := { dst := some 15, op := Op.move (Operand.tmp 6), type := 3, pos := "ref.go:81", after := #[], guard := none }) (v := .int .i64 (k : Int)) rfl (by kernel_rfl) (by kernel_rfl) (by kernel_rfl) (fun _ _ _ h => h) (Or.inl ⟨by kernel_rfl, ?_⟩) hH ?_
      · intro w hSw; (try dsimp only at hSw); go_simp; (try rfl)
      try simp only [Act.put, List.setIfInBounds_toArray, List.set_cons_zero, List.set_cons_succ]
      refine wpAnyH_take (i := 3) (oi := { dst := some 16, op := Op.indexAddr 35 (Operand.tmp 14) (Operand.tmp 15), type := 0, pos := "ref.go:81", after := #[{ on := 1, ground := Ground.data }, { on := 2, ground := Ground.data }], guard := none }) (v := .pointer (some ⟨b, off + k, none⟩)) rfl (by kernel_rfl) (by kernel_rfl) (by kernel_rfl) (fun _ _ _ h => h) (Or.inl ⟨by kernel_rfl, ?_⟩) hH ?_
      · intro w hSw; (try dsimp only at hSw); go_simp; (try rfl)
      try simp only [Act.put, List.setIfInBounds_toArray, List.set_cons_zero, List.set_cons_succ]
      refine wpAnyH_take (i := 4) (oi := { dst := some 17, op := Op.load 25 (Operand.tmp 16), type := 25, pos := "ref.go:81", after := #[{ on := 3, ground := Ground.data }], guard := none }) (v := .string s) rfl (by kernel_rfl) (by kernel_rfl) (by kernel_rfl) (fun _ _ _ h => h) (Or.inl ⟨by kernel_rfl, ?_⟩) hH ?_
      · intro w hSw; (try dsimp only at hSw); go_simp; (try rfl)
      try simp only [Act.put, List.setIfInBounds_toArray, List.set_cons_zero, List.set_cons_succ]
      refine wpAnyH_take (i := 5) (oi := { dst := some 18, op := Op.load 24 (Operand.tmp 5), type := 24, pos := "ref.go:81", after := #[], guard := none }) (v := .agg #[.bool ex2, .int .i64 tm2, .slice q2 no c2]) rfl (by kernel_rfl) (by kernel_rfl) (by kernel_rfl) (fun _ _ _ h => h) (Or.inl ⟨by kernel_rfl, ?_⟩) hH ?_
      · intro w hSw; (try dsimp only at hSw); go_simp; (try rfl)
      try simp only [Act.put, List.setIfInBounds_toArray, List.set_cons_zero, List.set_cons_succ]
      refine wpAnyH_take (i := 6) (oi := { dst := some 19, op := Op.move (Operand.tmp 1), type := 35, pos := "ref.go:81", after := #[], guard := none }) (v := .slice (some ⟨b, off, none⟩) n c) rfl (by kernel_rfl) (by kernel_rfl) (by kernel_rfl) (fun _ _ _ h => h) (Or.inl ⟨by kernel_rfl, ?_⟩) hH ?_
      · intro w hSw; (try dsimp only at hSw); go_simp; (try rfl)
      try simp only [Act.put, List.setIfInBounds_toArray, List.set_cons_zero, List.set_cons_succ]
      refine wpAnyH_take (i := 7) (oi := { dst := some 20, op := Op.move (Operand.tmp 6), type := 3, pos := "ref.go:81", after := #[], guard := none }) (v := .int .i64 (k : Int)) rfl (by kernel_rfl) (by kernel_rfl) (by kernel_rfl) (fun _ _ _ h => h) (Or.inl ⟨by kernel_rfl, ?_⟩) hH ?_
      · intro w hSw; (try dsimp only at hSw); go_simp; (try rfl)
      try simp only [Act.put, List.setIfInBounds_toArray, List.set_cons_zero, List.set_cons_succ]
      refine wpAnyH_take (i := 8) (oi := { dst := some 21, op := Op.indexAddr 35 (Operand.tmp 19) (Operand.tmp 20), type := 0, pos := "ref.go:81", after := #[{ on := 6, ground := Ground.data }, { on := 7, ground := Ground.data }], guard := none }) (v := .pointer (some ⟨b, off + k, none⟩)) rfl (by kernel_rfl) (by kernel_rfl) (by kernel_rfl) (fun _ _ _ h => h) (Or.inl ⟨by kernel_rfl, ?_⟩) hH ?_
      · intro w hSw; (try dsimp only at hSw); go_simp; (try rfl)
      try simp only [Act.put, List.setIfInBounds_toArray, List.set_cons_zero, List.set_cons_succ]
      refine wpAnyH_take (i := 9) (oi := { dst := some 22, op := Op.load 25 (Operand.tmp 21), type := 25, pos := "ref.go:81", after := #[{ on := 8, ground := Ground.data }], guard := none }) (v := .string s) rfl (by kernel_rfl) (by kernel_rfl) (by kernel_rfl) (fun _ _ _ h => h) (Or.inl ⟨by kernel_rfl, ?_⟩) hH ?_
      · intro w hSw; (try dsimp only at hSw); go_simp; (try rfl)
      try simp only [Act.put, List.setIfInBounds_toArray, List.set_cons_zero, List.set_cons_succ]
      refine wpAnyH_ready (rs := [10]) (by kernel_rfl) (by simp) ?_
      refine AllReadyH.cons rfl (fun K hK => ?_) AllReadyH.nil
      go_simp
      with_reducible refine (AT.out _ kk).mono ?_
      rintro e Y1 ⟨rfl, hb⟩
      (try go_wp2_with fail)
      replace HSn := HSn.below hb
      replace kk := kk.trans (tw_of_below hb)
      clear hb
      refine hK.out _ _ (KF.out _ kk) (fun hH => ?_)
      clear hK K
      try simp only [Act.put, List.setIfInBounds_toArray, List.set_cons_zero, List.set_cons_succ]
      refine wpAnyH_ready (rs := [11]) (by kernel_rfl) (by simp) ?_
      refine AllReadyH.cons rfl (fun K hK => ?_) AllReadyH.nil
      go_simp
      have PC := put17_c HSn hlen s (getR o s)
      unfold PuPost at PC
      with_reducible refine PC.mono ?_
      rintro e Y2 ⟨rfl, hs9, kt⟩
      (try go_wp2_with fail)
      replace kk := kk.trans kt
      refine hK.out _ _ (KF.out _ kk) (fun hH => ?_)
      clear hK K
      try simp only [Act.put, List.setIfInBounds_toArray, List.set_cons_zero, List.set_cons_succ]
      refine wpAnyH_done (by kernel_rfl) ?_ _
      have H3 := Lib.hid (show HasS17 Y2 p ex tm (keptS l (r.take (k + 1)) o) by rw [HTK1.out]; exact hs9)
      have T3 := Lib.hid (HT.out.trans kk)
      clear hs9 kk HS HT HTK1 hH
      go_wp2_with fail
      go_roundw
      case rel => exact ⟨k + 1, by omega, by go_num, H3, T3⟩
      case measure => simp [intOf]; omega
    · obtain rfl : k = n := by omega
      rw [HFIN.out] at HS
      have HF := Lib.hid (HQ.out _ HS.out HT.out)
      have d1 : decide (k < k) = false := decide_eq_false (by omega)
      clear hlt HQ HS
      go_wp2_with fail
      exact bodyPost_end (v := .tuple #[]) (by simp [results, Try.results50, go_sem]) rfl HF.out

set_option maxHeartbeats 4000000 in
set_option maxRecDepth 100000 in
theorem join17_c (va vb : Value) (A B : List ByteArray) (w : World) (hA : A.length ≤ 1000) (hB : B.length ≤ 1000) (ha : AddrsAt w va A) (hb : AddrsAt w vb B) :
    Calls Try.prog 53 #[va, vb] w (MPost (ris (A ++ B)) w) := by
  have HA := Lib.hid ha
  have HB := Lib.hid hb
  unfold MPost
  have HR := Lib.hid (fun v U (h : AddrsAt U v (A ++ B)) => rris_c v (A ++ B) U (by rw [List.length_append]; omega) h)
  unfold MPost at HR
  generalize ris (A ++ B) = R at HR ⊢
  go_enter Try.func53, Try.ntmps53
  go_wp2_with (at_builtin; refine wpList_append_addrs rfl _ _ rfl w.heap.size _ 0 [] rfl (World.ownsRow_nil _ _ _ _) _ A rfl HA.out ?a1 ?a2 ?a3 ?_)
  case a1 => unfold maxLen; omega
  case a2 => omega
  case a3 => exact Nat.le_refl _
  intro v1 w1 hown1 hg1
  have O1 := Lib.hid (show w1.ownsRow w.heap.size 25 1 v1 A.length (A.map Value.string) by simpa using hown1)
  have k1 : Below w.heap.size w w1 := ⟨hg1.os, hg1.tape, hg1.output, hg1.size, fun k hk => hg1.block k hk (by simp [Value.ownBlock])⟩
  have K1 := Lib.hid k1
  have HB1 := Lib.hid (HB.out.below k1)
  obtain ⟨p1, c1, rfl⟩ := g_slice O1.out
  clear hown1 hg1 k1 ha hb
  go_wp2_with (at_builtin; refine wpList_append_addrs rfl _ _ rfl w.heap.size _ A.length (A.map Value.string) rfl O1.out _ B rfl HB1.out ?b1 ?b2 ?b3 ?_)
  case b1 => unfold maxLen; omega
  case b2 => omega
  case b3 => exact K1.out.size
  intro v2 w2 hown2 hg2
  have O2 := Lib.hid (show w2.ownsRow w.heap.size 25 1 v2 (A.length + B.length) ((A ++ B).map Value.string) by rw [List.map_append]; exact hown2)
  have K2 := Lib.hid (K1.out.grown hg2 K1.out.size (fun j hj => (O1.out.lt j hj).1))
  have A2 := Lib.hid (AddrsG.of_owns (l := A ++ B) O2.out).at
  obtain ⟨p2, c2, rfl⟩ := g_slice O2.out
  clear hown2 hg2
  have R2 := Lib.hid (HR.out _ w2 A2.out)
  go_wp2_with fail
  ((with_reducible refine R2.out.mono ?_); rintro e w3 ⟨v3, rfl, a3, k3⟩)
  go_wp2_with fail
  go_ret
  exact ⟨_, rfl, a3.mono K2.out.size id, K2.out.trans (k3.mono K2.out.size)⟩


def namesR (l : List Tm) : List ByteArray := nmS (l.filter fun x => decide (x.2 = 0) == false)
def namesB (l : List Tm) : List ByteArray := nmS (l.filter fun x => decide (x.2 = 0) == true)
theorem names_len (l : List Tm) : (namesR l).length ≤ l.length ∧ (namesB l).length ≤ l.length := by
  unfold namesR namesB
  rw [nm_len, nm_len]
  exact ⟨List.length_filter_le _ _, List.length_filter_le _ _⟩
theorem namesR_c (ex : Bool) (tm : Int) (v : Value) (l : List Tm) (w : World) (hl : l.length ≤ 1000000) (h1 : RowsAt 2 cellsTm w v l) :
    Calls Try.prog 28 #[.agg #[.bool ex, .int .i64 tm, v], .bool false] w fun e w' => ∃ u, e = .returned u ∧ AddrsAt w' u (namesR l) ∧ Below w.heap.size w w' := names17_c ex tm v l false w hl h1
theorem namesB_c (ex : Bool) (tm : Int) (v : Value) (l : List Tm) (w : World) (hl : l.length ≤ 1000000) (h1 : RowsAt 2 cellsTm w v l) :
    Calls Try.prog 28 #[.agg #[.bool ex, .int .i64 tm, v], .bool true] w fun e w' => ∃ u, e = .returned u ∧ AddrsAt w' u (namesB l) ∧ Below w.heap.size w w' := names17_c ex tm v l true w hl h1
/-- P17.2, of a state without Except, and of one with. -/
def somP (l : List Tm) (kd : Int) (r : List ByteArray) (m : Int) : Cg :=
  if kd = 1 ∨ kd = 5 then ⟨false, 0, allS (keptS [] (namesR l) l) r m, false, []⟩
  else if kd = 3 then ⟨false, 0, allS (keptS [] (namesR l) l) r m, false, lessF (namesR l) r⟩
  else if kd = 6 then ⟨false, 0, keptS [] (namesR l) l, false, bothF (namesR l) r⟩
  else if kd = 4 then ⟨true, m, keptS (allS [] r 0) (bothF (namesR l) r) l, false, bothF (namesR l) r⟩
  else ⟨true, m, keptS (allS [] r 0) (bothF (namesR l) r) l, false, []⟩
def restP (l : List Tm) (r : List ByteArray) : List ByteArray := lessF r (ris (namesR l ++ namesB l))
def butP (tm : Int) (l : List Tm) (kd : Int) (r : List ByteArray) (m : Int) : Cg :=
  if kd = 1 ∨ kd = 5 then ⟨true, tm, allS (allS (keptS [] (namesR l) l) (lessF (namesB l) r) 0) r m, false, []⟩
  else if kd = 3 then ⟨true, tm, allS (allS (keptS [] (namesR l) l) (lessF (namesB l) r) 0) r m, true, lessF (namesR l) r⟩
  else if kd = 6 then ⟨true, tm, allS (keptS (allS [] (namesB l) 0) (namesR l) l) (restP l r) tm, false, lessF r (namesB l)⟩
  else if kd = 4 then ⟨true, m, allS (allS (keptS (allS [] (bothF (namesB l) r) 0) (bothF (namesR l) r) l) (restP l r) m) (restP l r) tm, false, lessF r (namesB l)⟩
  else ⟨true, m, allS (keptS (allS [] (bothF (namesB l) r) 0) (bothF (namesR l) r) l) (restP l r) m, false, []⟩
def CgPost (C : Cg) (w : World) (e : Ending) (w' : World) : Prop := ∃ vs va, e = .returned (.tuple #[.agg #[.bool C.ex, .int .i64 C.tm, vs], .agg #[.bool C.ag, va]]) ∧ RowsAt 2 cellsTm w' vs C.src ∧ AddrsAt w' va C.al ∧ Below w.heap.size w w'

theorem tw_set (w : World) (p j : Nat) (u : Value) : Tw w (w.setCell ⟨p, j, none⟩ u) p p := ⟨rfl, rfl, rfl, by simp [World.setCell], fun i _ h1 _ => Below.heap_setCell _ _ _ _ h1⟩
theorem HasS17.set0 {w : World} {p : Nat} {ex b : Bool} {tm : Int} {l : List Tm} (h : HasS17 w p ex tm l) : HasS17 (w.setCell ⟨p, 0, none⟩ (.bool b)) p b tm l := by
  obtain ⟨q, c, h1, h2⟩ := h.slice
  exact ⟨_, heap_store (j := 0) (v := .bool b) h1, rows_tw h2 h1 no_str (tw_set w p 0 _)⟩
theorem HasS17.set1 {w : World} {p : Nat} {ex : Bool} {tm t : Int} {l : List Tm} (h : HasS17 w p ex tm l) : HasS17 (w.setCell ⟨p, 1, none⟩ (.int .i64 t)) p ex t l := by
  obtain ⟨q, c, h1, h2⟩ := h.slice
  exact ⟨_, heap_store (j := 1) (v := .int .i64 t) h1, rows_tw h2 h1 no_str (tw_set w p 1 _)⟩
theorem no_str2 {b : Bool} {p : Option Addr} {n c : Nat} : ∀ (j : Nat) s, (#[Value.bool b, .slice p n c] : Array Value)[j]? ≠ some (.string s) := by
  intro j s h
  rcases j with _ | _ | j <;> simp at h
theorem HasS17.far {w w' : World} {p d : Nat} {ex : Bool} {tm : Int} {l : List Tm} {xs : Array Value} {t : TypeId} {f : Nat × Nat} (h : HasS17 w p ex tm l) (hd : w.heap[d]? = some (.cells xs t f)) (hx : ∀ (j : Nat) s, xs[j]? ≠ some (.string s)) (k : Tw w w' d d) (hne : p ≠ d) : HasS17 w' p ex tm l := by
  obtain ⟨v, h1, h2⟩ := h
  exact ⟨v, (k.block p (lt_of_block h1) hne hne).trans h1, rows_tw h2 hd hx k⟩
theorem blk_tw {w w' : World} {p d : Nat} {o : Obj} (k : Tw w w' d d) (h : w.heap[p]? = some o) (hne : p ≠ d) : w'.heap[p]? = some o := (k.block p (lt_of_block h) hne hne).trans h
theorem addrs_slice3 {w : World} {v : Value} {l : List ByteArray} (h : AddrsAt w v l) : ∃ q n c, v = .slice q n c := by
  obtain ⟨q, c, rfl⟩ := h.slice
  exact ⟨_, _, _, rfl⟩
theorem rows_slice3 {w : World} {v : Value} {l : List Tm} (h : RowsAt 2 cellsTm w v l) : ∃ q n c, v = .slice q n c := by
  obtain ⟨q, c, rfl⟩ := h.slice
  exact ⟨_, _, _, rfl⟩
theorem HasS17.new (w : World) (ex : Bool) (tm : Int) : HasS17 (w.alloc (.cells #[.bool ex, .int .i64 tm, .slice none 0 0] 24)) w.heap.size ex tm [] := ⟨_, heap_new w _, RowsAt.nil _⟩


def stepA (e : Int) (l : List Tm) (a : ByteArray) : List Tm := if e < getR l a then putS l a e else l
def askS (l : List Tm) (al : List ByteArray) (e : Int) : List Tm := al.foldl (stepA e) l
theorem askS_take {al : List ByteArray} {k : Nat} {a : ByteArray} (l : List Tm) (e : Int) (h : al[k]? = some a) : askS l (al.take (k + 1)) e = stepA e (askS l (al.take k) e) a := by
  unfold askS
  rw [List.take_add_one, h, List.foldl_append]; rfl
theorem stepA_len (e : Int) (l : List Tm) (a : ByteArray) : (stepA e l a).length ≤ l.length + 1 := by
  unfold stepA
  split
  · exact putS_len _ _ _
  · omega
theorem askS_len (e : Int) : ∀ (al : List ByteArray) (l : List Tm), (askS l al e).length ≤ l.length + al.length
  | [], l => Nat.le_refl _
  | a :: al, l => by
    show (askS (stepA e l a) al e).length ≤ _
    have h := askS_len e al (stepA e l a)
    have h1 := stepA_len e l a
    rw [List.length_cons]; omega

def AkPost (ex : Bool) (tm : Int) (l : List Tm) (w : World) (en : Ending) (w' : World) : Prop := ∃ u, en = .returned (.agg #[.bool ex, .int .i64 tm, u]) ∧ RowsAt 2 cellsTm w' u l ∧ Below w.heap.size w w'

set_option maxHeartbeats 8000000 in
set_option maxRecDepth 100000 in
theorem asked17_c (ex : Bool) (tm : Int) (v : Value) (l : List Tm) (ag : Bool) (va : Value) (al : List ByteArray) (e : Int) (w : World) (hl : l.length ≤ 100) (hal : al.length ≤ 100) (hR : RowsAt 2 cellsTm w v l) (hA : AddrsAt w va al) :
    Calls Try.prog 38 #[.agg #[.bool ex, .int .i64 tm, v], .agg #[.bool ag, va], .int .i64 e] w (AkPost ex (if ag then min tm e else tm) (askS l al e) w) := by
  obtain ⟨aq, ac, rfl⟩ := hA.slice
  obtain ⟨n, hn⟩ : ∃ n, n = al.length := ⟨_, rfl⟩
  have HNN := Lib.hid hn
  rw [← hn] at hA hal ⊢
  have k0 : Below w.heap.size w (((w.alloc (.cells #[.bool ex, .int .i64 tm, v] 24)).alloc (.cells #[.bool ag, .slice aq n ac] 47)).alloc (.cells #[.bool false, .int .i64 0, .slice none 0 0] 24)) := (((Below.refl _ _).alloc (Nat.le_refl _) _).alloc (by simp) _).alloc (by simp; omega) _
  have K0 := Lib.hid k0
  have HP0 := Lib.hid (show HasS17 (((w.alloc (.cells #[.bool ex, .int .i64 tm, v] 24)).alloc (.cells #[.bool ag, .slice aq n ac] 47)).alloc (.cells #[.bool false, .int .i64 0, .slice none 0 0] 24)) w.heap.size ex tm l from ⟨v, heap_old (heap_old (heap_new w (.cells #[.bool ex, .int .i64 tm, v] 24))), hR.below k0⟩)
  have HK0 := Lib.hid (show (((w.alloc (.cells #[.bool ex, .int .i64 tm, v] 24)).alloc (.cells #[.bool ag, .slice aq n ac] 47)).alloc (.cells #[.bool false, .int .i64 0, .slice none 0 0] 24)).heap[w.heap.size + 1]? = some (.cells #[.bool ag, .slice aq n ac] 47) from heap_old (by simpa using heap_new (w.alloc (.cells #[.bool ex, .int .i64 tm, v] 24)) (.cells #[.bool ag, .slice aq n ac] 47)))
  have HZ0 := Lib.hid (show (((w.alloc (.cells #[.bool ex, .int .i64 tm, v] 24)).alloc (.cells #[.bool ag, .slice aq n ac] 47)).alloc (.cells #[.bool false, .int .i64 0, .slice none 0 0] 24)).heap[w.heap.size + 1 + 1]? = some (.cells #[.bool false, .int .i64 0, .slice none 0 0] 24) from by simpa using heap_new ((w.alloc (.cells #[.bool ex, .int .i64 tm, v] 24)).alloc (.cells #[.bool ag, .slice aq n ac] 47)) (.cells #[.bool false, .int .i64 0, .slice none 0 0] 24))
  have HA0 := Lib.hid (hA.below k0)
  have gz := Lib.hid (show w.heap.size ≤ w.heap.size + 1 + 1 from by omega)
  have nkp := Lib.hid (show w.heap.size + 1 ≠ w.heap.size from by omega)
  have nzp := Lib.hid (show w.heap.size + 1 + 1 ≠ w.heap.size from by omega)
  have HLN := Lib.hid (fun k => askS_len e (al.take k) l)
  have HTK := Lib.hid (fun k s (hs : al[k]? = some s) => askS_take l e hs)
  have HFIN := Lib.hid (show askS l (al.take n) e = askS l al e by rw [List.take_of_length_le (by rw [hn]; exact Nat.le_refl _)])
  have hl1 := Lib.hid hl
  have hal1 := Lib.hid hal
  have HQ := Lib.hid (show ∀ U u, RowsAt 2 cellsTm U u (askS l al e) → Below w.heap.size w U → AkPost ex (if ag then min tm e else tm) (askS l al e) w (.returned (.agg #[.bool ex, .int .i64 (if ag then min tm e else tm), u])) U from fun U u h1 h2 => ⟨u, rfl, h1, h2⟩)
  generalize AkPost ex (if ag then min tm e else tm) (askS l al e) w = Q at HQ ⊢
  clear k0 hR hA hl hal hn
  go_enter Try.func38, Try.ntmps38
  go_upto_region 1 with fail
  generalize ((w.alloc (.cells #[.bool ex, .int .i64 tm, v] 24)).alloc (.cells #[.bool ag, .slice aq n ac] 47)).alloc (.cells #[.bool false, .int .i64 0, .slice none 0 0] 24) = W at HP0 HK0 HZ0 HA0 K0 ⊢
  generalize hzb : w.heap.size + 1 + 1 = zb at HZ0 gz nzp ⊢
  generalize w.heap.size + 1 = kb at HK0 nkp ⊢
  clear hzb
  obtain ⟨p, hp0⟩ : ∃ p, p = w.heap.size := ⟨_, rfl⟩
  have gpp := Lib.hid (show w.heap.size ≤ p from Nat.le_of_eq hp0.symm)
  rw [← hp0] at HP0 nkp nzp
  simp only [← hp0]
  clear hp0
  have HA := Lib.hid (fun U (k : Tw W U p p) => HP0.out.addrs k HA0.out)
  have HK := Lib.hid (fun U (k : Tw W U p p) => blk_tw k HK0.out nkp.out)
  have HZ := Lib.hid (fun U (k : Tw W U p p) => blk_tw k HZ0.out nzp.out)
  clear HA0 HK0 HZ0
  go_wp2_with fail
  go_loopw [7, 8] (fun i _ wr => ∃ k : Nat, k ≤ n ∧ i = .int .i64 k ∧ Hid (HasS17 wr p ex tm (askS l (al.take k) e)) ∧ Hid (Tw W wr p p)) (fun i _ _ => n - (intOf i).toNat)
  case atStart => exact ⟨0, Nat.zero_le _, rfl, HP0, Lib.hid (Tw.refl _ _ _)⟩
  case round =>
    clear HP0
    obtain ⟨k, hk, rfl, HS, HT⟩ := hrel
    have BK := HK.out wr HT.out
    have y0 := cell_of_block (j := 0) BK rfl
    have y1 := cell_of_block (j := 1) BK rfl
    by_cases hlt : k < n
    · obtain ⟨s, hx⟩ : ∃ s, al[k]? = some s := ⟨_, List.getElem?_eq_getElem (by rw [← HNN.out]; exact hlt)⟩
      have hne : al ≠ [] := by rintro rfl; simp at hx
      obtain ⟨q1, c1, b, off, hv, hp, hc⟩ := HA.out wr HT.out
      rw [← HNN.out] at hv
      cases hv
      obtain rfl := (hp hne).1
      have hlen : (askS l (al.take k) e).length ≤ 1000 := by have h1 := HLN.out k; have h2 := hl1.out; have h3 := hal1.out; rw [List.length_take] at h1; omega
      have HTK1 := Lib.hid (HTK.out k s hx)
      have HX := Lib.hid (show ∀ U, Tw wr U p p → U.cell? ⟨b, off + k, none⟩ = some (.string s) ∧ U.cell? ⟨kb, 0, none⟩ = some (.bool ag) ∧ U.cell? ⟨kb, 1, none⟩ = some (.slice (some ⟨b, off, none⟩) n ac) from fun U kU => by
        have hB := HK.out U (HT.out.trans kU)
        obtain ⟨q9, c9, b9, off9, hv9, hp9, hc9⟩ := HA.out U (HT.out.trans kU)
        cases hv9
        have h9 := (hp9 hne).1
        cases h9
        exact ⟨hc9 k s hx, cell_of_block hB rfl, cell_of_block hB rfl⟩)
      have hn9 : n ≤ 100 := hal1.out
      have d1 : decide (k < n) = true := decide_eq_true hlt
      have d2 : decide ((k : Int) < (n : Int)) = true := decide_eq_true (by omega)
      have d4 : decide (0 ≤ (k : Int)) = true := decide_eq_true (by omega)
      have d5 : (0 : Int) ≤ (k : Int) := by omega
      have d6 : (k : Int) < (n : Int) := by omega
      generalize askS l (al.take k) e = cur at HS hlen HTK1
      obtain ⟨cv, PB, PR⟩ := HS.out
      have kk : Tw wr wr.drew p p := tw_of_drew (Tw.refl _ _ _)
      have HSn := HS.out.below (show Below wr.heap.size wr wr.drew from (Below.refl _ _).drew)
      have PRn := PR.below (show Below wr.heap.size wr wr.drew from (Below.refl _ _).drew)
      have KF := Lib.hid (show ∀ U : World, Tw wr U p p → U.heap[p]? = some (.cells #[.bool ex, .int .i64 tm, cv] 24 (0, 0)) → (U.cell? ⟨b, off + k, none⟩ = some (.string s) ∧ U.cell? ⟨p, 0, none⟩ = some (.bool ex) ∧ U.cell? ⟨p, 1, none⟩ = some (.int .i64 tm) ∧ U.cell? ⟨p, 2, none⟩ = some cv ∧ U.cell? ⟨kb, 0, none⟩ = some (.bool ag) ∧ U.cell? ⟨kb, 1, none⟩ = some (.slice (some ⟨b, off, none⟩) n ac)) from fun U kU h1 => ⟨(HX.out U kU).1, cell_of_block h1 rfl, cell_of_block h1 rfl, cell_of_block h1 rfl, (HX.out U kU).2.1, (HX.out U kU).2.2⟩)
      clear hx hne hp hc PR
      go_upto_region 4 with fail
      clear y0 y1 BK
      replace PB : wr.drew.heap[p]? = some (.cells #[.bool ex, .int .i64 tm, cv] 24 (0, 0)) := PB
      refine wp_region_held_drew (S := fun U => U.cell? ⟨b, off + k, none⟩ = some (.string s) ∧ U.cell? ⟨p, 0, none⟩ = some (.bool ex) ∧ U.cell? ⟨p, 1, none⟩ = some (.int .i64 tm) ∧ U.cell? ⟨p, 2, none⟩ = some cv ∧ U.cell? ⟨kb, 0, none⟩ = some (.bool ag) ∧ U.cell? ⟨kb, 1, none⟩ = some (.slice (some ⟨b, off, none⟩) n ac)) (by kernel_rfl) (KF.out _ kk PB) (fun hH => ?_)
      generalize wr.drew = Y0 at hH kk HSn PB PRn ⊢
      refine wpAnyH_take (i := 0) (oi := { dst := some 16, op := Op.load 24 (Operand.tmp 3), type := 24, pos := "ref.go:158", after := #[], guard := none }) (v := .agg #[.bool ex, .int .i64 tm, cv]) rfl (by kernel_rfl) (by kernel_rfl) (by kernel_rfl) (fun _ _ _ h => h) (Or.inl ⟨by kernel_rfl, ?_⟩) hH ?_
      · intro w hSw; (try dsimp only at hSw); go_simp; (try rfl)
      try simp only [Act.put, List.setIfInBounds_toArray, List.set_cons_zero, List.set_cons_succ]
      refine wpAnyH_take (i := 1) (oi := { dst := some 17, op := Op.fieldAddr 47 (Operand.tmp 4) 1, type := 0, pos := "ref.go:158", after := #[], guard := none }) (v := .pointer (some ⟨kb, 1, none⟩)) rfl (by kernel_rfl) (by kernel_rfl) (by kernel_rfl) (fun _ _ _ h => h) (Or.inl ⟨by kernel_rfl, ?_⟩) hH ?_
      · intro w hSw; (try dsimp only at hSw); go_simp; (try rfl)
      try simp only [Act.put, List.setIfInBounds_toArray, List.set_cons_zero, List.set_cons_succ]
      refine wpAnyH_take (i := 2) (oi := { dst := some 18, op := Op.load 35 (Operand.tmp 17), type := 35, pos := "ref.go:158", after := #[{ on := 1, ground := Ground.data }], guard := none }) (v := .slice (some ⟨b, off, none⟩) n ac) rfl (by kernel_rfl) (by kernel_rfl) (by kernel_rfl) (fun _ _ _ h => h) (Or.inl ⟨by kernel_rfl, ?_⟩) hH ?_
      · intro w hSw; (try dsimp only at hSw); go_simp; (try rfl)
      try simp only [Act.put, List.setIfInBounds_toArray, List.set_cons_zero, List.set_cons_succ]
      refine wpAnyH_take (i := 3) (oi := { dst := some 19, op := Op.move (Operand.tmp 7), type := 3, pos := "ref.go:158", after := #[], guard := none }) (v := .int .i64 (k : Int)) rfl (by kernel_rfl) (by kernel_rfl) (by kernel_rfl) (fun _ _ _ h => h) (Or.inl ⟨by kernel_rfl, ?_⟩) hH ?_
      · intro w hSw; (try dsimp only at hSw); go_simp; (try rfl)
      try simp only [Act.put, List.setIfInBounds_toArray, List.set_cons_zero, List.set_cons_succ]
      refine wpAnyH_take (i := 4) (oi := { dst := some 20, op := Op.indexAddr 35 (Operand.tmp 18) (Operand.tmp 19), type := 0, pos := "ref.go:158", after := #[{ on := 2, ground := Ground.data }, { on := 3, ground := Ground.data }], guard := none }) (v := .pointer (some ⟨b, off + k, none⟩)) rfl (by kernel_rfl) (by kernel_rfl) (by kernel_rfl) (fun _ _ _ h => h) (Or.inl ⟨by kernel_rfl, ?_⟩) hH ?_
      · intro w hSw; (try dsimp only at hSw); go_simp; (try rfl)
      try simp only [Act.put, List.setIfInBounds_toArray, List.set_cons_zero, List.set_cons_succ]
      refine wpAnyH_take (i := 5) (oi := { dst := some 21, op := Op.load 25 (Operand.tmp 20), type := 25, pos := "ref.go:158", after := #[{ on := 4, ground := Ground.data }], guard := none }) (v := .string s) rfl (by kernel_rfl) (by kernel_rfl) (by kernel_rfl) (fun _ _ _ h => h) (Or.inl ⟨by kernel_rfl, ?_⟩) hH ?_
      · intro w hSw; (try dsimp only at hSw); go_simp; (try rfl)
      try simp only [Act.put, List.setIfInBounds_toArray, List.set_cons_zero, List.set_cons_succ]
      refine wpAnyH_ready (rs := [6]) (by kernel_rfl) (by simp) ?_
      refine AllReadyH.cons rfl (fun K hK => ?_) AllReadyH.nil
      go_simp
      with_reducible refine (at17_c ex tm cv cur s Y0 (by omega) PRn).mono ?_
      rintro e9 Y1 ⟨rfl, hb⟩
      (try go_wp2_with fail)
      replace HSn := HSn.below hb
      replace PB := below_block hb (lt_of_block PB) PB
      replace kk := kk.trans (tw_of_below hb)
      clear hb
      refine hK.out _ _ (KF.out _ kk PB) (fun hH => ?_)
      clear hK K
      try simp only [Act.put, List.setIfInBounds_toArray, List.set_cons_zero, List.set_cons_succ]
      refine wpAnyH_take (i := 7) (oi := { dst := some 8, op := Op.assign (Operand.tmp 22), type := 3, pos := "ref.go:158", after := #[{ on := 6, ground := Ground.data }, { on := 6, ground := Ground.chain }, { on := 0, ground := Ground.phase }, { on := 1, ground := Ground.phase }, { on := 2, ground := Ground.phase }, { on := 3, ground := Ground.phase }, { on := 4, ground := Ground.phase }, { on := 5, ground := Ground.phase }, { on := 6, ground := Ground.phase }], guard := none }) (v := .int .i64 (getR cur s)) rfl (by kernel_rfl) (by kernel_rfl) (by kernel_rfl) (fun _ _ _ h => h) (Or.inl ⟨by kernel_rfl, ?_⟩) hH ?_
      · intro w hSw; (try dsimp only at hSw); go_simp; (try rfl)
      try simp only [Act.put, List.setIfInBounds_toArray, List.set_cons_zero, List.set_cons_succ]
      refine wpAnyH_done (by kernel_rfl) ?_ _
      have hXX := HX.out _ kk
      obtain ⟨y0, y1, y2⟩ := hXX
      clear hH KF PB
      by_cases hg : e < getR cur s
      · have dg : decide (e < getR cur s) = true := decide_eq_true hg
        have PC := put17_c HSn hlen s e
        unfold PuPost at PC
        have PCH := Lib.hid PC
        have HN : stepA e cur s = putS cur s e := if_pos hg
        rw [HN] at HTK1
        clear hg PC
        generalize getR cur s = gt at dg ⊢
        go_wp2_with fail
        with_reducible refine PCH.out.mono ?_
        rintro e9 Y2 ⟨rfl, hs9, kt⟩
        have H3 := Lib.hid (show HasS17 Y2 p ex tm (askS l (al.take (k + 1)) e) by rw [HTK1.out]; exact hs9)
        have T3 := Lib.hid (HT.out.trans (kk.trans kt))
        clear hs9 kt kk HS HT HTK1 HX y0 y1 y2 PCH HSn PRn HN
        go_wp2_with fail
        go_roundw
        case rel => exact ⟨k + 1, by omega, by go_num, H3, T3⟩
        case measure => simp [intOf]; omega
      · have dg : decide (e < getR cur s) = false := decide_eq_false hg
        have HN : stepA e cur s = cur := if_neg hg
        rw [HN] at HTK1
        have H3 := Lib.hid (show HasS17 Y1 p ex tm (askS l (al.take (k + 1)) e) by rw [HTK1.out]; exact HSn)
        have T3 := Lib.hid (HT.out.trans kk)
        clear hg kk HS HT HTK1 HX HSn PRn HN
        generalize getR cur s = gt at dg ⊢
        go_wp2_with fail
        go_roundw
        case rel => exact ⟨k + 1, by omega, by go_num, H3, T3⟩
        case measure => simp [intOf]; omega
    · obtain rfl : k = n := by omega
      rw [HFIN.out] at HS
      have d1 : decide (k < k) = false := decide_eq_false (by omega)
      have d2 : decide ((k : Int) < (k : Int)) = false := decide_eq_false (by omega)
      obtain ⟨cv, PB, PR⟩ := HS.out
      obtain ⟨cq, cn, cc, rfl⟩ := rows_slice3 PR
      have ZB := HZ.out wr HT.out
      have KW := Lib.hid (bel_tw K0.out gpp.out HT.out)
      have z0 := cell_of_block (j := 0) ZB rfl
      have z1 := cell_of_block (j := 1) ZB rfl
      have z2 := cell_of_block (j := 2) ZB rfl
      have zf := (fun j : Nat => free_of_block (j := j) ZB)
      have x0 := cell_of_block (j := 0) PB rfl
      have x1 := cell_of_block (j := 1) PB rfl
      have x2 := cell_of_block (j := 2) PB rfl
      have xf := (fun j : Nat => free_of_block (j := j) PB)
      have nz := nzp.out
      rcases Bool.eq_false_or_eq_true ag with rfl | rfl
      · have mm : (if tm ≤ e then tm else e) = min tm e := (Int.min_def tm e).symm
        have k1 := tw_set wr p 1 (.int .i64 (min tm e))
        have P1 : (wr.setCell ⟨p, 1, none⟩ (.int .i64 (min tm e))).heap[p]? = some (.cells #[.bool ex, .int .i64 (min tm e), .slice cq cn cc] 24 (0, 0)) := heap_store (j := 1) (v := .int .i64 (min tm e)) PB
        have R1 := rows_tw PR PB no_str k1
        have Z1 := blk_tw k1 ZB nz
        have K1 := bel_tw KW.out gpp.out k1
        have kz : Tw (wr.setCell ⟨p, 1, none⟩ (.int .i64 (min tm e))) ((((wr.setCell ⟨p, 1, none⟩ (.int .i64 (min tm e))).setCell ⟨zb, 0, none⟩ (.bool ex)).setCell ⟨zb, 1, none⟩ (.int .i64 (min tm e))).setCell ⟨zb, 2, none⟩ (.slice cq cn cc)) zb zb := ((tw_set (wr.setCell ⟨p, 1, none⟩ (.int .i64 (min tm e))) zb 0 (.bool ex)).trans (tw_set ((wr.setCell ⟨p, 1, none⟩ (.int .i64 (min tm e))).setCell ⟨zb, 0, none⟩ (.bool ex)) zb 1 (.int .i64 (min tm e)))).trans (tw_set (((wr.setCell ⟨p, 1, none⟩ (.int .i64 (min tm e))).setCell ⟨zb, 0, none⟩ (.bool ex)).setCell ⟨zb, 1, none⟩ (.int .i64 (min tm e))) zb 2 (.slice cq cn cc))
        have ZF : (((((wr.setCell ⟨p, 1, none⟩ (.int .i64 (min tm e))).setCell ⟨zb, 0, none⟩ (.bool ex)).setCell ⟨zb, 1, none⟩ (.int .i64 (min tm e))).setCell ⟨zb, 2, none⟩ (.slice cq cn cc))).heap[zb]? = some (.cells #[.bool ex, .int .i64 (min tm e), .slice cq cn cc] 24 (0, 0)) := (heap_store (j := 2) (v := .slice cq cn cc) (heap_store (j := 1) (v := .int .i64 (min tm e)) (heap_store (j := 0) (v := .bool ex) Z1)))
        have HF := Lib.hid (HQ.out _ _ (rows_tw R1 Z1 no_str kz) (bel_tw K1 gz.out kz))
        have q0 := cell_of_block (j := 0) ZF rfl
        have q1 := cell_of_block (j := 1) ZF rfl
        have q2 := cell_of_block (j := 2) ZF rfl
        clear kz ZF HQ
        go_wp2_with fail
        exact bodyPost_ret (v := .agg #[.bool ex, .int .i64 (min tm e), .slice cq cn cc]) (by simp [results, Try.results38, go_sem, q0, q1, q2]) rfl HF.out
      · have KF := KW.out
        have RF := PR
        have kz : Tw wr (((wr.setCell ⟨zb, 0, none⟩ (.bool ex)).setCell ⟨zb, 1, none⟩ (.int .i64 tm)).setCell ⟨zb, 2, none⟩ (.slice cq cn cc)) zb zb := ((tw_set wr zb 0 (.bool ex)).trans (tw_set (wr.setCell ⟨zb, 0, none⟩ (.bool ex)) zb 1 (.int .i64 tm))).trans (tw_set ((wr.setCell ⟨zb, 0, none⟩ (.bool ex)).setCell ⟨zb, 1, none⟩ (.int .i64 tm)) zb 2 (.slice cq cn cc))
        have ZF : ((((wr.setCell ⟨zb, 0, none⟩ (.bool ex)).setCell ⟨zb, 1, none⟩ (.int .i64 tm)).setCell ⟨zb, 2, none⟩ (.slice cq cn cc))).heap[zb]? = some (.cells #[.bool ex, .int .i64 tm, .slice cq cn cc] 24 (0, 0)) := (heap_store (j := 2) (v := .slice cq cn cc) (heap_store (j := 1) (v := .int .i64 tm) (heap_store (j := 0) (v := .bool ex) ZB)))
        have HF := Lib.hid (HQ.out _ _ (rows_tw RF ZB no_str kz) (bel_tw KF gz.out kz))
        have q0 := cell_of_block (j := 0) ZF rfl
        have q1 := cell_of_block (j := 1) ZF rfl
        have q2 := cell_of_block (j := 2) ZF rfl
        clear kz ZF HQ
        go_wp2_with fail
        exact bodyPost_ret (v := .agg #[.bool ex, .int .i64 tm, .slice cq cn cc]) (by simp [results, Try.results38, go_sem, q0, q1, q2]) rfl HF.out

end Go.Proofs.Ytceilgeefegbmaa
