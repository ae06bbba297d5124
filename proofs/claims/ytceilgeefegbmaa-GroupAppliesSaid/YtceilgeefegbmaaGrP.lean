/-
  The change's map, plainly: a list of sources with their times, no source twice; what is put, taken away, hurried. And as the map's entries.
-/
import Derived.Test.YtceilgeefegbmaaGrE
import Derived.Test.YtceilgeefegbmaaGrH
import Derived.Test.YtceilgeefegbmaaGrJ
import Derived.Test.YtceilgeefegbmaaFlT
namespace Go.Proofs.Ytceilgeefegbmaa
open Go Go.Maps Go.WideMaps
open Go.RowKit
set_option linter.unusedVariables false
set_option linter.unusedSimpArgs false

/-- When a source goes, if it is there. -/
def look : List Tm → ByteArray → Option Int
  | [], _ => none
  | x :: r, s => if x.1 = s then some x.2 else look r s
def getR (R : List Tm) (s : ByteArray) : Int := (look R s).getD 0
def delR (R : List Tm) (s : ByteArray) : List Tm := R.filter fun x => !decide (x.1 = s)
def putR (R : List Tm) (s : ByteArray) (e : Int) : List Tm := delR R s ++ [(s, e)]
def putA (R : List Tm) (l : List ByteArray) (e : Int) : List Tm := l.foldl (fun R s => putR R s e) R
def hurA (R : List Tm) (l : List ByteArray) (e : Int) : List Tm := l.foldl (fun R s => putR R s (min (getR R s) e)) R
def delA (R : List Tm) (l : List ByteArray) : List Tm := l.foldl (fun R s => delR R s) R

theorem look_app (A B : List Tm) (s : ByteArray) : look (A ++ B) s = (look A s).or (look B s) := by
  induction A with
  | nil => simp [look]
  | cons x r ih =>
    rw [List.cons_append, look, look]
    split
    · rfl
    · exact ih
theorem look_del (R : List Tm) (s t : ByteArray) : look (delR R s) t = if t = s then none else look R t := by
  unfold delR
  induction R with
  | nil => simp [look]
  | cons x r ih =>
    by_cases h : x.1 = s
    · rw [List.filter_cons, if_neg (by simp [h]), ih]
      by_cases ht : t = s
      · rw [if_pos ht, if_pos ht]
      · rw [if_neg ht, if_neg ht, look, if_neg (fun e => ht (e.symm.trans h))]
    · rw [List.filter_cons, if_pos (by simp [h]), look, look, ih]
      by_cases ht : t = s
      · rw [if_pos ht, if_pos ht, if_neg (fun e => h (e.trans ht))]
      · rw [if_neg ht, if_neg ht]
theorem look_put (R : List Tm) (s t : ByteArray) (e : Int) : look (putR R s e) t = if t = s then some e else look R t := by
  unfold putR
  rw [look_app, look_del]
  by_cases h : t = s
  · rw [if_pos h, if_pos h]
    subst h
    simp [look]
  · rw [if_neg h, if_neg h]
    have : look [(s, e)] t = none := by simp [look, Ne.symm h]
    rw [this]
    simp
theorem has_head (s : ByteArray) (r : List ByteArray) : hasS (s :: r) s = true := (hasS_iff _ _).2 (List.mem_cons_self ..)
theorem has_tail {s t : ByteArray} {r : List ByteArray} (h : hasS r t = true) : hasS (s :: r) t = true := (hasS_iff _ _).2 (List.mem_cons_of_mem _ ((hasS_iff _ _).1 h))
theorem has_not {s t : ByteArray} {r : List ByteArray} (h : ¬ t = s) (k : ¬ hasS r t = true) : ¬ hasS (s :: r) t = true := fun e => by
  rcases List.mem_cons.1 ((hasS_iff _ _).1 e) with e | e
  · exact h e
  · exact k ((hasS_iff _ _).2 e)
theorem look_putA (e : Int) (t : ByteArray) : ∀ (l : List ByteArray) (R : List Tm), look (putA R l e) t = if hasS l t = true then some e else look R t
  | [], R => by simp [putA, hasS]
  | s :: r, R => by
    have h : putA R (s :: r) e = putA (putR R s e) r e := rfl
    rw [h, look_putA e t r, look_put]
    by_cases h1 : hasS r t = true
    · rw [if_pos h1, if_pos (has_tail h1)]
    · by_cases h2 : t = s
      · rw [if_neg h1, if_pos h2, if_pos (by rw [h2]; exact has_head s r)]
      · rw [if_neg h1, if_neg h2, if_neg (has_not h2 h1)]
theorem look_delA (t : ByteArray) : ∀ (l : List ByteArray) (R : List Tm), look (delA R l) t = if hasS l t = true then none else look R t
  | [], R => by simp [delA, hasS]
  | s :: r, R => by
    have h : delA R (s :: r) = delA (delR R s) r := rfl
    rw [h, look_delA t r, look_del]
    by_cases h1 : hasS r t = true
    · rw [if_pos h1, if_pos (has_tail h1)]
    · by_cases h2 : t = s
      · rw [if_neg h1, if_pos h2, if_pos (by rw [h2]; exact has_head s r)]
      · rw [if_neg h1, if_neg h2, if_neg (has_not h2 h1)]
theorem look_hurA (e : Int) (t : ByteArray) : ∀ (l : List ByteArray) (R : List Tm), look (hurA R l e) t = if hasS l t = true then some (min (getR R t) e) else look R t
  | [], R => by simp [hurA, hasS]
  | s :: r, R => by
    have h : hurA R (s :: r) e = hurA (putR R s (min (getR R s) e)) r e := rfl
    rw [h, look_hurA e t r]
    have hg : getR (putR R s (min (getR R s) e)) t = if t = s then min (getR R s) e else getR R t := by
      unfold getR
      rw [look_put]
      split <;> rfl
    rw [hg, look_put]
    by_cases h2 : t = s
    · subst h2
      rw [if_pos rfl, if_pos rfl, if_pos (has_head t r)]
      split
      · congr 1
        omega
      · rfl
    · rw [if_neg h2, if_neg h2]
      by_cases h1 : hasS r t = true
      · rw [if_pos h1, if_pos (has_tail h1)]
      · rw [if_neg h1, if_neg (has_not h2 h1)]
theorem look_mem (R : List Tm) (s : ByteArray) : s ∈ nmS R ↔ (look R s).isSome = true := by
  unfold nmS
  induction R with
  | nil => simp [look]
  | cons x r ih =>
    rw [List.map_cons, List.mem_cons, ih, look]
    by_cases h : x.1 = s
    · rw [if_pos h]; simp [h]
    · rw [if_neg h]; simp [Ne.symm h]
theorem look_in {R : List Tm} (h : (nmS R).Nodup) {x : Tm} (hx : x ∈ R) : look R x.1 = some x.2 := by
  induction R with
  | nil => cases hx
  | cons y r ih =>
    have h' : y.1 ∉ nmS r ∧ (nmS r).Nodup := List.nodup_cons.1 h
    rw [look]
    rcases List.mem_cons.1 hx with rfl | hx
    · rw [if_pos rfl]
    · rw [if_neg (fun e => h'.1 (by rw [e]; exact List.mem_map.2 ⟨x, hx, rfl⟩))]
      exact ih h'.2 hx
/-- No source twice. -/
def Apart (R : List Tm) : Prop := (nmS R).Nodup
theorem Apart.del {R : List Tm} (h : Apart R) (s : ByteArray) : Apart (delR R s) := by
  unfold Apart nmS delR
  exact h.sublist (List.filter_sublist.map _)
theorem Apart.put {R : List Tm} (h : Apart R) (s : ByteArray) (e : Int) : Apart (putR R s e) := by
  have hd := h.del s
  unfold Apart nmS at hd ⊢
  unfold putR
  rw [List.map_append, List.nodup_append]
  refine ⟨hd, by simp, fun a ha b hb => ?_⟩
  simp at hb
  subst hb
  obtain ⟨x, hx, rfl⟩ := List.mem_map.1 ha
  have := (List.mem_filter.1 hx).2
  simpa using this
theorem Apart.putA {e : Int} : ∀ (l : List ByteArray) {R : List Tm}, Apart R → Apart (putA R l e)
  | [], R, h => h
  | s :: r, R, h => Apart.putA r (h.put s e)
theorem Apart.delA : ∀ (l : List ByteArray) {R : List Tm}, Apart R → Apart (delA R l)
  | [], R, h => h
  | s :: r, R, h => Apart.delA r (h.del s)
theorem Apart.hurA {e : Int} : ∀ (l : List ByteArray) {R : List Tm}, Apart R → Apart (hurA R l e)
  | [], R, h => h
  | s :: r, R, h => Apart.hurA r (h.put s _)

/-- The map's entries. -/
def mk (R : List Tm) : List T3 := R.map fun x => (ky x.1, x.2)
theorem mk_len (R : List Tm) : (mk R).length = R.length := by simp [mk]
theorem ky_inj {a b : ByteArray} (h : ky a = ky b) : a = b := by
  unfold ky at h
  simp only [Lit.string.injEq] at h
  exact ba_ext h
theorem ky_same (a b : ByteArray) : (ky a).sameKey (ky b) = decide (a = b) := by
  by_cases e : a = b
  · subst e
    rw [decide_eq_true rfl]
    simp [ky, Lit.sameKey]
  · rw [decide_eq_false e]
    have : ¬ a.data = b.data := fun h => e (ByteArray.ext h)
    simp [ky, Lit.sameKey, this]
theorem mk_del (R : List Tm) (s : ByteArray) : delT (mk R) (ky s) = mk (delR R s) := by
  unfold delT mk delR
  rw [List.filter_map]
  congr 1
  refine List.filter_congr fun x _ => ?_
  simp [ky_same]
theorem mk_put (R : List Tm) (s : ByteArray) (e : Int) : putT (mk R) (ky s) e = mk (putR R s e) := by
  unfold putT
  rw [mk_del]
  simp [mk, putR]
theorem mk_get (R : List Tm) (s : ByteArray) : getT (mk R) (ky s) = getR R s := by
  unfold getT getR mk
  induction R with
  | nil => rfl
  | cons x r ih =>
    rw [List.map_cons, List.find?_cons, look]
    simp only [ky_same]
    by_cases h : x.1 = s
    · rw [decide_eq_true h, if_pos h]; rfl
    · rw [decide_eq_false h, if_neg h]; exact ih
theorem mk_has (R : List Tm) (s : ByteArray) : hasT (mk R) (ky s) = (look R s).isSome := by
  unfold hasT mk
  induction R with
  | nil => rfl
  | cons x r ih =>
    rw [List.map_cons, List.any_cons, look, ky_same]
    by_cases h : x.1 = s
    · rw [decide_eq_true h, if_pos h]; rfl
    · rw [decide_eq_false h, if_neg h, ih]; rfl
theorem mk_putL (e : Int) : ∀ (l : List ByteArray) (R : List Tm), putL (mk R) l e = mk (putA R l e)
  | [], R => rfl
  | s :: r, R => by
    have h : putL (mk R) (s :: r) e = putL (putT (mk R) (ky s) e) r e := rfl
    rw [h, mk_put, mk_putL e r]
    rfl
theorem mk_hurL (e : Int) : ∀ (l : List ByteArray) (R : List Tm), hurL (mk R) l e = mk (hurA R l e)
  | [], R => rfl
  | s :: r, R => by
    have h : hurL (mk R) (s :: r) e = hurL (putT (mk R) (ky s) (min (getT (mk R) (ky s)) e)) r e := rfl
    rw [h, mk_get, mk_put, mk_hurL e r]
    rfl
theorem mk_entL : ∀ (l R : List Tm), (nmS (R ++ l)).Nodup → l.foldl (fun L x => putT L (ky x.1) x.2) (mk R) = mk (R ++ l)
  | [], R, _ => by simp
  | x :: r, R, h => by
    rw [List.foldl_cons, mk_put]
    have e : putR R x.1 x.2 = R ++ [x] := by
      unfold putR delR
      rw [List.filter_eq_self.2]
      intro y hy
      unfold nmS at h
      rw [List.map_append, List.nodup_append] at h
      have := h.2.2 y.1 (List.mem_map.2 ⟨y, hy, rfl⟩) x.1 (by simp)
      simpa using this
    rw [e, mk_entL r (R ++ [x]) (by rw [List.append_assoc]; exact h), List.append_assoc]
    rfl
theorem entL_mk {l : List Tm} (h : (nmS l).Nodup) : entL l = mk l := mk_entL l [] h

theorem up_nodup {l : List ByteArray} (h : Up l) : l.Nodup := h.imp fun h => sl_ne h

/-- The sources, rising. -/
def keysR (R : List Tm) : List ByteArray := ris (nmS R)
theorem keys_mem (R : List Tm) (s : ByteArray) : s ∈ keysR R ↔ (look R s).isSome = true := by
  unfold keysR
  rw [ris_mem, look_mem]
theorem perm_up {ss : List (List UInt8)} {R : List Tm} {l : List (Lit × DataW Unit)} (hR : Apart R) (hp : l.Perm ((mk R).map enc3)) (hS : ss.Perm (strKeys (DataW.map l))) : toB (ss.mergeSort fun x y => decide (x ≤ y)) = keysR R := by
  have e1 : ss.Perm (toL (nmS R)) := by
    refine hS.trans ?_
    have := hp.map (fun p : Lit × DataW Unit => strOf p.1)
    refine this.trans (List.Perm.of_eq ?_)
    unfold mk toL nmS
    simp only [List.map_map]
    exact List.map_congr_left fun x _ => rfl
  have hnd : (toL (nmS R)).Nodup := by
    unfold toL
    exact List.pairwise_map.2 (List.Pairwise.imp (fun {a b} h e => h (ba_ext e)) hR)
  refine up_unique _ _ ?_ (ris_up _) fun x => ?_
  · have hs := List.pairwise_mergeSort (le := fun (x y : List UInt8) => decide (x ≤ y)) (fun a b c h1 h2 => by simp only [decide_eq_true_iff] at *; exact List.le_trans h1 h2) (fun a b => by simp only [Bool.or_eq_true, decide_eq_true_iff]; exact List.le_total a b) ss
    have hn : (ss.mergeSort fun x y => decide (x ≤ y)).Nodup := ((List.mergeSort_perm ss _).trans e1).nodup_iff.2 hnd
    unfold Up toB
    rw [List.pairwise_map]
    refine (hs.and hn).imp fun {a b} h => ?_
    rw [sl_iff]
    have h1 : a ≤ b := by simpa using h.1
    rcases Decidable.em (a < b) with k | k
    · exact k
    · exact absurd (List.le_antisymm h1 (List.not_lt.1 k)) h.2
  · unfold keysR
    rw [mem_toB, List.mem_mergeSort, ris_mem, e1.mem_iff]
    rw [← mem_toB, toB_toL]
theorem keys_len {R : List Tm} (h : Apart R) : (keysR R).length = R.length := by
  have hp : (keysR R).Perm (nmS R) := (List.perm_ext_iff_of_nodup (up_nodup (ris_up _)) h).2 fun x => ris_mem _ x
  rw [hp.length_eq, nm_len]
end Go.Proofs.Ytceilgeefegbmaa
