/-
  Filters, plain: what a filter is behind a record; the least that stands behind a list's last. They speak of no function.
-/
import Derived.Test.YthpafojeadbjlaaFlM
namespace Go.Proofs.Ythpafojeadbjlaa
set_option linter.unusedVariables false

/-- What a filter is behind a record. -/
def afterF (f : Fl) (r : Rec) : Fl :=
  if r.kind = 3 then normF ⟨false, r.srcs⟩ else if r.kind = 4 then notF ⟨false, r.srcs⟩ else if r.kind = 5 then orF f ⟨false, r.srcs⟩ else if r.kind = 6 then andF f (notF ⟨false, r.srcs⟩) else f

theorem p_or_adm (f g : Fl) (s : ByteArray) : admB (orF f g) s = (admB f s || admB g s) := adm_join (· || ·) f g s
theorem p_and_adm (f g : Fl) (s : ByteArray) : admB (andF f g) s = (admB f s && admB g s) := adm_join (· && ·) f g s
theorem p_or_up (f g : Fl) : Up (orF f g).src := up_join _ f g
theorem p_and_up (f g : Fl) : Up (andF f g).src := up_join _ f g
theorem p_join_len (h : Bool → Bool → Bool) (f g : Fl) : (joinF h f g).src.length ≤ f.src.length + g.src.length := by
  have h1 := List.length_filter_le (fun s => h (admB f s) (admB g s) != h f.ex g.ex) (ris (f.src ++ g.src))
  have h2 := ris_len (f.src ++ g.src)
  rw [List.length_append] at h2
  show ((ris (f.src ++ g.src)).filter _).length ≤ _
  omega
theorem after_len (f : Fl) (r : Rec) : (afterF f r).src.length ≤ f.src.length + r.srcs.length := by
  unfold afterF
  have h0 := ris_len r.srcs
  split
  · show (ris r.srcs).length ≤ _; omega
  · split
    · show (ris r.srcs).length ≤ _; omega
    · split
      · exact p_join_len _ f ⟨false, r.srcs⟩
      · split
        · have := p_join_len (· && ·) f (notF ⟨false, r.srcs⟩)
          have h1 : (notF ⟨false, r.srcs⟩).src.length ≤ r.srcs.length := h0
          unfold andF
          omega
        · omega
theorem or_none (f : Fl) (h : Up f.src) : orF f ⟨false, []⟩ = f :=
  fl_ext _ _ (p_or_up _ _) h (by show (f.ex || false) = _; simp) fun s => by rw [p_or_adm]; show (admB f s || (false != false)) = _; simp
theorem and_all (f : Fl) (h : Up f.src) : andF f (notF ⟨false, []⟩) = f :=
  fl_ext _ _ (p_and_up _ _) h (by show (f.ex && !false) = _; simp) fun s => by rw [p_and_adm, adm_not]; show (admB f s && !(false != false)) = _; simp
theorem fold_change (gr : ByteArray) (f : Fl) (more less : List ByteArray) (h : Up f.src) :
    (changeF gr more less).foldl afterF f = andF (orF f ⟨false, more⟩) (notF ⟨false, less⟩) := by
  have e5 : ∀ (f : Fl) (l : List ByteArray), afterF f ⟨5, gr, l⟩ = orF f ⟨false, l⟩ := fun f l => by unfold afterF; simp
  have e6 : ∀ (f : Fl) (l : List ByteArray), afterF f ⟨6, gr, l⟩ = andF f (notF ⟨false, l⟩) := fun f l => by unfold afterF; simp
  unfold changeF
  rw [List.foldl_append]
  have a1 : (if more = [] then [] else [(⟨5, gr, more⟩ : Rec)]).foldl afterF f = orF f ⟨false, more⟩ := by
    by_cases hm : more = []
    · subst hm; rw [if_pos rfl, or_none f h]; rfl
    · rw [if_neg hm]; simp only [List.foldl_cons, List.foldl_nil, e5]
  rw [a1]
  by_cases hm : less = []
  · subst hm; rw [if_pos rfl, and_all _ (p_or_up _ _)]; rfl
  · rw [if_neg hm]; simp only [List.foldl_cons, List.foldl_nil, e6]
theorem has_less (a b : List ByteArray) (s : ByteArray) : hasS (lessF a b) s = (hasS a s && !hasS b s) := by
  unfold lessF
  rw [has_filter, has_ris]
/-- The records lead from the one to the other. -/
theorem leads (gr : ByteArray) (f g : Fl) : (diffF gr f g).foldl afterF (normF f) = normF g := by
  unfold diffF
  by_cases he : f.ex = g.ex
  · rw [if_neg (by simp [he])]
    rcases hg : g.ex with _ | _
    · rw [if_neg (by simp), fold_change gr _ _ _ (up_norm f)]
      refine fl_ext _ _ (p_and_up _ _) (up_norm g) (by show ((f.ex || false) && !false) = g.ex; simp [he]) fun s => ?_
      rw [p_and_adm, adm_not, p_or_adm, adm_norm, adm_norm]
      show ((((hasS f.src s != f.ex) || (hasS (lessF g.src f.src) s != false)) && !(hasS (lessF f.src g.src) s != false)) = (hasS g.src s != g.ex))
      rw [has_less, has_less, he, hg]
      cases hasS f.src s <;> cases hasS g.src s <;> rfl
    · rw [if_pos rfl, fold_change gr _ _ _ (up_norm f)]
      refine fl_ext _ _ (p_and_up _ _) (up_norm g) (by show ((f.ex || false) && !false) = g.ex; simp [he]) fun s => ?_
      rw [p_and_adm, adm_not, p_or_adm, adm_norm, adm_norm]
      show ((((hasS f.src s != f.ex) || (hasS (lessF f.src g.src) s != false)) && !(hasS (lessF g.src f.src) s != false)) = (hasS g.src s != g.ex))
      rw [has_less, has_less, he, hg]
      cases hasS f.src s <;> cases hasS g.src s <;> rfl
  · rw [if_pos he]
    simp only [List.foldl_cons, List.foldl_nil]
    have hr := ris_of_up (ris_up g.src)
    rcases hg : g.ex with _ | _
    · show normF ⟨false, ris g.src⟩ = ⟨g.ex, ris g.src⟩
      rw [hg]; unfold normF; simp only; rw [hr]
    · show notF ⟨false, ris g.src⟩ = ⟨g.ex, ris g.src⟩
      rw [hg]; unfold notF; simp only; rw [hr]; rfl
theorem diff_len (gr : ByteArray) (f g : Fl) : (diffF gr f g).length ≤ 2 := by
  have hc : ∀ a b, (changeF gr a b).length ≤ 2 := fun a b => by
    unfold changeF
    rw [List.length_append]
    split <;> split <;> simp
  unfold diffF
  split
  · simp
  · split <;> exact hc _ _
theorem less_len (a b : List ByteArray) : (lessF a b).length ≤ a.length := Nat.le_trans (List.length_filter_le _ _) (ris_len a)
theorem diff_srcs (gr : ByteArray) (f g : Fl) (n : Nat) (hf : f.src.length ≤ n) (hg : g.src.length ≤ n) : ∀ r ∈ diffF gr f g, r.srcs.length ≤ n := by
  have hc : ∀ a b : List ByteArray, a.length ≤ n → b.length ≤ n → ∀ r ∈ changeF gr a b, r.srcs.length ≤ n := fun a b ha hb r hr => by
    unfold changeF at hr
    rcases List.mem_append.1 hr with h | h
    · split at h
      · simp at h
      · obtain rfl := List.mem_singleton.1 h; exact ha
    · split at h
      · simp at h
      · obtain rfl := List.mem_singleton.1 h; exact hb
  have h1 := Nat.le_trans (less_len f.src g.src) hf
  have h2 := Nat.le_trans (less_len g.src f.src) hg
  unfold diffF
  split
  · intro r hr
    obtain rfl := List.mem_singleton.1 hr
    exact Nat.le_trans (ris_len _) hg
  · split
    · exact hc _ _ h1 h2
    · exact hc _ _ h2 h1

/-- Whether a text stands behind a rising list's last. -/
def behB (out : List ByteArray) (x : ByteArray) : Bool := match out.getLast? with
  | none => true
  | some y => sl y x
theorem up_app {a b : List ByteArray} (h : Up (a ++ b)) : Up b := (List.pairwise_append.1 h).2.1
theorem beh_mem (l out rest : List ByteArray) (h : ris l = out ++ rest) (x : ByteArray) (hx : x ∈ l) : behB out x = true ↔ x ∈ rest := by
  have hu := ris_up l
  rw [h] at hu
  obtain ⟨h1, h2, h3⟩ := List.pairwise_append.1 hu
  have hm : x ∈ out ∨ x ∈ rest := by
    have := (ris_mem l x).2 hx
    rw [h] at this
    exact List.mem_append.1 this
  unfold behB
  rcases hl : out.getLast? with _ | y
  · have : out = [] := List.getLast?_eq_none_iff.1 hl
    subst this
    simpa using hm
  · have hy : y ∈ out := List.mem_of_getLast? hl
    simp only
    constructor
    · intro hs
      rcases hm with hm | hm
      · exfalso
        -- x stands in out: not behind the last
        obtain ⟨pre, rfl⟩ := List.getLast?_eq_some_iff.1 hl
        rcases List.mem_append.1 hm with hp | hp
        · have := (List.pairwise_append.1 h1).2.2 x hp y (by simp)
          rw [sl_asym this] at hs
          cases hs
        · obtain rfl := List.mem_singleton.1 hp
          rw [sl_irrefl] at hs
          cases hs
      · exact hm
    · intro hr
      exact h3 y hy x hr
/-- The place of the least behind the last among the first i; -1: none. -/
def LeastAt (l out : List ByteArray) (i : Nat) (next : Int) : Prop :=
  (next = -1 ∧ ∀ j x, j < i → l[j]? = some x → behB out x = false) ∨
  (∃ (n : Nat) (y : ByteArray), next = n ∧ n < i ∧ l[n]? = some y ∧ behB out y = true ∧ ∀ j x, j < i → l[j]? = some x → behB out x = true → sl x y = false)
theorem LeastAt.start (l out : List ByteArray) : LeastAt l out 0 (-1) := .inl ⟨rfl, fun j x hj => by omega⟩
theorem LeastAt.skip {l out : List ByteArray} {i : Nat} {next : Int} {x : ByteArray} (h : LeastAt l out i next) (hx : l[i]? = some x)
    (hs : behB out x = false ∨ ∃ (n : Nat) (y : ByteArray), next = n ∧ l[n]? = some y ∧ sl x y = false) : LeastAt l out (i + 1) next := by
  rcases h with ⟨h1, h2⟩ | ⟨n, y, h1, h2, h3, h4, h5⟩
  · rcases hs with hs | ⟨m, y, k1, _⟩
    · refine .inl ⟨h1, fun j z hj hz => ?_⟩
      by_cases e : j = i
      · subst e; rw [hx] at hz; cases hz; exact hs
      · exact h2 j z (by omega) hz
    · omega
  · refine .inr ⟨n, y, h1, by omega, h3, h4, fun j z hj hz hb => ?_⟩
    by_cases e : j = i
    · subst e
      rw [hx] at hz
      cases hz
      rcases hs with hs | ⟨m, y', k1, k2, k3⟩
      · rw [hs] at hb; cases hb
      · obtain rfl : m = n := by omega
        rw [h3] at k2
        cases k2
        exact k3
    · exact h5 j z (by omega) hz hb
theorem LeastAt.take {l out : List ByteArray} {i : Nat} {next : Int} {x : ByteArray} (h : LeastAt l out i next) (hx : l[i]? = some x) (hb : behB out x = true)
    (hs : next < 0 ∨ ∃ (n : Nat) (y : ByteArray), next = n ∧ l[n]? = some y ∧ sl x y = true) : LeastAt l out (i + 1) i := by
  refine .inr ⟨i, x, rfl, by omega, hx, hb, fun j z hj hz hzb => ?_⟩
  by_cases e : j = i
  · subst e; rw [hx] at hz; cases hz; exact sl_irrefl _
  · rcases h with ⟨h1, h2⟩ | ⟨n, y, h1, h2, h3, h4, h5⟩
    · rw [h2 j z (by omega) hz] at hzb; cases hzb
    · rcases hs with hs | ⟨m, y', k1, k2, k3⟩
      · omega
      · obtain rfl : m = n := by omega
        rw [h3] at k2
        cases k2
        have hzy := h5 j z (by omega) hz hzb
        rcases hzx : sl z x with _ | _
        · rfl
        · rw [sl_trans hzx k3] at hzy; cases hzy
theorem LeastAt.none {l out rest : List ByteArray} (h : ris l = out ++ rest) (k : LeastAt l out l.length (-1)) : rest = [] := by
  rcases k with ⟨-, h2⟩ | ⟨n, y, h1, _⟩
  · rcases rest with _ | ⟨y, t⟩
    · rfl
    · have hy : y ∈ l := (ris_mem l y).1 (by rw [h]; simp)
      obtain ⟨j, hj, e⟩ := List.getElem_of_mem hy
      have := h2 j y hj (by rw [List.getElem?_eq_getElem hj, e])
      rw [(beh_mem l out _ h y hy).2 (by simp)] at this
      cases this
  · omega
theorem LeastAt.some {l out rest : List ByteArray} {n : Nat} {y : ByteArray} (h : ris l = out ++ rest) (k : LeastAt l out l.length n) (hy : l[n]? = some y) : ∃ t, rest = y :: t := by
  rcases k with ⟨h1, -⟩ | ⟨m, y', h1, h2, h3, h4, h5⟩
  · omega
  · obtain rfl : m = n := by omega
    rw [h3] at hy
    cases hy
    have hyl : y ∈ l := List.mem_of_getElem? h3
    have hyr := (beh_mem l out rest h y hyl).1 h4
    rcases rest with _ | ⟨z, t⟩
    · cases hyr
    · refine ⟨t, ?_⟩
      have hu := ris_up l
      rw [h] at hu
      have hz : z ∈ l := (ris_mem l z).1 (by rw [h]; simp)
      obtain ⟨j, hj, e⟩ := List.getElem_of_mem hz
      have hzb := (beh_mem l out _ h z hz).2 (by simp)
      have hzy := h5 j z hj (by rw [List.getElem?_eq_getElem hj, e]) hzb
      rcases List.mem_cons.1 hyr with rfl | hm
      · rfl
      · rw [up_head (up_app hu) y hm] at hzy
        cases hzy

end Go.Proofs.Ythpafojeadbjlaa
