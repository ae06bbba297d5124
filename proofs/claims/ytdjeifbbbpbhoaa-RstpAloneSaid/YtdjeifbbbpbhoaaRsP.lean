/-
  A part that hears nothing, plainly: what its ports are, what it tells. It speaks of no program.
-/
import Derived.Test.YtdjeifbbbpbhoaaRsD
import Derived.Test.YtdjeifbbbpbhoaaRsE
import Derived.Deep.CutBlock
namespace Go.Proofs.Ytdjeifbbbpbhoaa
open Go.RowKit
set_option linter.unusedVariables false
set_option linter.unusedSimpArgs false

def onP (c s m : Int) : Prt := ⟨c, true, none, 2, s, decide (15 ≤ m - s), decide (30 ≤ m - s)⟩
def prtA (c s m : Int) : Prt := if s < 0 then newPrt c else onP c s m
theorem prtA_off {c s m : Int} (h : s < 0) : prtA c s m = newPrt c := if_pos h
theorem prtA_on {c s m : Int} (h : 0 ≤ s) : prtA c s m = onP c s m := if_neg (by omega)
theorem prtA_kept (c s m : Int) : (prtA c s m).kept = none := by unfold prtA; split <;> rfl
theorem prtA_role (c s m : Int) : (prtA c s m).role = if 0 ≤ s then 2 else 0 := by
  unfold prtA
  split
  · rw [if_neg (by omega)]; rfl
  · rw [if_pos (by omega)]; rfl
theorem play_on (c s m t : Int) : (prtA c s m).play t 2 = prtA c s t := by
  unfold prtA
  split
  · simp [newPrt, Prt.play, actv]
  · simp [onP, Prt.play, actv]
theorem play_new (c t : Int) : ((newPrt c).link true).play t 2 = onP c t t := by
  simp [newPrt, Prt.link, onP, Prt.play, actv]

theorem bestGo_blank (b : Int) : ∀ (L : List Hd) (i : Int) (s : Bst), (∀ h ∈ L, h.1 = false) → bestGo b i L s = s
  | [], i, s, _ => rfl
  | h :: L, i, s, hh => by
    have e : stepB b i h s = s := by unfold stepB leadB; rw [hh h (by simp)]; rfl
    show bestGo b (i + 1) L (stepB b i h s) = s
    rw [e]
    exact bestGo_blank b L (i + 1) s fun x hx => hh x (by simp [hx])
theorem rolesGo_blank (b : Int) (v : V4) : ∀ (L : List Hd) (i : Int), 0 ≤ i → (∀ h ∈ L, h.1 = false) → rolesGo b (-1, v) i L = List.replicate L.length 2
  | [], i, _, _ => rfl
  | h :: L, i, hi, hh => by
    have e : roleH b (-1, v) i h = 2 := by
      unfold roleH
      rw [if_neg (by show ¬ i = -1; omega), hh h (by simp)]
      rfl
    show roleH b (-1, v) i h :: rolesGo b (-1, v) (i + 1) L = _
    rw [e, rolesGo_blank b v L (i + 1) (by omega) fun x hx => hh x (by simp [hx])]
    rfl
theorem zip_rep {α β γ : Type} (f : α → β → γ) (a : β) : ∀ l : List α, List.zipWith f l (List.replicate l.length a) = l.map (fun x => f x a)
  | [] => rfl
  | x :: l => by
    show f x a :: List.zipWith f l (List.replicate l.length a) = _
    rw [zip_rep f a l]
    rfl
theorem right_blank {T : Part} (hk : ∀ p ∈ T.ps, p.kept = none) : T.right.br = T.br ∧ T.right.time = T.time ∧ T.right.best = ownV T.br ∧ T.right.ps = T.ps.map (fun p => p.play T.time 2) := by
  have e0 : T.ps.map (Prt.forget T.time) = T.ps := by
    have : ∀ l : List Prt, (∀ p ∈ l, p.kept = none) → l.map (Prt.forget T.time) = l := by
      intro l
      induction l with
      | nil => intro _; rfl
      | cons p l ih =>
        intro h
        rw [List.map_cons, forget_none (h p (by simp)), ih fun q hq => h q (by simp [hq])]
    exact this _ hk
  have e1 : T.forget = T := by unfold Part.forget; rw [e0]
  have e2 : ∀ h ∈ T.hds, h.1 = false := by
    intro h hh
    obtain ⟨p, hp, rfl⟩ := List.mem_map.1 hh
    unfold Prt.hd
    rw [hk p hp]
  have e3 : bestL T.br T.hds = (-1, ownV T.br) := bestGo_blank _ _ _ _ e2
  have e4 : rolesL T.br T.hds = List.replicate T.ps.length 2 := by
    unfold rolesL
    rw [e3, rolesGo_blank _ _ _ _ (by decide) e2]
    unfold Part.hds
    rw [List.length_map]
  refine ⟨rfl, rfl, ?_, ?_⟩
  · show (bestL T.br T.forget.hds).2 = _
    rw [e1, e3]
  · show List.zipWith (Prt.play T.time) T.forget.ps (rolesL T.br T.forget.hds) = _
    rw [e1, e4]
    exact zip_rep _ _ _

/-- A PART THAT HEARS NOTHING: its ports are up since σ (or not, if that is less than 0), as at time m. -/
structure Alone (b : Int) (cs : List Int) (σ : Nat → Int) (m : Int) (T : Part) : Prop where
  br : T.br = b
  tm : T.time = m
  bs : T.best = ownV b
  ps : ∀ i, T.ps[i]? = (cs[i]?).map fun c => prtA c (σ i) m
theorem Alone.len {b : Int} {cs : List Int} {σ : Nat → Int} {m : Int} {T : Part} (h : Alone b cs σ m T) : T.ps.length = cs.length := by
  have h1 := h.ps cs.length
  rw [List.getElem?_eq_none (Nat.le_refl _)] at h1
  have h2 := List.getElem?_eq_none_iff.1 h1
  rcases Nat.lt_or_ge T.ps.length cs.length with h3 | h3
  · have h4 := h.ps T.ps.length
    rw [List.getElem?_eq_none (Nat.le_refl _), List.getElem?_eq_getElem h3] at h4
    cases h4
  · omega
theorem Alone.kept {b : Int} {cs : List Int} {σ : Nat → Int} {m : Int} {T : Part} (h : Alone b cs σ m T) : ∀ p ∈ T.ps, p.kept = none := by
  intro p hp
  obtain ⟨i, hi, e⟩ := List.getElem_of_mem hp
  have h1 := h.ps i
  rw [List.getElem?_eq_getElem hi, e] at h1
  cases hc : cs[i]? with
  | none => rw [hc] at h1; cases h1
  | some c =>
    rw [hc] at h1
    have h2 : p = prtA c (σ i) m := Option.some.inj h1
    rw [h2]
    exact prtA_kept _ _ _
theorem Alone.congr {b : Int} {cs : List Int} {σ τ : Nat → Int} {m : Int} {T : Part} (h : Alone b cs σ m T) (e : ∀ i, i < cs.length → σ i = τ i) : Alone b cs τ m T :=
  ⟨h.br, h.tm, h.bs, fun i => by
    rw [h.ps i]
    cases hc : cs[i]? with
    | none => rfl
    | some c =>
      have := (List.getElem?_eq_some_iff.1 hc).1
      rw [e i this]⟩
theorem alone_new (b : Int) (cs : List Int) (σ : Nat → Int) (hσ : ∀ i, σ i < 0) : Alone b cs σ 0 (newPart b cs) :=
  ⟨rfl, rfl, rfl, fun i => by
    show (cs.map newPrt)[i]? = _
    rw [List.getElem?_map]
    cases cs[i]? with
    | none => rfl
    | some c => show some (newPrt c) = some (prtA c (σ i) 0); rw [prtA_off (hσ i)]⟩
theorem alone_right {T : Part} {b : Int} {cs : List Int} {σ : Nat → Int} {m : Int} {q : Nat → Int → Prt} (hb : T.br = b) (hm : T.time = m) (hq : ∀ i, T.ps[i]? = (cs[i]?).map (q i)) (hk : ∀ i c, (q i c).kept = none) (hp : ∀ i c, (q i c).play m 2 = prtA c (σ i) m) : Alone b cs σ m T.right := by
  have hkk : ∀ p ∈ T.ps, p.kept = none := by
    intro p hp
    obtain ⟨i, hi, e⟩ := List.getElem_of_mem hp
    have h1 := hq i
    rw [List.getElem?_eq_getElem hi, e] at h1
    cases hc : cs[i]? with
    | none => rw [hc] at h1; cases h1
    | some c =>
      rw [hc] at h1
      have h2 : p = q i c := Option.some.inj h1
      rw [h2]
      exact hk i c
  obtain ⟨e1, e2, e3, e4⟩ := right_blank hkk
  subst hb
  subst hm
  refine ⟨e1, e2, e3, fun i => ?_⟩
  rw [e4, List.getElem?_map, hq i]
  cases cs[i]? with
  | none => rfl
  | some c => show some ((q i c).play T.time 2) = some (prtA c (σ i) T.time); rw [hp i c]
theorem max_le' {m now : Int} (h : m ≤ now) : max m now = now := by omega
theorem alone_tick {T : Part} {b : Int} {cs : List Int} {σ : Nat → Int} {m now : Int} (h : Alone b cs σ m T) (hm : m ≤ now) (ht : timeR now = true) : Alone b cs σ now (T.tick now) := by
  unfold Part.tick
  rw [if_pos ht]
  exact alone_right (q := fun i c => prtA c (σ i) m) h.br (by show max T.time now = now; rw [h.tm, max_le' hm]) h.ps (fun i c => prtA_kept _ _ _) (fun i c => play_on _ _ _ _)
theorem alone_link {T : Part} {b : Int} {cs : List Int} {σ : Nat → Int} {m now : Int} (h : Alone b cs σ m T) (hm : m ≤ now) (ht : timeR now = true) (h0 : 0 ≤ now) {k : Nat} (hk : k < cs.length) (hσ : σ k < 0) : Alone b cs (fun i => if i = k then now else σ i) now (T.link (k : Int) true now) := by
  have hat : T.at? (k : Int) = some (newPrt cs[k]) := by
    unfold Part.at?
    rw [if_pos (by omega), Int.toNat_natCast, h.ps k, List.getElem?_eq_getElem hk]
    show some (prtA cs[k] (σ k) m) = _
    rw [prtA_off hσ]
  unfold Part.link
  rw [hat]
  simp only
  rw [if_pos ht]
  refine alone_right (q := fun i c => if i = k then (newPrt c).link true else prtA c (σ i) m) h.br (by show max T.time now = now; rw [h.tm, max_le' hm]) (fun i => ?_) (fun i c => ?_) (fun i c => ?_)
  · show (T.ps.set (k : Int).toNat ((newPrt cs[k]).link true))[i]? = _
    rw [Int.toNat_natCast]
    by_cases hi : i = k
    · subst hi
      rw [List.getElem?_set_self (by rw [h.len]; exact hk), List.getElem?_eq_getElem hk]
      show _ = some (if i = i then (newPrt cs[i]).link true else prtA cs[i] (σ i) m)
      rw [if_pos rfl]
    · rw [List.getElem?_set_ne (fun e => hi e.symm), h.ps i]
      cases cs[i]? with
      | none => rfl
      | some c => show some _ = some _; simp only [if_neg hi]
  · by_cases hi : i = k
    · simp only [if_pos hi]; rfl
    · simp only [if_neg hi]; exact prtA_kept _ _ _
  · by_cases hi : i = k
    · simp only [if_pos hi]
      rw [play_new, prtA_on h0]
    · simp only [if_neg hi]
      exact play_on _ _ _ _

theorem outGo_len (T : Part) : ∀ (l : List Prt) (i : Nat), (outGo T i l).length = l.countP (fun p => p.role == 2)
  | [], i => rfl
  | p :: l, i => by
    show ((if p.role == 2 then [_] else []) ++ outGo T (i + 1) l).length = _
    rw [List.length_append, outGo_len T l (i + 1), List.countP_cons]
    cases p.role == 2 <;> simp [Nat.add_comm]
theorem outGo_mem (T : Part) : ∀ (l : List Prt) (i : Nat), ∀ e ∈ outGo T i l, e.2.v = (T.best.1, T.best.2.1, T.br, e.1) ∧ e.2.age = T.age
  | [], i, e, h => by cases h
  | p :: l, i, e, h => by
    rcases List.mem_append.1 (show e ∈ (if p.role == 2 then [((i : Int), (⟨(T.best.1, T.best.2.1, T.br, (i : Int)), T.age, T.news, p.learns, p.fwd⟩ : Tell))] else []) ++ outGo T (i + 1) l from h) with h | h
    · split at h
      · rw [List.mem_singleton] at h
        subst h
        exact ⟨rfl, rfl⟩
      · cases h
    · exact outGo_mem T l (i + 1) e h
theorem Alone.list {b : Int} {cs : List Int} {σ : Nat → Int} {m : Int} {T : Part} (h : Alone b cs σ m T) : T.ps = (List.range cs.length).map fun i => prtA (cs.getD i 0) (σ i) m := by
  apply List.ext_getElem?
  intro i
  rw [h.ps i, List.getElem?_map]
  by_cases hi : i < cs.length
  · rw [List.getElem?_range hi, List.getElem?_eq_getElem hi]
    simp [List.getD_eq_getElem?_getD, hi]
  · rw [List.getElem?_eq_none (by omega), List.getElem?_eq_none (by rw [List.length_range]; omega)]
    rfl
theorem Alone.age {b : Int} {cs : List Int} {σ : Nat → Int} {m : Int} {T : Part} (h : Alone b cs σ m T) : T.age = 0 := by
  have e : T.ps.find? (fun p => p.role == 1) = none := by
    rw [List.find?_eq_none]
    intro p hp
    rw [h.list] at hp
    obtain ⟨i, -, rfl⟩ := List.mem_map.1 hp
    rw [prtA_role]
    split <;> decide
  unfold Part.age
  rw [e]
theorem Alone.told {b : Int} {cs : List Int} {σ : Nat → Int} {m now : Int} {T : Part} (h : Alone b cs σ m T) (hm : m ≤ now) (ht : timeR now = true) :
    (now % 2 = 0 → (T.told now).length = (List.range cs.length).countP (fun i => decide (0 ≤ σ i))) ∧ (now % 2 ≠ 0 → (T.told now).length = 0) ∧ ∀ e ∈ T.told now, e.2.v = (b, 0, b, e.1) ∧ e.2.age = 0 := by
  have hR := alone_tick h hm ht
  have eT : T.told now = (T.tick now).outs now := by unfold Part.told Part.tick; rw [if_pos ht, if_pos ht]
  rw [eT]
  generalize T.tick now = R at hR
  have ha := hR.age
  unfold Part.outs
  rw [ha]
  by_cases h2 : now % 2 = 0
  · have e : (now % 2 != 0 || decide ((20 : Int) ≤ 0)) = false := by rw [h2]; decide
    rw [e]
    simp only [Bool.false_eq_true, if_false]
    refine ⟨fun _ => ?_, fun h => absurd h2 h, fun e he => ?_⟩
    · rw [outGo_len, hR.list, List.countP_map]
      congr 1
      funext i
      show ((prtA (cs.getD i 0) (σ i) now).role == 2) = _
      rw [prtA_role]
      by_cases h0 : 0 ≤ σ i
      · rw [if_pos h0, decide_eq_true h0]; rfl
      · rw [if_neg h0, decide_eq_false h0]; rfl
    · have := outGo_mem R _ _ e he
      rw [hR.bs, hR.br, ha] at this
      exact this
  · have e : (now % 2 != 0 || decide ((20 : Int) ≤ 0)) = true := by simp [h2]
    rw [e]
    simp only [if_true]
    exact ⟨fun h => absurd h h2, fun _ => rfl, fun e he => by cases he⟩

/-- Since when port i is up, when those ahead of j have been told of it at now. -/
def sg (up : List Int) (now : Int) (j i : Nat) : Int := match up[i]? with
  | none => -1
  | some u => if 0 ≤ u ∧ (u < now ∨ (u = now ∧ i < j)) then u else -1
def inA (up : List Int) (now : Int) (i : Nat) : Bool := match up[i]? with
  | none => false
  | some u => decide (0 ≤ u) && decide (u ≤ now)
def cntA (up : List Int) (now : Int) (j : Nat) : Nat := (List.range j).countP (inA up now)
theorem sg_zero (up : List Int) (i : Nat) : sg up 0 0 i < 0 := by
  unfold sg
  split
  · decide
  · split
    · omega
    · decide
theorem sg_at {up : List Int} {j : Nat} {u : Int} (h : up[j]? = some u) (now : Int) (i : Nat) : sg up now i j = if 0 ≤ u ∧ (u < now ∨ (u = now ∧ j < i)) then u else -1 := by unfold sg; rw [h]
theorem sg_no {up : List Int} {j : Nat} {u : Int} (h : up[j]? = some u) {now : Int} (hu : u ≠ now) : sg up now (j + 1) = sg up now j := by
  funext i
  unfold sg
  by_cases hi : i = j
  · subst hi
    rw [h]
    simp [hu]
  · have e : (i < j + 1) = (i < j) := propext (by omega)
    simp only [e]
theorem sg_yes {up : List Int} {j : Nat} {now : Int} (h : up[j]? = some now) (h0 : 0 ≤ now) : sg up now (j + 1) = fun i => if i = j then now else sg up now j i := by
  funext i
  by_cases hi : i = j
  · subst hi
    rw [if_pos rfl, sg_at h, if_pos ⟨h0, Or.inr ⟨rfl, by omega⟩⟩]
  · rw [if_neg hi]
    unfold sg
    have e : (i < j + 1) = (i < j) := propext (by omega)
    simp only [e]
theorem sg_off {up : List Int} {j : Nat} {now : Int} (h : up[j]? = some now) : sg up now j j < 0 := by
  rw [sg_at h]
  split
  · omega
  · decide
theorem sg_next {up : List Int} {now : Int} {n M i : Nat} (hM : n ≤ M ∨ up.length ≤ M) (hi : i < n) : sg up now M i = sg up (now + 1) 0 i := by
  unfold sg
  cases hu : up[i]? with
  | none => rfl
  | some u =>
    have h1 := (List.getElem?_eq_some_iff.1 hu).1
    have e : (0 ≤ u ∧ (u < now ∨ (u = now ∧ i < M))) = (0 ≤ u ∧ (u < now + 1 ∨ (u = now + 1 ∧ i < 0))) := propext (by omega)
    simp only [e]
theorem sg_in {up : List Int} {now : Int} {n M i : Nat} (hM : n ≤ M ∨ up.length ≤ M) (hi : i < n) : decide (0 ≤ sg up now M i) = inA up now i := by
  cases hu : up[i]? with
  | none =>
    have e : sg up now M i = -1 := by unfold sg; rw [hu]
    have e1 : decide (0 ≤ sg up now M i) = false := decide_eq_false (by rw [e]; decide)
    have e2 : inA up now i = false := by unfold inA; rw [hu]
    rw [e1, e2]
  | some u =>
    have h1 := (List.getElem?_eq_some_iff.1 hu).1
    have hiM : i < M := by omega
    have e2 : inA up now i = (decide (0 ≤ u) && decide (u ≤ now)) := by unfold inA; rw [hu]
    by_cases hc : 0 ≤ u ∧ (u < now ∨ (u = now ∧ i < M))
    · have e : sg up now M i = u := by rw [sg_at hu, if_pos hc]
      have e1 : decide (0 ≤ sg up now M i) = true := decide_eq_true (by rw [e]; exact hc.1)
      rw [e1, e2, decide_eq_true hc.1, decide_eq_true (show u ≤ now by omega)]
      rfl
    · have e : sg up now M i = -1 := by rw [sg_at hu, if_neg hc]
      have e1 : decide (0 ≤ sg up now M i) = false := decide_eq_false (by rw [e]; decide)
      rw [e1, e2]
      by_cases h0 : 0 ≤ u
      · rw [decide_eq_false (show ¬ u ≤ now by omega), Bool.and_false]
      · rw [decide_eq_false h0]; rfl
theorem cntA_le (up : List Int) (now : Int) (j : Nat) : cntA up now j ≤ j := by
  have := List.countP_le_length (p := inA up now) (l := List.range j)
  rw [List.length_range] at this
  exact this
theorem cntA_succ (up : List Int) (now : Int) (j : Nat) : cntA up now (j + 1) = cntA up now j + (if inA up now j then 1 else 0) := by
  unfold cntA
  rw [List.range_succ, List.countP_append, List.countP_singleton]
theorem cntA_all {up : List Int} {now : Int} {n M : Nat} (hM : n = M ∨ (up.length = M ∧ M ≤ n)) : (List.range n).countP (inA up now) = cntA up now M := by
  rcases hM with rfl | ⟨hM, hn⟩
  · rfl
  · obtain ⟨d, rfl⟩ := Nat.exists_eq_add_of_le hn
    induction d with
    | zero => rfl
    | succ d ih =>
      have e := cntA_succ up now (M + d)
      have e2 : inA up now (M + d) = false := by
        unfold inA
        rw [List.getElem?_eq_none (by omega)]
      rw [e2] at e
      show cntA up now (M + d + 1) = _
      rw [e]
      exact ih (by omega)
theorem told_cnt {b : Int} {cs up : List Int} {m now : Int} {M : Nat} {T : Part} (h : Alone b cs (sg up now M) m T) (hM : cs.length = M ∨ (up.length = M ∧ M ≤ cs.length)) (hm : m ≤ now) (ht : timeR now = true) (h2 : now % 2 = 0) : (T.told now).length = cntA up now M := by
  rw [(h.told hm ht).1 h2, ← cntA_all (n := cs.length) hM]
  apply List.countP_congr
  intro i hi
  rw [List.mem_range] at hi
  rw [sg_in (n := cs.length) (by omega) hi]

end Go.Proofs.Ytdjeifbbbpbhoaa
