/-
  What a record makes of a state, plainly: it may be; source by source what is let through. It speaks of no program.
-/
import Derived.Test.YtceilgeefegbmaaGrQ
namespace Go.Proofs.Ytceilgeefegbmaa
open Go.RowKit
set_option linter.unusedVariables false
set_option linter.unusedSimpArgs false

/-- Is a source let through that stands so? -/
def letsE (E : Bool) (now : Int) : Option Int → Bool
  | none => E
  | some t => decide (now < t)
theorem look_some : ∀ {R : List Tm} {a : ByteArray} {t : Int}, look R a = some t → (a, t) ∈ R
  | [], a, t, h => by simp [look] at h
  | x :: r, a, t, h => by
    unfold look at h
    split at h
    · next e => simp at h; subst e; subst h; simp
    · exact List.mem_cons_of_mem _ (look_some h)
theorem kept_iff {s : St} {now : Int} {a : ByteArray} (h : okS s = true) (hn : 0 ≤ now) : a ∈ nmS ((srcE s now).filter fun x => !(exE s now) || decide (x.2 = 0)) ↔ ∃ t, look s.src a = some t ∧ decide (now < t) = !(exE s now) := by
  unfold srcE
  generalize exE s now = E
  have hA := Apart.of_ok h
  constructor
  · intro hm
    obtain ⟨x, hx, rfl⟩ := List.mem_map.1 hm
    obtain ⟨hx, hc⟩ := List.mem_filter.1 hx
    obtain ⟨y, hy, hk⟩ := List.mem_flatMap.1 hx
    have hl := look_in hA hy
    unfold keepX at hk
    split at hk
    · next hlt =>
      simp at hk
      subst hk
      refine ⟨_, hl, ?_⟩
      rw [decide_eq_true hlt]
      cases E
      · rfl
      · simp at hc
        omega
    · next hlt =>
      cases E
      · simp at hk
      · simp at hk
        subst hk
        exact ⟨_, hl, by rw [decide_eq_false hlt]; rfl⟩
  · rintro ⟨t, hl, hd⟩
    have hm := look_some hl
    cases E
    · have hlt : now < t := by simpa using hd
      refine List.mem_map.2 ⟨(a, t), List.mem_filter.2 ⟨List.mem_flatMap.2 ⟨_, hm, ?_⟩, rfl⟩, rfl⟩
      unfold keepX
      rw [if_pos hlt]
      simp
    · have hlt : ¬ now < t := by simpa using hd
      refine List.mem_map.2 ⟨(a, 0), List.mem_filter.2 ⟨List.mem_flatMap.2 ⟨_, hm, ?_⟩, rfl⟩, rfl⟩
      unfold keepX
      rw [if_neg hlt]
      simp
theorem adm_look {s : St} {now : Int} (h : okS s = true) (hn : 0 ≤ now) (a : ByteArray) : admS s a now = letsE (exE s now) now (look s.src a) := by
  have hk := kept_iff (a := a) h hn
  unfold admS expS
  rw [if_pos h]
  show (anyS (stE s now) && (hasS (nmS ((srcE s now).filter fun x => !(exE s now) || decide (x.2 = 0))) a != exE s now)) = _
  have hany : anyS (stE s now) = (exE s now || decide (0 < (srcE s now).length)) := rfl
  have hpos : a ∈ nmS ((srcE s now).filter fun x => !(exE s now) || decide (x.2 = 0)) → 0 < (srcE s now).length := by
    intro hm
    obtain ⟨x, hx, -⟩ := List.mem_map.1 hm
    exact List.length_pos_of_mem (List.mem_filter.1 hx).1
  rw [hany]
  generalize nmS ((srcE s now).filter fun x => !(exE s now) || decide (x.2 = 0)) = L at hk hpos ⊢
  generalize (srcE s now).length = n at hpos ⊢
  generalize exE s now = E at hk ⊢
  rw [← hasS_iff] at hk hpos
  generalize hasS L a = b at hk hpos ⊢
  rcases hlk : look s.src a with _ | t
  · have hno : b = false := by
      rw [← Bool.not_eq_true]
      intro hm
      obtain ⟨t, ht, -⟩ := hk.1 hm
      rw [hlk] at ht
      cases ht
    rw [hno]
    unfold letsE
    cases E <;> simp
  · unfold letsE
    cases b
    · have hd : ¬ decide (now < t) = !E := fun e => by have := hk.2 ⟨t, hlk, e⟩; cases this
      simp only
      revert hd
      generalize decide (now < t) = d
      cases E <;> cases d <;> simp
    · have hp := decide_eq_true (hpos rfl)
      rw [hp]
      obtain ⟨t', ht, hd⟩ := hk.1 rfl
      rw [hlk] at ht
      cases ht
      simp only
      rw [hd]
      cases E <;> rfl

theorem look_map (R : List Tm) (a : ByteArray) : ∀ l : List ByteArray, look (l.map fun x => (x, getR R x)) a = if hasS l a = true then some (getR R a) else none
  | [] => by simp [look, hasS]
  | x :: r => by
    rw [List.map_cons, look]
    by_cases e : x = a
    · subst e
      rw [if_pos rfl, if_pos (has_head _ _)]
    · rw [if_neg e, look_map R a r]
      by_cases hm : hasS r a = true
      · rw [if_pos hm, if_pos (has_tail hm)]
      · rw [if_neg hm, if_neg (has_not (fun k => e k.symm) hm)]
theorem look_sta (R : List Tm) (a : ByteArray) : look (staR R) a = look R a := by
  unfold staR
  rw [look_map]
  by_cases h : hasS (keysR R) a = true
  · rw [if_pos h]
    obtain ⟨t, ht⟩ := Option.isSome_iff_exists.1 ((keys_mem R a).1 ((hasS_iff _ _).1 h))
    unfold getR
    rw [ht]
    rfl
  · rw [if_neg h]
    rcases hl : look R a with _ | t
    · rfl
    · exact absurd ((hasS_iff _ _).2 ((keys_mem R a).2 (by rw [hl]; rfl))) h
theorem nm_sta (R : List Tm) : nmS (staR R) = keysR R := by
  unfold nmS staR
  rw [List.map_map]
  exact List.map_id _

theorem put_val {P : Int → Prop} {R : List Tm} {l : List ByteArray} {e : Int} (h : ∀ a t, look R a = some t → P t) (he : P e) : ∀ a t, look (putA R l e) a = some t → P t := by
  intro a t ht
  rw [look_putA] at ht
  split at ht
  · cases ht; exact he
  · exact h a t ht
theorem del_val {P : Int → Prop} {R : List Tm} {l : List ByteArray} (h : ∀ a t, look R a = some t → P t) : ∀ a t, look (delA R l) a = some t → P t := by
  intro a t ht
  rw [look_delA] at ht
  split at ht
  · cases ht
  · exact h a t ht
theorem hur_val {P : Int → Prop} {R : List Tm} {l : List ByteArray} {e : Int} (h : ∀ a t, look R a = some t → P t) (he : ∀ a ∈ l, P (min (getR R a) e)) : ∀ a t, look (hurA R l e) a = some t → P t := by
  intro a t ht
  rw [look_hurA] at ht
  split at ht
  · next hm => cases ht; exact he a ((hasS_iff _ _).1 hm)
  · exact h a t ht
theorem look_excA (R : List Tm) (tl : List ByteArray) (f : Int) (a : ByteArray) : look (excA R tl f) a = if hasS tl a = true ∧ look R a = none then some f else look R a := by
  unfold excA
  rw [look_putA]
  by_cases h : hasS tl a = true ∧ look R a = none
  · rw [if_pos h, if_pos]
    rw [hasS_iff]
    exact List.mem_filter.2 ⟨(hasS_iff _ _).1 h.1, by rw [h.2]; rfl⟩
  · rw [if_neg h, if_neg]
    rw [hasS_iff]
    intro hm
    obtain ⟨h1, h2⟩ := List.mem_filter.1 hm
    refine h ⟨(hasS_iff _ _).2 h1, ?_⟩
    rcases e : look R a with _ | t
    · rfl
    · rw [e] at h2; simp at h2
/-- May a time stand so? -/
def okV (ex : Bool) (t : Int) : Prop := 0 ≤ t ∧ (ex = false → 0 < t)
theorem okX_iff (ex : Bool) (x : Tm) : okX ex x = true ↔ okV ex x.2 := by
  unfold okX okV
  cases ex
  · simp; omega
  · simp
theorem okV.ex {e : Bool} {t : Int} (h : okV e t) : okV true t := ⟨h.1, fun k => by cases k⟩
/-- What the change is behind a record. -/
theorem fol_vals {s : St} {kd : Int} {tl : List ByteArray} {e : Int} (h : okS s = true) (he : 0 < e) :
    (∀ a t, look (folP s.ex s.tm s.src kd tl e).src a = some t → okV (folP s.ex s.tm s.src kd tl e).ex t) ∧ 0 ≤ (folP s.ex s.tm s.src kd tl e).tm ∧ (folP s.ex s.tm s.src kd tl e).ex = decide (0 < (folP s.ex s.tm s.src kd tl e).tm) ∧
    (∀ a ∈ (folP s.ex s.tm s.src kd tl e).al, 0 < getR (folP s.ex s.tm s.src kd tl e).src a) ∧ ((folP s.ex s.tm s.src kd tl e).ag = true → 0 < (folP s.ex s.tm s.src kd tl e).tm) := by
  obtain ⟨ex, tm, R⟩ := s
  obtain ⟨-, h1, h2, h3, h4⟩ := (ok_iff _).1 h
  have h1 : 0 ≤ tm := h1
  have h2 : ex = decide (0 < tm) := h2
  have hv : ∀ a t, look R a = some t → okV ex t := fun a t ht => (okX_iff _ _).1 (h3 _ (look_some ht))
  unfold folP
  have hpe : ∀ x, okV x e := fun x => ⟨by omega, fun _ => he⟩
  simp only
  split
  · refine ⟨put_val hv (hpe _), h1, h2, ?_, fun k => by simpa using h2.symm.trans k⟩
    intro a ha
    obtain ⟨ha, hb⟩ := List.mem_filter.1 ha
    obtain ⟨ha, hc⟩ := List.mem_filter.1 ha
    show 0 < getR (putA R tl e) a
    unfold getR
    rw [look_putA]
    split
    · exact he
    · exact of_decide_eq_true hc
  · split
    · exact ⟨put_val hv (hpe _), h1, h2, fun a ha => by simp at ha, fun k => by cases k⟩
    · split
      · refine ⟨del_val (put_val (fun a t ht => (hv a t ht).ex) ⟨h1, fun k => by cases k⟩), by show 0 ≤ e; omega, (decide_eq_true he).symm, ?_, fun k => by cases k⟩
        intro a ha
        simpa using (List.mem_filter.1 ha).2
      · split
        · refine ⟨del_val (put_val (fun a t ht => (hv a t ht).ex) ⟨?_, fun k => by cases k⟩), by show 0 ≤ e; omega, (decide_eq_true he).symm, fun a ha => by simp at ha, fun k => by cases k⟩
          split <;> omega
        · refine ⟨?_, h1, h2, ?_, fun k => by cases k⟩
          · show ∀ a t, look (if ex then excA R tl tm else R) a = some t → okV ex t
            cases ex
            · exact hv
            · exact put_val hv ⟨h1, fun k => by cases k⟩
          · intro a ha
            simpa using (List.mem_filter.1 ha).2
/-- The state that a change gives may be. -/
theorem sta_ok {ex : Bool} {tm : Int} {R : List Tm} (hA : Apart R) (hv : ∀ a t, look R a = some t → okV ex t) (h1 : 0 ≤ tm) (h2 : ex = decide (0 < tm)) (hl : R.length ≤ 60) : okS ⟨ex, tm, staR R⟩ = true := by
  rw [ok_iff]
  refine ⟨by show (staR R).length ≤ 60; rw [sta_len hA]; exact hl, h1, h2, ?_, ?_⟩
  · intro x hx
    rw [okX_iff]
    refine hv x.1 x.2 ?_
    rw [← look_sta]
    refine look_in ?_ hx
    rw [nm_sta]
    exact up_nodup (ris_up _)
  · show upB (nmS (staR R)) = true
    rw [nm_sta, upB_iff]
    exact ris_up _
/-- The change that a record gives, hurried. -/
def chP (s : St) (kd : Int) (rs : List ByteArray) (now m l : Int) : Cg := hurP (folP s.ex s.tm s.src kd (ris rs) (now + m)) (now + l)
theorem app_yes {s : St} {kd : Int} {rs : List ByteArray} {now m l : Int} (h : (appS s kd rs now m l).er = 0) :
    okS s = true ∧ mayT m l now = true ∧ recT kd rs = true ∧ (chP s kd rs now m l).src.length ≤ 60 ∧ (chP s kd rs now m l).al = (folP s.ex s.tm s.src kd (ris rs) (now + m)).al ∧
    appS s kd rs now m l = ⟨⟨(chP s kd rs now m l).ex, (chP s kd rs now m l).tm, staR (chP s kd rs now m l).src⟩, (chP s kd rs now m l).ex || decide (0 < (staR (chP s kd rs now m l).src).length), (chP s kd rs now m l).ag, (chP s kd rs now m l).al, 0⟩ := by
  unfold appS at h ⊢
  split at h
  · cases h
  · next h1 =>
    split at h
    · cases h
    · next h2 =>
      have h1 : okS s = true := by simpa using h1
      have h2 : mayT m l now = true ∧ recT kd rs = true := by simpa using h2
      refine ⟨h1, h2.1, h2.2, ?_⟩
      rw [if_neg (by simp [h1]), if_neg (by simp [h2.1, h2.2])]
      change (endA (chP s kd rs now m l)).er = 0 at h
      show _ ∧ _ ∧ endA (chP s kd rs now m l) = _
      unfold endA at h ⊢
      split at h
      · cases h
      · next h3 =>
        rw [if_neg h3]
        exact ⟨by omega, rfl, rfl⟩
theorem app_bad {s : St} {kd : Int} {rs : List ByteArray} {now m l : Int} (h : (appS s kd rs now m l).er ≠ 0) : (appS s kd rs now m l).is = false := by
  unfold appS at h ⊢
  split
  · rfl
  · next h1 =>
    rw [if_neg h1] at h
    split
    · rfl
    · next h2 =>
      rw [if_neg h2] at h
      unfold endA at h ⊢
      split
      · rfl
      · next h3 => rw [if_neg h3] at h; exact absurd rfl h
theorem may_now {m l now : Int} (h : mayT m l now = true) : 1 ≤ now ∧ 1 ≤ m ∧ 1 ≤ l := by
  simp [mayT] at h
  omega
theorem app_ok {s : St} {kd : Int} {rs : List ByteArray} {now m l : Int} (h : (appS s kd rs now m l).er = 0) : okS (appS s kd rs now m l).st = true := by
  obtain ⟨h1, h2, h3, h4, h5, h6⟩ := app_yes h
  obtain ⟨n1, n2, n3⟩ := may_now h2
  rw [h6]
  obtain ⟨v1, v2, v3, v4, v5⟩ := fol_vals (kd := kd) (tl := ris rs) (e := now + m) h1 (by omega)
  have hA : Apart (folP s.ex s.tm s.src kd (ris rs) (now + m)).src := by
    have := Apart.of_ok h1
    unfold folP
    repeat' split
    all_goals first | exact this.putA _ | exact (exc_apart this _ _).2 | exact (exc_apart this _ _).1 | exact this
  unfold chP at h4 ⊢
  generalize folP s.ex s.tm s.src kd (ris rs) (now + m) = C at *
  obtain ⟨cx, ct, cs, cg, ca⟩ := C
  simp only at v1 v2 v3 v4 v5 hA
  refine sta_ok (hA.hurA _) (hur_val v1 fun a ha => ⟨?_, fun _ => ?_⟩) ?_ ?_ h4
  · have := v4 a ha; show 0 ≤ min (getR cs a) (now + l); omega
  · have := v4 a ha; show 0 < min (getR cs a) (now + l); omega
  · show 0 ≤ if cg = true then min ct (now + l) else ct
    split <;> omega
  · show cx = decide (0 < if cg = true then min ct (now + l) else ct)
    rw [v3]
    split
    · next k => have := v5 k; exact decide_eq_decide.2 (by omega)
    · rfl
theorem app_len {s : St} {kd : Int} {rs : List ByteArray} {now m l : Int} (h : (appS s kd rs now m l).er = 0) : (appS s kd rs now m l).st.src.length ≤ 60 ∧ (appS s kd rs now m l).al.length ≤ 120 ∧ (appS s kd rs now m l).is = anyS (appS s kd rs now m l).st := by
  have hok := app_ok h
  obtain ⟨h1, h2, h3, h4, h5, h6⟩ := app_yes h
  refine ⟨((ok_iff _).1 hok).1, ?_, by rw [h6]; rfl⟩
  rw [h6]
  show (chP s kd rs now m l).al.length ≤ 120
  rw [h5]
  have hr : rs.length ≤ 60 := by simp [recT] at h3; exact h3.2
  have hR : s.src.length ≤ 60 := ((ok_iff _).1 h1).1
  have hi := ris_len rs
  have hk := keys_len (Apart.of_ok h1)
  unfold folP
  have f1 := List.length_filter_le (fun x => !hasS (ris rs) x) ((keysR s.src).filter fun x => decide (0 < getR s.src x))
  have f2 := List.length_filter_le (fun x => decide (0 < getR s.src x)) (keysR s.src)
  repeat' split
  all_goals first | (show ((((keysR s.src).filter fun x => decide (0 < getR s.src x)).filter fun x => !hasS (ris rs) x).length ≤ 120); omega) | exact Nat.zero_le _ | exact Nat.le_trans (List.length_filter_le _ _) (by omega)
theorem any_of {s : St} {now : Int} {a : ByteArray} (h : okS s = true) (hn : 0 ≤ now) (ha : admS s a now = true) : anyS s = true := by
  rw [adm_look h hn] at ha
  unfold anyS
  rcases hl : look s.src a with _ | t
  · rw [hl] at ha
    unfold letsE exE at ha
    simp only [Bool.and_eq_true] at ha
    rw [ha.1]
    rfl
  · rw [decide_eq_true (List.length_pos_of_mem (look_some hl)), Bool.or_true]
theorem app_look {s : St} {kd : Int} {rs : List ByteArray} {now m l : Int} (h : (appS s kd rs now m l).er = 0) (a : ByteArray) : look (appS s kd rs now m l).st.src a =
    if hasS (folP s.ex s.tm s.src kd (ris rs) (now + m)).al a = true then some (min (getR (folP s.ex s.tm s.src kd (ris rs) (now + m)).src a) (now + l)) else look (folP s.ex s.tm s.src kd (ris rs) (now + m)).src a := by
  obtain ⟨h1, h2, h3, h4, h5, h6⟩ := app_yes h
  rw [h6]
  show look (staR (chP s kd rs now m l).src) a = _
  rw [look_sta]
  exact look_hurA _ _ _ _
/-- What is let through and not asked about still is. -/
theorem stays {s : St} {kd : Int} {rs : List ByteArray} {now m l : Int} {a : ByteArray} (hk : kd = 1 ∨ kd = 5 ∨ kd = 6) (h : (appS s kd rs now m l).er = 0) (hw : admS s a now = true) :
    admS (appS s kd rs now m l).st a now = true ∧ (appS s kd rs now m l).is = true ∧ (hasS (appS s kd rs now m l).al a = true → kd = 6) := by
  have hlk := app_look h a
  have hok := app_ok h
  obtain ⟨h1, h2, h3, h4, h5, h6⟩ := app_yes h
  obtain ⟨n1, n2, n3⟩ := may_now h2
  have hn : 0 ≤ now := by omega
  have his : (appS s kd rs now m l).is = anyS (appS s kd rs now m l).st := by rw [h6]; rfl
  have hal : (appS s kd rs now m l).al = (folP s.ex s.tm s.src kd (ris rs) (now + m)).al := by rw [h6]; exact h5
  suffices hs : admS (appS s kd rs now m l).st a now = true ∧ (hasS (appS s kd rs now m l).al a = true → kd = 6) from ⟨hs.1, by rw [his]; exact any_of hok hn hs.1, hs.2⟩
  rw [adm_look hok hn, hlk, hal]
  rw [adm_look h1 hn] at hw
  have hE : exE (appS s kd rs now m l).st now = exE s now := by
    rw [h6]
    show (((chP s kd rs now m l).ex) && decide (now < (chP s kd rs now m l).tm)) = (s.ex && decide (now < s.tm))
    unfold chP hurP folP
    rcases hk with rfl | rfl | rfl <;> simp
  rw [hE]
  clear h6 hE hlk hok his hal h4 h5 h
  obtain ⟨-, o1, o2, o3, -⟩ := (ok_iff _).1 h1
  rcases hk with rfl | rfl | rfl
  · have e : folP s.ex s.tm s.src 1 (ris rs) (now + m) = ⟨s.ex, s.tm, putA s.src (ris rs) (now + m), false, []⟩ := by unfold folP; simp
    rw [e]
    refine ⟨?_, fun k => by cases k⟩
    rw [if_neg (by intro k; cases k), look_putA]
    split
    · exact decide_eq_true (by omega)
    · exact hw
  · have e : folP s.ex s.tm s.src 5 (ris rs) (now + m) = ⟨s.ex, s.tm, putA s.src (ris rs) (now + m), false, []⟩ := by unfold folP; simp
    rw [e]
    refine ⟨?_, fun k => by cases k⟩
    rw [if_neg (by intro k; cases k), look_putA]
    split
    · exact decide_eq_true (by omega)
    · exact hw
  · have e : folP s.ex s.tm s.src 6 (ris rs) (now + m) = ⟨s.ex, s.tm, if s.ex then excA s.src (ris rs) s.tm else s.src, false, (ris rs).filter fun x => decide (0 < getR (if s.ex then excA s.src (ris rs) s.tm else s.src) x)⟩ := by unfold folP; simp
    rw [e]
    refine ⟨?_, fun _ => rfl⟩
    simp only
    obtain ⟨S, hS⟩ : ∃ S, S = if s.ex then excA s.src (ris rs) s.tm else s.src := ⟨_, rfl⟩
    rw [← hS]
    rcases hl : look s.src a with _ | t
    · rw [hl] at hw
      have hw : exE s now = true := hw
      have hex : s.ex = true ∧ now < s.tm := by unfold exE at hw; simpa using hw
      have hSl : look S a = if hasS (ris rs) a = true ∧ look s.src a = none then some s.tm else look s.src a := by rw [hS, hex.1]; exact look_excA _ _ _ _
      rw [hl] at hSl
      by_cases hr : hasS (ris rs) a = true
      · rw [if_pos ⟨hr, rfl⟩] at hSl
        have hg : getR S a = s.tm := by unfold getR; rw [hSl]; rfl
        rw [if_pos]
        · rw [hg]
          exact decide_eq_true (by omega)
        · rw [hasS_iff]
          exact List.mem_filter.2 ⟨(hasS_iff _ _).1 hr, decide_eq_true (by rw [hg]; omega)⟩
      · rw [if_neg fun k => hr k.1] at hSl
        rw [if_neg, hSl]
        · exact hw
        · rw [hasS_iff]
          exact fun k => hr ((hasS_iff _ _).2 (List.mem_filter.1 k).1)
    · rw [hl] at hw
      have hlt : now < t := of_decide_eq_true hw
      have hSl : look S a = some t := by
        rw [hS]
        split
        · rw [look_excA, if_neg (by rw [hl]; intro k; cases k.2), hl]
        · exact hl
      have hg : getR S a = t := by unfold getR; rw [hSl]; rfl
      split
      · rw [hg]
        exact decide_eq_true (by omega)
      · rw [hSl]
        exact decide_eq_true hlt
theorem may_top {m l now : Int} (h : mayT m l now = true) : m ≤ 1000000 ∧ now ≤ 1099511627776 := by
  simp [mayT] at h
  omega
theorem app_times {s : St} {kd : Int} {rs : List ByteArray} {now m l : Int} (h : (appS s kd rs now m l).er = 0) : 1 ≤ now ∧ 1 ≤ m ∧ m ≤ 1000000 ∧ now ≤ 1099511627776 := by
  obtain ⟨-, h2, -⟩ := app_yes h
  obtain ⟨n1, n2, n3⟩ := may_now h2
  obtain ⟨n4, n5⟩ := may_top h2
  exact ⟨n1, n2, n4, n5⟩
theorem hasS_ris (l : List ByteArray) (a : ByteArray) : hasS (ris l) a = hasS l a := by
  rw [Bool.eq_iff_iff, hasS_iff, hasS_iff, ris_mem]
theorem look_excR (R : List Tm) (tl : List ByteArray) (f : Int) (a : ByteArray) (h : hasS tl a = false) : look (excR R tl f) a = none := by
  unfold excR
  rw [look_delA]
  split
  · rfl
  · next k =>
    rcases e : look (excA R tl f) a with _ | t
    · rfl
    · refine absurd ((hasS_iff _ _).2 (List.mem_filter.2 ⟨(keys_mem _ _).2 (by rw [e]; rfl), ?_⟩)) k
      rw [h]
      rfl
/-- What a host says it wants is let through. -/
theorem wants {s : St} {kd : Int} {rs : List ByteArray} {now m l : Int} {a : ByteArray} (h : (appS s kd rs now m l).er = 0) (h6 : kd ≠ 6) (hw : hasS rs a = !(decide (kd = 2) || decide (kd = 4))) :
    (appS s kd rs now m l).is = true ∧ admS (appS s kd rs now m l).st a now = true ∧ admS (appS s kd rs now m l).st a (now + m - 1) = true := by
  have hlk := app_look h a
  have hok := app_ok h
  obtain ⟨-, -, his⟩ := app_len h
  obtain ⟨n1, n2, n3, n4⟩ := app_times h
  obtain ⟨h1, h2, h3, h4, h5, h6'⟩ := app_yes h
  suffices hs : admS (appS s kd rs now m l).st a now = true ∧ admS (appS s kd rs now m l).st a (now + m - 1) = true from ⟨by rw [his]; exact any_of hok (by omega) hs.1, hs⟩
  rw [adm_look hok (by omega), adm_look hok (by omega), hlk]
  rw [← hasS_ris] at hw
  have hE : ∀ u, exE (appS s kd rs now m l).st u = ((chP s kd rs now m l).ex && decide (u < (chP s kd rs now m l).tm)) := fun u => by rw [h6']; rfl
  rw [hE, hE]
  clear hE h6' hok hlk his h4 h5
  have hkd : 1 ≤ kd ∧ kd ≤ 6 := by simp [recT] at h3; omega
  unfold chP hurP
  by_cases k24 : kd = 2 ∨ kd = 4
  · have hno : hasS (ris rs) a = false := by
      rw [hw]
      rcases k24 with rfl | rfl <;> rfl
    rcases k24 with rfl | rfl
    · have e : folP s.ex s.tm s.src 2 (ris rs) (now + m) = ⟨true, now + m, excR s.src (ris rs) (if s.ex then now + m else 0), false, []⟩ := by unfold folP; simp
      rw [e]
      have hal : hasS ([] : List ByteArray) a = false := rfl
      simp only [Bool.true_and, Bool.false_eq_true, if_false, hal, look_excR _ _ _ _ hno]
      exact ⟨decide_eq_true (by omega), decide_eq_true (by omega)⟩
    · have e : folP s.ex s.tm s.src 4 (ris rs) (now + m) = ⟨true, now + m, excR s.src (ris rs) s.tm, false, (ris rs).filter fun x => decide (0 < getR (excR s.src (ris rs) s.tm) x)⟩ := by unfold folP; simp
      have hal : hasS ((ris rs).filter fun x => decide (0 < getR (excR s.src (ris rs) s.tm) x)) a = false := by
        rw [← Bool.not_eq_true, hasS_iff]
        intro k
        rw [(hasS_iff _ _).2 (List.mem_filter.1 k).1] at hno
        cases hno
      rw [e]
      simp only [Bool.true_and, Bool.false_eq_true, if_false, hal, look_excR _ _ _ _ hno]
      exact ⟨decide_eq_true (by omega), decide_eq_true (by omega)⟩
  · have hyes : hasS (ris rs) a = true := by
      rw [hw, decide_eq_false (fun k => k24 (.inl k)), decide_eq_false (fun k => k24 (.inr k))]
      rfl
    have hc : (folP s.ex s.tm s.src kd (ris rs) (now + m)).src = putA s.src (ris rs) (now + m) ∧ hasS (folP s.ex s.tm s.src kd (ris rs) (now + m)).al a = false := by
      unfold folP
      by_cases k3 : kd = 3
      · rw [if_pos k3]
        refine ⟨rfl, ?_⟩
        rw [← Bool.not_eq_true, hasS_iff]
        intro k
        have := (List.mem_filter.1 k).2
        rw [hyes] at this
        cases this
      · rw [if_neg k3, if_pos (by omega)]
        exact ⟨rfl, rfl⟩
    simp only [hc.1, hc.2, Bool.false_eq_true, if_false, look_putA, hyes, if_true]
    exact ⟨decide_eq_true (by omega), decide_eq_true (by omega)⟩
end Go.Proofs.Ytceilgeefegbmaa
