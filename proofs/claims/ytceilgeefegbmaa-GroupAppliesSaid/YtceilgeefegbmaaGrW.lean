/-
  A record told twice, plainly. It speaks of no program.
-/
import Derived.Test.YtceilgeefegbmaaGrT
namespace Go.Proofs.Ytceilgeefegbmaa
open Go.RowKit
set_option linter.unusedVariables false
set_option linter.unusedSimpArgs false

theorem sta_ext {R R' : List Tm} (h : ∀ a, look R' a = look R a) : staR R' = staR R := by
  have hk : keysR R' = keysR R := up_unique _ _ (ris_up _) (ris_up _) (fun x => by
    show x ∈ keysR R' ↔ x ∈ keysR R
    rw [keys_mem, keys_mem, h])
  unfold staR
  rw [hk]
  exact List.map_congr_left fun a _ => by unfold getR; rw [h]
theorem app_eq {s : St} {kd : Int} {rs : List ByteArray} {now m l : Int} (h1 : okS s = true) (h2 : mayT m l now = true) (h3 : recT kd rs = true) : appS s kd rs now m l = endA (chP s kd rs now m l) := by
  unfold appS
  rw [if_neg (by simp [h1]), if_neg (by simp [h2, h3])]
  rfl
theorem twice_of {s : St} {kd : Int} {rs : List ByteArray} {now m l : Int} (h : (appS s kd rs now m l).er = 0) {X : Bool} {T : Int} {R R' : List Tm} (e1 : chP s kd rs now m l = ⟨X, T, R, false, []⟩)
    (e2 : chP ⟨X, T, staR R⟩ kd rs now m l = ⟨X, T, R', false, []⟩) (hl : ∀ a, look R' a = look R a) (hA : Apart R) (hA' : Apart R') :
    (appS s kd rs now m l).ag = false ∧ (appS s kd rs now m l).al = [] ∧ appS (appS s kd rs now m l).st kd rs now m l = appS s kd rs now m l := by
  have hok := app_ok h
  obtain ⟨h1, h2, h3, h4, h5, h6⟩ := app_yes h
  rw [e1] at h4 h6
  have hs := sta_ext hl
  have hlen : R'.length ≤ 60 := by
    rw [← sta_len hA', hs, sta_len hA]
    exact h4
  rw [h6] at hok ⊢
  refine ⟨rfl, rfl, ?_⟩
  rw [app_eq hok h2 h3]
  show endA (chP ⟨X, T, staR R⟩ kd rs now m l) = _
  rw [e2]
  unfold endA
  rw [if_neg (by show ¬ 60 < R'.length; omega)]
  simp only
  rw [hs]
theorem look_excR_in {R : List Tm} {tl : List ByteArray} {f : Int} {a : ByteArray} (h : hasS tl a = true) : look (excR R tl f) a = look (excA R tl f) a := by
  unfold excR
  rw [look_delA, if_neg]
  rw [hasS_iff]
  intro k
  have := (List.mem_filter.1 k).2
  rw [h] at this
  cases this
theorem exc_twice (R : List Tm) (tl : List ByteArray) (f g : Int) (a : ByteArray) : look (excR (staR (excR R tl f)) tl g) a = look (excR R tl f) a := by
  rcases Bool.eq_false_or_eq_true (hasS tl a) with hr | hr
  · rw [look_excR_in hr, look_excA, look_sta, look_excR_in hr, look_excA]
    by_cases k : hasS tl a = true ∧ look R a = none
    · rw [if_pos k, if_neg (fun e => by cases e.2)]
    · rw [if_neg k, if_neg k]
  · rw [look_excR _ _ _ _ hr, look_excR _ _ _ _ hr]
/-- What is said twice at the same time changes nothing the second time. -/
theorem twice {s : St} {kd : Int} {rs : List ByteArray} {now m l : Int} (hk : kd = 1 ∨ kd = 2 ∨ kd = 5) (h : (appS s kd rs now m l).er = 0) :
    (appS s kd rs now m l).ag = false ∧ (appS s kd rs now m l).al = [] ∧ appS (appS s kd rs now m l).st kd rs now m l = appS s kd rs now m l := by
  obtain ⟨h1, -⟩ := app_yes h
  have hA := Apart.of_ok h1
  have hS : ∀ R : List Tm, Apart (staR R) := fun R => by
    show (nmS (staR R)).Nodup
    rw [nm_sta]
    exact up_nodup (ris_up _)
  have c15 : ∀ (x : Bool) (t : Int) (R : List Tm) (k : Int), k = 1 ∨ k = 5 → chP ⟨x, t, R⟩ k rs now m l = ⟨x, t, putA R (ris rs) (now + m), false, []⟩ := by
    intro x t R k hk
    unfold chP folP
    rcases hk with rfl | rfl <;> simp [hurP, hurA]
  have c2 : ∀ (x : Bool) (t : Int) (R : List Tm), chP ⟨x, t, R⟩ 2 rs now m l = ⟨true, now + m, excR R (ris rs) (if x then now + m else 0), false, []⟩ := by
    intro x t R
    unfold chP folP
    simp [hurP, hurA]
  have pp : ∀ R a, look (putA (staR (putA R (ris rs) (now + m))) (ris rs) (now + m)) a = look (putA R (ris rs) (now + m)) a := by
    intro R a
    rw [look_putA, look_sta, look_putA]
    split <;> rfl
  rcases hk with rfl | rfl | rfl
  · exact twice_of h (c15 _ _ _ 1 (.inl rfl)) (c15 _ _ _ 1 (.inl rfl)) (pp _) (hA.putA _) ((hS _).putA _)
  · exact twice_of h (c2 _ _ _) (c2 _ _ _) (fun a => exc_twice _ _ _ _ a) (exc_apart hA _ _).2 (exc_apart (hS _) _ _).2
  · exact twice_of h (c15 _ _ _ 5 (.inr rfl)) (c15 _ _ _ 5 (.inr rfl)) (pp _) (hA.putA _) ((hS _).putA _)
theorem app_sz {s : St} {kd : Int} {rs : List ByteArray} {now m l : Int} (h : (appS s kd rs now m l).er = 0) (hz : SzR s.src) (hs : ∀ x ∈ rs, x.size ≤ maxLen) : SzR (appS s kd rs now m l).st.src := by
  obtain ⟨h1, h2, h3, h4, h5, h6⟩ := app_yes h
  obtain ⟨-, f2, -, -, f5⟩ := fol_ok (ex := s.ex) (tm := s.tm) (kd := kd) (e := now + m) (Apart.of_ok h1) hz (fun x hx => hs x ((ris_mem _ _).1 hx) : ∀ x ∈ ris rs, x.size ≤ maxLen)
  rw [h6]
  show SzR (staR (chP s kd rs now m l).src)
  intro x hx
  obtain ⟨y, hy, rfl⟩ := List.mem_map.1 hx
  exact SzR.keys (f2.hurA _ f5) y hy
/-- What a state is by a time may be, and by the same time again it is the same. -/
theorem exp_ok {s : St} {now : Int} (h : okS s = true) : okS (stE s now) = true ∧ stE (stE s now) now = stE s now := by
  obtain ⟨h1, h2, h3, h4, h5⟩ := (ok_iff s).1 h
  have hE : exE (stE s now) now = exE s now := by
    show (exE s now && decide (now < if exE s now = true then s.tm else 0)) = exE s now
    rcases Bool.eq_false_or_eq_true (exE s now) with e | e
    · rw [e, if_pos rfl]
      have : now < s.tm := by unfold exE at e; simp at e; exact e.2
      simp [this]
    · rw [e]; rfl
  have hsub : ∀ (E : Bool) (L : List Tm), (nmS (L.flatMap (keepX E now))).Sublist (nmS L) := by
    intro E L
    induction L with
    | nil => exact List.Sublist.refl _
    | cons x r ih =>
      rw [List.flatMap_cons]
      show (((keepX E now x ++ r.flatMap (keepX E now)).map fun x => x.1)).Sublist (x.1 :: nmS r)
      rw [List.map_append]
      generalize r.flatMap (keepX E now) = t at ih ⊢
      unfold keepX
      split
      · exact List.Sublist.cons_cons _ ih
      · split
        · exact List.Sublist.cons_cons _ ih
        · exact List.Sublist.cons _ ih
  have hx : ∀ x ∈ srcE s now, okX (exE s now) x = true ∧ keepX (exE s now) now x = [x] := by
    intro x hx
    obtain ⟨y, hy, hk⟩ := List.mem_flatMap.1 hx
    have hy' := (okX_iff _ _).1 (h4 y hy)
    rw [okX_iff]
    unfold keepX at hk
    split at hk
    · next hlt =>
      simp at hk
      subst hk
      refine ⟨⟨hy'.1, fun e => ?_⟩, by unfold keepX; rw [if_pos hlt]⟩
      have hpos := hy'.1
      rcases Int.lt_or_le 0 x.2 with k | k
      · exact k
      · exfalso
        have hx0 : x.2 = 0 := by omega
        have hsx : s.ex = true := by
          rcases Bool.eq_false_or_eq_true s.ex with k2 | k2
          · exact k2
          · have := hy'.2 k2; omega
        unfold exE at e
        rw [hsx] at e h3
        have h3' : 0 < s.tm := by simpa using h3.symm
        simp at e
        omega
    · next hlt =>
      split at hk
      · next hE =>
        simp at hk
        subst hk
        refine ⟨⟨Int.le_refl _, fun e => by rw [hE] at e; cases e⟩, ?_⟩
        unfold keepX
        split
        · rfl
        · first | rfl | rw [if_pos hE]
      · simp at hk
  refine ⟨?_, ?_⟩
  · rw [ok_iff]
    refine ⟨Nat.le_trans (keeps_len _ _ _) h1, ?_, ?_, fun x hm => (hx x hm).1, ?_⟩
    · show 0 ≤ if exE s now = true then s.tm else 0
      split <;> omega
    · show exE s now = decide (0 < if exE s now = true then s.tm else 0)
      rcases Bool.eq_false_or_eq_true (exE s now) with e | e
      · rw [e, if_pos rfl]
        have hsx : s.ex = true := by unfold exE at e; simp at e; exact e.1
        rw [← h3, hsx]
      · rw [e]; rfl
    · rw [upB_iff]
      exact List.Pairwise.sublist (hsub _ _) ((upB_iff _).1 h5)
  · show (⟨exE (stE s now) now, if exE (stE s now) now = true then (if exE s now = true then s.tm else 0) else 0, (srcE s now).flatMap (keepX (exE (stE s now) now) now)⟩ : St) = ⟨exE s now, if exE s now = true then s.tm else 0, srcE s now⟩
    rw [hE]
    have hf : (srcE s now).flatMap (keepX (exE s now) now) = srcE s now := by
      have : ∀ L : List Tm, (∀ x ∈ L, keepX (exE s now) now x = [x]) → L.flatMap (keepX (exE s now) now) = L := by
        intro L
        induction L with
        | nil => intro _; rfl
        | cons x r ih =>
          intro h
          rw [List.flatMap_cons, h x (by simp), ih fun y hy => h y (List.mem_cons_of_mem _ hy)]
          rfl
      exact this _ fun x hm => (hx x hm).2
    rw [hf]
    split <;> rfl
theorem any_no {x : Bool} {t : Int} {l : List Tm} (h : anyS ⟨x, t, l⟩ = false) : x = false ∧ l = [] := by
  unfold anyS at h
  simp only [Bool.or_eq_false_iff, decide_eq_false_iff_not] at h
  exact ⟨h.1, List.length_eq_zero_iff.1 (by omega)⟩
theorem app_none {s : St} {kd : Int} {rs : List ByteArray} {now m l : Int} (h : (appS s kd rs now m l).is = false) : (appS s kd rs now m l).st.ex = false ∧ (appS s kd rs now m l).st.src = [] := by
  by_cases her : (appS s kd rs now m l).er = 0
  · obtain ⟨-, -, his⟩ := app_len her
    rw [his] at h
    exact any_no h
  · unfold appS at her ⊢
    split
    · exact ⟨rfl, rfl⟩
    · next h1 =>
      rw [if_neg h1] at her
      split
      · exact ⟨rfl, rfl⟩
      · next h2 =>
        rw [if_neg h2] at her
        unfold endA at her ⊢
        split
        · exact ⟨rfl, rfl⟩
        · next h3 => rw [if_neg h3] at her; exact absurd rfl her
end Go.Proofs.Ytceilgeefegbmaa
