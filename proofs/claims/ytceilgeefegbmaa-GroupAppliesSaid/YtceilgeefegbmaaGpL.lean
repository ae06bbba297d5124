/-
  What the program's Apply and the document's make is the same, plainly. It speaks of no program.
-/
import Derived.Test.YtceilgeefegbmaaGpH
import Derived.Test.YtceilgeefegbmaaGrW
namespace Go.Proofs.Ytceilgeefegbmaa
open Go Go.Maps Go.WideMaps
open Go.RowKit
set_option linter.unusedVariables false
set_option linter.unusedSimpArgs false

theorem has_app (a b : List ByteArray) (s : ByteArray) : hasS (a ++ b) s = (hasS a s || hasS b s) := by
  rw [Bool.eq_iff_iff, Bool.or_eq_true, hasS_iff, hasS_iff, hasS_iff, List.mem_append]
theorem has_filt (p : ByteArray → Bool) (l : List ByteArray) (s : ByteArray) : hasS (l.filter p) s = (hasS l s && p s) := by
  rw [Bool.eq_iff_iff, Bool.and_eq_true, hasS_iff, hasS_iff, List.mem_filter]
theorem has_keys (R : List Tm) (s : ByteArray) : hasS (keysR R) s = (look R s).isSome := by
  rw [Bool.eq_iff_iff, hasS_iff, keys_mem]
def runO : Option Int → Bool
  | some t => !decide (t = 0)
  | none => false
def blkO : Option Int → Bool
  | some t => decide (t = 0)
  | none => false
theorem has_nm (p : Tm → Bool) (l : List Tm) (h : UpT l) (a : ByteArray) : hasS (nmS (l.filter p)) a = (match look l a with | some t => p (a, t) | none => false) := by
  rw [Bool.eq_iff_iff, hasS_iff]
  unfold nmS
  constructor
  · intro hm
    obtain ⟨x, hx, rfl⟩ := List.mem_map.1 hm
    obtain ⟨h1, h2⟩ := List.mem_filter.1 hx
    rw [look_in (up_nodup h) h1]
    exact h2
  · intro hm
    cases hl : look l a with
    | none => rw [hl] at hm; cases hm
    | some t => rw [hl] at hm; exact List.mem_map.2 ⟨(a, t), List.mem_filter.2 ⟨look_some hl, hm⟩, rfl⟩
theorem has_run {l : List Tm} (h : UpT l) (a : ByteArray) : hasS (namesR l) a = runO (look l a) := by
  unfold namesR
  rw [has_nm _ _ h]
  cases look l a with
  | none => rfl
  | some t => show (decide (t = 0) == false) = !decide (t = 0); cases decide (t = 0) <;> rfl
theorem has_blk {l : List Tm} (h : UpT l) (a : ByteArray) : hasS (namesB l) a = blkO (look l a) := by
  unfold namesB
  rw [has_nm _ _ h]
  cases look l a with
  | none => rfl
  | some t => show (decide (t = 0) == true) = decide (t = 0); cases decide (t = 0) <;> rfl
theorem look_excR2 (R : List Tm) (tl : List ByteArray) (f : Int) (a : ByteArray) : look (excR R tl f) a = if hasS tl a = true then (if look R a = none then some f else look R a) else none := by
  rcases Bool.eq_false_or_eq_true (hasS tl a) with h | h
  · rw [if_pos h, look_excR_in h, look_excA, h]
    by_cases hn : look R a = none
    · rw [if_pos ⟨rfl, hn⟩, if_pos hn]
    · rw [if_neg (fun k => hn k.2), if_neg hn]
  · rw [look_excR _ _ _ _ h, h]; rfl
theorem ks_up (l o : List Tm) (r : List ByteArray) (h : UpT l) : UpT (keptS l r o) := keptS_up _ _ _ h
theorem as_up (l : List Tm) (r : List ByteArray) (t : Int) (h : UpT l) : UpT (allS l r t) := allS_up _ _ _ h
/-- What a state holds, by what it holds of each source. -/
structure Alike (F D : Cg) : Prop where
  ex : F.ex = D.ex
  tm : F.tm = D.tm
  ag : F.ag = D.ag
  al : F.al = D.al
  up : UpT D.src
  look : ∀ a, look F.src a = look D.src a
theorem getR_look {R : List Tm} {a : ByteArray} {o : Option Int} (h : Go.Proofs.Ytceilgeefegbmaa.look R a = o) : getR R a = o.getD 0 := by unfold getR; rw [h]

set_option maxHeartbeats 4000000 in
theorem alike {s : St} {kd : Int} {r : List ByteArray} {e : Int} (h : okS s = true) (he : 0 < e) (hr : Up r) (h1 : 1 ≤ kd) (h6 : kd ≤ 6) :
    Alike (folP s.ex s.tm s.src kd r e) (fol17 s kd r e) := by
  obtain ⟨ex, tm, R⟩ := s
  obtain ⟨-, k1, k2, k3, k4⟩ := (ok_iff _).1 h
  have hu : UpT R := (upB_iff _).1 k4
  have k1 : 0 ≤ tm := k1
  have k2 : ex = decide (0 < tm) := k2
  have hv : ∀ a t, Go.Proofs.Ytceilgeefegbmaa.look R a = some t → okV ex t := fun a t hl => by
    have := k3 _ (look_some hl)
    exact (okX_iff _ _).1 this
  have hX := fun a => has_run hu a
  have hY := fun a => has_blk hu a
  have hkd : kd = 1 ∨ kd = 2 ∨ kd = 3 ∨ kd = 4 ∨ kd = 5 ∨ kd = 6 := by omega
  clear h k3 k4 h1 h6
  have LK := look_allS
  have n0 := up_nilT
  cases ex with
  | false =>
    have t0 : tm = 0 := by have : ¬ 0 < tm := fun hh => by rw [decide_eq_true hh] at k2; cases k2
                           omega
    subst t0
    have hp : ∀ a t, Go.Proofs.Ytceilgeefegbmaa.look R a = some t → 0 < t := fun a t hl => (hv a t hl).2 rfl
    have fe : ∀ k, fol17 ⟨false, 0, R⟩ k r e = somP R k r e := fun k => rfl
    rcases hkd with rfl | rfl | rfl | rfl | rfl | rfl <;> rw [fe]
    case' inl => have el : (folP false 0 R 1 r e) = ⟨false, 0, putA R r e, false, []⟩ := by simp [folP]
    case' inl => have ed : somP R 1 r e = ⟨false, 0, allS (keptS [] (namesR R) R) r e, false, []⟩ := by simp [somP]
    case' inr.inl => have el : (folP false 0 R 2 r e) = ⟨true, e, excR R r 0, false, []⟩ := by simp [folP]
    case' inr.inl => have ed : somP R 2 r e = ⟨true, e, keptS (allS [] r 0) (bothF (namesR R) r) R, false, []⟩ := by simp [somP]
    case' inr.inr.inl => have el : (folP false 0 R 3 r e) = ⟨false, 0, putA R r e, false, ((keysR R).filter fun s => decide (0 < getR R s)).filter fun s => !hasS r s⟩ := by simp [folP]
    case' inr.inr.inl => have ed : somP R 3 r e = ⟨false, 0, allS (keptS [] (namesR R) R) r e, false, lessF (namesR R) r⟩ := by simp [somP]
    case' inr.inr.inr.inl => have el : (folP false 0 R 4 r e) = ⟨true, e, excR R r 0, false, r.filter fun s => decide (0 < getR (excR R r 0) s)⟩ := by simp [folP]
    case' inr.inr.inr.inl => have ed : somP R 4 r e = ⟨true, e, keptS (allS [] r 0) (bothF (namesR R) r) R, false, bothF (namesR R) r⟩ := by simp [somP]
    case' inr.inr.inr.inr.inl => have el : (folP false 0 R 5 r e) = ⟨false, 0, putA R r e, false, []⟩ := by simp [folP]
    case' inr.inr.inr.inr.inl => have ed : somP R 5 r e = ⟨false, 0, allS (keptS [] (namesR R) R) r e, false, []⟩ := by simp [somP]
    case' inr.inr.inr.inr.inr => have el : (folP false 0 R 6 r e) = ⟨false, 0, R, false, r.filter fun s => decide (0 < getR R s)⟩ := by simp [folP]
    case' inr.inr.inr.inr.inr => have ed : somP R 6 r e = ⟨false, 0, keptS [] (namesR R) R, false, bothF (namesR R) r⟩ := by simp [somP]
    all_goals rw [el, ed]
    all_goals refine ⟨rfl, rfl, rfl, ?_, ?_, ?_⟩
    all_goals first
      | rfl
      | exact as_up _ _ _ (ks_up _ _ _ n0)
      | exact ks_up _ _ _ (as_up _ _ _ n0)
      | exact ks_up _ _ _ n0
      | (show _ = lessF _ _
         refine up_unique _ _ (up_filter (up_filter (ris_up _) _) _) (up_filter (ris_up _) _) fun x => ?_
         rw [← hasS_iff, ← hasS_iff, ← Bool.eq_iff_iff, has_filt, has_filt, has_keys, less_has, hX]
         cases hl : Go.Proofs.Ytceilgeefegbmaa.look R x with
         | none => rfl
         | some t => rw [getR_look hl]; have := hp x t hl; simp [runO, this, show t ≠ 0 by omega])
      | (show _ = bothF _ _
         refine up_unique _ _ (up_filter hr _) (up_filter (ris_up _) _) fun x => ?_
         rw [← hasS_iff, ← hasS_iff, ← Bool.eq_iff_iff, has_filt, both_has, hX]
         first
           | (cases hl : Go.Proofs.Ytceilgeefegbmaa.look R x with
              | none => rw [getR_look hl]; cases hasS r x <;> simp [runO]
              | some t => rw [getR_look hl]; have := hp x t hl; cases hasS r x <;> simp [runO, this, show t ≠ 0 by omega])
           | (cases hl : Go.Proofs.Ytceilgeefegbmaa.look R x with
              | none => rw [getR_look (look_excR2 R r 0 x), hl]; cases hasS r x <;> simp [runO]
              | some t => rw [getR_look (look_excR2 R r 0 x), hl]; have := hp x t hl; cases hasS r x <;> simp [runO, this, show t ≠ 0 by omega]))
      | (intro a
         simp only []
         first
           | rw [look_putA, look_allS _ _ _ _ (ks_up _ _ _ n0), look_keptS _ _ _ _ n0, hX]
           | rw [look_excR2, look_keptS _ _ _ _ (as_up _ _ _ n0), look_allS _ _ _ _ n0, both_has, hX]
           | rw [look_keptS _ _ _ _ n0, hX]
         cases hl : Go.Proofs.Ytceilgeefegbmaa.look R a with
         | none => cases hasS r a <;> simp [runO, Go.Proofs.Ytceilgeefegbmaa.look]
         | some t => have := hp a t hl; rw [getR_look hl]; cases hasS r a <;> simp [runO, Go.Proofs.Ytceilgeefegbmaa.look, show t ≠ 0 by omega])
  | true =>
    have t0 : 0 < tm := by
      rcases Bool.eq_false_or_eq_true (decide (0 < tm)) with hh | hh
      · exact of_decide_eq_true hh
      · rw [hh] at k2; cases k2
    have hp : ∀ a t, Go.Proofs.Ytceilgeefegbmaa.look R a = some t → 0 ≤ t := fun a t hl => (hv a t hl).1
    have fe : ∀ k, fol17 ⟨true, tm, R⟩ k r e = butP tm R k r e := fun k => rfl
    have hZ : ∀ a, hasS (restP R r) a = (hasS r a && !(runO (Go.Proofs.Ytceilgeefegbmaa.look R a) || blkO (Go.Proofs.Ytceilgeefegbmaa.look R a))) := fun a => by
      unfold restP
      rw [less_has, hasS_ris, has_app, hX, hY]
    rcases hkd with rfl | rfl | rfl | rfl | rfl | rfl <;> rw [fe]
    case' inl => have el : (folP true tm R 1 r e) = ⟨true, tm, putA R r e, false, []⟩ := by simp [folP]
    case' inl => have ed : butP tm R 1 r e = ⟨true, tm, allS (allS (keptS [] (namesR R) R) (lessF (namesB R) r) 0) r e, false, []⟩ := by simp [butP]
    case' inr.inl => have el : (folP true tm R 2 r e) = ⟨true, e, excR R r e, false, []⟩ := by simp [folP]
    case' inr.inl => have ed : butP tm R 2 r e = ⟨true, e, allS (keptS (allS [] (bothF (namesB R) r) 0) (bothF (namesR R) r) R) (restP R r) e, false, []⟩ := by simp [butP]
    case' inr.inr.inl => have el : (folP true tm R 3 r e) = ⟨true, tm, putA R r e, true, ((keysR R).filter fun s => decide (0 < getR R s)).filter fun s => !hasS r s⟩ := by simp [folP]
    case' inr.inr.inl => have ed : butP tm R 3 r e = ⟨true, tm, allS (allS (keptS [] (namesR R) R) (lessF (namesB R) r) 0) r e, true, lessF (namesR R) r⟩ := by simp [butP]
    case' inr.inr.inr.inl => have el : (folP true tm R 4 r e) = ⟨true, e, excR R r tm, false, r.filter fun s => decide (0 < getR (excR R r tm) s)⟩ := by simp [folP]
    case' inr.inr.inr.inl => have ed : butP tm R 4 r e = ⟨true, e, allS (allS (keptS (allS [] (bothF (namesB R) r) 0) (bothF (namesR R) r) R) (restP R r) e) (restP R r) tm, false, lessF r (namesB R)⟩ := by simp [butP]
    case' inr.inr.inr.inr.inl => have el : (folP true tm R 5 r e) = ⟨true, tm, putA R r e, false, []⟩ := by simp [folP]
    case' inr.inr.inr.inr.inl => have ed : butP tm R 5 r e = ⟨true, tm, allS (allS (keptS [] (namesR R) R) (lessF (namesB R) r) 0) r e, false, []⟩ := by simp [butP]
    case' inr.inr.inr.inr.inr => have el : (folP true tm R 6 r e) = ⟨true, tm, excA R r tm, false, r.filter fun s => decide (0 < getR (excA R r tm) s)⟩ := by simp [folP]
    case' inr.inr.inr.inr.inr => have ed : butP tm R 6 r e = ⟨true, tm, allS (keptS (allS [] (namesB R) 0) (namesR R) R) (restP R r) tm, false, lessF r (namesB R)⟩ := by simp [butP]
    all_goals rw [el, ed]
    all_goals refine ⟨rfl, rfl, rfl, ?_, ?_, ?_⟩
    all_goals first
      | rfl
      | exact as_up _ _ _ (as_up _ _ _ (ks_up _ _ _ n0))
      | exact as_up _ _ _ (as_up _ _ _ (ks_up _ _ _ (as_up _ _ _ n0)))
      | exact as_up _ _ _ (ks_up _ _ _ (as_up _ _ _ n0))
      | (show _ = lessF (namesR R) r
         refine up_unique _ _ (up_filter (up_filter (ris_up _) _) _) (up_filter (ris_up _) _) fun x => ?_
         rw [← hasS_iff, ← hasS_iff, ← Bool.eq_iff_iff, has_filt, has_filt, has_keys, less_has, hX]
         cases hl : Go.Proofs.Ytceilgeefegbmaa.look R x with
         | none => rfl
         | some t => rw [getR_look hl]; have := hp x t hl; by_cases ht : t = 0 <;> simp [runO, ht, show t ≠ 0 → 0 < t by omega])
      | (show _ = lessF r (namesB R)
         refine up_unique _ _ (up_filter hr _) (up_filter (ris_up _) _) fun x => ?_
         rw [← hasS_iff, ← hasS_iff, ← Bool.eq_iff_iff, has_filt, less_has, hY]
         first
           | rw [getR_look (look_excR2 R r tm x)]
           | rw [getR_look (look_excA R r tm x)]
         cases hl : Go.Proofs.Ytceilgeefegbmaa.look R x with
         | none => cases hasS r x <;> simp [blkO, t0]
         | some t => have := hp x t hl; by_cases ht : t = 0 <;> cases hasS r x <;> simp [blkO, ht, show t ≠ 0 → 0 < t by omega])
      | (intro a
         simp only []
         first
           | rw [look_putA, look_allS _ _ _ _ (as_up _ _ _ (ks_up _ _ _ n0)), look_allS _ _ _ _ (ks_up _ _ _ n0), look_keptS _ _ _ _ n0, less_has, hX, hY]
           | rw [look_excR2, look_allS _ _ _ _ (as_up _ _ _ (ks_up _ _ _ (as_up _ _ _ n0))), look_allS _ _ _ _ (ks_up _ _ _ (as_up _ _ _ n0)), look_keptS _ _ _ _ (as_up _ _ _ n0), look_allS _ _ _ _ n0, both_has, both_has, hX, hY, hZ]
           | rw [look_excR2, look_allS _ _ _ _ (ks_up _ _ _ (as_up _ _ _ n0)), look_keptS _ _ _ _ (as_up _ _ _ n0), look_allS _ _ _ _ n0, both_has, both_has, hX, hY, hZ]
           | rw [look_excA, look_allS _ _ _ _ (ks_up _ _ _ (as_up _ _ _ n0)), look_keptS _ _ _ _ (as_up _ _ _ n0), look_allS _ _ _ _ n0, hX, hY, hZ]
         cases hl : Go.Proofs.Ytceilgeefegbmaa.look R a with
         | none => cases hasS r a <;> simp [runO, blkO, Go.Proofs.Ytceilgeefegbmaa.look]
         | some t => have := hp a t hl; rw [getR_look hl]; by_cases ht : t = 0 <;> cases hasS r a <;> simp [runO, blkO, Go.Proofs.Ytceilgeefegbmaa.look, ht])

theorem stepA_up {l : List Tm} (e : Int) (a : ByteArray) (h : UpT l) : UpT (stepA e l a) := by
  unfold stepA
  split
  · exact putS_up _ _ _ h
  · exact h
theorem askS_up (e : Int) : ∀ (al : List ByteArray) (l : List Tm), UpT l → UpT (askS l al e)
  | [], _, h => h
  | a :: al, l, h => askS_up e al (stepA e l a) (stepA_up e a h)
theorem look_stepA {l : List Tm} (e : Int) (a b : ByteArray) (h : UpT l) : look (stepA e l a) b = if b = a ∧ e < getR l a then some e else look l b := by
  unfold stepA
  by_cases hg : e < getR l a
  · rw [if_pos hg, look_putS _ _ _ _ h]
    by_cases hb : b = a
    · rw [if_pos hb, if_pos ⟨hb, hg⟩]
    · rw [if_neg hb, if_neg (fun k => hb k.1)]
  · rw [if_neg hg, if_neg (fun k => hg k.2)]
theorem look_askS (e : Int) (b : ByteArray) : ∀ (al : List ByteArray) (l : List Tm), UpT l → look (askS l al e) b = if hasS al b = true ∧ e < getR l b then some e else look l b
  | [], l, h => by rw [if_neg (fun k => by simp [hasS] at k)]; rfl
  | a :: al, l, h => by
    show look (askS (stepA e l a) al e) b = _
    rw [look_askS e b al _ (stepA_up e a h)]
    have hl := look_stepA e a b h
    by_cases hb : b = a
    · subst hb
      by_cases hg : e < getR l b
      · have h1 : look (stepA e l b) b = some e := by rw [hl, if_pos ⟨rfl, hg⟩]
        have h2 : getR (stepA e l b) b = e := by unfold getR; rw [h1]; rfl
        rw [h2, if_neg (fun k => by omega), h1, if_pos ⟨has_head _ _, hg⟩]
      · have h1 : look (stepA e l b) b = look l b := by rw [hl, if_neg (fun k => hg k.2)]
        have h2 : getR (stepA e l b) b = getR l b := by unfold getR; rw [h1]
        rw [h2, h1, if_neg (fun k => hg k.2), if_neg (fun k => hg k.2)]
    · have h1 : look (stepA e l a) b = look l b := by rw [hl, if_neg (fun k => hb k.1)]
      have h2 : getR (stepA e l a) b = getR l b := by unfold getR; rw [h1]
      rw [h2, h1]
      have h3 : hasS (a :: al) b = hasS al b := by
        rw [Bool.eq_iff_iff, hasS_iff, hasS_iff, List.mem_cons]
        exact ⟨fun k => k.resolve_left hb, Or.inr⟩
      rw [h3]
theorem ends {F D : Cg} {e : Int} (h : Alike F D) (hA : Apart F.src) (he : 0 < e) (hal : ∀ a ∈ F.al, 0 < getR F.src a) (htm : F.ex = decide (0 < F.tm)) (h0 : 0 ≤ F.tm) (hag : F.ag = true → 0 < F.tm) :
    endA (hurP F e) = end17 D e := by
  obtain ⟨fx, ft, fs, fg, fa⟩ := F
  obtain ⟨dx, dt, ds, dg, da⟩ := D
  obtain ⟨e1, e2, e3, e4, hu, hl⟩ := h
  simp only at *
  subst e1 e2 e3 e4
  have hS : staR (hurA fs fa e) = askS ds fa e := by
    refine up_look_eq ?_ (askS_up e fa ds hu) fun a => ?_
    · show Up (nmS (staR (hurA fs fa e)))
      rw [nm_sta]; exact ris_up _
    · rw [look_sta, look_hurA, look_askS _ _ _ _ hu]
      have hg : getR ds a = getR fs a := by unfold getR; rw [hl]
      rw [hg]
      rcases Bool.eq_false_or_eq_true (hasS fa a) with hh | hh
      · rw [if_pos hh, hh]
        have hp := hal a ((hasS_iff _ _).1 hh)
        cases hk : look fs a with
        | none => unfold getR at hp; rw [hk] at hp; exact absurd hp (by decide)
        | some t =>
          have hgt : getR fs a = t := by unfold getR; rw [hk]; rfl
          rw [hgt, ← hl, hk]
          by_cases c : e < t
          · rw [if_pos ⟨rfl, c⟩, Int.min_eq_right (by omega)]
          · rw [if_neg (fun k => c k.2), Int.min_eq_left (by omega)]
      · rw [if_neg (by rw [hh]; decide), if_neg (fun k => by rw [hh] at k; exact absurd k.1 (by decide)), hl]
  have hD : staR fs = ds := by
    refine up_look_eq ?_ hu fun a => by rw [look_sta, hl]
    show Up (nmS (staR fs))
    rw [nm_sta]; exact ris_up _
  have hk : keysR (hurA fs fa e) = keysR fs := up_unique _ _ (ris_up _) (ris_up _) fun x => by
    show x ∈ keysR (hurA fs fa e) ↔ x ∈ keysR fs
    rw [keys_mem, keys_mem, look_hurA]
    rcases Bool.eq_false_or_eq_true (hasS fa x) with hh | hh
    · rw [if_pos hh]
      have hp := hal x ((hasS_iff _ _).1 hh)
      cases hk : look fs x with
      | none => unfold getR at hp; rw [hk] at hp; exact absurd hp (by decide)
      | some t => simp
    · rw [if_neg (by rw [hh]; decide)]
  have hlen : (hurA fs fa e).length = ds.length := by
    rw [← keys_len (hA.hurA _), hk, keys_len hA, ← hD, sta_len hA]
  show endA ⟨fx, if fg then min ft e else ft, hurA fs fa e, fg, fa⟩ = end17 ⟨fx, ft, ds, fg, fa⟩ e
  unfold endA end17
  simp only
  rw [hlen, hS]
  by_cases hb : 60 < ds.length
  · rw [if_pos hb, if_pos hb]
  · rw [if_neg hb, if_neg hb]
    rcases Bool.eq_false_or_eq_true (fx || decide (0 < (askS ds fa e).length)) with hc | hc
    · rw [hc, if_pos (show true = true from rfl)]
    · rw [hc, if_neg (show ¬ (false = true) by decide)]
      simp only [Bool.or_eq_false_iff, decide_eq_false_iff_not] at hc
      obtain ⟨c1, c2⟩ := hc
      subst c1
      have q0 : ft = 0 := by
        have : ¬ 0 < ft := fun hh => by rw [decide_eq_true hh] at htm; cases htm
        omega
      subst q0
      have q1 : fg = false := by
        rcases Bool.eq_false_or_eq_true fg with hh | hh
        · exact absurd (hag hh) (by decide)
        · exact hh
      subst q1
      have q2 : askS ds fa e = [] := List.eq_nil_of_length_eq_zero (by omega)
      have q3 : fa = [] := by
        cases fa with
        | nil => rfl
        | cons a t =>
          have hp := hal a (List.mem_cons_self ..)
          have hx : look (askS ds (a :: t) e) a = none := by rw [q2]; rfl
          rw [look_askS _ _ _ _ hu] at hx
          split at hx
          · cases hx
          · rw [← hl] at hx; unfold getR at hp; rw [hx] at hp; exact absurd hp (by decide)
      rw [q2, q3]
      rfl
theorem fol_ap {ex : Bool} {tm : Int} {R : List Tm} {kd : Int} {tl : List ByteArray} {e : Int} (h : Apart R) : Apart (folP ex tm R kd tl e).src := by
  unfold folP
  split
  · exact h.putA _
  · split
    · exact h.putA _
    · split
      · exact (exc_apart h tl _).2
      · split
        · exact (exc_apart h tl _).2
        · show Apart (if ex then excA R tl tm else R)
          cases ex
          · exact h
          · exact (exc_apart h tl _).1
theorem app_same (ex : Bool) (tm : Int) (sl : List Tm) (is : Bool) (kd : Int) (rs : List ByteArray) (now m l : Int) : appP ⟨ex, tm, sl⟩ is kd rs now m l = ap17 ⟨ex, tm, sl⟩ is kd rs now m l := by
  unfold appP ap17 appS
  have h0 : okS noS = true := by decide
  obtain ⟨s, hs⟩ : ∃ s : St, s = if is = true then ⟨ex, tm, sl⟩ else noS := ⟨_, rfl⟩
  rw [← hs]
  have hc : (is && !okS ⟨ex, tm, sl⟩) = !okS s := by
    cases is
    · rw [hs]; show false = !okS noS; rw [h0]; rfl
    · rw [hs]; rfl
  rw [hc]
  rcases Bool.eq_false_or_eq_true (okS s) with hok | hok
  · have hok1 := hok
    rw [hok, if_neg (show ¬ (true = false) by decide), if_neg (show ¬ ((!true) = true) by decide)]
    by_cases hrec : (mayT m l now && recT kd rs) = false
    · rw [if_pos hrec, if_pos hrec]
    · rw [if_neg hrec, if_neg hrec]
      have hrec : (mayT m l now && recT kd rs) = true := by simpa using hrec
      rw [Bool.and_eq_true] at hrec
      obtain ⟨n1, n2, n3⟩ := may_now hrec.1
      have hk : 1 ≤ kd ∧ kd ≤ 6 := by
        have := hrec.2
        unfold recT at this
        simp only [Bool.and_eq_true, decide_eq_true_iff] at this
        omega
      have A := alike (s := s) (kd := kd) (r := ris rs) (e := now + m) hok (by omega) (ris_up _) hk.1 hk.2
      obtain ⟨v1, v2, v3, v4, v5⟩ := fol_vals (s := s) (kd := kd) (tl := ris rs) (e := now + m) hok (by omega)
      refine ends A ?_ (by omega) v4 v3 v2 v5
      have g := fol_ap (ex := s.ex) (tm := s.tm) (kd := kd) (e := now + m) (tl := ris rs) (Apart.of_ok hok)
      exact g
  · rw [hok, if_pos (show false = false from rfl), if_pos (show (!false) = true from rfl)]
theorem app_small {s : St} {kd : Int} {rs : List ByteArray} {now m l : Int} (h : (appS s kd rs now m l).er ≠ 0) : (appS s kd rs now m l).st.src.length ≤ 60 ∧ (appS s kd rs now m l).al.length ≤ 120 := by
  have e0 : ∀ k, (noA k).st.src.length ≤ 60 ∧ (noA k).al.length ≤ 120 := fun k => ⟨Nat.zero_le _, Nat.zero_le _⟩
  unfold appS at h ⊢
  split
  · exact e0 _
  · next h1 =>
    rw [if_neg h1] at h
    split
    · exact e0 _
    · next h2 =>
      rw [if_neg h2] at h
      unfold endA at h ⊢
      split
      · exact e0 _
      · next h3 => rw [if_neg h3] at h; exact absurd rfl h
end Go.Proofs.Ytceilgeefegbmaa
