/-
  What Learn leaves, plainly: both ways of putting an entry among the others.
-/
import Derived.Test.YtodddahjibccoaaFdE
namespace Go.Proofs.Ytodddahjibccoaa
open Go Go.Maps Go.WideMaps
open Go.RowKit
set_option linter.unusedVariables false
set_option linter.unusedSimpArgs false

theorem same_iff (e : E4) (v : Int) (m : ByteArray) : sameE e v m = true ↔ e.1 = v ∧ e.2.1 = m := by unfold sameE; simp
theorem has_iff (R : List E4) (v : Int) (m : ByteArray) : hasF R v m = true ↔ ∃ e ∈ R, e.1 = v ∧ e.2.1 = m := by
  unfold hasF
  rw [List.any_eq_true]
  exact ⟨fun ⟨e, h1, h2⟩ => ⟨e, h1, (same_iff _ _ _).1 h2⟩, fun ⟨e, h1, h2⟩ => ⟨e, h1, (same_iff _ _ _).2 h2⟩⟩
theorem no_iff (R : List E4) (v : Int) (m : ByteArray) : hasF R v m = false ↔ ∀ e ∈ R, sameE e v m = false := by
  unfold hasF
  rw [List.any_eq_false]
  exact ⟨fun h e he => by simpa using h e he, fun h e he => by simpa using h e he⟩
theorem del_no {R : List E4} {v : Int} {m : ByteArray} (h : hasF R v m = false) : delF R v m = R := by
  unfold delF
  rw [List.filter_eq_self]
  intro e he
  rw [(no_iff R v m).1 h e he]
  rfl
theorem set_no {R : List E4} {v : Int} {m : ByteArray} {q : Int × Int} (h : hasF R v m = false) : setF R v m q = R := by
  unfold setF
  have : R.map (fun e => if sameE e v m then (v, m, q) else e) = R.map id := List.map_congr_left fun e he => by rw [if_neg (by rw [(no_iff R v m).1 h e he]; simp)]; rfl
  rw [this, List.map_id]
theorem up_one {R : List E4} (hu : UpF R) {x : E4} {r : List E4} (hR : R = x :: r) {v : Int} {m : ByteArray} (h : sameE x v m = true) : hasF r v m = false := by
  subst hR
  obtain ⟨h1, _⟩ := List.pairwise_cons.1 hu
  rw [no_iff]
  intro e he
  have h2 := ltS_ne (h1 e he)
  obtain ⟨rfl, rfl⟩ := (same_iff _ _ _).1 h
  rcases hs : sameE e x.1 x.2.1 with _ | _
  · rfl
  · obtain ⟨a, b⟩ := (same_iff _ _ _).1 hs
    exact absurd ⟨a.symm, b.symm⟩ h2
/-- An entry that is there is put in its place. -/
theorem put_set {v : Int} {m : ByteArray} {q : Int × Int} : ∀ {R : List E4}, UpF R → hasF R v m = true → (putF R v m q).Perm (setF R v m q)
  | [], _, h => by simp [hasF] at h
  | x :: r, hu, h => by
    by_cases hx : sameE x v m = true
    · have h0 := up_one hu rfl hx
      have e1 : delF (x :: r) v m = r := by
        unfold delF
        rw [List.filter_cons, if_neg (by rw [hx]; simp)]
        exact del_no h0
      have e2 : setF (x :: r) v m q = (v, m, q) :: r := by
        unfold setF
        rw [List.map_cons, if_pos hx]
        exact congrArg _ (set_no h0)
      unfold putF
      rw [e1, e2]
      exact List.perm_append_singleton _ _
    · have hx' : sameE x v m = false := by simpa using hx
      have h1 : hasF r v m = true := by
        unfold hasF at h ⊢
        rw [List.any_cons, hx', Bool.false_or] at h
        exact h
      have ih := put_set (q := q) (List.pairwise_cons.1 hu).2 h1
      have e1 : putF (x :: r) v m q = x :: putF r v m q := by
        unfold putF delF
        rw [List.filter_cons, if_pos (by rw [hx']; rfl)]
        rfl
      have e2 : setF (x :: r) v m q = x :: setF r v m q := by
        unfold setF
        rw [List.map_cons, if_neg hx]
      rw [e1, e2]
      exact ih.cons x
/-- One that is not there is put in between. -/
theorem part_perm {α : Type} (f : α → Bool) : ∀ l : List α, (l.filter f ++ l.filter (fun x => !f x)).Perm l
  | [] => List.Perm.nil
  | x :: r => by
    have ih := part_perm f r
    cases h : f x
    · simp only [List.filter_cons, h, Bool.false_eq_true, if_false, Bool.not_false, if_true]
      exact List.perm_middle.trans (ih.cons x)
    · simp only [List.filter_cons, h, if_true, Bool.not_true, Bool.false_eq_true, if_false, List.cons_append]
      exact ih.cons x
theorem put_ins {R : List E4} {v : Int} {m : ByteArray} {q : Int × Int} (h : hasF R v m = false) : (putF R v m q).Perm (insF R v m q) := by
  unfold putF insF
  rw [del_no h]
  refine (List.perm_append_singleton _ _).trans ?_
  exact ((part_perm (fun e : E4 => ltS e.1 e.2.1 v m) R).symm.cons _).trans List.perm_middle.symm

theorem has_sub {R S : List E4} (hs : S.Sublist R) {v : Int} {m : ByteArray} (h : hasF R v m = false) : hasF S v m = false := by
  rw [no_iff] at *
  exact fun e he => h e (hs.subset he)
theorem drv_sub (room : Int) (R : List E4) : (drvF room R).Sublist R := by
  unfold drvF
  split
  · exact List.eraseIdx_sublist _ _
  · exact List.Sublist.refl _
theorem old_lt {R : List E4} (hne : R ≠ []) : oldI R < R.length := by
  unfold oldI
  rw [List.findIdx_lt_length]
  have key : ∀ S : List E4, S ≠ [] → ∃ x ∈ S, ∀ f ∈ S, x.2.2.2 ≤ f.2.2.2 := by
    intro S
    induction S with
    | nil => intro h; exact absurd rfl h
    | cons a r ih =>
      intro _
      by_cases hr : r = []
      · subst hr
        exact ⟨a, by simp, fun f hf => by simp at hf; rw [hf]; exact Int.le_refl _⟩
      · obtain ⟨x, h1, h2⟩ := ih hr
        by_cases hq : a.2.2.2 ≤ x.2.2.2
        · refine ⟨a, by simp, fun f hf => ?_⟩
          rcases List.mem_cons.1 hf with rfl | hf
          · exact Int.le_refl _
          · exact Int.le_trans hq (h2 f hf)
        · refine ⟨x, by simp [h1], fun f hf => ?_⟩
          rcases List.mem_cons.1 hf with rfl | hf
          · omega
          · exact h2 f hf
  obtain ⟨x, h1, h2⟩ := key R hne
  exact ⟨x, h1, by rw [List.all_eq_true]; exact fun f hf => decide_eq_true (h2 f hf)⟩
theorem drv_len {room : Int} {R : List E4} (h1 : 1 ≤ room) (h2 : (R.length : Int) ≤ room) : ((drvF room R).length : Int) < room := by
  unfold drvF
  split
  · next h =>
    have hne : R ≠ [] := by rintro rfl; simp at h; omega
    rw [List.length_eraseIdx, if_pos (old_lt hne)]
    have := List.length_pos_iff.2 hne
    omega
  · omega
theorem set_len (R : List E4) (v : Int) (m : ByteArray) (q : Int × Int) : (setF R v m q).length = R.length := by unfold setF; rw [List.length_map]
theorem ins_len (R : List E4) (v : Int) (m : ByteArray) (q : Int × Int) : (insF R v m q).length = R.length + 1 := by
  have h : (R.filter (fun e : E4 => ltS e.1 e.2.1 v m) ++ R.filter (fun e : E4 => !ltS e.1 e.2.1 v m)).length = R.length := (part_perm (fun e : E4 => ltS e.1 e.2.1 v m) R).length_eq
  unfold insF
  rw [List.length_append] at h ⊢
  rw [List.length_cons]
  exact congrArg Nat.succ h
theorem lrn_len {room : Int} {R : List E4} (h1 : 1 ≤ room) (h2 : (R.length : Int) ≤ room) (v : Int) (m : ByteArray) (p now : Int) : ((lrnF room R v m p now).length : Int) ≤ room := by
  unfold lrnF
  split
  · split
    · rw [set_len]; exact h2
    · rw [ins_len]
      have := drv_len h1 h2
      omega
  · exact h2
theorem may_ok {v : Int} {m : ByteArray} {p now : Int} (h : (mayL v m p && timeB now) = true) : okE (v, m, p, now) := by
  unfold mayL timeB at h
  simp only [Bool.and_eq_true, decide_eq_true_eq] at h
  obtain ⟨⟨⟨⟨⟨⟨h1, _⟩, h2⟩, h3⟩, h4⟩, h5⟩, h6, h7⟩ := h
  exact ⟨h2, h3, h1, h4, h5, h6, h7⟩
theorem set_good {R : List E4} (hg : GoodF R) {v : Int} {m : ByteArray} {q : Int × Int} (ho : okE (v, m, q)) : GoodF (setF R v m q) := by
  have hk : ∀ e : E4, (if sameE e v m then ((v, m, q) : E4) else e).1 = e.1 ∧ (if sameE e v m then ((v, m, q) : E4) else e).2.1 = e.2.1 := by
    intro e
    by_cases h : sameE e v m = true
    · rw [if_pos h]
      obtain ⟨a, b⟩ := (same_iff _ _ _).1 h
      exact ⟨a.symm, b.symm⟩
    · rw [if_neg h]; exact ⟨rfl, rfl⟩
  refine ⟨?_, fun e he => ?_⟩
  · unfold UpF setF
    rw [List.pairwise_map]
    refine hg.up.imp fun {a b} h => ?_
    rw [(hk a).1, (hk a).2, (hk b).1, (hk b).2]
    exact h
  · unfold setF at he
    obtain ⟨x, hx, rfl⟩ := List.mem_map.1 he
    split
    · exact ho
    · exact hg.ok x hx
theorem ins_good {R : List E4} (hg : GoodF R) {v : Int} {m : ByteArray} {q : Int × Int} (ho : okE (v, m, q)) (h : hasF R v m = false) : GoodF (insF R v m q) := by
  refine ⟨?_, fun e he => ?_⟩
  · unfold UpF insF
    rw [List.pairwise_append]
    refine ⟨hg.up.filter _, ?_, fun a ha b hb => ?_⟩
    · rw [List.pairwise_cons]
      refine ⟨fun e he => ?_, hg.up.filter _⟩
      obtain ⟨h1, h2⟩ := List.mem_filter.1 he
      have h3 : ltS e.1 e.2.1 v m = false := by simpa using h2
      rcases h4 : ltS v m e.1 e.2.1 with _ | _
      · obtain ⟨a, b⟩ := ltS_tri h3 h4
        have := (no_iff R v m).1 h e h1
        rw [(same_iff _ _ _).2 ⟨a, b⟩] at this
        cases this
      · rfl
    · obtain ⟨a1, a2⟩ := List.mem_filter.1 ha
      rcases List.mem_cons.1 hb with rfl | hb
      · exact a2
      · obtain ⟨b1, b2⟩ := List.mem_filter.1 hb
        have h3 : ltS b.1 b.2.1 v m = false := by simpa using b2
        rcases h4 : ltS v m b.1 b.2.1 with _ | _
        · obtain ⟨c, d⟩ := ltS_tri h3 h4
          have := (no_iff R v m).1 h b b1
          rw [(same_iff _ _ _).2 ⟨c, d⟩] at this
          cases this
        · exact ltS_trans a2 h4
  · unfold insF at he
    rcases List.mem_append.1 he with he | he
    · exact hg.ok e (List.mem_filter.1 he).1
    · rcases List.mem_cons.1 he with rfl | he
      · exact ho
      · exact hg.ok e (List.mem_filter.1 he).1
theorem lrn_good {room : Int} {R : List E4} (hg : GoodF R) (v : Int) (m : ByteArray) (p now : Int) : GoodF (lrnF room R v m p now) := by
  unfold lrnF
  split
  · next h =>
    split
    · exact set_good hg (may_ok h)
    · next h2 => exact ins_good (hg.sub (drv_sub _ _)) (may_ok h) (has_sub (drv_sub _ _) (by simpa using h2))
  · exact hg

end Go.Proofs.Ytodddahjibccoaa
