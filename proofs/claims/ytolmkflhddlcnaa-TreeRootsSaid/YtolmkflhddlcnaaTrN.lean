/-
  The least bridge that each one hangs together with; how many links are active. It speaks of no program.
-/
import Derived.Test.YtolmkflhddlcnaaTrR
namespace Go.Proofs.Ytolmkflhddlcnaa
set_option linter.unusedVariables false
set_option linter.unusedSimpArgs false

/-- One link makes both its bridges' numbers the lesser one. -/
def relax (f : Nat → Nat) (l : Lk) : Nat → Nat := fun x => if x = l.1.toNat ∨ x = l.2.2.1.toNat then min (f l.1.toNat) (f l.2.2.1.toNat) else f x
def passT (M : List Lk) (f : Nat → Nat) : Nat → Nat := M.foldl relax f
def togT (M : List Lk) : Nat → Nat → Nat
  | 0 => id
  | t + 1 => passT M (togT M t)
/-- Links whose ends are bridges. -/
def OkL (n : Nat) (M : List Lk) : Prop := ∀ l ∈ M, 0 ≤ l.1 ∧ l.1 < n ∧ 0 ≤ l.2.2.1 ∧ l.2.2.1 < n

section
variable {n : Nat} {M : List Lk}
theorem relax_conn {f : Nat → Nat} {l : Lk} (hok : 0 ≤ l.1 ∧ 0 ≤ l.2.2.1) (hl : l ∈ M) (h : ∀ x, Conn M (f x) x) (x : Nat) : Conn M (relax f l x) x := by
  have hab : Conn M l.1.toNat l.2.2.1.toNat := conn_adj ⟨l, hl, Or.inl ⟨by omega, by omega⟩⟩
  unfold relax
  split
  · next hx =>
    have h1 := h l.1.toNat
    have h2 := h l.2.2.1.toNat
    rcases Nat.le_total (f l.1.toNat) (f l.2.2.1.toNat) with k | k
    · rw [Nat.min_eq_left k]
      rcases hx with rfl | rfl
      · exact h1
      · exact conn_trans h1 hab
    · rw [Nat.min_eq_right k]
      rcases hx with rfl | rfl
      · exact conn_trans h2 (conn_symm hab)
      · exact h2
  · exact h x
theorem relax_le (f : Nat → Nat) (l : Lk) (x : Nat) : relax f l x ≤ f x := by
  unfold relax
  split
  · next hx =>
    rcases hx with rfl | rfl
    · exact Nat.min_le_left _ _
    · exact Nat.min_le_right _ _
  · exact Nat.le_refl _
theorem pass_conn : ∀ (N : List Lk) (f : Nat → Nat), (∀ l ∈ N, (0 ≤ l.1 ∧ 0 ≤ l.2.2.1) ∧ l ∈ M) → (∀ x, Conn M (f x) x) → ∀ x, Conn M (passT N f x) x
  | [], f, _, h, x => h x
  | l :: N, f, hN, h, x => pass_conn N (relax f l) (fun k hk => hN k (List.mem_cons_of_mem _ hk)) (relax_conn (hN l (by simp)).1 (hN l (by simp)).2 h) x
theorem pass_le : ∀ (N : List Lk) (f : Nat → Nat) (x : Nat), passT N f x ≤ f x
  | [], f, x => Nat.le_refl _
  | l :: N, f, x => Nat.le_trans (pass_le N (relax f l) x) (relax_le f l x)
theorem tog_conn (hok : OkL n M) : ∀ t x, Conn M (togT M t x) x
  | 0, x => conn_refl M x
  | t + 1, x => pass_conn M (togT M t) (fun l hl => ⟨⟨(hok l hl).1, (hok l hl).2.2.1⟩, hl⟩) (tog_conn hok t) x
theorem tog_le : ∀ t x, togT M t x ≤ x
  | 0, x => Nat.le_refl _
  | t + 1, x => Nat.le_trans (pass_le M _ x) (tog_le t x)

theorem least_ex (P : Nat → Prop) : ∀ k, P k → ∃ m, P m ∧ ∀ c, P c → m ≤ c := by
  intro k
  induction k using Nat.strongRecOn with
  | _ k ih =>
    intro hk
    by_cases h : ∃ c, c < k ∧ P c
    · obtain ⟨c, hc, pc⟩ := h
      exact ih c hc pc
    · refine ⟨k, hk, fun c pc => ?_⟩
      apply Classical.byContradiction
      intro hn
      exact h ⟨c, by omega, pc⟩
/-- The least that hangs together with each. -/
theorem mn_ex (M : List Lk) : ∃ mn : Nat → Nat, ∀ b, Conn M (mn b) b ∧ ∀ c, Conn M c b → mn b ≤ c :=
  ⟨fun b => Classical.choose (least_ex (fun c => Conn M c b) b (conn_refl M b)), fun b => Classical.choose_spec (least_ex (fun c => Conn M c b) b (conn_refl M b))⟩
theorem mn_same {mn : Nat → Nat} (h : ∀ b, Conn M (mn b) b ∧ ∀ c, Conn M c b → mn b ≤ c) {a b : Nat} (k : Conn M a b) : mn a = mn b := by
  have h1 := (h a).2 (mn b) (conn_trans (h b).1 (conn_symm k))
  have h2 := (h b).2 (mn a) (conn_trans (h a).1 k)
  omega
theorem mn_le {mn : Nat → Nat} (h : ∀ b, Conn M (mn b) b ∧ ∀ c, Conn M c b → mn b ≤ c) (b : Nat) : mn b ≤ b := (h b).2 b (conn_refl M b)

/-- BEHIND n PASSES each has the least one. -/
theorem tog_is (hok : OkL n M) {mn : Nat → Nat} (h : ∀ b, Conn M (mn b) b ∧ ∀ c, Conn M c b → mn b ≤ c) : ∀ b, b < n → togT M n b = mn b := by
  have hlow : ∀ t b, mn b ≤ togT M t b := fun t b => (h b).2 _ (tog_conn hok t b)
  have hg : ∀ b, b < n → decide (togT M n b = mn b) = true := by
    refine grows n (fun t b => decide (togT M t b = mn b)) ?_ ?_
    · intro t b hb h1
      simp only [decide_eq_true_eq] at h1 ⊢
      have h2 := pass_le M (togT M t) b
      have h3 := hlow (t + 1) b
      have h4 : togT M (t + 1) b = passT M (togT M t) b := rfl
      omega
    · intro t ⟨b, hb, hnb⟩
      have hnb' : togT M t b ≠ mn b := of_decide_eq_false hnb
      have hx : ∃ x y, adjL M x y ∧ togT M t x = mn x ∧ togT M t y ≠ mn y := by
        apply Classical.byContradiction
        intro hno
        have hP : ∀ x y, adjL M x y → (togT M t x = mn x ↔ togT M t y = mn y) := by
          intro x y hadj
          have hadj' : adjL M y x := by
            obtain ⟨l, hl, k | k⟩ := hadj
            · exact ⟨l, hl, Or.inr k⟩
            · exact ⟨l, hl, Or.inl k⟩
          constructor
          · intro h1
            apply Classical.byContradiction
            intro h2
            exact hno ⟨x, y, hadj, h1, h2⟩
          · intro h1
            apply Classical.byContradiction
            intro h2
            exact hno ⟨y, x, hadj', h1, h2⟩
        have hc := (h b).1 (fun x y => togT M t x = mn x ↔ togT M t y = mn y) (fun _ => Iff.rfl) (fun _ _ k => k.symm) (fun _ _ _ k1 k2 => k1.trans k2) hP
        have h1 : togT M t (mn b) = mn (mn b) := by
          have e := mn_same h (h b).1
          have h2 := tog_le (M := M) t (mn b)
          have h3 := hlow t (mn b)
          omega
        exact hnb' (hc.1 h1)
      obtain ⟨x, y, ⟨l, hl, hxy⟩, hgx, hgy⟩ := hx
      have hokl := hok l hl
      have hyn : y < n := by omega
      have hmn : mn x = mn y := mn_same h (conn_adj ⟨l, hl, hxy⟩)
      refine ⟨y, hyn, decide_eq_false hgy, ?_⟩
      simp only [decide_eq_true_eq]
      have h3 := hlow (t + 1) y
      suffices hs : togT M (t + 1) y ≤ mn y by omega
      show passT M (togT M t) y ≤ mn y
      obtain ⟨s, r, hsr⟩ := List.append_of_mem hl
      have e : passT M (togT M t) = passT r (relax (passT s (togT M t)) l) := by
        rw [hsr]
        unfold passT
        rw [List.foldl_append]
        rfl
      rw [e]
      refine Nat.le_trans (pass_le r _ y) ?_
      have h4 : passT s (togT M t) x ≤ mn y := by
        have := pass_le s (togT M t) x
        omega
      unfold relax
      have hyl : y = l.1.toNat ∨ y = l.2.2.1.toNat := by omega
      rw [if_pos hyl]
      rcases hxy with ⟨k1, k2⟩ | ⟨k1, k2⟩
      · have : l.1.toNat = x := by omega
        rw [this]
        exact Nat.le_trans (Nat.min_le_left _ _) h4
      · have : l.2.2.1.toNat = x := by omega
        rw [this]
        exact Nat.le_trans (Nat.min_le_right _ _) h4
  intro b hb
  exact of_decide_eq_true (hg b hb)
end

theorem ok_links {ids : List Int} {L : List Lk} (hM : MayT ids L) : OkL ids.length L := by
  intro l hl
  have h1 := end_ok hM (mem_ends.2 ⟨l, hl, Or.inl rfl⟩)
  exact ⟨h1.a0, h1.a1, h1.t0, h1.t1⟩
theorem ok_act {ids : List Int} {L : List Lk} (hM : MayT ids L) : OkL ids.length (actL ids L) := fun l hl => ok_links hM l (act_sub l hl)

theorem sum_countP (p : En → Bool) (n : Nat) : ∀ (l : List En), (∀ e ∈ l, 0 ≤ e.1 ∧ e.1 < n) → ((List.range n).map fun b : Nat => l.countP fun e => e.1 == (b : Int) && p e).sum = l.countP p
  | [], _ => by
    simp only [List.countP_nil]
    induction n with
    | zero => rfl
    | succ n ih => rw [List.range_succ, List.map_append, List.sum_append, ih (fun e he => by cases he)]; rfl
  | a :: l, h => by
    have ih := sum_countP p n l (fun e he => h e (List.mem_cons_of_mem _ he))
    have ha := h a (by simp)
    rw [List.countP_cons, ← ih]
    have e1 : ((List.range n).map fun b : Nat => (a :: l).countP fun e => e.1 == (b : Int) && p e) = (List.range n).map (fun b : Nat => (l.countP fun e => e.1 == (b : Int) && p e) + (if a.1 == (b : Int) && p a then 1 else 0)) := by
      refine List.map_congr_left fun b _ => ?_
      rw [List.countP_cons]
    rw [e1]
    have hsum : ∀ (f g : Nat → Nat) (m : Nat), ((List.range m).map fun b => f b + g b).sum = ((List.range m).map f).sum + ((List.range m).map g).sum := by
      intro f g m
      induction m with
      | zero => rfl
      | succ m ih =>
        rw [List.range_succ, List.map_append, List.map_append, List.map_append, List.sum_append, List.sum_append, List.sum_append, ih]
        simp
        omega
    rw [hsum]
    congr 1
    have hone : ∀ (m : Nat), ((List.range m).map fun b : Nat => if (a.1 == (b : Int) && p a) = true then 1 else 0).sum = if (decide (a.1 < m) && p a) = true then 1 else 0 := by
      intro m
      induction m with
      | zero =>
        have : decide (a.1 < ((0 : Nat) : Int)) = false := decide_eq_false (by omega)
        rw [this]
        rfl
      | succ m ih =>
        rw [List.range_succ, List.map_append, List.sum_append, ih]
        cases hp : p a with
        | false => simp
        | true =>
          simp only [Bool.and_true, List.map_cons, List.map_nil, List.sum_cons, List.sum_nil, Nat.add_zero, decide_eq_true_eq, beq_iff_eq]
          by_cases h1 : a.1 < (m : Int)
          · rw [if_pos h1, if_neg (by omega), if_pos (by omega)]
          · by_cases h2 : a.1 = (m : Int)
            · rw [if_neg h1, if_pos h2, if_pos (by omega)]
            · rw [if_neg h1, if_neg h2, if_neg (by omega)]
    rw [hone n, decide_eq_true ha.2, Bool.true_and]

section
variable {ids : List Int} {L : List Lk}
theorem act_count (hM : MayT ids L) (hid : ∀ x ∈ ids, 0 ≤ x) : (actL ids L).length = (endsL L).countP fun e => roleE ids L e == 1 := by
  have key : ∀ N : List Lk, (∀ l ∈ N, l ∈ L) → (N.filter (actE ids L)).length = (endsL N).countP fun e => roleE ids L e == 1 := by
    intro N
    induction N with
    | nil => intro _; rfl
    | cons l N ih =>
      intro hN
      have h1 := ih fun k hk => hN k (List.mem_cons_of_mem _ hk)
      have e : endsL (l :: N) = [endA l, endB l] ++ endsL N := rfl
      rw [e, List.countP_append, ← h1, List.filter_cons]
      have h2 := one_each hM hid (hN l (by simp))
      have h3 : [endA l, endB l].countP (fun e => roleE ids L e == 1) = if actE ids L l then 1 else 0 := by
        rw [List.countP_cons, List.countP_singleton]
        unfold actE
        rcases h2 with ⟨k1, k2 | k2⟩ | ⟨k1, k2 | k2⟩ <;> rw [k1, k2] <;> rfl
      rw [h3]
      split
      · simp; omega
      · simp
  exact key L fun _ h => h
theorem sum_countB (p : Nat → Bool) (f : Nat → Nat) : ∀ n, (∀ b, b < n → f b = if p b then 1 else 0) → ((List.range n).map f).sum = (List.range n).countP p
  | 0, _ => rfl
  | n + 1, h => by
    rw [List.range_succ, List.map_append, List.sum_append, List.countP_append, sum_countB p f n (fun b hb => h b (by omega)), List.countP_singleton]
    simp [h n (by omega)]
theorem roots_count (hM : MayT ids L) (hid : ∀ x ∈ ids, 0 ≤ x) : (actL ids L).length = (List.range ids.length).countP (hasRoot ids L) := by
  rw [act_count hM hid, ← sum_countP (fun e => roleE ids L e == 1) ids.length (endsL L) (fun e he => ⟨(end_ok hM he).a0, (end_ok hM he).a1⟩)]
  exact sum_countB (hasRoot ids L) (cntR ids L) ids.length (fun b hb => cnt_root hM hid hb)
theorem not_count (p : Nat → Bool) : ∀ n, (List.range n).countP p + (List.range n).countP (fun b => !p b) = n
  | 0 => rfl
  | n + 1 => by
    have := not_count p n
    rw [List.range_succ, List.countP_append, List.countP_append, List.countP_singleton, List.countP_singleton]
    cases p n <;> simp <;> omega
/-- As many roots as groups. -/
theorem groups_count (hM : MayT ids L) (hid : ∀ x ∈ ids, 0 ≤ x) {mn : Nat → Nat} (h : ∀ b, Conn L (mn b) b ∧ ∀ c, Conn L c b → mn b ≤ c) : (List.range ids.length).countP (fun b => !hasRoot ids L b) = (List.range ids.length).countP (fun b => decide (mn b = b)) := by
  rw [List.countP_eq_length_filter, List.countP_eq_length_filter]
  have hp : (((List.range ids.length).filter fun b => !hasRoot ids L b).map mn).Perm ((List.range ids.length).filter fun b => decide (mn b = b)) := by
    refine (List.perm_ext_iff_of_nodup ?_ ?_).2 ?_
    · rw [List.Nodup, List.pairwise_map]
      have hnd : ((List.range ids.length).filter fun b => !hasRoot ids L b).Nodup := List.nodup_range.filter _
      refine List.Pairwise.imp_of_mem ?_ hnd
      intro a b ha hb hne heq
      apply hne
      rw [List.mem_filter, List.mem_range] at ha hb
      have ra := (no_root hM hid ha.1).1 (by simpa using ha.2)
      have rb := (no_root hM hid hb.1).1 (by simpa using hb.2)
      have hc : Conn L a b := conn_trans (conn_symm (h a).1) (heq ▸ (h b).1)
      have e := conn_root hM hid hc
      exact id_inj hM ha.1 hb.1 (by omega)
    · exact List.nodup_range.filter _
    · intro c
      rw [List.mem_map, List.mem_filter, List.mem_range]
      constructor
      · rintro ⟨b, hb, rfl⟩
        rw [List.mem_filter, List.mem_range] at hb
        have := mn_le h b
        exact ⟨by omega, decide_eq_true (mn_same h (h b).1)⟩
      · rintro ⟨hc, hm⟩
        have hm := of_decide_eq_true hm
        obtain ⟨r, hr, h1, h2⟩ := to_root hM hid _ c hc (Nat.le_refl _)
        refine ⟨r, ?_, ?_⟩
        · rw [List.mem_filter, List.mem_range]
          refine ⟨hr, ?_⟩
          rw [(no_root hM hid hr).2 h2]
          rfl
        · rw [← mn_same h (conn_sub act_sub h1)]
          exact hm
  rw [← hp.length_eq, List.length_map]
theorem mn_act (hM : MayT ids L) (hid : ∀ x ∈ ids, 0 ≤ x) {mn ma : Nat → Nat} (h : ∀ b, Conn L (mn b) b ∧ ∀ c, Conn L c b → mn b ≤ c) (k : ∀ b, Conn (actL ids L) (ma b) b ∧ ∀ c, Conn (actL ids L) c b → ma b ≤ c) {b : Nat} (hb : b < ids.length) : mn b = ma b := by
  have h1 := (h b).2 (ma b) (conn_sub act_sub (k b).1)
  have h2 := mn_le h b
  have h3 := (k b).2 (mn b) ((conn_act hM hid (by omega) hb).1 (h b).1)
  omega
/-- THE TREE SPANS: the same hangs together, over as many links as there must be. -/
theorem spans (hM : MayT ids L) (hid : ∀ x ∈ ids, 0 ≤ x) : (∀ b, b < ids.length → togT L ids.length b = togT (actL ids L) ids.length b) ∧ (actL ids L).length + (List.range ids.length).countP (fun b => decide (togT L ids.length b = b)) = ids.length := by
  obtain ⟨mn, h⟩ := mn_ex L
  obtain ⟨ma, k⟩ := mn_ex (actL ids L)
  have e1 := tog_is (ok_links hM) h
  have e2 := tog_is (ok_act hM) k
  constructor
  · intro b hb
    rw [e1 b hb, e2 b hb]
    exact mn_act hM hid h k hb
  · have h1 := roots_count hM hid
    have h2 := groups_count hM hid h
    have h3 := not_count (hasRoot ids L) ids.length
    have h4 : (List.range ids.length).countP (fun b => decide (togT L ids.length b = b)) = (List.range ids.length).countP (fun b => decide (mn b = b)) := by
      refine List.countP_congr fun b hb => ?_
      rw [e1 b (List.mem_range.1 hb)]
    omega
end

end Go.Proofs.Ytolmkflhddlcnaa
