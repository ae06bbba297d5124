/-
  rstp: what Root keeps, plainly; Tick. Contracts over the translated program.
-/
import Derived.Test.YtdjeifbbbpbhoaaRsI
namespace Go.Proofs.Ytdjeifbbbpbhoaa
open Go.RowKit
set_option linter.unusedVariables false
set_option linter.unusedSimpArgs false

theorem bestGo_one (b : Int) : ∀ (L : List Hd) (i : Int) (s : Bst), bestGo b i L s = s ∨ ∃ (k : Nat) (h : Hd), L[k]? = some h ∧ leadB b h = true ∧ bestGo b i L s = (i + k, leadV h)
  | [], i, s => Or.inl rfl
  | x :: r, i, s => by
    show bestGo b (i + 1) r (stepB b i x s) = s ∨ _
    rcases bestGo_one b r (i + 1) (stepB b i x s) with h | ⟨k, h, h1, h2, h3⟩
    · rw [h]
      unfold stepB
      split
      · next hc =>
        simp at hc
        refine Or.inr ⟨0, x, rfl, hc.1, ?_⟩
        show bestGo b (i + 1) r (stepB b i x s) = _
        rw [h]
        unfold stepB
        simp [hc]
      · exact Or.inl rfl
    · refine Or.inr ⟨k + 1, h, h1, h2, ?_⟩
      show bestGo b (i + 1) r (stepB b i x s) = _
      rw [h3]
      congr 1
      omega
theorem bestL_one (b : Int) (L : List Hd) : bestL b L = (-1, ownV b) ∨ ∃ (k : Nat) (h : Hd), L[k]? = some h ∧ leadB b h = true ∧ bestL b L = ((k : Int), leadV h) := by
  rcases bestGo_one b L 0 (-1, ownV b) with h | ⟨k, h, h1, h2, h3⟩
  · exact Or.inl h
  · refine Or.inr ⟨k, h, h1, h2, ?_⟩
    unfold bestL
    rw [h3]
    congr 1
    omega
theorem rolesGo_at (b : Int) (s : Bst) : ∀ (L : List Hd) (i : Int) (k : Nat), (rolesGo b s i L)[k]? = (L[k]?).map (roleH b s (i + k))
  | [], i, k => by simp [rolesGo]
  | x :: r, i, 0 => by simp [rolesGo]
  | x :: r, i, k + 1 => by
    show (rolesGo b s (i + 1) r)[k]? = _
    rw [rolesGo_at b s r (i + 1) k]
    simp only [List.getElem?_cons_succ]
    congr 2
    omega
theorem rolesL_at (b : Int) (L : List Hd) (k : Nat) : (rolesL b L)[k]? = (L[k]?).map (roleH b (bestL b L) k) := by
  unfold rolesL
  rw [rolesGo_at]
  congr 2
  omega
theorem role_one {b : Int} {s : Bst} {i : Int} {h : Hd} (k : roleH b s i h = 1) : i = s.1 := by
  unfold roleH at k
  split at k
  · assumption
  · split at k <;> omega

/-- Behind being set right, who is Root keeps a message that is not old. -/
theorem right_at {T : Part} {k : Nat} {q : Prt} (h : T.right.ps[k]? = some q) : ∃ p, T.ps[k]? = some p ∧ q = (p.forget T.time).play T.time (roleH T.br (bestL T.br T.forget.hds) k (p.forget T.time).hd) := by
  have h' : (List.zipWith (Prt.play T.time) T.forget.ps (rolesL T.br T.forget.hds))[k]? = some q := h
  rw [List.getElem?_zipWith, rolesL_at] at h'
  cases hp : T.ps[k]? with
  | none =>
    have e : T.forget.ps[k]? = none := by show (T.ps.map _)[k]? = none; rw [List.getElem?_map, hp]; rfl
    rw [e] at h'
    simp at h'
  | some p =>
    have e : T.forget.ps[k]? = some (p.forget T.time) := by show (T.ps.map _)[k]? = _; rw [List.getElem?_map, hp]; rfl
    have e2 : T.forget.hds[k]? = some (p.forget T.time).hd := by unfold Part.hds; rw [List.getElem?_map, e]; rfl
    rw [e, e2] at h'
    refine ⟨p, rfl, ?_⟩
    simpa using h'.symm
theorem forget_keeps {p : Prt} {t : Int} {m : Msg} (h : (p.forget t).kept = some m) : p.kept = some m ∧ oldM m t = false := by
  unfold Prt.forget at h
  cases hk : p.kept with
  | none => rw [hk] at h; simp [hk] at h
  | some m' =>
    rw [hk] at h
    simp only at h
    split at h
    · cases h
    · rw [hk] at h
      cases h
      exact ⟨rfl, Bool.eq_false_iff.2 ‹_›⟩
theorem hd_is {p : Prt} (h : p.hd.1 = true) : ∃ m, p.kept = some m ∧ p.hd = (true, m.v.1, m.v.2.1, m.v.2.2.1, m.v.2.2.2, p.cost) := by
  unfold Prt.hd at h ⊢
  cases hk : p.kept with
  | none => rw [hk] at h; cases h
  | some m => exact ⟨m, rfl, rfl⟩
theorem right_keeps {T : Part} (hg : T.Good) : RootKeeps T.right := by
  intro q hq hr
  obtain ⟨k, hk, e⟩ := List.getElem_of_mem hq
  obtain ⟨p, hp, rfl⟩ := right_at (k := k) (by rw [List.getElem?_eq_getElem hk, e])
  have hr' : (if (p.forget T.time).up then roleH T.br (bestL T.br T.forget.hds) k (p.forget T.time).hd else 0) = 1 := hr
  split at hr'
  · have h1 := role_one hr'
    rcases bestL_one T.br T.forget.hds with h | ⟨j, h, h2, h3, h4⟩
    · rw [h] at h1
      simp only at h1
      omega
    · rw [h4] at h1
      simp only at h1
      obtain rfl : k = j := by omega
      have e2 : T.forget.hds[k]? = some (p.forget T.time).hd := by
        unfold Part.hds
        rw [List.getElem?_map]
        show ((T.ps.map _)[k]?).map _ = _
        rw [List.getElem?_map, hp]
        rfl
      rw [h2] at e2
      cases e2
      unfold leadB at h3
      simp at h3
      obtain ⟨m, hm, -⟩ := hd_is h3.1.1
      obtain ⟨hm1, hm2⟩ := forget_keeps hm
      refine ⟨m, hm, ((hg.ps p (List.mem_of_getElem? hp)).m m hm1).2.2, ?_⟩
      unfold oldM at hm2
      simp at hm2
      exact hm2.2
  · omega

def cellsO (x : Int × Tell) : List Value := [.int .i64 x.1, .int .u64 x.2.v.1, .int .i64 x.2.v.2.1, .int .u64 x.2.v.2.2.1, .int .i64 x.2.v.2.2.2, .int .i64 x.2.age, .bool x.2.chg, .bool x.2.learn, .bool x.2.fwd]
theorem outGo_snoc (T : Part) (p : Prt) : ∀ (L : List Prt) (i : Nat), outGo T i (L ++ [p]) = outGo T i L ++ (if p.role == 2 then [(((i + L.length : Nat) : Int), (⟨(T.best.1, T.best.2.1, T.br, ((i + L.length : Nat) : Int)), T.age, T.news, p.learns, p.fwd⟩ : Tell))] else [])
  | [], i => by simp [outGo]
  | x :: r, i => by
    show _ ++ outGo T (i + 1) (r ++ [p]) = _
    rw [outGo_snoc T p r (i + 1), ← List.append_assoc]
    have e : i + 1 + r.length = i + (x :: r).length := by simp; omega
    rw [e]
    rfl
theorem outGo_take {T : Part} {k : Nat} {p : Prt} (h : T.ps[k]? = some p) : outGo T 0 (T.ps.take (k + 1)) = outGo T 0 (T.ps.take k) ++ (if p.role == 2 then [((k : Int), (⟨(T.best.1, T.best.2.1, T.br, (k : Int)), T.age, T.news, p.learns, p.fwd⟩ : Tell))] else []) := by
  obtain ⟨hk, e⟩ := List.getElem?_eq_some_iff.1 h
  rw [List.take_succ_eq_append_getElem hk, e, outGo_snoc, List.length_take, Nat.min_eq_left (by omega), Nat.zero_add]

theorem info_Out : (Try.prog.info? 54).map (fun i => (i.zero, i.size, i.bytes)) = some (some (.agg #[.int .i64 0, .int .u64 0, .int .i64 0, .int .u64 0, .int .i64 0, .int .i64 0, .bool false, .bool false, .bool false]), 9, 56) := by kernel_rfl

end Go.Proofs.Ytdjeifbbbpbhoaa
