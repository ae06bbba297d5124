/-
  The document's part in a tree, plainly, and that the program's says the same. It speaks of no program.
-/
import Derived.Test.YtdjeifbbbpbhoaaRsO
namespace Go.Proofs.Ytdjeifbbbpbhoaa
open Go.RowKit
set_option linter.unusedVariables false
set_option linter.unusedSimpArgs false

structure RPrt where
  cost : Int
  up : Bool
  keeps : Bool
  v : V4
  age : Int
  on : Int
  role : Int
  since : Int
  fwd : Bool
structure RPart where
  br : Int
  ps : List RPrt
  now : Int
  root : Int
  best : V4
  chg : Int

def RPrt.isOld (t : Int) (p : RPrt) : Bool := decide (p.on + 6 ≤ t) || decide (20 ≤ p.age)
def RPrt.drop (t : Int) (p : RPrt) : RPrt := if p.keeps && p.isOld t then { p with keeps := false } else p
def RPrt.hd (p : RPrt) : Hd := (p.up && p.keeps, p.v.1, p.v.2.1, p.v.2.2.1, p.v.2.2.2, p.cost)
def RPrt.rsince (t : Int) (p : RPrt) (r : Int) : Int := if actv r then (if p.since < 0 then t else p.since) else -1
def RPrt.play (t : Int) (p : RPrt) (role : Int) : RPrt :=
  let r := if p.up then role else 0
  { p with role := r, since := p.rsince t r, fwd := actv r && decide (p.rsince t r + 30 ≤ t) }
def RPrt.fresh (t : Int) (p : RPrt) (role : Int) : Bool := (p.play t role).fwd && !p.fwd
def RPart.dropAll (R : RPart) : RPart := { R with ps := R.ps.map (RPrt.drop R.now) }
def RPart.hds (R : RPart) : List Hd := R.ps.map RPrt.hd
def RPart.right (R : RPart) : RPart :=
  let F := R.dropAll
  let rs := rolesL R.br F.hds
  { F with ps := List.zipWith (RPrt.play R.now) F.ps rs, root := (bestL R.br F.hds).1, best := (bestL R.br F.hds).2, chg := if (List.zipWith (RPrt.fresh R.now) F.ps rs).any id then R.now else R.chg }
def RPart.goes (R : RPart) (now : Int) : RPart := { R with now := max R.now now }
def RPart.put (R : RPart) (k : Nat) (p : RPrt) : RPart := { R with ps := R.ps.set k p }
def RPart.at? (R : RPart) (n : Int) : Option RPrt := if 0 ≤ n then R.ps[n.toNat]? else none
def RPrt.link (p : RPrt) (up : Bool) : RPrt := { p with up := up, keeps := if up then p.keeps else false }
def RPart.link (R : RPart) (n : Int) (up : Bool) (now : Int) : RPart :=
  match R.at? n with
  | none => R
  | some p => if timeR now then ((R.goes now).put n.toNat (p.link up)).right else R
def RPrt.takes (p : RPrt) (v : V4) : Bool := !p.keeps || (v.2.2.1 == p.v.2.2.1 && v.2.2.2 == p.v.2.2.2) || decide (cmpV v p.v ≤ 0)
def RPart.note (R : RPart) : RPart := { R with chg := R.now }
def RPart.hear (R : RPart) (n : Int) (b : Tell) (now : Int) : RPart :=
  match R.at? n with
  | none => R
  | some p =>
    if p.up && timeR now then
      let F := (R.goes now).dropAll
      let q := p.drop F.now
      if q.takes b.v then
        let G := F.put n.toNat { q with keeps := true, v := b.v, age := b.age, on := F.now }
        (if b.chg && b.v.2.2.1 != R.br then G.note else G).right
      else F.right
    else R
def RPrt.learns (t : Int) (p : RPrt) : Bool := decide (0 ≤ p.since) && decide (p.since + 15 ≤ t)
def RPart.age (R : RPart) : Int := if 0 ≤ R.root then ((R.ps[R.root.toNat]?).map (fun p => p.age + 1)).getD 0 else 0
def RPart.news (R : RPart) : Bool := decide (0 ≤ R.chg) && decide (R.now < R.chg + 4)
def routGo (R : RPart) : Nat → List RPrt → List (Int × Tell)
  | _, [] => []
  | i, p :: r => (if p.role == 2 then [((i : Int), (⟨(R.best.1, R.best.2.1, R.br, (i : Int)), R.age, R.news, p.learns R.now, p.fwd⟩ : Tell))] else []) ++ routGo R (i + 1) r
def RPart.outs (R : RPart) (now : Int) : List (Int × Tell) := if now % 2 == 1 || decide (20 ≤ R.age) then [] else routGo R 0 R.ps
def RPart.tick (R : RPart) (now : Int) : RPart := if timeR now then (R.goes now).right else R
def RPart.told (R : RPart) (now : Int) : List (Int × Tell) := if timeR now then (R.goes now).right.outs now else []
def newRPrt (c : Int) : RPrt := ⟨c, false, false, (0, 0, 0, 0), 0, 0, 0, -1, false⟩
def newRPart (b : Int) (cs : List Int) : RPart := ⟨b, cs.map newRPrt, 0, -1, ownV b, -1⟩

/-- The same port. -/
structure RelP (p : Prt) (q : RPrt) : Prop where
  cost : p.cost = q.cost
  up : p.up = q.up
  role : p.role = q.role
  fwd : p.fwd = q.fwd
  none : p.kept = none → q.keeps = false
  some : ∀ m, p.kept = some m → q.keeps = true ∧ q.v = m.v ∧ q.age = m.age ∧ q.on = m.on ∧ q.up = true
  s1 : actv p.role = true → q.since = p.since
  s0 : actv p.role = false → q.since = -1
  s2 : 0 ≤ p.since
structure Rel (T : Part) (R : RPart) : Prop where
  br : T.br = R.br
  time : T.time = R.now
  best : T.best = R.best
  chg : T.chg = R.chg + 1
  len : T.ps.length = R.ps.length
  ps : ∀ (k : Nat) (p : Prt) (q : RPrt), T.ps[k]? = some p → R.ps[k]? = some q → RelP p q
  t0 : 0 ≤ T.time
/-- .. set right. -/
structure Full (T : Part) (R : RPart) : Prop where
  rel : Rel T R
  learns : ∀ (k : Nat) (p : Prt) (q : RPrt), T.ps[k]? = some p → R.ps[k]? = some q → p.learns = q.learns R.now

theorem rel_forget {p : Prt} {q : RPrt} (h : RelP p q) (t : Int) : RelP (p.forget t) (q.drop t) := by
  cases hk : p.kept with
  | none =>
    have e1 : p.forget t = p := by unfold Prt.forget; rw [hk]
    have e2 : q.drop t = q := by unfold RPrt.drop; rw [h.none hk]; rfl
    rw [e1, e2]
    exact h
  | some m =>
    obtain ⟨k1, k2, k3, k4, k5⟩ := h.some m hk
    have e0 : q.isOld t = oldM m t := by
      unfold RPrt.isOld oldM
      rw [k3, k4]
      congr 1
      exact decide_eq_decide.2 (by omega)
    cases ho : oldM m t with
    | true =>
      have e1 : p.forget t = { p with kept := none } := by unfold Prt.forget; rw [hk]; simp [ho]
      have e2 : q.drop t = { q with keeps := false } := by unfold RPrt.drop; rw [k1, e0, ho]; rfl
      rw [e1, e2]
      exact ⟨h.cost, h.up, h.role, h.fwd, fun _ => rfl, fun m e => (by cases e), h.s1, h.s0, h.s2⟩
    | false =>
      have e1 : p.forget t = p := by unfold Prt.forget; rw [hk]; simp [ho]
      have e2 : q.drop t = q := by unfold RPrt.drop; rw [k1, e0, ho]; rfl
      rw [e1, e2]
      exact h
def likeH (h g : Hd) : Prop := h.1 = g.1 ∧ (h.1 = true → h = g)
theorem rel_hd {p : Prt} {q : RPrt} (h : RelP p q) : likeH p.hd q.hd := by
  unfold likeH Prt.hd RPrt.hd
  cases hk : p.kept with
  | none =>
    rw [h.none hk]
    simp
  | some m =>
    obtain ⟨k1, k2, k3, k4, k5⟩ := h.some m hk
    rw [k1, k2, k5, h.cost]
    simp
theorem lead_like {h g : Hd} (k : likeH h g) (b : Int) : leadB b h = leadB b g ∧ (leadB b h = true → leadV h = leadV g) := by
  obtain ⟨k1, k2⟩ := k
  cases hh : h.1 with
  | false =>
    have e1 : leadB b h = false := by unfold leadB; rw [hh]; rfl
    have e2 : leadB b g = false := by unfold leadB; rw [← k1, hh]; rfl
    rw [e1, e2]
    exact ⟨rfl, fun h => by cases h⟩
  | true =>
    have := k2 hh
    rw [this]
    exact ⟨rfl, fun _ => rfl⟩
theorem step_like {h g : Hd} (k : likeH h g) (b i : Int) (s : Bst) : stepB b i h s = stepB b i g s := by
  obtain ⟨e1, e2⟩ := lead_like k b
  unfold stepB
  rw [← e1]
  cases hl : leadB b h with
  | false => rfl
  | true => rw [e2 hl]
theorem role_like {h g : Hd} (k : likeH h g) (b : Int) (s : Bst) (i : Int) : roleH b s i h = roleH b s i g := by
  obtain ⟨k1, k2⟩ := k
  unfold roleH
  cases hh : h.1 with
  | false => rw [← k1, hh]; rfl
  | true => rw [← k2 hh, hh]
theorem bestGo_like (b : Int) : ∀ (L M : List Hd) (i : Int) (s : Bst), L.length = M.length → (∀ (k : Nat) (h g : Hd), L[k]? = some h → M[k]? = some g → likeH h g) → bestGo b i L s = bestGo b i M s
  | [], [], _, _, _, _ => rfl
  | [], _ :: _, _, _, h, _ => by simp at h
  | _ :: _, [], _, _, h, _ => by simp at h
  | h :: L, g :: M, i, s, hl, hk => by
    show bestGo b (i + 1) L (stepB b i h s) = bestGo b (i + 1) M (stepB b i g s)
    rw [step_like (hk 0 h g rfl rfl)]
    exact bestGo_like b L M (i + 1) _ (by simpa using hl) fun k x y hx hy => hk (k + 1) x y (by simpa using hx) (by simpa using hy)
theorem rolesGo_like (b : Int) (s : Bst) : ∀ (L M : List Hd) (i : Int), L.length = M.length → (∀ (k : Nat) (h g : Hd), L[k]? = some h → M[k]? = some g → likeH h g) → rolesGo b s i L = rolesGo b s i M
  | [], [], _, _, _ => rfl
  | [], _ :: _, _, h, _ => by simp at h
  | _ :: _, [], _, h, _ => by simp at h
  | h :: L, g :: M, i, hl, hk => by
    show roleH b s i h :: rolesGo b s (i + 1) L = roleH b s i g :: rolesGo b s (i + 1) M
    rw [role_like (hk 0 h g rfl rfl), rolesGo_like b s L M (i + 1) (by simpa using hl) fun k x y hx hy => hk (k + 1) x y (by simpa using hx) (by simpa using hy)]
theorem rel_play {p : Prt} {q : RPrt} (h : RelP p q) {t : Int} (t0 : 0 ≤ t) (r : Int) : RelP (p.play t r) (q.play t r) ∧ p.fresh t r = q.fresh t r ∧ (p.play t r).learns = (q.play t r).learns t := by
  have hs : ∀ x : Int, actv x = true → q.rsince t x = if actv x && !actv p.role then t else p.since := by
    intro x hx
    unfold RPrt.rsince
    rw [hx]
    cases hp : actv p.role with
    | true =>
      rw [h.s1 hp]
      have := h.s2
      simp
      omega
    | false =>
      rw [h.s0 hp]
      simp
  have hn : ∀ x : Int, actv x = false → q.rsince t x = -1 := by
    intro x hx
    unfold RPrt.rsince
    rw [hx]
    rfl
  have hf : (p.play t r).fwd = (q.play t r).fwd := by
    unfold Prt.play RPrt.play
    simp only
    rw [h.up]
    generalize (if q.up = true then r else 0) = x
    cases hx : actv x with
    | true =>
      rw [hs x hx, hx]
      simp only [Bool.true_and]
      exact decide_eq_decide.2 (by omega)
    | false => rfl
  refine ⟨⟨h.cost, h.up, ?_, hf, h.none, h.some, ?_, ?_, ?_⟩, ?_, ?_⟩
  · unfold Prt.play RPrt.play
    simp only
    rw [h.up]
  · unfold Prt.play RPrt.play
    simp only
    rw [h.up]
    generalize (if q.up = true then r else 0) = x
    intro hx
    exact hs x hx
  · unfold Prt.play RPrt.play
    simp only
    rw [h.up]
    generalize (if q.up = true then r else 0) = x
    intro hx
    exact hn x hx
  · unfold Prt.play
    simp only
    have := h.s2
    split <;> omega
  · unfold Prt.fresh RPrt.fresh
    rw [hf, h.fwd]
  · have e : ∀ x : Int, (actv x && decide (15 ≤ t - (if (actv x && !actv p.role) = true then t else p.since))) = (decide (0 ≤ q.rsince t x) && decide (q.rsince t x + 15 ≤ t)) := by
      intro x
      cases hx : actv x with
      | true =>
        rw [hs x hx, hx]
        simp only [Bool.true_and]
        have h2 := h.s2
        have h3 : 0 ≤ (if (!actv p.role) = true then t else p.since) := by split <;> omega
        rw [decide_eq_true h3, Bool.true_and]
        exact decide_eq_decide.2 (by omega)
      | false =>
        rw [hn x hx]
        rfl
    have e2 := e (if q.up then r else 0)
    rw [← h.up] at e2
    refine e2.trans ?_
    unfold RPrt.learns RPrt.play
    simp only
    rw [h.up]
theorem Rel.goes {T : Part} {R : RPart} (h : Rel T R) {now : Int} (hn : 0 ≤ now) : Rel (T.goOn now) (R.goes now) :=
  ⟨h.br, by show max T.time now = max R.now now; rw [h.time], h.best, h.chg, h.len, h.ps, by show 0 ≤ max T.time now; omega⟩
theorem Rel.drop {T : Part} {R : RPart} (h : Rel T R) : Rel T.forget R.dropAll := by
  refine ⟨h.br, h.time, h.best, h.chg, ?_, fun k p q hp hq => ?_, h.t0⟩
  · show (T.ps.map _).length = (R.ps.map _).length
    rw [List.length_map, List.length_map, h.len]
  · replace hp : (T.ps.map (Prt.forget T.time))[k]? = some p := hp
    replace hq : (R.ps.map (RPrt.drop R.now))[k]? = some q := hq
    rw [List.getElem?_map] at hp hq
    cases e1 : T.ps[k]? with
    | none => rw [e1] at hp; cases hp
    | some p0 =>
      cases e2 : R.ps[k]? with
      | none => rw [e2] at hq; cases hq
      | some q0 =>
        rw [e1] at hp
        rw [e2] at hq
        cases hp
        cases hq
        rw [h.time]
        exact rel_forget (h.ps k p0 q0 e1 e2) _
theorem Rel.put {T : Part} {R : RPart} (h : Rel T R) (k : Nat) {p : Prt} {q : RPrt} (hp : RelP p q) : Rel (T.put k p) (R.put k q) := by
  refine ⟨h.br, h.time, h.best, h.chg, ?_, fun j p' q' h1 h2 => ?_, h.t0⟩
  · show (T.ps.set k p).length = (R.ps.set k q).length
    rw [List.length_set, List.length_set, h.len]
  · replace h1 : (T.ps.set k p)[j]? = some p' := h1
    replace h2 : (R.ps.set k q)[j]? = some q' := h2
    by_cases hjk : k = j
    · subst hjk
      rw [List.getElem?_set_self' ] at h1 h2
      cases e1 : T.ps[k]? with
      | none => rw [e1] at h1; cases h1
      | some _ =>
        cases e2 : R.ps[k]? with
        | none => rw [e2] at h2; cases h2
        | some _ =>
          rw [e1] at h1
          rw [e2] at h2
          cases h1
          cases h2
          exact hp
    · rw [List.getElem?_set_ne hjk] at h1 h2
      exact h.ps j p' q' h1 h2
theorem Rel.note {T : Part} {R : RPart} (h : Rel T R) : Rel T.note R.note := ⟨h.br, h.time, h.best, by show T.time + 1 = R.now + 1; rw [h.time], h.len, h.ps, h.t0⟩
theorem Rel.right {T : Part} {R : RPart} (h : Rel T R) : Full T.right R.right ∧ bestL T.br T.forget.hds = bestL R.br R.dropAll.hds := by
  have hd := h.drop
  have hlk : ∀ (k : Nat) (x y : Hd), T.forget.hds[k]? = some x → R.dropAll.hds[k]? = some y → likeH x y := by
    intro k x y hx hy
    unfold Part.hds at hx
    unfold RPart.hds at hy
    rw [List.getElem?_map] at hx hy
    cases e1 : T.forget.ps[k]? with
    | none => rw [e1] at hx; cases hx
    | some p0 =>
      cases e2 : R.dropAll.ps[k]? with
      | none => rw [e2] at hy; cases hy
      | some q0 =>
        rw [e1] at hx
        rw [e2] at hy
        cases hx
        cases hy
        exact rel_hd (hd.ps k p0 q0 e1 e2)
  have hll : T.forget.hds.length = R.dropAll.hds.length := by
    unfold Part.hds RPart.hds
    rw [List.length_map, List.length_map, hd.len]
  have hb : bestL T.br T.forget.hds = bestL R.br R.dropAll.hds := by
    unfold bestL
    rw [h.br]
    exact bestGo_like _ _ _ _ _ hll hlk
  have hr : rolesL T.br T.forget.hds = rolesL R.br R.dropAll.hds := by
    unfold rolesL
    rw [hb, h.br]
    exact rolesGo_like _ _ _ _ _ hll hlk
  have hz : ∀ (k : Nat) (p : Prt) (q : RPrt), T.right.ps[k]? = some p → R.right.ps[k]? = some q → RelP p q ∧ p.learns = q.learns R.now := by
    intro k p q hp hq
    replace hp : (List.zipWith (Prt.play T.time) T.forget.ps (rolesL T.br T.forget.hds))[k]? = some p := hp
    replace hq : (List.zipWith (RPrt.play R.now) R.dropAll.ps (rolesL R.br R.dropAll.hds))[k]? = some q := hq
    rw [hr] at hp
    rw [List.getElem?_zipWith] at hp hq
    cases e1 : T.forget.ps[k]? with
    | none => rw [e1] at hp; cases hp
    | some p0 =>
      cases e2 : R.dropAll.ps[k]? with
      | none => rw [e2] at hq; cases hq
      | some q0 =>
        cases e3 : (rolesL R.br R.dropAll.hds)[k]? with
        | none => rw [e1, e3] at hp; cases hp
        | some r0 =>
          rw [e1, e3] at hp
          rw [e2, e3] at hq
          cases hp
          cases hq
          have h1 := rel_play (hd.ps k p0 q0 e1 e2) h.t0 r0
          rw [h.time] at h1
          rw [h.time]
          exact ⟨h1.1, h1.2.2⟩
  refine ⟨⟨⟨h.br, h.time, ?_, ?_, ?_, fun k p q hp hq => (hz k p q hp hq).1, h.t0⟩, fun k p q hp hq => (hz k p q hp hq).2⟩, hb⟩
  · show (bestL T.br T.forget.hds).2 = (bestL R.br R.dropAll.hds).2
    rw [hb]
  · have hf : List.zipWith (Prt.fresh T.time) T.forget.ps (rolesL T.br T.forget.hds) = List.zipWith (RPrt.fresh R.now) R.dropAll.ps (rolesL R.br R.dropAll.hds) := by
      rw [hr]
      apply List.ext_getElem?
      intro k
      rw [List.getElem?_zipWith, List.getElem?_zipWith]
      cases e1 : T.forget.ps[k]? with
      | none =>
        have : R.dropAll.ps[k]? = none := by rw [List.getElem?_eq_none_iff] at e1 ⊢; rw [← hd.len]; exact e1
        rw [this]
      | some p0 =>
        cases e2 : R.dropAll.ps[k]? with
        | none =>
          have : T.forget.ps[k]? = none := by rw [List.getElem?_eq_none_iff] at e2 ⊢; rw [hd.len]; exact e2
          rw [this] at e1
          cases e1
        | some q0 =>
          cases e3 : (rolesL R.br R.dropAll.hds)[k]? with
          | none => rfl
          | some r0 =>
            show some (p0.fresh T.time r0) = some (q0.fresh R.now r0)
            rw [(rel_play (hd.ps k p0 q0 e1 e2) h.t0 r0).2.1, h.time]
    show (if _ then T.time + 1 else T.chg) = (if _ then R.now else R.chg) + 1
    rw [hf, h.time, h.chg]
    split <;> rfl
  · show (List.zipWith _ _ _).length = (List.zipWith _ _ _).length
    rw [List.length_zipWith, List.length_zipWith, hr, hd.len]

end Go.Proofs.Ytdjeifbbbpbhoaa
