/-
  A bridge's part in a tree, plainly: ports, messages, what a call makes of them. It speaks of no program.
-/
import Derived.WalkKit
import Derived.Test.YtdjeifbbbpbhoaaPrS
namespace Go.Proofs.Ytdjeifbbbpbhoaa
open Go.RowKit
set_option linter.unusedVariables false
set_option linter.unusedSimpArgs false

/-- A message that is kept: its vector, its age, when it was heard. -/
structure Msg where
  v : V4
  age : Int
  on : Int
/-- A port. -/
structure Prt where
  cost : Int
  up : Bool
  kept : Option Msg
  role : Int
  since : Int
  learns : Bool
  fwd : Bool
/-- A part: one more than the last change in chg. -/
structure Part where
  br : Int
  time : Int
  ps : List Prt
  best : V4
  chg : Int

def timeR (n : Int) : Bool := !(decide (n < 0) || decide (1099511627776 < n))
def oldM (m : Msg) (t : Int) : Bool := decide (6 ≤ t - m.on) || decide (20 ≤ m.age)
def actv (r : Int) : Bool := r == 1 || r == 2
def Prt.forget (t : Int) (p : Prt) : Prt :=
  match p.kept with
  | none => p
  | some m => if oldM m t then { p with kept := none } else p
def Prt.hd (p : Prt) : Hd :=
  match p.kept with
  | none => (false, 0, 0, 0, 0, p.cost)
  | some m => (true, m.v.1, m.v.2.1, m.v.2.2.1, m.v.2.2.2, p.cost)
def Prt.play (t : Int) (p : Prt) (role : Int) : Prt :=
  let r := if p.up then role else 0
  let s := if actv r && !actv p.role then t else p.since
  { p with role := r, since := s, learns := actv r && decide (15 ≤ t - s), fwd := actv r && decide (30 ≤ t - s) }
/-- Does it forward now, and did not? -/
def Prt.fresh (t : Int) (p : Prt) (role : Int) : Bool := (p.play t role).fwd && !p.fwd

def Part.forget (T : Part) : Part := { T with ps := T.ps.map (Prt.forget T.time) }
def Part.hds (T : Part) : List Hd := T.ps.map Prt.hd
def Part.right (T : Part) : Part :=
  let F := T.forget
  let rs := rolesL T.br F.hds
  { F with ps := List.zipWith (Prt.play T.time) F.ps rs, best := (bestL T.br F.hds).2, chg := if (List.zipWith (Prt.fresh T.time) F.ps rs).any id then T.time + 1 else T.chg }
def Part.goOn (T : Part) (now : Int) : Part := { T with time := max T.time now }
def Part.put (T : Part) (k : Nat) (p : Prt) : Part := { T with ps := T.ps.set k p }
def Prt.link (p : Prt) (up : Bool) : Prt := { p with up := up, kept := if up then p.kept else none }
/-- Is there a port k that is n? -/
def Part.at? (T : Part) (n : Int) : Option Prt := if 0 ≤ n then T.ps[n.toNat]? else none
def Part.link (T : Part) (n : Int) (up : Bool) (now : Int) : Part :=
  match T.at? n with
  | none => T
  | some p => if timeR now then ((T.goOn now).put n.toNat (p.link up)).right else T
def Prt.takes (p : Prt) (v : V4) : Bool :=
  match p.kept with
  | none => true
  | some m => decide (cmpV v m.v ≤ 0) || (v.2.2.1 == m.v.2.2.1 && v.2.2.2 == m.v.2.2.2)
def Part.note (T : Part) : Part := { T with chg := T.time + 1 }
/-- What is told: the vector, the age, whether it is a change. -/
structure Tell where
  v : V4
  age : Int
  chg : Bool
  learn : Bool
  fwd : Bool
def Part.hear (T : Part) (n : Int) (b : Tell) (now : Int) : Part :=
  match T.at? n with
  | none => T
  | some p =>
    if p.up && timeR now then
      let F := (T.goOn now).forget
      let q := p.forget F.time
      if q.takes b.v then
        let G := F.put n.toNat { q with kept := some ⟨b.v, b.age, F.time⟩ }
        (if b.chg && b.v.2.2.1 != T.br then G.note else G).right
      else F.right
    else T
def Part.age (T : Part) : Int :=
  match T.ps.find? (fun p => p.role == 1) with
  | none => 0
  | some p => match p.kept with
    | none => 0
    | some m => m.age + 1
def Part.news (T : Part) : Bool := decide (0 < T.chg) && decide (T.time - (T.chg - 1) < 4)
/-- What goes out, port by port. -/
def outGo (T : Part) : Nat → List Prt → List (Int × Tell)
  | _, [] => []
  | i, p :: r => (if p.role == 2 then [((i : Int), (⟨(T.best.1, T.best.2.1, T.br, (i : Int)), T.age, T.news, p.learns, p.fwd⟩ : Tell))] else []) ++ outGo T (i + 1) r
def Part.outs (T : Part) (now : Int) : List (Int × Tell) := if now % 2 != 0 || decide (20 ≤ T.age) then [] else outGo T 0 T.ps
def Part.tick (T : Part) (now : Int) : Part := if timeR now then (T.goOn now).right else T
def Part.told (T : Part) (now : Int) : List (Int × Tell) := if timeR now then (T.goOn now).right.outs now else []
def newPrt (c : Int) : Prt := ⟨c, false, none, 0, 0, false, false⟩
def newPart (b : Int) (cs : List Int) : Part := ⟨b, 0, cs.map newPrt, ownV b, 0⟩
def mayCs (cs : List Int) : Bool := decide (1 ≤ cs.length) && decide (cs.length ≤ 16) && cs.all (fun c => decide (1 ≤ c) && decide (c ≤ 200000000))

/-- What numbers may be. -/
structure Prt.Good (p : Prt) : Prop where
  s0 : 0 ≤ p.since
  s1 : p.since ≤ 1099511627776
  m : ∀ m, p.kept = some m → 0 ≤ m.on ∧ m.on ≤ 1099511627776 ∧ -9223372036854775808 ≤ m.age
structure Part.Good (T : Part) : Prop where
  t0 : 0 ≤ T.time
  t1 : T.time ≤ 1099511627776
  c0 : 0 ≤ T.chg
  c1 : T.chg ≤ 1099511627777
  ps : ∀ p ∈ T.ps, p.Good

theorem forget_good {p : Prt} (h : p.Good) (t : Int) : (p.forget t).Good := by
  unfold Prt.forget
  split
  · exact h
  · split
    · exact ⟨h.s0, h.s1, fun m e => by cases e⟩
    · exact h
theorem ite_in {c : Prop} [Decidable c] {P : Int → Prop} {a b : Int} (ha : P a) (hb : P b) : P (if c then a else b) := by
  split
  · exact ha
  · exact hb
theorem play_good {p : Prt} (h : p.Good) {t : Int} (t0 : 0 ≤ t) (t1 : t ≤ 1099511627776) (r : Int) : (p.play t r).Good := by
  refine ⟨?_, ?_, h.m⟩
  · exact ite_in (P := fun x => 0 ≤ x) t0 h.s0
  · exact ite_in (P := fun x => x ≤ 1099511627776) t1 h.s1
theorem mem_zip {α β γ : Type} {f : α → β → γ} : ∀ {l : List α} {k : List β} {x : γ}, x ∈ List.zipWith f l k → ∃ a ∈ l, ∃ b ∈ k, x = f a b
  | [], _, x, h => by simp at h
  | a :: l, [], x, h => by simp at h
  | a :: l, b :: k, x, h => by
    rw [List.zipWith_cons_cons, List.mem_cons] at h
    rcases h with rfl | h
    · exact ⟨a, by simp, b, by simp, rfl⟩
    · obtain ⟨a', ha, b', hb, e⟩ := mem_zip h
      exact ⟨a', by simp [ha], b', by simp [hb], e⟩
theorem Part.Good.forget {T : Part} (h : T.Good) : T.forget.Good := ⟨h.t0, h.t1, h.c0, h.c1, fun p hp => by
  obtain ⟨q, hq, rfl⟩ := List.mem_map.1 hp
  exact forget_good (h.ps q hq) _⟩
theorem Part.Good.right {T : Part} (h : T.Good) : T.right.Good := by
  refine ⟨h.t0, h.t1, ?_, ?_, ?_⟩
  · exact ite_in (P := fun x => 0 ≤ x) (by have := h.t0; omega) h.c0
  · exact ite_in (P := fun x => x ≤ 1099511627777) (by have := h.t1; omega) h.c1
  · intro p hp
    obtain ⟨q, hq, r, hr, rfl⟩ := mem_zip hp
    exact play_good (h.forget.ps q hq) h.t0 h.t1 r
theorem Part.Good.goOn {T : Part} (h : T.Good) {now : Int} (hn : timeR now = true) : (T.goOn now).Good := by
  unfold timeR at hn
  simp at hn
  refine ⟨?_, ?_, h.c0, h.c1, h.ps⟩
  · show 0 ≤ max T.time now
    have := h.t0
    omega
  · show max T.time now ≤ _
    have := h.t1
    omega
theorem Part.Good.put {T : Part} (h : T.Good) (k : Nat) {p : Prt} (hp : p.Good) : (T.put k p).Good := ⟨h.t0, h.t1, h.c0, h.c1, fun q hq => by
  rcases List.mem_or_eq_of_mem_set hq with hq | rfl
  · exact h.ps q hq
  · exact hp⟩
theorem Part.Good.note {T : Part} (h : T.Good) : T.note.Good := by
  have h0 := h.t0
  have h1 := h.t1
  exact ⟨h.t0, h.t1, by show 0 ≤ T.time + 1; omega, by show T.time + 1 ≤ _; omega, h.ps⟩
theorem link_good {p : Prt} (h : p.Good) (up : Bool) : (p.link up).Good := ⟨h.s0, h.s1, fun m e => by
  cases up
  · cases e
  · exact h.m m e⟩

theorem at_none {T : Part} {n : Int} (h : T.at? n = none) : n < 0 ∨ (T.ps.length : Int) ≤ n := by
  unfold Part.at? at h
  split at h
  · rw [List.getElem?_eq_none_iff] at h
    omega
  · omega
theorem at_some {T : Part} {n : Int} {p : Prt} (h : T.at? n = some p) : ∃ k : Nat, n = k ∧ n.toNat = k ∧ T.ps[k]? = some p := by
  unfold Part.at? at h
  split at h
  · exact ⟨n.toNat, by omega, rfl, h⟩
  · cases h
theorem goodM {v : V4} {a o : Int} {p : Prt} (h : p.Good) (a0 : -9223372036854775808 ≤ a) (o0 : 0 ≤ o) (o1 : o ≤ 1099511627776) : ({ p with kept := some ⟨v, a, o⟩ } : Prt).Good := ⟨h.s0, h.s1, fun m e => by cases e; exact ⟨o0, o1, a0⟩⟩

/-- A list that is turned into another one, place by place: how far it is. -/
def mix {α : Type} (A B : List α) (k : Nat) : List α := A.take k ++ B.drop k
theorem mix_zero {α : Type} (A B : List α) : mix A B 0 = B := by simp [mix]
theorem mix_all {α : Type} (A B : List α) (h : A.length = B.length) : mix A B B.length = A := by simp [mix, ← h]
theorem mix_len {α : Type} {A B : List α} (h : A.length = B.length) (k : Nat) : (mix A B k).length = B.length := by
  simp [mix]; omega
theorem mix_at {α : Type} {A B : List α} (h : A.length = B.length) {k : Nat} (hk : k < B.length) : (mix A B k)[k]? = B[k]? := by
  unfold mix
  rw [List.getElem?_append_right (by rw [List.length_take]; omega), List.length_take, Nat.min_eq_left (by omega), List.getElem?_drop]
  congr 1
  omega
theorem mix_set {α : Type} {A B : List α} (h : A.length = B.length) {k : Nat} (hk : k < B.length) {a : α} (ha : A[k]? = some a) : (mix A B k).set k a = mix A B (k + 1) := by
  obtain ⟨hka, rfl⟩ := List.getElem?_eq_some_iff.1 ha
  unfold mix
  rw [List.set_append_right _ _ (by rw [List.length_take]; omega), List.length_take, Nat.min_eq_left (by omega), Nat.sub_self, List.drop_eq_getElem_cons hk, List.set_cons_zero, List.take_succ_eq_append_getElem hka, List.append_assoc]
  rfl
theorem any_take {l : List Bool} {k : Nat} {b : Bool} (h : l[k]? = some b) : (l.take (k + 1)).any id = ((l.take k).any id || b) := by
  obtain ⟨hk, rfl⟩ := List.getElem?_eq_some_iff.1 h
  rw [List.take_succ_eq_append_getElem hk, List.any_append]
  simp

end Go.Proofs.Ytdjeifbbbpbhoaa
