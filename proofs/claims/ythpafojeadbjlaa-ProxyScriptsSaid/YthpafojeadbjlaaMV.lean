/-
  Maps of any values, plainly: a map's block that holds just the entries of a list (in whatever order); looked up, stored into, deleted from, counted, ranged over.
-/
import Derived.WalkKit
import Derived.Maps.RangeWalk
import Derived.Below
namespace Go.Proofs.Ythpafojeadbjlaa.MV
open Go Go.Maps Go.ChangeMaps Go.RowKit
open Go.WideElems (Fit rd rg pl rd_val elemAt)
set_option linter.unusedVariables false
set_option linter.unusedSimpArgs false

/-- An entry: its key, its value as it lies. -/
abbrev T3 := Lit × Value

def tmV (p : Value) : Value := p
def tmD (p : Value) : DataW Value := .held p

/-- How a value reads: as itself. -/
def tmR (v : Value) : Option (DataW Value × List MemPlace) := some (tmD v, [])

theorem tmR_mk (p : Value) : tmR (tmV p) = some (tmD p, []) := rfl

theorem tmR_inv {v : Value} {y : DataW Value × List MemPlace} (h : tmR v = some y) : ∃ p, v = tmV p ∧ y = (tmD p, []) :=
  ⟨v, rfl, (Option.some.inj h).symm⟩

theorem tmD_inj {p q : Value} (h : tmD p = tmD q) : p = q := by
  unfold tmD at h
  simpa using h

def enc3 (x : T3) : Lit × DataW Value := (x.1, tmD x.2)

theorem enc3_inj {x y : T3} (h : enc3 x = enc3 y) : x = y := by
  unfold enc3 at h
  simp only [Prod.mk.injEq] at h
  exact Prod.ext h.1 (tmD_inj h.2)

/-- Is the key there? What stands there? -/
def hasT (L : List T3) (k : Lit) : Bool := L.any (fun x => x.1.sameKey k)
def getT (z : Value) (L : List T3) (k : Lit) : Value := ((L.find? (fun x => x.1.sameKey k)).map (·.2)).getD z
def delT (L : List T3) (k : Lit) : List T3 := L.filter (fun x => !x.1.sameKey k)
def putT (L : List T3) (k : Lit) (p : Value) : List T3 := delT L k ++ [(k, p)]

variable {P : Program} {k : TypeId} {w : World} {b : Nat} {L : List T3}

/-- BLOCK b IS A MAP THAT HOLDS JUST L. -/
def Mp (w : World) (P : Program) (k : TypeId) (b : Nat) (L : List T3) : Prop :=
  ∃ l, l.Perm (L.map enc3) ∧ w.ownsMap P k tmR b L.length (.map l)

theorem Mp.of {l : List (Lit × DataW Value)} {n : Nat} (hp : l.Perm (L.map enc3)) (h : w.ownsMap P k tmR b n (.map l)) : Mp w P k b L := by
  obtain ⟨es, clock, hb, F, hs, hD⟩ := h
  refine ⟨l, hp, es, clock, hb, F, ?_, hD⟩
  have e1 : l.length = ((es.toList.map (rg P k tmR)).foldr DataW.insert []).length := by
    have := hD
    simp only [DataW.map.injEq] at this
    rw [this]
  rw [length_sorted] at e1
  have e2 := hp.length_eq
  simp at e1 e2
  omega

theorem Mp.perm {L' : List T3} (h : Mp w P k b L) (hp : L.Perm L') : Mp w P k b L' := by
  obtain ⟨l, h1, h2⟩ := h
  exact Mp.of (h1.trans (hp.map _)) h2

theorem Mp.made (w : World) (P : Program) (k : TypeId) : Mp (w.alloc (.map #[] 0)) P k w.heap.size [] :=
  ⟨[], List.Perm.nil, World.ownsMap_made w P k tmR⟩

theorem Mp.lt (h : Mp w P k b L) : b < w.heap.size := by
  obtain ⟨l, h1, h2⟩ := h
  exact h2.lt

theorem Mp.kept {w' : World} {row : Option Nat} (h : Mp w P k b L) (hg : w.grownBy w' row) (hne : some b ≠ row) : Mp w' P k b L := by
  obtain ⟨l, h1, h2⟩ := h
  exact ⟨l, h1, h2.kept hg hne⟩

theorem Mp.setCell (h : Mp w P k b L) {a : Addr} (ha : b ≠ a.block) (u : Value) : Mp (w.setCell a u) P k b L := by
  obtain ⟨l, h1, h2⟩ := h
  exact ⟨l, h1, h2.setCell ha u⟩

theorem Mp.ofHeap {w' : World} (h : Mp w P k b L) (hb : w'.heap[b]? = w.heap[b]?) : Mp w' P k b L := by
  obtain ⟨l, h1, es, clock, h2, h3⟩ := h
  exact ⟨l, h1, es, clock, hb.trans h2, h3⟩

theorem perm_apart {l : List (Lit × DataW Value)} (hp : l.Perm (L.map enc3)) (ha : l.Pairwise (fun p q => p.1 ≠ q.1)) : L.Pairwise (fun x y => x.1 ≠ y.1) := by
  have := (hp.pairwise_iff (fun {_ _} hne => Ne.symm hne)).1 ha
  rw [List.pairwise_map] at this
  exact this

theorem Mp.apart (h : Mp w P k b L) (K : Keyed P k) : L.Pairwise (fun x y => x.1 ≠ y.1) := by
  obtain ⟨l, h1, h2⟩ := h
  obtain ⟨es, e1, e2, _⟩ := h2.entries K
  simp only [DataW.map.injEq] at e1
  subst e1
  exact perm_apart h1 e2

theorem Mp.keys (h : Mp w P k b L) (K : Keyed P k) : ∀ x ∈ L, WideAt.IsKeyLit x.1 := by
  obtain ⟨l, h1, h2⟩ := h
  obtain ⟨es, e1, _, e3⟩ := h2.entries K
  simp only [DataW.map.injEq] at e1
  subst e1
  intro x hx
  exact e3 (enc3 x) (h1.mem_iff.2 (List.mem_map.2 ⟨x, hx, rfl⟩))

theorem has_perm {l : List (Lit × DataW Value)} (hp : l.Perm (L.map enc3)) (kl : Lit) : Maps.has (.map l) kl = hasT L kl := by
  rw [Maps.has_eq, hp.any_eq, List.any_map]
  rfl

theorem one_of_key : ∀ {l : List T3}, l.Pairwise (fun x y => x.1 ≠ y.1) → ∀ {x y : T3}, x ∈ l → y ∈ l → x.1 = y.1 → x = y
  | [], _, _, _, hx, _, _ => by simp at hx
  | a :: r, hp, x, y, hx, hy, h => by
    obtain ⟨h1, h2⟩ := List.pairwise_cons.1 hp
    rcases List.mem_cons.1 hx with ex | hx'
    · rcases List.mem_cons.1 hy with ey | hy'
      · rw [ex, ey]
      · exact absurd (ex ▸ h) (h1 y hy')
    · rcases List.mem_cons.1 hy with ey | hy'
      · exact absurd (ey ▸ h).symm (h1 x hx')
      · exact one_of_key h2 hx' hy' h

theorem getT_of_mem {z : Value} {x : T3} (ha : L.Pairwise (fun x y => x.1 ≠ y.1)) (hk : WideAt.IsKeyLit x.1) (hx : x ∈ L) : getT z L x.1 = x.2 := by
  unfold getT
  cases hf : L.find? (fun y => y.1.sameKey x.1) with
  | none => exact absurd (WideAt.sameKey_self hk) (by simpa using List.find?_eq_none.1 hf _ hx)
  | some y =>
    have hy := List.mem_of_find?_eq_some hf
    have e1 : y.1 = x.1 := WideAt.sameKey_eq (by simpa using List.find?_some hf)
    have : y = x := by
      exact one_of_key ha hy hx e1
    rw [this]
    rfl

theorem at_perm {z : Value} {l : List (Lit × DataW Value)} (hp : l.Perm (L.map enc3)) (ha : l.Pairwise (fun p q => p.1 ≠ q.1)) {kl : Lit} (hk : WideAt.IsKeyLit kl) : (DataW.map l).atKey kl (tmD z) = tmD (getT z L kl) := by
  cases hh : hasT L kl with
  | false =>
    rw [Maps.atKey_of_not_has (by rw [has_perm hp, hh])]
    unfold getT
    rw [List.find?_eq_none.2 (fun x hx => by simpa using (List.any_eq_false.1 hh) x hx)]
    rfl
  | true =>
    obtain ⟨x, hx, hxk⟩ := List.any_eq_true.1 hh
    have e1 : x.1 = kl := WideAt.sameKey_eq hxk
    subst e1
    rw [getT_of_mem (perm_apart hp ha) hk hx]
    exact WideAt.atKey_mem _ hk ha (hp.mem_iff.2 (List.mem_map.2 ⟨x, hx, rfl⟩))

theorem del_map (L : List T3) (kl : Lit) : (L.map enc3).filter (notKey kl) = (delT L kl).map enc3 := by
  unfold delT
  rw [List.filter_map]
  rfl

/-- 'v, ok := m[k]'. -/
theorem Mp.look {z : Value} {t e : TypeId} (h : Mp w P k b L) (K : Keyed P k) (ht : P.underlying t = some (.map k e)) (hz : (zeroValue e).run P w = .ok (tmV z) w) {key : Value} {kl : Lit} (hkey : keyOf P k key = some kl) :
    (Instr.lookup t (.map (some b)) key true).run P w = .ok (.tuple #[tmV (getT z L kl), .bool (hasT L kl)]) w := by
  obtain ⟨l, h1, h2⟩ := h
  obtain ⟨v, ps, hrun, hv⟩ := h2.look_ok K ht hz (tmR_mk z) hkey
  obtain ⟨es, e1, e2, _⟩ := h2.entries K
  simp only [DataW.map.injEq] at e1
  subst e1
  rw [at_perm h1 e2 (K.key hkey)] at hv
  obtain ⟨p, rfl, hp⟩ := tmR_inv hv
  simp only [Prod.mk.injEq] at hp
  rw [tmD_inj hp.1, ← has_perm h1]
  exact hrun

/-- 'm[k]'. -/
theorem Mp.look1 {z : Value} {t e : TypeId} (h : Mp w P k b L) (K : Keyed P k) (ht : P.underlying t = some (.map k e)) (hz : (zeroValue e).run P w = .ok (tmV z) w) {key : Value} {kl : Lit} (hkey : keyOf P k key = some kl) :
    (Instr.lookup t (.map (some b)) key false).run P w = .ok (tmV (getT z L kl)) w := by
  obtain ⟨l, h1, h2⟩ := h
  obtain ⟨v, ps, hrun, hv⟩ := h2.lookup K ht hz (tmR_mk z) hkey
  obtain ⟨es, e1, e2, _⟩ := h2.entries K
  simp only [DataW.map.injEq] at e1
  subst e1
  rw [at_perm h1 e2 (K.key hkey)] at hv
  obtain ⟨p, rfl, hp⟩ := tmR_inv hv
  simp only [Prod.mk.injEq] at hp
  rw [tmD_inj hp.1]
  exact hrun

/-- 'm[k] = v'. -/
theorem Mp.store {t e : TypeId} (h : Mp w P k b L) (K : Keyed P k) (ht : P.underlying t = some (.map k e)) (hn : L.length < maxLen) {key : Value} {kl : Lit} (p : Value) (hkey : keyOf P k key = some kl) :
    ∃ w', (Instr.mapUpdate t (.map (some b)) key (tmV p)).run P w = .ok () w' ∧ Mp w' P k b (putT L kl p) ∧ w.mapTurned w' b := by
  obtain ⟨l, h1, h2⟩ := h
  obtain ⟨w', hrun, h3, h4⟩ := h2.store K ht hn hkey (tmR_mk p)
  refine ⟨w', hrun, Mp.of ?_ h3, h4⟩
  show (DataW.insert (kl, tmD p) (l.filter (notKey kl))).Perm _
  refine (WideShapes.insert_perm _ _).trans ?_
  unfold putT
  rw [List.map_append, ← del_map]
  exact ((h1.filter _).cons (kl, tmD p)).trans (List.perm_append_singleton (enc3 (kl, p)) _).symm

/-- 'delete(m, k)'. -/
theorem Mp.drop {t e : TypeId} (h : Mp w P k b L) (K : Keyed P k) (ht : P.underlying t = some (.map k e)) {key : Value} {kl : Lit} (hkey : keyOf P k key = some kl) (ty : TypeId) :
    ∃ w', (Builtin.delete_ #[t, k] ty #[.map (some b), key]).run P w = .ok (.tuple #[]) w' ∧ Mp w' P k b (delT L kl) ∧ w.mapTurned w' b := by
  obtain ⟨l, h1, h2⟩ := h
  obtain ⟨w', hrun, h3, h4⟩ := h2.drop K ht hkey ty
  refine ⟨w', hrun, Mp.of ?_ h3, h4⟩
  show (l.filter (notKey kl)).Perm _
  rw [← del_map]
  exact h1.filter _

/-- 'len(m)'. -/
theorem Mp.len {t e : TypeId} (h : Mp w P k b L) (ht : P.underlying t = some (.map k e)) (ty : TypeId) : (Builtin.len_ #[t] ty #[.map (some b)]).run P w = .ok (.int .i64 L.length) w := by
  obtain ⟨l, h1, h2⟩ := h
  rw [h2.len ht ty, Maps.size_eq, h1.length_eq, List.length_map]

/-- 'for k, v := range m' UNDER WAY: S is still to come. -/
def Rg (w : World) (P : Program) (k : TypeId) (b r : Nat) (L S : List T3) (cnt : Nat) : Prop :=
  ∃ l left, l.Perm (L.map enc3) ∧ w.ranges P k tmR b r L.length (.map l) left cnt ∧ S.Perm (L.filter (fun x => left x.1))

theorem Rg.map {S : List T3} {r cnt : Nat} (h : Rg w P k b r L S cnt) : Mp w P k b L := by
  obtain ⟨l, left, h1, h2, h3⟩ := h
  exact ⟨l, h1, h2.owns⟩

theorem Rg.left_eq {S : List T3} {r cnt : Nat} (h : Rg w P k b r L S cnt) : w.rangeLeft b r = cnt := by
  obtain ⟨l, left, h1, h2, h3⟩ := h
  exact h2.left_eq

theorem Rg.lt {S : List T3} {r cnt : Nat} (h : Rg w P k b r L S cnt) : r < w.heap.size := by
  obtain ⟨l, left, h1, h2, h3⟩ := h
  exact h2.lt

theorem Rg.kept {w' : World} {row : Option Nat} {S : List T3} {r cnt : Nat} (h : Rg w P k b r L S cnt) (hg : w.grownBy w' row) (hb' : some b ≠ row) (hr' : some r ≠ row) : Rg w' P k b r L S cnt := by
  obtain ⟨l, left, h1, h2, h3⟩ := h
  exact ⟨l, left, h1, h2.kept hg hb' hr', h3⟩

theorem Mp.range {t e : TypeId} (h : Mp w P k b L) (K : Keyed P k) (ht : P.underlying t = some (.map k e)) :
    ∃ w', (Instr.range t (.map (some b))).run P w = .ok (.pointer (some ⟨w.heap.size, 0, none⟩)) w' ∧ Rg w' P k b w.heap.size L L L.length ∧ w.grownBy w' none ∧ w'.heap.size = w.heap.size + 1 := by
  have hk := h.keys K
  obtain ⟨l, h1, h2⟩ := h
  obtain ⟨w', hrun, h3, h4, h5⟩ := h2.range K ht
  refine ⟨w', hrun, ⟨l, _, h1, by simpa [Maps.size, h1.length_eq] using h3, ?_⟩, h4, h5⟩
  rw [List.filter_eq_self.2]
  intro x hx
  rw [has_perm h1]
  exact List.any_eq_true.2 ⟨x, hx, WideAt.sameKey_self (hk x hx)⟩

/-- THE STEP. -/
theorem Rg.next {S : List T3} {r cnt : Nat} (h : Rg w P k b r L S cnt) (K : Keyed P k) (ty : TypeId) :
    (S = [] ∧ (Instr.next (.pointer (some ⟨r, 0, none⟩)) false ty).run P w = .ok (.tuple #[.bool false]) w) ∨
    ∃ key kl p S' w' cnt', keyOf P k key = some kl ∧ S.Perm ((kl, p) :: S') ∧ (Instr.next (.pointer (some ⟨r, 0, none⟩)) false ty).run P w = .ok (.tuple #[.bool true, key, tmV p]) w' ∧
      Rg w' P k b r L S' cnt' ∧ cnt' < cnt ∧ w.grownBy w' (some r) ∧ w'.heap.size = w.heap.size ∧ (Instr.entry (.pointer (some ⟨r, 0, none⟩))).run P w' = .ok (.tuple #[key, tmV p]) w' := by
  have hkk := h.map.keys K
  have hap := h.map.apart K
  obtain ⟨l, left, h1, h2, h3⟩ := h
  rcases h2.next K ty with ⟨h0, hl, hrun⟩ | ⟨key, v, kl, y, w', cnt', hkey, hlk, hv, hat, hrun, hrg, hlt, hgr, hsz, hen⟩
  · refine Or.inl ⟨?_, hrun⟩
    have : L.filter (fun x => left x.1) = [] := List.filter_eq_nil_iff.2 (fun x _ => by simp [hl])
    rw [this] at h3
    exact h3.eq_nil
  · obtain ⟨p, hpv, rfl⟩ := tmR_inv hv
    have hpv2 : p = v := hpv.symm
    subst hpv2
    have hmem : (kl, p) ∈ L := by
      have hh : Maps.has (DataW.map l) kl = true := Maps.has_true_of_atKey hat
      rw [has_perm h1] at hh
      obtain ⟨x, hx, hxk⟩ := List.any_eq_true.1 hh
      have e1 : x.1 = kl := WideAt.sameKey_eq hxk
      obtain ⟨es, e2, e3, _⟩ := h2.owns.entries K
      simp only [DataW.map.injEq] at e2
      subst e2
      have e4 : (DataW.map l).atKey kl .nil = tmD x.2 := WideAt.atKey_mem .nil (K.key hkey) e3 (h1.mem_iff.2 (List.mem_map.2 ⟨x, hx, by rw [← e1]; rfl⟩))
      rw [hat] at e4
      have e5 := tmD_inj e4
      have : x = (kl, p) := Prod.ext e1 e5.symm
      rw [← this]
      exact hx
    refine Or.inr ⟨key, kl, p, L.filter (fun x => left x.1 && !x.1.sameKey kl), w', cnt', hkey, ?_, hrun, ⟨l, _, h1, hrg, List.Perm.refl _⟩, hlt, hgr, hsz, hen⟩
    refine h3.trans ?_
    have hk0 := K.key hkey
    have main : ∀ M : List T3, (kl, p) ∈ M → M.Pairwise (fun x y => x.1 ≠ y.1) → (M.filter (fun x => left x.1)).Perm ((kl, p) :: M.filter (fun x => left x.1 && !x.1.sameKey kl)) := by
      intro M
      induction M with
      | nil => intro hm _; cases hm
      | cons x r ih =>
        intro hm hp
        obtain ⟨p1, p2⟩ := List.pairwise_cons.1 hp
        rcases List.mem_cons.1 hm with e | hm'
        · subst e
          have e1 : r.filter (fun x => left x.1 && !x.1.sameKey kl) = r.filter (fun x => left x.1) := by
            refine List.filter_congr (fun y hy => ?_)
            rw [Maps.sameKey_ne (fun e => p1 y hy e.symm)]
            simp
          simp only [List.filter_cons, hlk, WideAt.sameKey_self hk0, Bool.not_true, Bool.and_false, if_true, Bool.false_eq_true, if_false, e1]; exact List.Perm.refl _
        · have hne : x.1 ≠ kl := p1 _ hm'
          have i1 := ih hm' p2
          by_cases hx : left x.1 = true
          · simp only [List.filter_cons, hx, Maps.sameKey_ne hne, Bool.not_false, Bool.and_true, if_true]
            exact (i1.cons x).trans (List.Perm.swap _ _ _)
          · simp only [List.filter_cons, hx, Bool.false_and, Bool.false_eq_true, if_false]
            exact i1
    exact main L hmem hap

/-! ### at the operation, for the walk -/
section
variable (w : World) {ops : Array Oper} {rest : List Oper} {o : Oper} {a : Act} {Q : Exit → Act → World → Prop}

theorem wpList_look_mp (hg : o.guard = none) (m x : Operand) (t : TypeId) (hop : o.op = Op.lookup t m x true)
    (k e : TypeId) (K : Keyed P k) (ht : P.underlying t = some (.map k e)) (z : Value) (hz : (zeroValue e).run P w = .ok (tmV z) w) (b : Nat) (L : List T3)
    (hm : a.eval m = .map (some b)) (hown : Mp w P k b L) (key : Value) (kl : Lit) (hx : a.eval x = key) (hkey : keyOf P k key = some kl)
    (hK : wpList P ops Q rest (a.put o.dst (.tuple #[getT z L kl, .bool (hasT L kl)])) w) :
    wpList P ops Q (o :: rest) a w := by
  refine wpList_plain hg fun K' hK' => ?_
  have hrun := hown.look K ht hz hkey
  unfold Oper.wp
  simp [execOp, hop, hm, hx, hrun, Result.andThen]
  exact hK' _ _ hK

theorem wpList_look1_mp (hg : o.guard = none) (m x : Operand) (t : TypeId) (hop : o.op = Op.lookup t m x false)
    (k e : TypeId) (K : Keyed P k) (ht : P.underlying t = some (.map k e)) (z : Value) (hz : (zeroValue e).run P w = .ok (tmV z) w) (b : Nat) (L : List T3)
    (hm : a.eval m = .map (some b)) (hown : Mp w P k b L) (key : Value) (kl : Lit) (hx : a.eval x = key) (hkey : keyOf P k key = some kl)
    (hK : wpList P ops Q rest (a.put o.dst (getT z L kl)) w) :
    wpList P ops Q (o :: rest) a w := by
  refine wpList_plain hg fun K' hK' => ?_
  have hrun := hown.look1 K ht hz hkey
  unfold tmV at hrun
  unfold Oper.wp
  simp [execOp, hop, hm, hx, hrun, Result.andThen]
  exact hK' _ _ hK

theorem wpList_store_mp (hg : o.guard = none) (m x v : Operand) (t : TypeId) (hop : o.op = Op.mapUpdate t m x v)
    (k e : TypeId) (K : Keyed P k) (ht : P.underlying t = some (.map k e)) (b : Nat) (L : List T3)
    (hm : a.eval m = .map (some b)) (hown : Mp w P k b L) (hn : L.length < maxLen) (key : Value) (p1 : Value) (kl : Lit) (hx : a.eval x = key) (hv : a.eval v = p1) (hkey : keyOf P k key = some kl)
    (hK : ∀ w', Mp w' P k b (putT L kl p1) → w.mapTurned w' b → wpList P ops Q rest (a.put o.dst undef) w') :
    wpList P ops Q (o :: rest) a w := by
  refine wpList_plain hg fun K' hK' => ?_
  obtain ⟨w', hrun, r1, r2⟩ := hown.store K ht hn p1 hkey
  unfold tmV at hrun
  unfold Oper.wp
  simp [execOp, hop, hm, hx, hv, hrun, Result.andThen]
  exact hK' _ _ (hK w' r1 r2)

theorem wpList_delete_mp (hg : o.guard = none) (m x : Operand) (t k : TypeId) (hop : o.op = Op.call { callee := Callee.builtin Builtin.delete, args := #[m, x], argTypes := #[t, k] })
    (e : TypeId) (K : Keyed P k) (ht : P.underlying t = some (.map k e)) (b : Nat) (L : List T3)
    (hm : a.eval m = .map (some b)) (hown : Mp w P k b L) (key : Value) (kl : Lit) (hx : a.eval x = key) (hkey : keyOf P k key = some kl)
    (hK : ∀ w', Mp w' P k b (delT L kl) → w.mapTurned w' b → wpList P ops Q rest (a.put o.dst (.tuple #[])) w') :
    wpList P ops Q (o :: rest) a w := by
  refine wpList_plain hg fun K' hK' => ?_
  obtain ⟨w', hrun, r1, r2⟩ := hown.drop K ht hkey o.type
  unfold Oper.wp
  simp [execOp, hop, resolve, invoke, builtin, hm, hx, hrun, Result.andThen]
  exact hK' _ _ (hK w' r1 r2)

theorem wpList_len_mp (hg : o.guard = none) (m : Operand) (t : TypeId) (hop : o.op = Op.call { callee := Callee.builtin Builtin.len, args := #[m], argTypes := #[t] })
    (k e : TypeId) (ht : P.underlying t = some (.map k e)) (b : Nat) (L : List T3) (hm : a.eval m = .map (some b)) (hown : Mp w P k b L)
    (hK : wpList P ops Q rest (a.put o.dst (.int .i64 L.length)) w) :
    wpList P ops Q (o :: rest) a w := by
  refine wpList_plain hg fun K' hK' => ?_
  unfold Oper.wp
  simp [execOp, hop, resolve, invoke, builtin, hm, hown.len ht o.type, Result.andThen]
  exact hK' _ _ hK

theorem wpList_range_mp (hg : o.guard = none) (m : Operand) (t : TypeId) (hop : o.op = Op.range t m) (k e : TypeId) (K : Keyed P k) (ht : P.underlying t = some (.map k e)) (b : Nat) (L : List T3)
    (hm : a.eval m = .map (some b)) (hown : Mp w P k b L)
    (hK : ∀ w', Rg w' P k b w.heap.size L L L.length → w.grownBy w' none → w'.heap.size = w.heap.size + 1 → wpList P ops Q rest (a.put o.dst (.pointer (some ⟨w.heap.size, 0, none⟩))) w') :
    wpList P ops Q (o :: rest) a w := by
  refine wpList_plain hg fun K' hK' => ?_
  obtain ⟨w', hrun, r1, r2, r3⟩ := hown.range K ht
  unfold Oper.wp
  simp [execOp, hop, hm, hrun, Result.andThen]
  exact hK' _ _ (hK w' r1 r2 r3)

theorem wpList_next_mp {α : Type} (hg : o.guard = none) (it : Operand) (hop : o.op = Op.next it false) (k : TypeId) (K : Keyed P k) (mkK : α → Value)
    (invK : ∀ key kl, keyOf P k key = some kl → ∃ x, key = mkK x) (b r : Nat) (L S : List T3) (cnt : Nat)
    (hit : a.eval it = .pointer (some ⟨r, 0, none⟩)) (h : Rg w P k b r L S cnt)
    (hDone : S = [] → wpList P ops Q rest (a.put o.dst (.tuple #[.bool false])) w)
    (hMore : ∀ (x : α) (p1 : Value) (kl : Lit) (S' : List T3) (w' : World) (cnt' : Nat), keyOf P k (mkK x) = some kl → S.Perm ((kl, p1) :: S') → Rg w' P k b r L S' cnt' → cnt' < cnt →
      w.grownBy w' (some r) → w'.heap.size = w.heap.size → (Instr.entry (.pointer (some ⟨r, 0, none⟩))).run P w' = .ok (.tuple #[mkK x, p1]) w' → wpList P ops Q rest (a.put o.dst (.tuple #[.bool true, mkK x, p1])) w') :
    wpList P ops Q (o :: rest) a w := by
  refine wpList_plain hg fun K' hK' => ?_
  unfold Oper.wp
  rcases h.next K o.type with ⟨h0, hrun⟩ | ⟨key, kl, p, S', w', cnt', hkey, hpm, hrun, hrg, hlt, hgr, hsz, hen⟩
  · simp [execOp, hop, hit, hrun, Result.andThen]
    exact hK' _ _ (hDone h0)
  · obtain ⟨x, rfl⟩ := invK key kl hkey
    unfold tmV at hrun hen
    simp [execOp, hop, hit, hrun, Result.andThen]
    exact hK' _ _ (hMore x p kl S' w' cnt' hkey hpm hrg hlt hgr hsz hen)
end

theorem delT_not {L : List T3} {k : Lit} (h : hasT L k = false) : delT L k = L := by
  unfold delT
  rw [List.filter_eq_self]
  intro x hx
  have := (List.any_eq_false.1 h) x hx
  simp at this
  simp [this]

theorem hasT_len {L : List T3} {k : Lit} (h : hasT L k = true) : 0 < L.length := by
  obtain ⟨x, hx, _⟩ := List.any_eq_true.1 h
  exact List.length_pos_of_mem hx

end Go.Proofs.Ythpafojeadbjlaa.MV
