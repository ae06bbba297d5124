/-
  Timers in the order in which they were armed: what both wheels hold, plainly.
-/
import Derived.Test.YtplaconhpiojbaaWhR
namespace Go.Proofs.Ytplaconhpiojbaa
open Go Go.Maps Go.WideMaps
open Go.RowKit
set_option linter.unusedVariables false
set_option linter.unusedSimpArgs false

/-- A timer of both: its key, when it is due, which arming it is of. -/
abbrev E3 := ByteArray × Int × Int
def litS (s : ByteArray) : Lit := .string s.data.toList
def mOf (T : List E3) : List T3 := T.map (fun x => (litS x.1, x.2))

theorem litS_inj {a b : ByteArray} (h : litS a = litS b) : a = b := by
  unfold litS at h
  injection h with h
  exact ByteArray.ext (Array.toList_inj.1 h)

theorem same_litS (a b : ByteArray) : (litS a).sameKey (litS b) = decide (a = b) := by
  by_cases h : a = b
  · subst h
    simp [litS, Lit.sameKey]
  · rw [Maps.sameKey_ne (fun e => h (litS_inj e)), decide_eq_false h]

def hasE (T : List E3) (s : ByteArray) : Bool := T.any (fun x => decide (x.1 = s))
def atE (T : List E3) (s : ByteArray) : Int := ((T.find? (fun x => decide (x.1 = s))).map (·.2.1)).getD 0
def delE (T : List E3) (s : ByteArray) : List E3 := T.filter (fun x => !decide (x.1 = s))
def putE (T : List E3) (s : ByteArray) (q : Int × Int) : List E3 := delE T s ++ [(s, q)]
def dueE (now : Int) (T : List E3) : List E3 := T.filter (fun x => decide (x.2.1 ≤ now))
def latE (now : Int) (T : List E3) : List E3 := T.filter (fun x => !decide (x.2.1 ≤ now))

theorem len_m (T : List E3) : (mOf T).length = T.length := by unfold mOf; rw [List.length_map]
theorem has_m (T : List E3) (s : ByteArray) : hasT (mOf T) (litS s) = hasE T s := by
  unfold hasT mOf hasE
  rw [List.any_map]
  congr 1
  funext x
  exact same_litS _ _
theorem at_m (T : List E3) (s : ByteArray) : (getT (mOf T) (litS s)).1 = atE T s := by
  unfold getT mOf atE
  rw [List.find?_map]
  have e : ((fun x : T3 => x.1.sameKey (litS s)) ∘ fun x : E3 => ((litS x.1, x.2) : T3)) = fun x : E3 => decide (x.1 = s) := by
    funext x
    exact same_litS _ _
  rw [e]
  cases T.find? (fun x => decide (x.1 = s)) <;> rfl
theorem del_m (T : List E3) (s : ByteArray) : delT (mOf T) (litS s) = mOf (delE T s) := by
  unfold delT mOf delE
  rw [List.filter_map]
  congr 1
  refine List.filter_congr fun x _ => ?_
  show (!(litS x.1).sameKey (litS s)) = _
  rw [same_litS]
theorem put_m (T : List E3) (s : ByteArray) (q : Int × Int) : putT (mOf T) (litS s) q = mOf (putE T s q) := by
  unfold putT putE
  rw [del_m]
  unfold mOf
  rw [List.map_append]
  rfl
theorem due_m (now : Int) (T : List E3) : dueL now (mOf T) = mOf (dueE now T) := by
  unfold dueL mOf dueE
  rw [List.filter_map]
  rfl
theorem lat_m (now : Int) (T : List E3) : latL now (mOf T) = mOf (latE now T) := by
  unfold latL mOf latE
  rw [List.filter_map]
  rfl

/-- Keys apart, turns in order. -/
def GoodE (T : List E3) (armed : Int) : Prop := T.Pairwise (fun x y => x.1 ≠ y.1 ∧ x.2.2 < y.2.2) ∧ ∀ x ∈ T, x.2.2 ≤ armed

theorem GoodE.sub {T S : List E3} {a : Int} (h : GoodE T a) (hs : S.Sublist T) : GoodE S a := ⟨h.1.sublist hs, fun x hx => h.2 x (hs.subset hx)⟩
theorem GoodE.del {T : List E3} {a : Int} (h : GoodE T a) (s : ByteArray) : GoodE (delE T s) a := h.sub List.filter_sublist
theorem GoodE.lat {T : List E3} {a : Int} (h : GoodE T a) (now : Int) : GoodE (latE now T) a := h.sub List.filter_sublist
theorem good_nil (a : Int) : GoodE [] a := ⟨List.Pairwise.nil, fun x hx => by cases hx⟩
theorem GoodE.put {T : List E3} {a : Int} (h : GoodE T a) (s : ByteArray) (t : Int) : GoodE (putE T s (t, a + 1)) (a + 1) := by
  have hd := h.del s
  refine ⟨?_, fun x hx => ?_⟩
  · unfold putE
    rw [List.pairwise_append]
    refine ⟨hd.1, by simp, fun x hx y hy => ?_⟩
    simp at hy
    subst hy
    have h1 := hd.2 x hx
    have h2 := (List.mem_filter.1 hx).2
    simp at h2
    exact ⟨h2, by show x.2.2 < a + 1; omega⟩
  · unfold putE at hx
    rcases List.mem_append.1 hx with hx | hx
    · have := hd.2 x hx
      omega
    · simp at hx
      rw [hx]
      exact Int.le_refl _

/-- Up to k none has the key. -/
def NoE (T : List E3) (s : ByteArray) (k : Nat) : Prop := ∀ (j : Nat) (x : E3), j < k → T[j]? = some x → x.1 ≠ s

theorem NoE.zero (T : List E3) (s : ByteArray) : NoE T s 0 := fun j x h => by omega
theorem NoE.succ {T : List E3} {s : ByteArray} {k : Nat} {x : E3} (h : NoE T s k) (hx : T[k]? = some x) (hne : x.1 ≠ s) : NoE T s (k + 1) := by
  intro j y hj hy
  by_cases e : j = k
  · subst e
    rw [hx] at hy
    cases hy
    exact hne
  · exact h j y (by omega) hy

theorem no_has {T : List E3} {s : ByteArray} (h : NoE T s T.length) : hasE T s = false ∧ atE T s = 0 ∧ delE T s = T := by
  have key : ∀ x ∈ T, x.1 ≠ s := by
    intro x hx
    obtain ⟨j, hj, e⟩ := List.getElem_of_mem hx
    exact h j x hj (by rw [List.getElem?_eq_getElem hj, e])
  refine ⟨?_, ?_, ?_⟩
  · unfold hasE
    rw [List.any_eq_false]
    intro x hx
    simp [key x hx]
  · unfold atE
    rw [List.find?_eq_none.2 (fun x hx => by simp [key x hx])]
    rfl
  · unfold delE
    rw [List.filter_eq_self]
    intro x hx
    simp [key x hx]

theorem split_at {T : List E3} {k : Nat} {x : E3} (hx : T[k]? = some x) : T = T.take k ++ x :: T.drop (k + 1) := by
  obtain ⟨hk, rfl⟩ := List.getElem?_eq_some_iff.1 hx
  rw [List.getElem_cons_drop, List.take_append_drop]

theorem take_no {T : List E3} {s : ByteArray} {k : Nat} (h : NoE T s k) : ∀ x ∈ T.take k, x.1 ≠ s := by
  intro x hx
  obtain ⟨j, hj, e⟩ := List.getElem_of_mem hx
  rw [List.length_take] at hj
  refine h j x (by omega) ?_
  rw [List.getElem_take] at e
  rw [List.getElem?_eq_getElem (by omega), e]

theorem yes_has {T : List E3} {s : ByteArray} {k : Nat} {x : E3} (h : NoE T s k) (hx : T[k]? = some x) (he : x.1 = s) : hasE T s = true ∧ atE T s = x.2.1 := by
  constructor
  · unfold hasE
    exact List.any_eq_true.2 ⟨x, List.mem_of_getElem? hx, by simp [he]⟩
  · have e := split_at hx
    unfold atE
    rw [e, List.find?_append, List.find?_eq_none.2 (fun y hy => by simpa using take_no h y hy)]
    simp [he]

theorem yes_del {T : List E3} {s : ByteArray} {a : Int} (hg : GoodE T a) {k : Nat} {x : E3} (hx : T[k]? = some x) (he : x.1 = s) : delE T s = T.take k ++ T.drop (k + 1) := by
  have e := split_at hx
  have hp := hg.1
  rw [e] at hp
  obtain ⟨h1, h2, h3⟩ := List.pairwise_append.1 hp
  obtain ⟨h4, h5⟩ := List.pairwise_cons.1 h2
  unfold delE
  conv => lhs; rw [e]
  rw [List.filter_append, List.filter_cons, if_neg (by simp [he])]
  rw [List.filter_eq_self.2 (fun y hy => by have := (h3 y hy x (by simp)).1; rw [he] at this; simp [this])]
  rw [List.filter_eq_self.2 (fun y hy => by have := (h4 y hy).1; rw [he] at this; simp [Ne.symm this])]

theorem eql_of {x y : ByteArray} {r : Bool} (h : decide (x = y) = r) (t : TypeId) : binOp .eql t (.string x) (.string y) = pure (.bool r) := by
  rw [← h]
  have e : (x.toList == y.toList) = decide (x = y) := by
    rw [Lib.toList_data, Lib.toList_data, Bool.eq_iff_iff, beq_iff_eq, decide_eq_true_iff]
    exact ⟨fun e => ByteArray.ext (Array.toList_inj.1 e), fun e => by rw [e]⟩
  simp [binOp, Op.stringOp, e]

/-! ### the document's wheel in memory -/
def cellsR (x : E3) : List Value := [.string x.1, .int .i64 x.2.1]
def rowR (T : List E3) : List Value := T.flatMap cellsR

theorem rowR_app (T S : List E3) : rowR (T ++ S) = rowR T ++ rowR S := by unfold rowR; rw [List.flatMap_append]
theorem rowR_len (T : List E3) : (rowR T).length = T.length * 2 := by
  induction T with
  | nil => rfl
  | cons x r ih =>
    show (cellsR x ++ rowR r).length = _
    rw [List.length_append, ih]
    simp [cellsR]
    omega
theorem rowR_at : ∀ (T : List E3) (k : Nat) (x : E3), T[k]? = some x → (rowR T)[k * 2]? = some (.string x.1) ∧ (rowR T)[k * 2 + 1]? = some (.int .i64 x.2.1)
  | [], k, x, h => by simp at h
  | y :: r, 0, x, h => by
    simp at h
    subst h
    exact ⟨rfl, rfl⟩
  | y :: r, k + 1, x, h => by
    have ih := rowR_at r k x (by simpa using h)
    have e : rowR (y :: r) = .string y.1 :: .int .i64 y.2.1 :: rowR r := rfl
    rw [e, show (k + 1) * 2 = k * 2 + 1 + 1 from by omega]
    simpa using ih

/-- THE DOCUMENT'S WHEEL AT BLOCK q: its room, its timers in a row of its own, from block B on. -/
def HasR (w : World) (B q : Nat) (room : Int) (T : List E3) (lv : Value) : Prop :=
  w.heap[q]? = some (.cells #[.int .i64 room, lv] 31 (0, 0)) ∧ w.ownsRow B 85 2 lv T.length (rowR T)

variable {w w' : World} {B q : Nat} {room : Int} {T : List E3} {lv : Value}

theorem HasR.c0 (h : HasR w B q room T lv) : w.cell? ⟨q, 0, none⟩ = some (.int .i64 room) := by simp [World.cell?, h.1]
theorem HasR.c1 (h : HasR w B q room T lv) : w.cell? ⟨q, 1, none⟩ = some lv := by simp [World.cell?, h.1]
theorem HasR.fz (h : HasR w B q room T lv) (j : Nat) : w.frozen? ⟨q, j, none⟩ = false := by simp [World.frozen?, h.1]
theorem HasR.lt (h : HasR w B q room T lv) : q < w.heap.size := (Array.getElem?_eq_some_iff.1 h.1).1

theorem HasR.rows (h : HasR w B q room T lv) : ∃ p off cap, lv = .slice (p.map fun g => ⟨g, off, none⟩) T.length cap ∧ ∀ i x, T[i]? = some x → ∃ g, p = some g ∧ w.cell? ⟨g, off + i * 2, none⟩ = some (.string x.1) ∧ w.cell? ⟨g, off + i * 2 + 1, none⟩ = some (.int .i64 x.2.1) := by
  rcases h.2.2 with ⟨e, h0⟩ | ⟨g, cap, cur, e, hb, hg, h1, h2, h3, ht⟩
  · refine ⟨none, 0, 0, by rw [e, h0]; rfl, fun i x hx => ?_⟩
    rw [List.length_eq_zero_iff.1 h0] at hx
    simp at hx
  · refine ⟨some g, 0, cap, e, fun i x hx => ⟨g, rfl, ?_⟩⟩
    have hi : i < T.length := (List.getElem?_eq_some_iff.1 hx).1
    obtain ⟨r1, r2⟩ := rowR_at T i x hx
    rw [← ht, List.getElem?_take_of_lt (by omega)] at r1 r2
    simp only [World.cell?, hg, Nat.zero_add]
    exact ⟨by rw [← Array.getElem?_toList]; exact r1, by rw [← Array.getElem?_toList]; exact r2⟩

/-- WHAT THE DOCUMENT'S CALLS LEAVE: all but the wheel's block and rows of timers from B on. -/
structure Tq (w w' : World) (B q : Nat) : Prop where
  os : w'.os = w.os
  tape : w'.tape = w.tape
  output : w'.output = w.output
  size : w.heap.size ≤ w'.heap.size
  block : ∀ k, k < w.heap.size → k ≠ q → (k < B ∨ ∀ cs f, w.heap[k]? ≠ some (.cells cs 85 f)) → w'.heap[k]? = w.heap[k]?

theorem Tq.refl (w : World) (B q : Nat) : Tq w w B q := ⟨rfl, rfl, rfl, Nat.le_refl _, fun _ _ _ _ => rfl⟩
theorem Tq.trans {a c : World} (h : Tq w a B q) (k : Tq a c B q) : Tq w c B q := by
  refine ⟨k.os.trans h.os, k.tape.trans h.tape, k.output.trans h.output, Nat.le_trans h.size k.size, fun i hi h1 h2 => ?_⟩
  have e := h.block i hi h1 h2
  refine (k.block i (Nat.lt_of_lt_of_le hi h.size) h1 ?_).trans e
  rw [e]
  exact h2
theorem Tq.ofBelow (h : Below w.heap.size w w') : Tq w w' B q := ⟨h.os, h.tape, h.output, h.size, fun k hk _ _ => h.block k hk⟩
theorem Tq.below (h : Tq w w' B q) {b : Nat} (hB : b ≤ B) (hq : b ≤ q) (hw : b ≤ w.heap.size) : Below b w w' :=
  ⟨h.os, h.tape, h.output, h.size, fun k hk => h.block k (by omega) (by omega) (Or.inl (by omega))⟩
theorem Tq.setCell (w : World) (B q j : Nat) (u : Value) : Tq w (w.setCell ⟨q, j, none⟩ u) B q :=
  ⟨rfl, rfl, rfl, by simp [World.setCell], fun k _ h1 _ => RowKit.Below.heap_setCell _ _ _ _ h1⟩
/-- A row of timers that grew. -/
theorem Tq.grown {v : Value} {n : Nat} {xs : List Value} (ho : w.ownsRow B 85 2 v n xs) (hg : w.grownBy w' v.ownBlock) : Tq w w' B q := by
  refine ⟨hg.os, hg.tape, hg.output, hg.size, fun k hk _ h2 => hg.block k hk fun e => ?_⟩
  have hlt := ho.lt k e.symm
  rcases h2 with h2 | h2
  · omega
  · rcases ho.2 with ⟨rfl, _⟩ | ⟨g, cap, cur, rfl, hb, hgg, _⟩
    · simp [Value.ownBlock] at e
    · simp [Value.ownBlock] at e
      subst e
      exact h2 _ _ hgg

/-- A row of something else stands. -/
theorem Tq.row {base n size : Nat} {t : TypeId} {v : Value} {xs : List Value} (h : Tq w w' B q) (ho : w.ownsRow base t size v n xs) (ht : t ≠ 85) (hq : ∀ g, v.ownBlock = some g → g ≠ q) : w'.ownsRow base t size v n xs := by
  refine ⟨ho.1, ?_⟩
  rcases ho.2 with h0 | ⟨g, cap, cur, rfl, hb, hg, hr⟩
  · exact Or.inl h0
  · refine Or.inr ⟨g, cap, cur, rfl, hb, ?_, hr⟩
    rw [h.block g (Array.getElem?_eq_some_iff.1 hg).1 (hq g rfl) (Or.inr fun cs f e => by rw [hg] at e; cases e; exact ht rfl)]
    exact hg

theorem row_block {base size n : Nat} {t : TypeId} {v : Value} {xs : List Value} (ho : w.ownsRow base t size v n xs) {g : Nat} (hg : v.ownBlock = some g) : ∃ cs f, w.heap[g]? = some (.cells cs t f) := by
  rcases ho.2 with ⟨rfl, _⟩ | ⟨g', cap, cur, rfl, _, h1, _⟩
  · simp [Value.ownBlock] at hg
  · simp [Value.ownBlock] at hg
    subst hg
    exact ⟨_, _, h1⟩

/-- THE PROGRAM'S WHEEL stands, whatever the document's does. -/
theorem HasS.tq {p mb : Nat} {r armed : Int} {L : List T3} (h : HasS w p mb r armed L) (hr : HasR w B q room T lv) (k : Tq w w' B q) : HasS w' p mb r armed L := by
  have hp : p ≠ q := by
    rintro rfl
    have e := h.1.symm.trans hr.1
    simp at e
  have hm : mb ≠ q := by
    rintro rfl
    obtain ⟨_, l, _, es, clock, h2, _⟩ := h
    have e := h2.symm.trans hr.1
    simp at e
  refine h.ofHeap (k.block p h.lt hp (Or.inr fun cs f e => ?_)) (k.block mb h.2.lt hm (Or.inr fun cs f e => ?_))
  · have e := h.1.symm.trans e
    simp at e
  · obtain ⟨_, l, _, es, clock, h2, _⟩ := h
    have e := h2.symm.trans e
    simp at e

/-- THE DOCUMENT'S WHEEL stands, whatever the program's does. -/
theorem HasR.tw {p mb : Nat} {r armed : Int} {L : List T3} (hr : HasR w B q room T lv) (h : HasS w p mb r armed L) (k : Tw w w' p mb) : HasR w' B q room T lv := by
  have hp : q ≠ p := by
    rintro rfl
    have e := h.1.symm.trans hr.1
    simp at e
  have hm : ∀ (b : Nat) cs t f, w.heap[b]? = some (.cells cs t f) → b ≠ mb := by
    rintro b cs t f h3 rfl
    obtain ⟨_, l, _, es, clock, h2, _⟩ := h
    have e := h2.symm.trans h3
    simp at e
  refine ⟨(k.block q hr.lt hp (hm _ _ _ _ hr.1)).trans hr.1, hr.2.1, ?_⟩
  rcases hr.2.2 with h0 | ⟨g, cap, cur, rfl, hb, hg, hx⟩
  · exact Or.inl h0
  · refine Or.inr ⟨g, cap, cur, rfl, hb, ?_, hx⟩
    refine (k.block g (Array.getElem?_eq_some_iff.1 hg).1 ?_ (hm _ _ _ _ hg)).trans hg
    rintro rfl
    have e := h.1.symm.trans hg
    simp at e

theorem HasR.below (hr : HasR w B q room T lv) (k : Below w.heap.size w w') : HasR w' B q room T lv :=
  ⟨(k.block q hr.lt).trans hr.1, iowns_below hr.2 k⟩

end Go.Proofs.Ytplaconhpiojbaa
