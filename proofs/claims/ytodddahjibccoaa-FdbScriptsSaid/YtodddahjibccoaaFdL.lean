/-
  The document's table in memory: its rows; what its calls leave.
-/
import Derived.Test.YtodddahjibccoaaFdJ
import Derived.Laws.AppendOwn
import Derived.LoopTactic
namespace Go.Proofs.Ytodddahjibccoaa
open Go Go.Maps Go.WideMaps
open Go.RowKit
set_option linter.unusedVariables false
set_option linter.unusedSimpArgs false

theorem rowE_app (T S : List E4) : rowE (T ++ S) = rowE T ++ rowE S := by unfold rowE; rw [List.flatMap_append]
theorem rowE_at4 {R : List E4} {k : Nat} {x : E4} (hx : R[k]? = some x) : (rowE R)[k * 4]? = some (.int .i64 x.1) ∧ (rowE R)[k * 4 + 1]? = some (.string x.2.1) ∧ (rowE R)[k * 4 + 2]? = some (.int .i64 x.2.2.1) ∧ (rowE R)[k * 4 + 3]? = some (.int .i64 x.2.2.2) := by
  obtain ⟨hk, rfl⟩ := List.getElem?_eq_some_iff.1 hx
  have e : R[k]! = R[k] := getElem!_pos R k hk
  have h := fun c hc => rowE_get R k c hk hc
  rw [e] at h
  exact ⟨h 0 (by omega), h 1 (by omega), h 2 (by omega), h 3 (by omega)⟩
theorem rowE_one (R : List E4) : ∀ u ∈ rowE R, u.oneCell' = true := by
  intro u hu
  obtain ⟨x, _, hx⟩ := List.mem_flatMap.1 hu
  exact cells4_one x u hx
theorem rowE_cut (R : List E4) (k : Nat) : rowE R = rowE (R.take k) ++ rowE (R.drop k) := by rw [← rowE_app, List.take_append_drop]
theorem rowE_pre {R : List E4} {k j : Nat} {u : Value} (h : (rowE (R.take k))[j]? = some u) : (rowE R)[j]? = some u := by
  rw [rowE_cut R k, List.getElem?_append_left (List.getElem?_eq_some_iff.1 h).1]
  exact h
theorem rowE_suf {R : List E4} {k j : Nat} {u : Value} (hk : k ≤ R.length) (h : (rowE (R.drop k))[j]? = some u) : (rowE R)[k * 4 + j]? = some u := by
  have e : (rowE (R.take k)).length = k * 4 := by rw [rowE_len, List.length_take, Nat.min_eq_left hk]
  rw [rowE_cut R k, List.getElem?_append_right (by omega), e, Nat.add_sub_cancel_left]
  exact h

/-- THE DOCUMENT'S TABLE AT BLOCK q: its room, its age, its entries in a row of its own, from block B on. -/
def HasR (w : World) (B q : Nat) (room age : Int) (R : List E4) (lv : Value) : Prop :=
  w.heap[q]? = some (.cells #[.int .i64 room, .int .i64 age, lv] 31 (0, 0)) ∧ w.ownsRow B 58 4 lv R.length (rowE R)

variable {w w' W W' w0 : World} {B q : Nat} {room age : Int} {R : List E4} {lv : Value}
theorem HasR.c0 (h : HasR w B q room age R lv) : w.cell? ⟨q, 0, none⟩ = some (.int .i64 room) := by simp [World.cell?, h.1]
theorem HasR.c1 (h : HasR w B q room age R lv) : w.cell? ⟨q, 1, none⟩ = some (.int .i64 age) := by simp [World.cell?, h.1]
theorem HasR.c2 (h : HasR w B q room age R lv) : w.cell? ⟨q, 2, none⟩ = some lv := by simp [World.cell?, h.1]
theorem HasR.fz (h : HasR w B q room age R lv) (j : Nat) : w.frozen? ⟨q, j, none⟩ = false := by simp [World.frozen?, h.1]
theorem HasR.lt (h : HasR w B q room age R lv) : q < w.heap.size := (Array.getElem?_eq_some_iff.1 h.1).1

theorem HasR.rows (h : HasR w B q room age R lv) : ∃ p off cap, lv = .slice (p.map fun g => ⟨g, off, none⟩) R.length cap ∧ ∀ i x, R[i]? = some x → ∃ g, p = some g ∧ w.cell? ⟨g, off + i * 4, none⟩ = some (.int .i64 x.1) ∧ w.cell? ⟨g, off + i * 4 + 1, none⟩ = some (.string x.2.1) ∧ w.cell? ⟨g, off + i * 4 + 2, none⟩ = some (.int .i64 x.2.2.1) ∧ w.cell? ⟨g, off + i * 4 + 3, none⟩ = some (.int .i64 x.2.2.2) := by
  rcases h.2.2 with ⟨e, h0⟩ | ⟨g, cap, cur, e, hb, hg, h1, h2, h3, ht⟩
  · refine ⟨none, 0, 0, by rw [e, h0]; rfl, fun i x hx => ?_⟩
    rw [List.length_eq_zero_iff.1 h0] at hx
    simp at hx
  · refine ⟨some g, 0, cap, e, fun i x hx => ⟨g, rfl, ?_⟩⟩
    have hi : i < R.length := (List.getElem?_eq_some_iff.1 hx).1
    obtain ⟨r1, r2, r3, r4⟩ := rowE_at4 hx
    rw [← ht, List.getElem?_take_of_lt (by omega)] at r1 r2 r3 r4
    simp only [World.cell?, hg, Nat.zero_add]
    exact ⟨by rw [← Array.getElem?_toList]; exact r1, by rw [← Array.getElem?_toList]; exact r2, by rw [← Array.getElem?_toList]; exact r3, by rw [← Array.getElem?_toList]; exact r4⟩
theorem HasR.some (h : HasR w B q room age R lv) {k : Nat} {x : E4} (hx : R[k]? = some x) :
    ∃ g cap, lv = .slice (some ⟨g, 0, none⟩) R.length cap ∧ R.length ≤ cap ∧ cap ≤ maxLen ∧ (∀ j, w.frozen? ⟨g, j, none⟩ = false) ∧ ∀ i y, R[i]? = some y → w.cell? ⟨g, i * 4, none⟩ = some (.int .i64 y.1) ∧ w.cell? ⟨g, i * 4 + 1, none⟩ = some (.string y.2.1) ∧ w.cell? ⟨g, i * 4 + 2, none⟩ = some (.int .i64 y.2.2.1) ∧ w.cell? ⟨g, i * 4 + 3, none⟩ = some (.int .i64 y.2.2.2) := by
  obtain ⟨p, off, cp, e0, hc⟩ := h.rows
  have hk : k < R.length := (List.getElem?_eq_some_iff.1 hx).1
  rcases h.2.2 with ⟨e, h0⟩ | ⟨g, cap, cur, e, hb, hg, h1, h2, h3, ht⟩
  · omega
  · subst e
    refine ⟨g, cap, rfl, h1, h2, fun j => by simp [World.frozen?, hg], fun i y hy => ?_⟩
    obtain ⟨g', e, y0, y1, y2, y3⟩ := hc i y hy
    subst e
    simp at e0
    obtain ⟨⟨e1, e2⟩, e3⟩ := e0
    subst e1
    subst e2
    simp only [Nat.zero_add] at y0 y1 y2 y3
    exact ⟨y0, y1, y2, y3⟩
theorem HasR.below (h : HasR w B q room age R lv) (k : Below w.heap.size w w') : HasR w' B q room age R lv := by
  refine ⟨(k.block q h.lt).trans h.1, h.2.1, ?_⟩
  rcases h.2.2 with h0 | ⟨g, cap, cur, e, hb, hg, hr⟩
  · exact Or.inl h0
  · exact Or.inr ⟨g, cap, cur, e, hb, (k.block g (Array.getElem?_eq_some_iff.1 hg).1).trans hg, hr⟩

/-- WHAT THE DOCUMENT'S CALLS LEAVE: all but the table's block and rows of entries from B on. -/
structure Tq (w w' : World) (B q : Nat) : Prop where
  os : w'.os = w.os
  tape : w'.tape = w.tape
  output : w'.output = w.output
  size : w.heap.size ≤ w'.heap.size
  block : ∀ k, k < w.heap.size → k ≠ q → (k < B ∨ ∀ cs f, w.heap[k]? ≠ some (.cells cs 58 f)) → w'.heap[k]? = w.heap[k]?

theorem Tq.refl (w : World) (B q : Nat) : Tq w w B q := ⟨rfl, rfl, rfl, Nat.le_refl _, fun _ _ _ _ => rfl⟩
theorem Tq.trans {a c : World} (h : Tq w a B q) (k : Tq a c B q) : Tq w c B q := by
  refine ⟨k.os.trans h.os, k.tape.trans h.tape, k.output.trans h.output, Nat.le_trans h.size k.size, fun i hi h1 h2 => ?_⟩
  have e := h.block i hi h1 h2
  refine (k.block i (Nat.lt_of_lt_of_le hi h.size) h1 ?_).trans e
  rw [e]
  exact h2
theorem Tq.ofBelow (h : Below w.heap.size w w') : Tq w w' B q := ⟨h.os, h.tape, h.output, h.size, fun k hk _ _ => h.block k hk⟩
theorem Tq.below (h : Tq w w' B q) {b : Nat} (hB : b ≤ B) (hq : b ≤ q) (hw : b ≤ w.heap.size) : Below b w w' :=
  ⟨h.os, h.tape, h.output, h.size, fun k hk => h.block k (by omega) (by omega) (Or.inl (by omega))⟩
theorem Tq.setCell (w : World) (B q j : Nat) (u : Value) : Tq w (w.setCell ⟨q, j, none⟩ u) B q :=
  ⟨rfl, rfl, rfl, by simp [World.setCell], fun k _ h1 _ => RowKit.Below.heap_setCell _ _ _ _ h1⟩
theorem Tq.drewN (h : Tq w w' B q) (n : Nat) : Tq w (w'.drewN n) B q := ⟨h.os, h.tape, h.output, h.size, h.block⟩
theorem Tq.drewL (h : Tq w w' B q) (n : Nat) : Tq (w.drewN n) w' B q := ⟨h.os, h.tape, h.output, h.size, h.block⟩
theorem HasR.drewN (h : HasR w B q room age R lv) (n : Nat) : HasR (w.drewN n) B q room age R lv := h
/-- A row of entries that grew. -/
theorem Tq.grown {v : Value} {n : Nat} {xs : List Value} (ho : w.ownsRow B 58 4 v n xs) (hg : w.grownBy w' v.ownBlock) : Tq w w' B q := by
  refine ⟨hg.os, hg.tape, hg.output, hg.size, fun k hk _ h2 => hg.block k hk fun e => ?_⟩
  have hlt := ho.lt k e.symm
  rcases h2 with h2 | h2
  · omega
  · rcases ho.2 with ⟨rfl, _⟩ | ⟨g, cap, cur, rfl, hb, hgg, _⟩
    · simp [Value.ownBlock] at e
    · simp [Value.ownBlock] at e
      subst e
      exact h2 _ _ hgg
theorem row_block {base size n : Nat} {t : TypeId} {v : Value} {xs : List Value} (ho : w.ownsRow base t size v n xs) {g : Nat} (hg : v.ownBlock = some g) : ∃ cs f, w.heap[g]? = some (.cells cs t f) := by
  rcases ho.2 with ⟨rfl, _⟩ | ⟨g', cap, cur, rfl, _, h1, _⟩
  · simp [Value.ownBlock] at hg
  · simp [Value.ownBlock] at hg
    subst hg
    exact ⟨_, _, h1⟩
/-- A block of another type stands. -/
theorem Tq.cells {b : Nat} {xs : Array Value} {t : TypeId} {f : Nat × Nat} (k : Tq w w' B q) (hr : HasR w B q room age R lv) (hx : w.heap[b]? = some (.cells xs t f)) (ht1 : t ≠ 58) (ht2 : t ≠ 31) : w'.heap[b]? = some (.cells xs t f) := by
  refine (k.block b (Array.getElem?_eq_some_iff.1 hx).1 ?_ (Or.inr fun cs f e => ?_)).trans hx
  · rintro rfl
    have e := hr.1.symm.trans hx
    simp at e
    exact ht2 e.2.1.symm
  · have e := hx.symm.trans e
    simp at e
    exact ht1 e.2.1
/-- THE PROGRAM'S TABLE stands, whatever the document's does. -/
theorem HasF.tq {p mb : Nat} {r a : Int} {L : List T3} (h : HasF w p mb r a L) (hr : HasR w B q room age R lv) (k : Tq w w' B q) : HasF w' p mb r a L := by
  refine h.ofHeap ((k.cells hr h.1 (by decide) (by decide)).trans h.1.symm) ?_
  obtain ⟨_, l, _, es, clock, h2, _⟩ := h
  refine k.block mb (Array.getElem?_eq_some_iff.1 h2).1 ?_ (Or.inr fun cs f e => ?_)
  · rintro rfl
    have e := h2.symm.trans hr.1
    simp at e
  · have e := h2.symm.trans e
    simp at e
theorem FSt.tq {p mb : Nat} {r a : Int} {D : List E4} (h : FSt w0 w p mb r a D) (hr : HasR w B q room age R lv) (k : Tq w w' B q) (hB : w0.heap.size ≤ B) (hq : w0.heap.size ≤ q) : FSt w0 w' p mb r a D :=
  ⟨h.has.tq hr k, h.bel.trans (k.below hB hq h.bel.size), h.np, h.nm, h.good, h.len, h.r1, h.r2, h.a1, h.a2⟩
/-- THE DOCUMENT'S TABLE stands, whatever the program's does. -/
theorem HasR.tw {p mb : Nat} {r a : Int} {L : List T3} (hr : HasR w B q room age R lv) (h : HasF w p mb r a L) (k : Tw w w' p mb) : HasR w' B q room age R lv := by
  have hp : q ≠ p := by
    rintro rfl
    have e := h.1.symm.trans hr.1
    simp at e
  have hm : ∀ (b : Nat) cs t f, w.heap[b]? = Option.some (.cells cs t f) → b ≠ mb := by
    rintro b cs t f h3 rfl
    obtain ⟨_, l, _, es, clock, h2, _⟩ := h
    have e := h2.symm.trans h3
    simp at e
  refine ⟨(k.block q hr.lt hp (hm _ _ _ _ hr.1)).trans hr.1, hr.2.1, ?_⟩
  rcases hr.2.2 with h0 | ⟨g, cap, cur, rfl, hb, hg, hx⟩
  · exact Or.inl h0
  · refine Or.inr ⟨g, cap, cur, rfl, hb, ?_, hx⟩
    refine (k.block g (Array.getElem?_eq_some_iff.1 hg).1 ?_ (hm _ _ _ _ hg)).trans hg
    rintro rfl
    have e := h.1.symm.trans hg
    simp at e

/-- A store into the row. -/
theorem row_set {g cap n j : Nat} {xs : List Value} {u : Value} (h : w.ownsRow B 58 4 (.slice (some ⟨g, 0, none⟩) n cap) n xs) : (w.setCell ⟨g, j, none⟩ u).ownsRow B 58 4 (.slice (some ⟨g, 0, none⟩) n cap) n (xs.set j u) := by
  refine ⟨by rw [List.length_set]; exact h.1, ?_⟩
  rcases h.2 with ⟨e, _⟩ | ⟨g', cap', cur, e, hb, hg, h1, h2, h3, ht⟩
  · simp at e
  · simp at e
    obtain ⟨rfl, rfl⟩ := e
    refine Or.inr ⟨g, cap, cur.setIfInBounds j u, rfl, hb, heap_store hg, h1, h2, by simpa using h3, ?_⟩
    rw [Array.toList_setIfInBounds, ← ht, List.take_set]
theorem rowE_set {v : Int} {m : ByteArray} {a b : Int} : ∀ {R : List E4} {k : Nat} {x : E4}, R[k]? = some x → x.1 = v → x.2.1 = m → ((rowE R).set (k * 4 + 2) (.int .i64 a)).set (k * 4 + 3) (.int .i64 b) = rowE (R.set k (v, m, a, b))
  | [], k, x, h, _, _ => by simp at h
  | y :: r, 0, x, h, e1, e2 => by
    simp at h
    subst h
    obtain ⟨y1, y2, y3, y4⟩ := y
    simp only at e1 e2
    subst e1
    subst e2
    rfl
  | y :: r, k + 1, x, h, e1, e2 => by
    have ih := rowE_set (R := r) (k := k) (a := a) (b := b) (by simpa using h) e1 e2
    show (((cells4 y ++ rowE r).set _ _).set _ _) = cells4 y ++ rowE (r.set k _)
    have l4 : (cells4 y).length = 4 := rfl
    rw [List.set_append_right _ _ (by omega), List.set_append_right _ _ (by omega), l4, ← ih, show (k + 1) * 4 + 2 - 4 = k * 4 + 2 by omega, show (k + 1) * 4 + 3 - 4 = k * 4 + 3 by omega]

theorem some_at {β : Type} {l : List β} {k : Nat} (h : k < l.length) : ∃ x, l[k]? = some x := ⟨l[k], List.getElem?_eq_getElem h⟩

end Go.Proofs.Ytodddahjibccoaa
