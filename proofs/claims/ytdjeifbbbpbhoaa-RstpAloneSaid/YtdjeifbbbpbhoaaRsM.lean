/-
  A part in memory; what calls turn, by the types of the blocks.
-/
import Derived.Test.YtdjeifbbbpbhoaaRsS
import Derived.Test.YtdjeifbbbpbhoaaPrG
import Derived.LoopTactic
import Derived.Laws.AppendOwn
namespace Go.Proofs.Ytdjeifbbbpbhoaa
open Go.RowKit
set_option linter.unusedVariables false
set_option linter.unusedSimpArgs false

/-- WHAT CALLS TURN: blocks from B on, of some types alone. -/
structure Tt (P : TypeId → Bool) (B : Nat) (w w' : World) : Prop where
  os : w'.os = w.os
  tape : w'.tape = w.tape
  output : w'.output = w.output
  size : w.heap.size ≤ w'.heap.size
  block : ∀ k, k < w.heap.size → (k < B ∨ ∀ cs t f, w.heap[k]? = some (.cells cs t f) → P t = false) → w'.heap[k]? = w.heap[k]?

section
variable {P : TypeId → Bool} {B : Nat} {w w' a c : World}
theorem Tt.refl (P : TypeId → Bool) (B : Nat) (w : World) : Tt P B w w := ⟨rfl, rfl, rfl, Nat.le_refl _, fun _ _ _ => rfl⟩
theorem Tt.trans (h : Tt P B w a) (k : Tt P B a c) : Tt P B w c := by
  refine ⟨k.os.trans h.os, k.tape.trans h.tape, k.output.trans h.output, Nat.le_trans h.size k.size, fun i hi h2 => ?_⟩
  have e := h.block i hi h2
  refine (k.block i (Nat.lt_of_lt_of_le hi h.size) ?_).trans e
  rw [e]
  exact h2
theorem Tt.ofBelow (h : Below w.heap.size w w') : Tt P B w w' := ⟨h.os, h.tape, h.output, h.size, fun k hk _ => h.block k hk⟩
theorem Tt.below (h : Tt P B w w') {b : Nat} (hB : b ≤ B) (hw : b ≤ w.heap.size) : Below b w w' :=
  ⟨h.os, h.tape, h.output, h.size, fun k hk => h.block k (by omega) (Or.inl (by omega))⟩
theorem Tt.drewN (h : Tt P B w w') (n : Nat) : Tt P B w (w'.drewN n) := ⟨h.os, h.tape, h.output, h.size, h.block⟩
theorem Tt.drewL (h : Tt P B w w') (n : Nat) : Tt P B (w.drewN n) w' := ⟨h.os, h.tape, h.output, h.size, h.block⟩
/-- A block of another type stands. -/
theorem Tt.cells {b : Nat} {xs : Array Value} {t : TypeId} {f : Nat × Nat} (k : Tt P B w w') (hx : w.heap[b]? = some (.cells xs t f)) (ht : P t = false) : w'.heap[b]? = some (.cells xs t f) :=
  (k.block b (Array.getElem?_eq_some_iff.1 hx).1 (Or.inr fun cs t' f' e => by
    have e := hx.symm.trans e
    simp at e
    rw [← e.2.1]
    exact ht)).trans hx
theorem Tt.low {b : Nat} {o : Obj} (k : Tt P B w w') (hb : b < B) (hx : w.heap[b]? = some o) : w'.heap[b]? = some o :=
  (k.block b (Array.getElem?_eq_some_iff.1 hx).1 (Or.inl hb)).trans hx
theorem Tt.grow (h : Tt P B w a) (k : Below a.heap.size a c) : Tt P B w c := h.trans (Tt.ofBelow k)
end

/-- ONE BLOCK ALONE IS TURNED. -/
structure Only (b : Nat) (w w' : World) : Prop where
  os : w'.os = w.os
  tape : w'.tape = w.tape
  output : w'.output = w.output
  size : w.heap.size ≤ w'.heap.size
  block : ∀ k, k < w.heap.size → k ≠ b → w'.heap[k]? = w.heap[k]?
section
variable {b : Nat} {w w' a c : World}
theorem Only.refl (b : Nat) (w : World) : Only b w w := ⟨rfl, rfl, rfl, Nat.le_refl _, fun _ _ _ => rfl⟩
theorem Only.trans (h : Only b w a) (k : Only b a c) : Only b w c :=
  ⟨k.os.trans h.os, k.tape.trans h.tape, k.output.trans h.output, Nat.le_trans h.size k.size, fun i hi h1 => (k.block i (Nat.lt_of_lt_of_le hi h.size) h1).trans (h.block i hi h1)⟩
theorem Only.ofBelow (h : Below w.heap.size w w') : Only b w w' := ⟨h.os, h.tape, h.output, h.size, fun k hk _ => h.block k hk⟩
theorem Only.setCell (w : World) (b j : Nat) (u : Value) : Only b w (w.setCell ⟨b, j, none⟩ u) :=
  ⟨rfl, rfl, rfl, by simp [World.setCell], fun k _ h1 => RowKit.Below.heap_setCell _ _ _ _ h1⟩
theorem Only.drewN (h : Only b w w') (n : Nat) : Only b w (w'.drewN n) := ⟨h.os, h.tape, h.output, h.size, h.block⟩
theorem Only.drewL (h : Only b w w') (n : Nat) : Only b (w.drewN n) w' := ⟨h.os, h.tape, h.output, h.size, h.block⟩
theorem Only.set (h : Only b w w') (j : Nat) (u : Value) : Only b w (w'.setCell ⟨b, j, none⟩ u) := h.trans (Only.setCell _ _ _ _)
theorem Only.tt {P : TypeId → Bool} {B : Nat} (h : Only b w w') {xs : Array Value} {t : TypeId} {f : Nat × Nat} (hb : w.heap[b]? = some (.cells xs t f)) (ht : P t = true) (hB : B ≤ b) : Tt P B w w' := by
  refine ⟨h.os, h.tape, h.output, h.size, fun k hk h2 => h.block k hk ?_⟩
  rintro rfl
  rcases h2 with h2 | h2
  · omega
  · have := h2 _ _ _ hb
    rw [ht] at this
    cases this
theorem Only.cells (h : Only b w w') {k : Nat} {o : Obj} (hk : w.heap[k]? = some o) (hne : k ≠ b) : w'.heap[k]? = some o :=
  (h.block k (Array.getElem?_eq_some_iff.1 hk).1 hne).trans hk
end

def isS (t : TypeId) : Bool := t == 60 || t == 64

/-- The cells of a message, a port, a part. -/
def msgC (m : Msg) : Array Value := #[.int .u64 m.v.1, .int .i64 m.v.2.1, .int .u64 m.v.2.2.1, .int .i64 m.v.2.2.2, .int .i64 m.age, .int .i64 m.on]
def prtC (p : Prt) (kv : Value) : Array Value := #[.int .i64 p.cost, .bool p.up, kv, .int .i64 p.role, .int .i64 p.since, .bool p.learns, .bool p.fwd]
def partC (T : Part) (sv : Value) : Array Value := #[.int .u64 T.br, .int .i64 T.time, sv, .int .u64 T.best.1, .int .i64 T.best.2.1, .int .u64 T.best.2.2.1, .int .i64 T.best.2.2.2, .int .i64 T.chg]

def KeptAt (w : World) (v : Value) : Option Msg → Prop
  | none => v = .pointer none
  | some m => ∃ b, v = .pointer (some ⟨b, 0, none⟩) ∧ w.heap[b]? = some (.cells (msgC m) 76 (0, 0))
def PrtAt (w : World) (b : Nat) (p : Prt) : Prop := ∃ kv, w.heap[b]? = some (.cells (prtC p kv) 64 (0, 0)) ∧ KeptAt w kv p.kept

/-- A PART AT BLOCK t: its row of pointers at rb, its ports at the blocks A. -/
structure HasS (w : World) (B t rb cap : Nat) (A : List Nat) (T : Part) : Prop where
  tree : w.heap[t]? = some (.cells (partC T (.slice (some ⟨rb, 0, none⟩) A.length cap)) 60 (0, 0))
  row : ∃ cs, w.heap[rb]? = some (.cells cs 61 (0, 0)) ∧ ∀ (j a : Nat), A[j]? = some a → cs[j]? = some (.pointer (some ⟨a, 0, none⟩))
  len : T.ps.length = A.length
  nodup : A.Nodup
  ports : ∀ (j a : Nat) (p : Prt), A[j]? = some a → T.ps[j]? = some p → PrtAt w a p
  geT : B ≤ t
  geA : ∀ a ∈ A, B ≤ a
  n1 : 1 ≤ A.length
  n16 : A.length ≤ 16
  good : T.Good

section
variable {w w' : World} {B t rb cap : Nat} {A : List Nat} {T : Part}
theorem KeptAt.tt {P : TypeId → Bool} {v : Value} {k : Option Msg} (h : KeptAt w v k) (x : Tt P B w w') (hp : P 76 = false) : KeptAt w' v k := by
  cases k with
  | none => exact h
  | some m => obtain ⟨b, e, hb⟩ := h; exact ⟨b, e, x.cells hb hp⟩
theorem KeptAt.only {b : Nat} {v : Value} {k : Option Msg} (h : KeptAt w v k) (x : Only b w w') {cs : Array Value} (hb : w.heap[b]? = some (.cells cs 64 (0, 0))) : KeptAt w' v k := by
  cases k with
  | none => exact h
  | some m =>
    obtain ⟨c, e, hc⟩ := h
    refine ⟨c, e, x.cells hc ?_⟩
    rintro rfl
    have e := hc.symm.trans hb
    simp at e
theorem KeptAt.onlyT {b : Nat} {v : Value} {k : Option Msg} (h : KeptAt w v k) (x : Only b w w') {cs : Array Value} (hb : w.heap[b]? = some (.cells cs 60 (0, 0))) : KeptAt w' v k := by
  cases k with
  | none => exact h
  | some m =>
    obtain ⟨c, e, hc⟩ := h
    refine ⟨c, e, x.cells hc ?_⟩
    rintro rfl
    have e := hc.symm.trans hb
    simp at e
theorem HasS.c0 (h : HasS w B t rb cap A T) : w.cell? ⟨t, 0, none⟩ = some (.int .u64 T.br) := cell_of_block h.tree rfl
theorem HasS.c1 (h : HasS w B t rb cap A T) : w.cell? ⟨t, 1, none⟩ = some (.int .i64 T.time) := cell_of_block h.tree rfl
theorem HasS.c2 (h : HasS w B t rb cap A T) : w.cell? ⟨t, 2, none⟩ = some (.slice (some ⟨rb, 0, none⟩) A.length cap) := cell_of_block h.tree rfl
theorem HasS.c3 (h : HasS w B t rb cap A T) : w.cell? ⟨t, 3, none⟩ = some (.int .u64 T.best.1) := cell_of_block h.tree rfl
theorem HasS.c4 (h : HasS w B t rb cap A T) : w.cell? ⟨t, 4, none⟩ = some (.int .i64 T.best.2.1) := cell_of_block h.tree rfl
theorem HasS.c5 (h : HasS w B t rb cap A T) : w.cell? ⟨t, 5, none⟩ = some (.int .u64 T.best.2.2.1) := cell_of_block h.tree rfl
theorem HasS.c6 (h : HasS w B t rb cap A T) : w.cell? ⟨t, 6, none⟩ = some (.int .i64 T.best.2.2.2) := cell_of_block h.tree rfl
theorem HasS.c7 (h : HasS w B t rb cap A T) : w.cell? ⟨t, 7, none⟩ = some (.int .i64 T.chg) := cell_of_block h.tree rfl
theorem HasS.ltT (h : HasS w B t rb cap A T) : t < w.heap.size := (Array.getElem?_eq_some_iff.1 h.tree).1
theorem HasS.pair (h : HasS w B t rb cap A T) {k : Nat} (hk : k < A.length) : ∃ a p, A[k]? = some a ∧ T.ps[k]? = some p ∧ PrtAt w a p := by
  have h1 : A[k]? = some A[k] := List.getElem?_eq_getElem hk
  have h2 : T.ps[k]? = some (T.ps[k]'(by rw [h.len]; exact hk)) := List.getElem?_eq_getElem _
  exact ⟨_, _, h1, h2, h.ports k _ _ h1 h2⟩
theorem HasS.rowc (h : HasS w B t rb cap A T) {k a : Nat} (hk : A[k]? = some a) : w.cell? ⟨rb, k, none⟩ = some (.pointer (some ⟨a, 0, none⟩)) := by
  obtain ⟨cs, h1, h2⟩ := h.row
  exact cell_of_block h1 (h2 k a hk)
/-- Another machine's calls leave it. -/
theorem HasS.tt {P : TypeId → Bool} {C : Nat} (h : HasS w B t rb cap A T) (x : Tt P C w w') (h1 : P 60 = false) (h2 : P 64 = false) (h3 : P 61 = false) (h4 : P 76 = false) : HasS w' B t rb cap A T := by
  refine ⟨x.cells h.tree h1, ?_, h.len, h.nodup, fun j a p ha hp => ?_, h.geT, h.geA, h.n1, h.n16, h.good⟩
  · obtain ⟨cs, r1, r2⟩ := h.row
    exact ⟨cs, x.cells r1 h3, r2⟩
  · obtain ⟨kv, k1, k2⟩ := h.ports j a p ha hp
    exact ⟨kv, x.cells k1 h2, k2.tt x h4⟩
theorem HasS.below (h : HasS w B t rb cap A T) (k : Below w.heap.size w w') : HasS w' B t rb cap A T :=
  h.tt (P := fun _ => false) (C := 0) (Tt.ofBelow k) rfl rfl rfl rfl
theorem HasS.drewN (h : HasS w B t rb cap A T) (n : Nat) : HasS (w.drewN n) B t rb cap A T := ⟨h.tree, h.row, h.len, h.nodup, h.ports, h.geT, h.geA, h.n1, h.n16, h.good⟩
/-- The part's own block is written. -/
theorem HasS.own {T' : Part} (h : HasS w B t rb cap A T) (x : Only t w w') (ht : w'.heap[t]? = some (.cells (partC T' (.slice (some ⟨rb, 0, none⟩) A.length cap)) 60 (0, 0))) (hp : T'.ps = T.ps) (hg : T'.Good) : HasS w' B t rb cap A T' := by
  refine ⟨ht, ?_, by rw [hp]; exact h.len, h.nodup, fun j a p ha hq => ?_, h.geT, h.geA, h.n1, h.n16, hg⟩
  · obtain ⟨cs, r1, r2⟩ := h.row
    refine ⟨cs, x.cells r1 ?_, r2⟩
    rintro rfl
    have e := r1.symm.trans h.tree
    simp at e
  · rw [hp] at hq
    obtain ⟨kv, k1, k2⟩ := h.ports j a p ha hq
    refine ⟨kv, x.cells k1 ?_, k2.onlyT x h.tree⟩
    rintro rfl
    have e := k1.symm.trans h.tree
    simp at e
/-- One port's block is written. -/
theorem HasS.port {k a : Nat} {p : Prt} (h : HasS w B t rb cap A T) (ha : A[k]? = some a) (x : Only a w w') (hp : PrtAt w' a p) (hg : p.Good) : HasS w' B t rb cap A (T.put k p) := by
  have hka : k < A.length := (List.getElem?_eq_some_iff.1 ha).1
  obtain ⟨a', p0, e1, e2, kv0, hb0, _⟩ := h.pair hka
  rw [ha] at e1
  cases e1
  refine ⟨x.cells h.tree ?_, ?_, by show (T.ps.set k p).length = _; rw [List.length_set]; exact h.len, h.nodup, fun j c q hc hq => ?_, h.geT, h.geA, h.n1, h.n16, h.good.put k hg⟩
  · rintro rfl
    have e := hb0.symm.trans h.tree
    simp at e
  · obtain ⟨cs, r1, r2⟩ := h.row
    refine ⟨cs, x.cells r1 ?_, r2⟩
    rintro rfl
    have e := r1.symm.trans hb0
    simp at e
  · by_cases hjk : j = k
    · subst hjk
      rw [ha] at hc
      cases hc
      replace hq : (T.ps.set j p)[j]? = some q := hq
      rw [List.getElem?_set_self (by rw [h.len]; exact hka)] at hq
      cases hq
      exact hp
    · replace hq : (T.ps.set k p)[j]? = some q := hq
      rw [List.getElem?_set_ne (by omega)] at hq
      obtain ⟨kv, k1, k2⟩ := h.ports j c q hc hq
      refine ⟨kv, x.cells k1 ?_, k2.only x hb0⟩
      rintro rfl
      have hj : j < A.length := (List.getElem?_eq_some_iff.1 hc).1
      exact hjk ((List.getElem?_inj hj h.nodup).1 (hc.trans ha.symm))
theorem HasS.ttP {k a : Nat} (h : HasS w B t rb cap A T) (ha : A[k]? = some a) (x : Only a w w') : Tt isS B w w' := by
  obtain ⟨a', p0, e1, e2, kv0, hb0, _⟩ := h.pair (List.getElem?_eq_some_iff.1 ha).1
  rw [ha] at e1
  cases e1
  exact x.tt hb0 (by decide) (h.geA a (List.mem_of_getElem? ha))
theorem HasS.ttT (h : HasS w B t rb cap A T) (x : Only t w w') : Tt isS B w w' := x.tt h.tree (by decide) h.geT
theorem HasS.eq {T' : Part} (h : HasS w B t rb cap A T) (e : T = T') : HasS w B t rb cap A T' := e ▸ h
end

end Go.Proofs.Ytdjeifbbbpbhoaa
