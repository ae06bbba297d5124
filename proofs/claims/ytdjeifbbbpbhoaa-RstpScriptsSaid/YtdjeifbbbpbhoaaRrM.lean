/-
  The document's part in memory. Its small functions: contracts over the translated program.
-/
import Derived.Test.YtdjeifbbbpbhoaaRrT
import Derived.Test.YtdjeifbbbpbhoaaRsL
import Derived.Test.YtdjeifbbbpbhoaaPrF
import Derived.Laws.OwnMore
namespace Go.Proofs.Ytdjeifbbbpbhoaa
open Go.RowKit
set_option linter.unusedVariables false
set_option linter.unusedSimpArgs false

def isR (t : TypeId) : Bool := t == 67 || t == 69
def cellsRP (p : RPrt) : List Value := [.int .i64 p.cost, .bool p.up, .bool p.keeps, .int .u64 p.v.1, .int .i64 p.v.2.1, .int .u64 p.v.2.2.1, .int .i64 p.v.2.2.2, .int .i64 p.age, .int .i64 p.on, .int .i64 p.role, .int .i64 p.since, .bool p.fwd]
def rpartC (R : RPart) (sv : Value) : Array Value := #[.int .u64 R.br, sv, .int .i64 R.now, .int .i64 R.root, .int .u64 R.best.1, .int .i64 R.best.2.1, .int .u64 R.best.2.2.1, .int .i64 R.best.2.2.2, .int .i64 R.chg]

theorem rp_len (p : RPrt) : (cellsRP p).length = 12 := rfl
theorem flat_at {α : Type} {cells : α → List Value} {s : Nat} (hl : ∀ a, (cells a).length = s) : ∀ {l : List α} {k j : Nat} {a : α} {u : Value}, l[k]? = some a → (cells a)[j]? = some u → (l.flatMap cells)[k * s + j]? = some u
  | [], k, j, a, u, h, _ => by simp at h
  | x :: l, 0, j, a, u, h, hu => by
    simp at h
    subst h
    rw [List.flatMap_cons, Nat.zero_mul, Nat.zero_add, List.getElem?_append_left (List.getElem?_eq_some_iff.1 hu).1]
    exact hu
  | x :: l, k + 1, j, a, u, h, hu => by
    have ih := flat_at hl (l := l) (k := k) (by simpa using h) hu
    rw [List.flatMap_cons, List.getElem?_append_right (by rw [hl, Nat.add_mul]; omega), hl, show (k + 1) * s + j - s = k * s + j by rw [Nat.add_mul]; omega]
    exact ih
theorem flat_set {α : Type} {cells : α → List Value} {s : Nat} (hl : ∀ a, (cells a).length = s) : ∀ {l : List α} {k j : Nat} {a b : α} {u : Value}, l[k]? = some a → j < s → cells b = (cells a).set j u → (l.flatMap cells).set (k * s + j) u = (l.set k b).flatMap cells
  | [], k, j, a, b, u, h, _, _ => by simp at h
  | x :: l, 0, j, a, b, u, h, hj, e => by
    simp at h
    subst h
    rw [List.flatMap_cons, Nat.zero_mul, Nat.zero_add, List.set_append_left _ _ (by rw [hl]; exact hj), List.set_cons_zero, List.flatMap_cons, e]
  | x :: l, k + 1, j, a, b, u, h, hj, e => by
    have ih := flat_set hl (l := l) (k := k) (by simpa using h) hj e
    rw [List.flatMap_cons, List.set_append_right _ _ (by rw [hl, Nat.add_mul]; omega), hl, show (k + 1) * s + j - s = k * s + j by rw [Nat.add_mul]; omega, ih, List.set_cons_succ, List.flatMap_cons]

structure RPrt.Good (p : RPrt) : Prop where
  o0 : 0 ≤ p.on
  o1 : p.on ≤ 1099511627776
  s0 : -1 ≤ p.since
  s1 : p.since ≤ 1099511627776
  a0 : -9223372036854775808 ≤ p.age
structure RPart.Good (R : RPart) : Prop where
  n0 : 0 ≤ R.now
  n1 : R.now ≤ 1099511627776
  c0 : -1 ≤ R.chg
  c1 : R.chg ≤ 1099511627776
  ps : ∀ p ∈ R.ps, p.Good

/-- THE DOCUMENT'S PART AT BLOCK q, its ports in a row at rb. -/
structure HasR (w : World) (B q rb cap : Nat) (R : RPart) : Prop where
  tree : w.heap[q]? = some (.cells (rpartC R (.slice (some ⟨rb, 0, none⟩) R.ps.length cap)) 67 (0, 0))
  row : w.ownsRow B 69 12 (.slice (some ⟨rb, 0, none⟩) R.ps.length cap) R.ps.length (R.ps.flatMap cellsRP)
  geQ : B ≤ q
  n1 : 1 ≤ R.ps.length
  n16 : R.ps.length ≤ 16
  good : R.Good

section
variable {w w' : World} {B q rb cap : Nat} {R R' : RPart}
theorem HasR.c0 (h : HasR w B q rb cap R) : w.cell? ⟨q, 0, none⟩ = some (.int .u64 R.br) := cell_of_block h.tree rfl
theorem HasR.c1 (h : HasR w B q rb cap R) : w.cell? ⟨q, 1, none⟩ = some (.slice (some ⟨rb, 0, none⟩) R.ps.length cap) := cell_of_block h.tree rfl
theorem HasR.c2 (h : HasR w B q rb cap R) : w.cell? ⟨q, 2, none⟩ = some (.int .i64 R.now) := cell_of_block h.tree rfl
theorem HasR.c3 (h : HasR w B q rb cap R) : w.cell? ⟨q, 3, none⟩ = some (.int .i64 R.root) := cell_of_block h.tree rfl
theorem HasR.c4 (h : HasR w B q rb cap R) : w.cell? ⟨q, 4, none⟩ = some (.int .u64 R.best.1) := cell_of_block h.tree rfl
theorem HasR.c5 (h : HasR w B q rb cap R) : w.cell? ⟨q, 5, none⟩ = some (.int .i64 R.best.2.1) := cell_of_block h.tree rfl
theorem HasR.c6 (h : HasR w B q rb cap R) : w.cell? ⟨q, 6, none⟩ = some (.int .u64 R.best.2.2.1) := cell_of_block h.tree rfl
theorem HasR.c7 (h : HasR w B q rb cap R) : w.cell? ⟨q, 7, none⟩ = some (.int .i64 R.best.2.2.2) := cell_of_block h.tree rfl
theorem HasR.c8 (h : HasR w B q rb cap R) : w.cell? ⟨q, 8, none⟩ = some (.int .i64 R.chg) := cell_of_block h.tree rfl
theorem HasR.at' (h : HasR w B q rb cap R) {k : Nat} {p : RPrt} (hk : R.ps[k]? = some p) (j : Nat) {u : Value} (hu : (cellsRP p)[j]? = some u) : w.cell? ⟨rb, k * 12 + j, none⟩ = some u := by
  have h1 := h.row.cells (g := rb) rfl (k * 12 + j) u (flat_at rp_len hk hu)
  have e : (⟨rb, 0, none⟩ : Addr).add (k * 12 + j) = ⟨rb, k * 12 + j, none⟩ := by unfold Addr.add; split <;> simp_all
  rwa [e] at h1
theorem HasR.p0 (h : HasR w B q rb cap R) {k : Nat} {p : RPrt} (hk : R.ps[k]? = some p) : w.cell? ⟨rb, k * 12, none⟩ = some (.int .i64 p.cost) := h.at' hk 0 rfl
theorem HasR.p1 (h : HasR w B q rb cap R) {k : Nat} {p : RPrt} (hk : R.ps[k]? = some p) : w.cell? ⟨rb, k * 12 + 1, none⟩ = some (.bool p.up) := h.at' hk 1 rfl
theorem HasR.p2 (h : HasR w B q rb cap R) {k : Nat} {p : RPrt} (hk : R.ps[k]? = some p) : w.cell? ⟨rb, k * 12 + 2, none⟩ = some (.bool p.keeps) := h.at' hk 2 rfl
theorem HasR.p3 (h : HasR w B q rb cap R) {k : Nat} {p : RPrt} (hk : R.ps[k]? = some p) : w.cell? ⟨rb, k * 12 + 3, none⟩ = some (.int .u64 p.v.1) := h.at' hk 3 rfl
theorem HasR.p4 (h : HasR w B q rb cap R) {k : Nat} {p : RPrt} (hk : R.ps[k]? = some p) : w.cell? ⟨rb, k * 12 + 4, none⟩ = some (.int .i64 p.v.2.1) := h.at' hk 4 rfl
theorem HasR.p5 (h : HasR w B q rb cap R) {k : Nat} {p : RPrt} (hk : R.ps[k]? = some p) : w.cell? ⟨rb, k * 12 + 5, none⟩ = some (.int .u64 p.v.2.2.1) := h.at' hk 5 rfl
theorem HasR.p6 (h : HasR w B q rb cap R) {k : Nat} {p : RPrt} (hk : R.ps[k]? = some p) : w.cell? ⟨rb, k * 12 + 6, none⟩ = some (.int .i64 p.v.2.2.2) := h.at' hk 6 rfl
theorem HasR.p7 (h : HasR w B q rb cap R) {k : Nat} {p : RPrt} (hk : R.ps[k]? = some p) : w.cell? ⟨rb, k * 12 + 7, none⟩ = some (.int .i64 p.age) := h.at' hk 7 rfl
theorem HasR.p8 (h : HasR w B q rb cap R) {k : Nat} {p : RPrt} (hk : R.ps[k]? = some p) : w.cell? ⟨rb, k * 12 + 8, none⟩ = some (.int .i64 p.on) := h.at' hk 8 rfl
theorem HasR.p9 (h : HasR w B q rb cap R) {k : Nat} {p : RPrt} (hk : R.ps[k]? = some p) : w.cell? ⟨rb, k * 12 + 9, none⟩ = some (.int .i64 p.role) := h.at' hk 9 rfl
theorem HasR.p10 (h : HasR w B q rb cap R) {k : Nat} {p : RPrt} (hk : R.ps[k]? = some p) : w.cell? ⟨rb, k * 12 + 10, none⟩ = some (.int .i64 p.since) := h.at' hk 10 rfl
theorem HasR.p11 (h : HasR w B q rb cap R) {k : Nat} {p : RPrt} (hk : R.ps[k]? = some p) : w.cell? ⟨rb, k * 12 + 11, none⟩ = some (.bool p.fwd) := h.at' hk 11 rfl
theorem HasR.fz (h : HasR w B q rb cap R) (j : Nat) : w.frozen? ⟨rb, j, none⟩ = false := h.row.frozenAt j
theorem HasR.blk (h : HasR w B q rb cap R) : ∃ cs, w.heap[rb]? = some (.cells cs 69 (0, 0)) := by
  rcases h.row.2 with ⟨e, _⟩ | ⟨g, cap', cur, e, _, hg, _⟩
  · cases e
  · cases e
    exact ⟨cur, hg⟩
theorem HasR.geB (h : HasR w B q rb cap R) : B ≤ rb := (h.row.lt rb rfl).1
theorem HasR.ltB (h : HasR w B q rb cap R) : rb < w.heap.size := (h.row.lt rb rfl).2
theorem HasR.ltQ (h : HasR w B q rb cap R) : q < w.heap.size := (Array.getElem?_eq_some_iff.1 h.tree).1
theorem HasR.neB (h : HasR w B q rb cap R) : rb ≠ q := by
  obtain ⟨cs, hb⟩ := h.blk
  rintro rfl
  have e := hb.symm.trans h.tree
  simp at e
theorem HasR.tt {P : TypeId → Bool} {C : Nat} (h : HasR w B q rb cap R) (x : Tt P C w w') (h1 : P 67 = false) (h2 : P 69 = false) : HasR w' B q rb cap R :=
  ⟨x.cells h.tree h1, owns_tt h.row x h2, h.geQ, h.n1, h.n16, h.good⟩
theorem HasR.below (h : HasR w B q rb cap R) (k : Below w.heap.size w w') : HasR w' B q rb cap R := h.tt (P := fun _ => false) (C := 0) (Tt.ofBelow k) rfl rfl
theorem HasR.drewN (h : HasR w B q rb cap R) (n : Nat) : HasR (w.drewN n) B q rb cap R := ⟨h.tree, h.row, h.geQ, h.n1, h.n16, h.good⟩
/-- The part's own block is written. -/
theorem HasR.own (h : HasR w B q rb cap R) (x : Only q w w') (ht : w'.heap[q]? = some (.cells (rpartC R' (.slice (some ⟨rb, 0, none⟩) R.ps.length cap)) 67 (0, 0))) (hp : R'.ps = R.ps) (hg : R'.Good) : HasR w' B q rb cap R' := by
  refine ⟨by rw [hp]; exact ht, ?_, h.geQ, by rw [hp]; exact h.n1, by rw [hp]; exact h.n16, hg⟩
  rw [hp]
  exact owns_only h.row x h.tree (by decide)
theorem HasR.ttQ (h : HasR w B q rb cap R) (x : Only q w w') : Tt isR B w w' := x.tt h.tree (by decide) h.geQ
theorem HasR.ttB (h : HasR w B q rb cap R) (x : Only rb w w') : Tt isR B w w' := by
  obtain ⟨cs, hb⟩ := h.blk
  exact x.tt hb (by decide) h.geB
theorem rgood_put {R : RPart} (h : R.Good) (k : Nat) {p : RPrt} (hp : p.Good) : (R.put k p).Good := ⟨h.n0, h.n1, h.c0, h.c1, fun q hq => by
  rcases List.mem_or_eq_of_mem_set hq with hq | rfl
  · exact h.ps q hq
  · exact hp⟩
/-- A cell of a port is written. -/
theorem HasR.set (h : HasR w B q rb cap R) {k : Nat} {p p' : RPrt} (hk : R.ps[k]? = some p) (j : Nat) {u : Value} (hj : j < 12) (e : cellsRP p' = (cellsRP p).set j u) (hg : p'.Good) : HasR (w.setCell ⟨rb, k * 12 + j, none⟩ u) B q rb cap (R.put k p') := by
  have hl : (R.put k p').ps.length = R.ps.length := List.length_set
  refine ⟨?_, ?_, h.geQ, by rw [hl]; exact h.n1, by rw [hl]; exact h.n16, rgood_put h.good k hg⟩
  · rw [hl]
    exact (Only.setCell w rb _ u).cells h.tree (fun e => h.neB e.symm)
  · rw [hl]
    have h1 := (h.row.stored (k * 12 + j) u).1
    rw [flat_set rp_len hk hj e] at h1
    exact h1
theorem put_at {R : RPart} {k : Nat} {p p' : RPrt} (hk : R.ps[k]? = some p) : (R.put k p').ps[k]? = some p' := by
  show (R.ps.set k p')[k]? = _
  rw [List.getElem?_set_self (List.getElem?_eq_some_iff.1 hk).1]
theorem put_put (R : RPart) (k : Nat) (p p' : RPrt) : (R.put k p).put k p' = R.put k p' := by
  unfold RPart.put
  simp only [List.set_set]
theorem put_self {R : RPart} {k : Nat} {p : RPrt} (hk : R.ps[k]? = some p) : R.put k p = R := by
  unfold RPart.put
  rw [set_self hk]
end

set_option maxRecDepth 100000 in
theorem rtime_c (n : Int) (w : World) : Calls Try.prog 39 #[.int .i64 n] w fun e w' => e = .returned (.bool (timeR n)) ∧ w = w' := by
  unfold timeR
  cases h1 : decide (n < 0) with
  | true =>
    have k1 : decide (0 ≤ n) = false := decide_eq_false (by have := of_decide_eq_true h1; omega)
    clear h1
    go_enter Try.func39, Try.ntmps39
    go_wp2
    go_ret
    exact ⟨rfl, rfl⟩
  | false =>
    have k1 : decide (0 ≤ n) = true := decide_eq_true (by have := of_decide_eq_false h1; omega)
    cases h2 : decide (1099511627776 < n) with
    | true =>
      have k2 : decide (n ≤ 1099511627776) = false := decide_eq_false (by have := of_decide_eq_true h2; omega)
      clear h1 h2
      go_enter Try.func39, Try.ntmps39
      go_wp2
      go_ret
      exact ⟨rfl, rfl⟩
    | false =>
      have k2 : decide (n ≤ 1099511627776) = true := decide_eq_true (by have := of_decide_eq_false h2; omega)
      clear h1 h2
      go_enter Try.func39, Try.ntmps39
      go_wp2
      go_ret
      exact ⟨rfl, rfl⟩

end Go.Proofs.Ytdjeifbbbpbhoaa
