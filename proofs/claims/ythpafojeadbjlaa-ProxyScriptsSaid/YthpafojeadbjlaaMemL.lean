/-
  Lists of addresses and of records that lie in memory, and messages: what a slice's value means. They speak of no function.
-/
import Derived.Test.YthpafojeadbjlaaKit
import Derived.WalkKit
namespace Go.Proofs.Ythpafojeadbjlaa
open Go.RowKit
set_option linter.unusedVariables false

/-- A list of texts, in a block from B on; ty: a block of addresses. -/
def AddrsG (B : Nat) (ty : Bool) (w : World) (v : Value) (l : List ByteArray) : Prop :=
  ∃ (p : Option Addr) (cap b off : Nat), v = .slice p l.length cap ∧ (l ≠ [] → p = some ⟨b, off, none⟩ ∧ B ≤ b ∧ (ty = true → ∃ cs f, w.heap[b]? = some (.cells cs 35 f))) ∧ ∀ j s, l[j]? = some s → w.cell? ⟨b, off + j, none⟩ = some (.string s)
abbrev AddrsIn (B : Nat) (w : World) (v : Value) (l : List ByteArray) : Prop := AddrsG B true w v l
abbrev AddrsAt (w : World) (v : Value) (l : List ByteArray) : Prop := AddrsG 0 false w v l

/-- A record, and a message. -/
structure Rec where
  kind : Int
  group : ByteArray
  srcs : List ByteArray
structure Msg where
  kind : Int
  version : Int
  group : ByteArray
  max : Int
  quiet : Bool
  robust : Int
  every : Int
  srcs : List ByteArray
  recs : List Rec

/-- A record in three cells. -/
def RecG (B : Nat) (ty : Bool) (w : World) (b o : Nat) (r : Rec) : Prop :=
  w.cell? ⟨b, o, none⟩ = some (.int .i64 r.kind) ∧ w.cell? ⟨b, o + 1, none⟩ = some (.string r.group) ∧ ∃ vs, w.cell? ⟨b, o + 2, none⟩ = some vs ∧ AddrsG B ty w vs r.srcs
/-- A list of records. -/
def RecsG (B : Nat) (ty : Bool) (w : World) (v : Value) (L : List Rec) : Prop :=
  ∃ (p : Option Addr) (cap b off : Nat), v = .slice p L.length cap ∧ (L ≠ [] → p = some ⟨b, off, none⟩ ∧ B ≤ b) ∧ ∀ j r, L[j]? = some r → RecG B ty w b (off + j * 3) r
abbrev RecAt (w : World) (b o : Nat) (r : Rec) : Prop := RecG 0 false w b o r
abbrev RecsAt (w : World) (v : Value) (L : List Rec) : Prop := RecsG 0 false w v L
abbrev RecsIn (B : Nat) (w : World) (v : Value) (L : List Rec) : Prop := RecsG B true w v L

theorem cell_lt' {w : World} {b o : Nat} {v : Value} (h : w.cell? ⟨b, o, none⟩ = some v) : b < w.heap.size := by
  unfold World.cell? at h
  simp only at h
  split at h
  · next hb => exact lt_of_block hb
  · cases h

theorem cell_below {w w' : World} {b o : Nat} {v : Value} (k : Below w.heap.size w w') (h : w.cell? ⟨b, o, none⟩ = some v) : w'.cell? ⟨b, o, none⟩ = some v :=
  ((below_cells k).1 b o (cell_lt' h)).trans h

theorem AddrsG.mono {B B' : Nat} {ty ty' : Bool} {w : World} {v : Value} {l : List ByteArray} (h : AddrsG B ty w v l) (k : B' ≤ B) (kt : ty' = true → ty = true) : AddrsG B' ty' w v l := by
  obtain ⟨p, cap, b, off, hv, hp, hc⟩ := h
  exact ⟨p, cap, b, off, hv, fun hl => ⟨(hp hl).1, Nat.le_trans k (hp hl).2.1, fun ht => (hp hl).2.2 (kt ht)⟩, hc⟩
theorem RecG.mono {B B' : Nat} {ty ty' : Bool} {w : World} {b o : Nat} {r : Rec} (h : RecG B ty w b o r) (k : B' ≤ B) (kt : ty' = true → ty = true) : RecG B' ty' w b o r := by
  obtain ⟨h1, h2, vs, h3, h4⟩ := h
  exact ⟨h1, h2, vs, h3, h4.mono k kt⟩
theorem RecsG.mono {B B' : Nat} {ty ty' : Bool} {w : World} {v : Value} {l : List Rec} (h : RecsG B ty w v l) (k : B' ≤ B) (kt : ty' = true → ty = true) : RecsG B' ty' w v l := by
  obtain ⟨p, cap, b, off, hv, hp, hc⟩ := h
  exact ⟨p, cap, b, off, hv, fun hl => ⟨(hp hl).1, Nat.le_trans k (hp hl).2⟩, fun j r hj => (hc j r hj).mono k kt⟩
theorem AddrsG.at {B : Nat} {ty : Bool} {w : World} {v : Value} {l : List ByteArray} (h : AddrsG B ty w v l) : AddrsAt w v l := h.mono (Nat.zero_le _) (fun h => by cases h)
theorem RecsG.at {B : Nat} {ty : Bool} {w : World} {v : Value} {l : List Rec} (h : RecsG B ty w v l) : RecsAt w v l := h.mono (Nat.zero_le _) (fun h => by cases h)

theorem AddrsG.below {B : Nat} {ty : Bool} {w w' : World} {v : Value} {l : List ByteArray} (h : AddrsG B ty w v l) (k : Below w.heap.size w w') : AddrsG B ty w' v l := by
  obtain ⟨p, cap, b, off, hv, hp, hc⟩ := h
  exact ⟨p, cap, b, off, hv, fun hl => ⟨(hp hl).1, (hp hl).2.1, fun ht => by obtain ⟨cs, f, hb⟩ := (hp hl).2.2 ht; exact ⟨cs, f, below_block k (lt_of_block hb) hb⟩⟩, fun j s hj => cell_below k (hc j s hj)⟩
theorem RecG.below {B : Nat} {ty : Bool} {w w' : World} {b o : Nat} {r : Rec} (h : RecG B ty w b o r) (k : Below w.heap.size w w') : RecG B ty w' b o r := by
  obtain ⟨h1, h2, vs, h3, h4⟩ := h
  exact ⟨cell_below k h1, cell_below k h2, vs, cell_below k h3, h4.below k⟩
theorem RecsG.below {B : Nat} {ty : Bool} {w w' : World} {v : Value} {L : List Rec} (h : RecsG B ty w v L) (k : Below w.heap.size w w') : RecsG B ty w' v L := by
  obtain ⟨p, cap, b, off, hv, hp, hc⟩ := h
  exact ⟨p, cap, b, off, hv, hp, fun j s hj => (hc j s hj).below k⟩

/-- A store into a block that lies ahead of B changes nothing of what lies from B on. -/
theorem AddrsG.store {B c j : Nat} {ty : Bool} {w : World} {v u : Value} {l : List ByteArray} (h : AddrsG B ty w v l) (k : c < B) : AddrsG B ty (w.setCell ⟨c, j, none⟩ u) v l := by
  obtain ⟨p, cap, b, off, hv, hp, hc⟩ := h
  refine ⟨p, cap, b, off, hv, fun hl => ⟨(hp hl).1, (hp hl).2.1, fun ht => ?_⟩, fun i s hi => cell_far (hc i s hi) ?_⟩
  · obtain ⟨cs, f, hb⟩ := (hp hl).2.2 ht
    have := (hp hl).2.1
    exact ⟨cs, f, heap_store_other hb (by omega)⟩
  · have hl : l ≠ [] := by rintro rfl; simp at hi
    have := (hp hl).2.1
    omega
theorem RecsG.store {B c j : Nat} {ty : Bool} {w : World} {v u : Value} {L : List Rec} (h : RecsG B ty w v L) (k : c < B) : RecsG B ty (w.setCell ⟨c, j, none⟩ u) v L := by
  obtain ⟨p, cap, b, off, hv, hp, hc⟩ := h
  refine ⟨p, cap, b, off, hv, hp, fun i r hi => ?_⟩
  have hl : L ≠ [] := by rintro rfl; simp at hi
  have := (hp hl).2
  obtain ⟨h1, h2, vs, h3, h4⟩ := hc i r hi
  exact ⟨cell_far h1 (by omega), cell_far h2 (by omega), vs, cell_far h3 (by omega), h4.store k⟩
/-- A row of another type that grows changes nothing. -/
theorem AddrsG.grown {B : Nat} {w w' : World} {v : Value} {l : List ByteArray} {row : Option Nat} (h : AddrsG B true w v l) (k : w.grownBy w' row) (hr : ∀ g, row = some g → ∃ cs e f, w.heap[g]? = some (.cells cs e f) ∧ e ≠ 35) : AddrsG B true w' v l := by
  obtain ⟨p, cap, b, off, hv, hp, hc⟩ := h
  have same : l ≠ [] → w'.heap[b]? = w.heap[b]? := by
    intro hl
    obtain ⟨cs, f, hb⟩ := (hp hl).2.2 rfl
    refine k.block b (lt_of_block hb) fun e => ?_
    obtain ⟨cs', e', f', hg, hne⟩ := hr b e.symm
    rw [hb] at hg
    cases hg
    exact hne rfl
  refine ⟨p, cap, b, off, hv, fun hl => ⟨(hp hl).1, (hp hl).2.1, fun ht => ?_⟩, fun i s hi => ?_⟩
  · obtain ⟨cs, f, hb⟩ := (hp hl).2.2 ht
    exact ⟨cs, f, (same hl).trans hb⟩
  · have hl : l ≠ [] := by rintro rfl; simp at hi
    rw [← hc i s hi]
    exact World.cell?_of_block (w := w) (same hl)

theorem AddrsG.slice {B : Nat} {ty : Bool} {w : World} {v : Value} {l : List ByteArray} (h : AddrsG B ty w v l) : ∃ p cap, v = .slice p l.length cap := by
  obtain ⟨p, cap, b, off, hv, _⟩ := h
  exact ⟨p, cap, hv⟩
theorem RecsG.slice {B : Nat} {ty : Bool} {w : World} {v : Value} {l : List Rec} (h : RecsG B ty w v l) : ∃ p cap, v = .slice p l.length cap := by
  obtain ⟨p, cap, b, off, hv, _⟩ := h
  exact ⟨p, cap, hv⟩
theorem AddrsG.nil (B : Nat) (ty : Bool) (w : World) : AddrsG B ty w (.slice none 0 0) [] := ⟨none, 0, 0, 0, rfl, fun h => absurd rfl h, fun j s hj => by simp at hj⟩
theorem RecsG.nil (B : Nat) (ty : Bool) (w : World) : RecsG B ty w (.slice none 0 0) [] := ⟨none, 0, 0, 0, rfl, fun h => absurd rfl h, fun j s hj => by simp at hj⟩

/-- The value of a message whose lists are vs and vr. -/
def Msg.val (m : Msg) (vs vr : Value) : Value :=
  .agg #[.int .i64 m.kind, .int .i64 m.version, .string m.group, .int .i64 m.max, .bool m.quiet, .int .i64 m.robust, .int .i64 m.every, vs, vr]

theorem owns_below {w w' : World} {base e size n : Nat} {v : Value} {xs : List Value} (h : w.ownsRow base e size v n xs) (k : Below w.heap.size w w') : w'.ownsRow base e size v n xs := by
  refine h.kept (row := none) ⟨k.os, k.tape, k.output, k.size, fun j hj _ => k.block j hj⟩ ?_
  rcases hv : v.ownBlock with _ | g
  · exact .inl rfl
  · exact .inr (by simp)

theorem one_at {α : Type} {j : Nat} {x u : α} (h : [x][j]? = some u) : j = 0 ∧ x = u := by
  match j, h with
  | 0, h => exact ⟨rfl, by simpa using h⟩

theorem AddrsG.of_owns {w : World} {base n : Nat} {v : Value} {l : List ByteArray} (h : w.ownsRow base 35 1 v n (l.map Value.string)) : AddrsG base true w v l := by
  have hn : l.length = n := by have := h.1; simpa using this
  rcases h.2 with ⟨rfl, h0⟩ | ⟨g, cap, cur, rfl, hb, hg, -, -, -, -⟩
  · have : l = [] := List.eq_nil_of_length_eq_zero (by omega)
    subst this
    exact AddrsG.nil _ _ w
  · subst hn
    refine ⟨_, cap, g, 0, rfl, fun _ => ⟨rfl, hb, fun _ => ⟨_, _, hg⟩⟩, fun j s hj => ?_⟩
    have := h.cells (g := g) rfl j (.string s) (by simp [hj])
    have e : (⟨g, 0, none⟩ : Addr).add j = ⟨g, 0 + j, none⟩ := by unfold Addr.add; split <;> simp_all
    rw [← e]
    exact this

/-- The cells of a list of records. -/
def RowsOf (B : Nat) (w : World) : List Value → List Rec → Prop
  | [], [] => True
  | x :: y :: z :: t, r :: L => x = .int .i64 r.kind ∧ y = .string r.group ∧ AddrsG B true w z r.srcs ∧ RowsOf B w t L
  | _, _ => False
theorem RowsOf.snoc {B : Nat} {w : World} {r : Rec} {vs : Value} : ∀ {xs : List Value} {L : List Rec}, RowsOf B w xs L → AddrsG B true w vs r.srcs → RowsOf B w (xs ++ [.int .i64 r.kind, .string r.group, vs]) (L ++ [r])
  | [], [], _, ha => ⟨rfl, rfl, ha, trivial⟩
  | x :: y :: z :: t, q :: L, h, ha => ⟨h.1, h.2.1, h.2.2.1, RowsOf.snoc h.2.2.2 ha⟩
  | [], _ :: _, h, _ => h.elim
  | [_], _, h, _ => by cases h
  | [_, _], _, h, _ => by cases h
  | _ :: _ :: _ :: _, [], h, _ => h.elim
theorem RowsOf.map {B B' : Nat} {w w' : World} (f : ∀ vs l, AddrsG B true w vs l → AddrsG B' true w' vs l) : ∀ {xs : List Value} {L : List Rec}, RowsOf B w xs L → RowsOf B' w' xs L
  | [], [], _ => trivial
  | x :: y :: z :: t, q :: L, h => ⟨h.1, h.2.1, f _ _ h.2.2.1, RowsOf.map f h.2.2.2⟩
  | [], _ :: _, h => h.elim
  | [_], _, h => by cases h
  | [_, _], _, h => by cases h
  | _ :: _ :: _ :: _, [], h => h.elim
theorem RowsOf.length {B : Nat} {w : World} : ∀ {xs : List Value} {L : List Rec}, RowsOf B w xs L → xs.length = L.length * 3
  | [], [], _ => rfl
  | x :: y :: z :: t, q :: L, h => by have := RowsOf.length h.2.2.2; simp only [List.length_cons]; omega
  | [], _ :: _, h => h.elim
  | [_], _, h => by cases h
  | [_, _], _, h => by cases h
  | _ :: _ :: _ :: _, [], h => h.elim
theorem RowsOf.at {B : Nat} {w : World} : ∀ {xs : List Value} {L : List Rec}, RowsOf B w xs L → ∀ j r, L[j]? = some r → xs[j * 3]? = some (.int .i64 r.kind) ∧ xs[j * 3 + 1]? = some (.string r.group) ∧ ∃ vs, xs[j * 3 + 2]? = some vs ∧ AddrsG B true w vs r.srcs
  | [], [], _, j, r, hj => by simp at hj
  | x :: y :: z :: t, q :: L, h, 0, r, hj => by
    obtain rfl : q = r := by simpa using hj
    exact ⟨by simp [h.1], by simp [h.2.1], z, by simp, h.2.2.1⟩
  | x :: y :: z :: t, q :: L, h, j + 1, r, hj => by
    have := RowsOf.at h.2.2.2 j r (by simpa using hj)
    rw [show (j + 1) * 3 = j * 3 + 1 + 1 + 1 from by omega]
    simpa using this
  | [], _ :: _, h, _, _, _ => h.elim
  | [_], _, h, _, _, _ => by cases h
  | [_, _], _, h, _, _, _ => by cases h
  | _ :: _ :: _ :: _, [], h, _, _, _ => h.elim
theorem RecsG.of_owns {w : World} {base n : Nat} {v : Value} {xs : List Value} {L : List Rec} {e : TypeId} (h : w.ownsRow base e 3 v n xs) (hx : RowsOf base w xs L) : RecsG base true w v L := by
  have hn : L.length = n := by have := h.1; have := hx.length; omega
  rcases h.2 with ⟨rfl, h0⟩ | ⟨g, cap, cur, rfl, hb, hg, -, -, -, -⟩
  · have : L = [] := List.eq_nil_of_length_eq_zero (by omega)
    subst this
    exact RecsG.nil _ _ w
  · subst hn
    refine ⟨_, cap, g, 0, rfl, fun _ => ⟨rfl, hb⟩, fun j r hj => ?_⟩
    obtain ⟨h1, h2, vs, h3, h4⟩ := hx.at j r hj
    have e' : ∀ k, (⟨g, 0, none⟩ : Addr).add k = ⟨g, 0 + k, none⟩ := fun k => by unfold Addr.add; split <;> simp_all
    have c := h.cells (g := g) rfl
    refine ⟨?_, ?_, vs, ?_, h4⟩
    · rw [← e']; exact c _ _ h1
    · rw [Nat.add_assoc, ← e']; exact c _ _ h2
    · rw [Nat.add_assoc, ← e']; exact c _ _ h3

/-- The block behind w0's end holds xs; what lay is as it was. -/
def Box (w0 w : World) (xs : Array Value) (t : TypeId) : Prop := w.heap[w0.heap.size]? = some (.cells xs t (0, 0)) ∧ Below w0.heap.size w0 w
theorem Box.start (w0 : World) (xs : Array Value) (t : TypeId) : Box w0 (w0.alloc (.cells xs t)) xs t := ⟨heap_new _ _, (Below.refl _ w0).alloc (Nat.le_refl _) _⟩
theorem Box.below {w0 w w' : World} {xs : Array Value} {t : TypeId} (h : Box w0 w xs t) (k : Below w.heap.size w w') : Box w0 w' xs t :=
  ⟨below_block k (lt_of_block h.1) h.1, h.2.trans (k.mono h.2.size)⟩
theorem Box.cell {w0 w : World} {xs : Array Value} {t : TypeId} (h : Box w0 w xs t) (j : Nat) {v : Value} (hj : xs[j]? = some v) : w.cell? ⟨w0.heap.size, j, none⟩ = some v := cell_of_block h.1 hj
theorem Box.free {w0 w : World} {xs : Array Value} {t : TypeId} (h : Box w0 w xs t) (j : Nat) : w.frozen? ⟨w0.heap.size, j, none⟩ = false := free_of_block h.1
theorem Box.lt {w0 w : World} {xs : Array Value} {t : TypeId} (h : Box w0 w xs t) : w0.heap.size < w.heap.size := lt_of_block h.1

end Go.Proofs.Ythpafojeadbjlaa
