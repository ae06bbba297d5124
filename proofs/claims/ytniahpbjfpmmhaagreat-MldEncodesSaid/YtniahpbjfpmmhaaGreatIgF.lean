/-
  Reading queries: igmp.readQuery. A contract over the translated program.
-/
import Derived.Test.YtniahpbjfpmmhaaGreatIgDE
namespace Go.Proofs.YtniahpbjfpmmhaaGreat
open Go.RowKit
set_option linter.unusedVariables false

theorem Box.store {w0 w : World} {xs : Array Value} {t : TypeId} {P : Nat} (h : Box w0 w xs t) (j : Nat) (v : Value) (hP : w0.heap.size < P) : Box w0 (w.setCell ⟨P, j, none⟩ v) xs t :=
  ⟨heap_store_other h.1 (by omega), h.2.setCell (p := ⟨P, j, none⟩) (Nat.le_of_lt hP) _⟩
theorem Box.belowP {w0 w w' : World} {xs : Array Value} {t : TypeId} {P : Nat} (h : Box w0 w xs t) (hP : w0.heap.size < P) (k : Below P w w') : Box w0 w' xs t :=
  ⟨(k.block _ hP).trans h.1, h.2.trans (k.mono (Nat.le_of_lt hP))⟩

/-- The two blocks of readQuery: the answer's and the message's. -/
def QB (w : World) (P : Nat) (xs : Array Value) (W : World) : Prop := Box w W #[.int .i64 0, .int .i64 0, .string ⟨#[]⟩, .int .i64 0, .bool false, .int .i64 0, .int .i64 0, .slice none 0 0, .slice none 0 0] 28 ∧ LB P W xs W ∧ w.heap.size < P
theorem QB.below {w W W' : World} {P : Nat} {xs : Array Value} (h : QB w P xs W) (k : Below W.heap.size W W') : QB w P xs W' :=
  ⟨h.1.below k, ⟨(h.2.1.below k).1, Below.refl _ _⟩, h.2.2⟩
theorem QB.store {w W : World} {P : Nat} {xs : Array Value} (h : QB w P xs W) (j : Nat) (v : Value) : QB w P (xs.setIfInBounds j v) (W.setCell ⟨P, j, none⟩ v) :=
  ⟨h.1.store j v h.2.2, ⟨(h.2.1.store j v).1, Below.refl _ _⟩, h.2.2⟩
theorem QB.start {w w1 : World} {xs : Array Value} (h : Box w w1 #[.int .i64 0, .int .i64 0, .string ⟨#[]⟩, .int .i64 0, .bool false, .int .i64 0, .int .i64 0, .slice none 0 0, .slice none 0 0] 28) : QB w w1.heap.size xs (w1.alloc (.cells xs 28)) :=
  ⟨h.below ((Below.refl _ _).alloc (Nat.le_refl _) _), ⟨heap_new _ _, Below.refl _ _⟩, h.lt⟩

theorem query_bad (s : ByteArray) (hl : 8 < s.size) (h : detE s ≠ 0) : queryI s = (detE s, zeroM) := by
  unfold detE at h ⊢
  unfold queryI
  rw [if_neg (by omega)]
  split
  · rfl
  · next h1 =>
    rw [if_neg h1] at h
    split
    · rfl
    · next h2 =>
      rw [if_neg h2] at h
      split
      · rfl
      · next h3 => rw [if_neg h3] at h; exact absurd rfl h
theorem query_good (s : ByteArray) (hl : 8 < s.size) (h : detE s = 0) : queryI s = if qGrpB (qGrp s) (numv s 10 2).toNat then (0, ⟨1, 3, qGrp s, (decI 4 (byt s 1)).1, decide (byt s 8 / 8 % 2 = 1), ((byt s 8 % 8 : Nat) : Int), (decI 4 (byt s 9)).1, addrsL s 12 (numv s 10 2).toNat 4, []⟩) else (3, zeroM) := by
  unfold detE at h
  unfold queryI
  rw [if_neg (by omega)]
  split at h
  · cases h
  · next h1 =>
    rw [if_neg h1]
    split at h
    · cases h
    · next h2 =>
      rw [if_neg h2]
      split at h
      · cases h
      · next h3 => rw [if_neg h3]

end Go.Proofs.YtniahpbjfpmmhaaGreat
