/-
  Reading queries: igmp.groupMayBe and readDetails. Contracts over the translated program.
-/
import Derived.Test.YtnfngmclomjimaaIgD
import Derived.Test.YtnfngmclomjimaaBits
namespace Go.Proofs.Ytnfngmclomjimaa
open Go.RowKit
set_option linter.unusedVariables false

theorem toList_ne (g : ByteArray) (h : ¬ g.size = 0) : g.toList.isEmpty = false := by
  rw [ByteArray.toList_eq, List.isEmpty_eq_false_iff]
  intro h'
  exact h (by have := congrArg List.length h'; simpa using this)
theorem bytes_empty {g : ByteArray} (h : g.size = 0) : g = ⟨#[]⟩ := ByteArray.ext (Array.eq_empty_of_size_eq_zero h)

/-- Block P holds xs; what lies below it is as in w0. -/
def LB (P : Nat) (w0 : World) (xs : Array Value) (w : World) : Prop := w.heap[P]? = some (.cells xs 28 (0, 0)) ∧ Below P w0 w
theorem LB.below {P : Nat} {w0 w w' : World} {xs : Array Value} (h : LB P w0 xs w) (k : Below w.heap.size w w') : LB P w0 xs w' :=
  ⟨below_block k (lt_of_block h.1) h.1, h.2.trans (k.mono (Nat.le_of_lt (lt_of_block h.1)))⟩
theorem LB.store {P : Nat} {w0 w : World} {xs : Array Value} (h : LB P w0 xs w) (j : Nat) (v : Value) : LB P w0 (xs.setIfInBounds j v) (w.setCell ⟨P, j, none⟩ v) :=
  ⟨heap_store h.1, h.2.setCell (p := ⟨P, j, none⟩) (Nat.le_refl _) _⟩
theorem LB.cell {P : Nat} {w0 w : World} {xs : Array Value} (h : LB P w0 xs w) (j : Nat) {v : Value} (hj : xs[j]? = some v) : w.cell? ⟨P, j, none⟩ = some v := cell_of_block h.1 hj
theorem LB.free {P : Nat} {w0 w : World} {xs : Array Value} (h : LB P w0 xs w) (j : Nat) : w.frozen? ⟨P, j, none⟩ = false := free_of_block h.1
theorem LB.lt {P : Nat} {w0 w : World} {xs : Array Value} (h : LB P w0 xs w) : P < w.heap.size := lt_of_block h.1

/-- The details' error; what they say. -/
def detE (s : ByteArray) : Int :=
  if s.size < 12 then 3 else if 60 < (numv s 10 2).toNat then 3 else if s.size < 12 + (numv s 10 2).toNat * 4 then 2 else 0
def DetPost (s : ByteArray) (P : Nat) (k0 : Int) (g : ByteArray) (w0 : World) (e : Ending) (w' : World) : Prop :=
  e = .returned (.int .i64 (detE s)) ∧ Below P w0 w' ∧ (detE s = 0 → ∃ p cap, LB P w0 #[.int .i64 k0, .int .i64 3, .string g, .int .i64 (decI 4 (byt s 1)).1, .bool (decide (byt s 8 / 8 % 2 = 1)), .int .i64 ((byt s 8 % 8 : Nat) : Int), .int .i64 (decI 4 (byt s 9)).1, .slice p (numv s 10 2).toNat cap, .slice none 0 0] w' ∧ AddrsG (P + 1) true w' (.slice p (numv s 10 2).toNat cap) (addrsL s 12 (numv s 10 2).toNat 4))
theorem DetPost.bad {s : ByteArray} {P : Nat} {k0 : Int} {g : ByteArray} {w0 w' : World} {e : Ending} {c : Int} (h : detE s = c) (hc : c ≠ 0) (he : e = .returned (.int .i64 c)) (hb : Below P w0 w') : DetPost s P k0 g w0 e w' :=
  ⟨by rw [h]; exact he, hb, fun h0 => absurd (h.symm.trans h0) hc⟩

theorem dec8_b (c : Int) (w : World) :
    Calls Try.prog 56 #[.int .i64 c] w fun e w' => e = .returned (.tuple #[.int .i64 (decI 4 c).1, .int .i64 (decI 4 c).2]) ∧ Below w.heap.size w w' :=
  (dec8_c c w).mono fun _ _ ⟨h, n, hn⟩ => ⟨h, by rw [hn]; exact below_drewN (Below.refl _ _) _⟩

theorem gnum1_c (s : ByteArray) (A : Nat) (w : World) (hs : s.size ≤ 281474976710000) (h : A < s.size) :
    Calls Try.prog 78 #[.string s, .int .i64 A, .int .i64 1] w fun e w' => e = .returned (.int .i64 (byt s A)) ∧ Below w.heap.size w w' := by
  have := gnum_c s A 1 w (by omega) (by omega) (by omega)
  rw [numv_byte s A h, byt_get s A h] at this
  exact this

end Go.Proofs.Ytnfngmclomjimaa
