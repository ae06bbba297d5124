/-
  Which frames may be: ether.mayBe and the document's answer siphonref03.May say the same.
-/
import Derived.Test.YtgoibogpebbkaaaSub
import Derived.Test.YtgoibogpebbkaaaBase
import Derived.BigGuardPart
import Derived.Deep.QuietTactic
import Derived.BigQuiet
namespace Go.Proofs.Ytgoibogpebbkaaa
open Go.RowKit

/-- A frame that may be. -/
def FOk (d s : ByteArray) (t : Bool) (v p y : Int) (x : ByteArray) : Prop :=
  d.size = 6 ∧ s.size = 6 ∧ x.size ≤ 2000 ∧ 0 ≤ y ∧ y ≤ 65535 ∧ (if t = true then 0 ≤ v ∧ v ≤ 4094 ∧ 0 ≤ p ∧ p ≤ 7 else v = 0 ∧ p = 0 ∧ y ≠ 33024)

instance (d s : ByteArray) (t : Bool) (v p y : Int) (x : ByteArray) : Decidable (FOk d s t v p y x) := by unfold FOk; infer_instance

def okF (d s : ByteArray) (t : Bool) (v p y : Int) (x : ByteArray) : Bool := decide (FOk d s t v p y x)

theorem ret_bool {a b : Bool} (h : a = b) : Ending.returned (.bool a) = .returned (.bool b) := by rw [h]
theorem bool_of {a b : Bool} (h : a = true ↔ b = true) : a = b := Bool.eq_iff_iff.2 h
theorem okF_plain (d s : ByteArray) (v p y : Int) (x : ByteArray) : okF d s false v p y x = true ↔ d.size = 6 ∧ s.size = 6 ∧ x.size ≤ 2000 ∧ 0 ≤ y ∧ y ≤ 65535 ∧ v = 0 ∧ p = 0 ∧ y ≠ 33024 := by
  simp [okF, FOk]
theorem okF_tagged (d s : ByteArray) (v p y : Int) (x : ByteArray) : okF d s true v p y x = true ↔ d.size = 6 ∧ s.size = 6 ∧ x.size ≤ 2000 ∧ 0 ≤ y ∧ y ≤ 65535 ∧ 0 ≤ v ∧ v ≤ 4094 ∧ 0 ≤ p ∧ p ≤ 7 := by
  simp [okF, FOk]

set_option maxHeartbeats 1000000 in
set_option maxRecDepth 100000 in
theorem may_c (d s : ByteArray) (t : Bool) (v p y : Int) (x : ByteArray) (w : World) (hx : x.size ≤ 140737488351232) :
    Calls Try.prog 37 #[.agg #[.string d, .string s, .bool t, .int .i64 v, .int .i64 p, .int .i64 y, .string x]] w fun e w' => e = .returned (.bool (okF d s t v p y x)) ∧ Below w.heap.size w w' := by
  cases t
  · go_enter Try.func37, Try.ntmps37
    go_wp2_with fail
    all_goals
      go_ret
      refine ⟨ret_bool (bool_of ?_), (Below.refl _ _).alloc (Nat.le_refl _) _⟩
      rw [okF_plain]
      simp
      try omega
  · go_enter Try.func37, Try.ntmps37
    go_wp2_with fail
    all_goals
      go_ret
      refine ⟨ret_bool (bool_of ?_), (Below.refl _ _).alloc (Nat.le_refl _) _⟩
      rw [okF_tagged]
      simp
      try omega

end Go.Proofs.Ytgoibogpebbkaaa
