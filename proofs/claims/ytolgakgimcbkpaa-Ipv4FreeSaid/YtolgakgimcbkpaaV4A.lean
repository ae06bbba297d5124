/-
  Which packets may be: ipv4.mayBe and the document's answer siphonref04.May say the same.
-/
import Derived.Test.YtolgakgimcbkpaaSub
import Derived.Test.YtolgakgimcbkpaaBase
import Derived.BigGuardPart
import Derived.Deep.QuietTactic
import Derived.BigQuiet
namespace Go.Proofs.Ytolgakgimcbkpaa
open Go.RowKit
set_option linter.unusedVariables false
set_option linter.unusedSimpArgs false

/-- A packet that may be. -/
def VOk (i t p : Int) (s d o x : ByteArray) : Prop :=
  0 ≤ i ∧ i ≤ 65535 ∧ 0 ≤ t ∧ t ≤ 255 ∧ 0 ≤ p ∧ p ≤ 255 ∧ s.size = 4 ∧ d.size = 4 ∧ o.size ≤ 40 ∧ o.size % 4 = 0 ∧ 20 + o.size + x.size ≤ 65535

instance (i t p : Int) (s d o x : ByteArray) : Decidable (VOk i t p s d o x) := by unfold VOk; infer_instance

def okV (i t p : Int) (s d o x : ByteArray) : Bool := decide (VOk i t p s d o x)
theorem okV_iff (i t p : Int) (s d o x : ByteArray) : okV i t p s d o x = true ↔ 0 ≤ i ∧ i ≤ 65535 ∧ 0 ≤ t ∧ t ≤ 255 ∧ 0 ≤ p ∧ p ≤ 255 ∧ s.size = 4 ∧ d.size = 4 ∧ o.size ≤ 40 ∧ o.size % 4 = 0 ∧ 20 + o.size + x.size ≤ 65535 := by
  unfold okV; rw [decide_eq_true_iff]; rfl

theorem ret_bool4 {a b : Bool} (h : a = b) : Ending.returned (.bool a) = .returned (.bool b) := by rw [h]

set_option maxHeartbeats 2000000 in
set_option maxRecDepth 100000 in
theorem vmay_c (i t p : Int) (s d o x : ByteArray) (w : World) (hs : s.size ≤ 140737488351232) (hd : d.size ≤ 140737488351232) (ho : o.size ≤ 140737488351232) (hx : x.size ≤ 140737488351232) :
    Calls Try.prog 14 #[.agg #[.int .i64 i, .int .i64 t, .int .i64 p, .string s, .string d, .string o, .string x]] w fun e w' => e = .returned (.bool (okV i t p s d o x)) ∧ Below w.heap.size w w' := by
  go_enter Try.func14, Try.ntmps14
  go_wp2
  all_goals
    go_ret
    refine ⟨ret_bool4 (Bool.eq_iff_iff.2 ?_), (Below.refl _ _).alloc (Nat.le_refl _) _⟩
    rw [okV_iff]
    simp only [bne_iff_ne, ne_eq, Bool.not_eq_true', Bool.not_eq_false', decide_eq_false_iff_not, decide_eq_true_eq, bne_eq_false_iff_eq, beq_iff_eq, Bool.false_eq_true, false_iff, true_iff] at *
    omega

end Go.Proofs.Ytolgakgimcbkpaa
