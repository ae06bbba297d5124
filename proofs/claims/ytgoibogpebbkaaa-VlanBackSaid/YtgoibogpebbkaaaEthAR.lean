/-
  Which frames may be, the document's answer: siphonref03.May.
-/
import Derived.Test.YtgoibogpebbkaaaEthA
namespace Go.Proofs.Ytgoibogpebbkaaa
open Go.RowKit
set_option linter.unusedVariables false
set_option linter.unusedSimpArgs false

set_option maxHeartbeats 1000000 in
set_option maxRecDepth 100000 in
theorem rmay_c (d s : ByteArray) (t : Bool) (v p y : Int) (x : ByteArray) (w : World) (hx : x.size ≤ 140737488351232) :
    Calls Try.prog 25 #[.agg #[.string d, .string s, .bool t, .int .i64 v, .int .i64 p, .int .i64 y, .string x]] w fun e w' => e = .returned (.bool (okF d s t v p y x)) ∧ Below w.heap.size w w' := by
  cases t
  · go_enter Try.func25, Try.ntmps25
    go_wp2_with fail
    all_goals
      go_ret
      refine ⟨ret_bool (bool_of ?_), (Below.refl _ _).alloc (Nat.le_refl _) _⟩
      rw [okF_plain]
      simp
      try omega
  · go_enter Try.func25, Try.ntmps25
    go_wp2_with fail
    all_goals
      go_ret
      refine ⟨ret_bool (bool_of ?_), (Below.refl _ _).alloc (Nat.le_refl _) _⟩
      rw [okF_tagged]
      simp
      try omega

end Go.Proofs.Ytgoibogpebbkaaa
