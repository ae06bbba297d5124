/-
  The statement's own samples of layer 3 come out true: siphonlaw03.live returns true.
-/
import Derived.Test.YtolgakgimcbkpaaEthB
import Derived.Test.YtolgakgimcbkpaaEthD
import Derived.Test.YtolgakgimcbkpaaEthE
namespace Go.Proofs.Ytolgakgimcbkpaa
open Go.RowKit
set_option linter.unusedVariables false

theorem below_box {w a : World} {o : Obj} (h : Below (w.alloc o).heap.size (w.alloc o) a) : Below w.heap.size w a := eenc_boxed h
theorem live3A (w : World) : Calls Try.prog 6 #[.string ⟨#[239, 129, 2, 3]⟩] w fun e w' => e = .returned (.tuple #[.string ⟨#[1, 0, 94, 1, 2, 3]⟩, .int .i64 0]) ∧ Below w.heap.size w w' := grp_c _ w
theorem live3B (w : World) : Calls Try.prog 6 #[.string ⟨#[97, 98, 99, 100]⟩] w fun e w' => e = .returned (.tuple #[.string ⟨#[]⟩, .int .i64 1]) ∧ Below w.heap.size w w' := grp_c _ w
theorem live3C (w : World) : Calls Try.prog 12 #[.string ⟨#[115, 104, 111, 114, 116]⟩] w fun e w' => e = .returned (.tuple #[.agg #[.string ⟨#[]⟩, .string ⟨#[]⟩, .bool false, .int .i64 0, .int .i64 0, .int .i64 0, .string ⟨#[]⟩], .int .i64 2]) ∧ Below w.heap.size w w' := edec_c _ w (by decide)
theorem live3D (w : World) : Calls Try.prog 13 #[.agg #[.string ⟨#[]⟩, .string ⟨#[]⟩, .bool false, .int .i64 0, .int .i64 0, .int .i64 0, .string ⟨#[]⟩]] w fun e w' => e = .returned (.tuple #[.string ⟨#[]⟩, .int .i64 1]) ∧ Below w.heap.size w w' := eenc_c _ _ _ _ _ _ _ w (by decide)

set_option maxHeartbeats 1000000 in
set_option maxRecDepth 100000 in
theorem live3_c (w : World) : Calls Try.prog 7 #[] w fun e w' => e = .returned (.bool true) ∧ Below w.heap.size w w' := by
  go_enter Try.func7, Try.ntmps7
  go_wp2_with fail
  refine (live3A _).mono ?_
  rintro e w1 ⟨rfl, h1⟩
  go_wp2_with fail
  refine (live3B _).mono ?_
  rintro e w2 ⟨rfl, h2⟩
  go_wp2_with fail
  refine (live3C _).mono ?_
  rintro e w3 ⟨rfl, h3⟩
  go_wp2_with fail
  refine (live3D _).mono ?_
  rintro e w4 ⟨rfl, h4⟩
  go_wp2_with fail
  go_ret
  exact ⟨rfl, below_then (below_then (below_then h1 h2) h3) (below_box h4)⟩

end Go.Proofs.Ytolgakgimcbkpaa
