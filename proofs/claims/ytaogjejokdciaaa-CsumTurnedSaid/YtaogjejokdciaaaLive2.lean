/-
  The statement's own samples of layer 2 come out true: siphonlaw02.live returns true.
-/
import Derived.Test.YtaogjejokdciaaaRFill
import Derived.Test.YtaogjejokdciaaaRPseudo
namespace Go.Proofs.Ytaogjejokdciaaa
open Go.RowKit

theorem live2A (w : World) : Calls Try.prog 31 #[.string ⟨#[97, 98, 99, 100]⟩, .string ⟨#[97, 98, 99]⟩, .int .i64 0, .int .i64 0] w fun e w' => e = .returned (.tuple #[.string ⟨#[]⟩, .int .i64 1]) ∧ Below w.heap.size w w' :=
  pseudo_no _ _ _ _ w (by decide) (by decide) (.inl (by decide))
theorem live2B (w : World) : Calls Try.prog 33 #[.string ⟨#[]⟩, .string ⟨#[97, 98, 99]⟩, .int .i64 1] w fun e w' => e = .returned (.tuple #[.string ⟨#[]⟩, .int .i64 1]) ∧ Below w.heap.size w w' :=
  fill_no _ _ _ w (by decide) (.inr (.inr (.inr (by decide))))
theorem live2C (w : World) : Calls Try.prog 28 #[.string ⟨#[0, 1, 242, 3, 244, 245, 246, 247]⟩] w fun e w' => e = .returned (.int .i64 8717) ∧ Below w.heap.size w w' :=
  sum_c _ w (by decide)
theorem live2D (w : World) : Calls Try.prog 28 #[.string ⟨#[]⟩] w fun e w' => e = .returned (.int .i64 65535) ∧ Below w.heap.size w w' :=
  sum_c _ w (by decide)
theorem live2E (w : World) : Calls Try.prog 29 #[.string ⟨#[255, 255]⟩] w fun e w' => e = .returned (.bool true) ∧ Below w.heap.size w w' :=
  right_c _ w (by decide)

set_option maxHeartbeats 1000000 in
set_option maxRecDepth 100000 in
theorem live2_c (w : World) : Calls Try.prog 30 #[] w fun e w' => e = .returned (.bool true) ∧ Below w.heap.size w w' := by
  go_enter Try.func30, Try.ntmps30
  go_wp2_with fail
  refine (live2A _).mono ?_
  rintro e w1 ⟨rfl, h1⟩
  go_wp2_with fail
  refine (live2B _).mono ?_
  rintro e w2 ⟨rfl, h2⟩
  go_wp2_with fail
  refine (live2C _).mono ?_
  rintro e w3 ⟨rfl, h3⟩
  go_wp2_with fail
  refine (live2D _).mono ?_
  rintro e w4 ⟨rfl, h4⟩
  go_wp2_with fail
  refine (live2E _).mono ?_
  rintro e w5 ⟨rfl, h5⟩
  go_wp2_with fail
  go_ret
  exact ⟨rfl, below_then (below_then (below_then (below_then h1 h2) h3) h4) h5⟩

end Go.Proofs.Ytaogjejokdciaaa
