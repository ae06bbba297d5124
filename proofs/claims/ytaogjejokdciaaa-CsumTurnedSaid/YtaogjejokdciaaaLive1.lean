/-
  The statement's own samples of layer 1 come out true: siphonlaw01.live returns true.
-/
import Derived.Test.YtaogjejokdciaaaRefB
namespace Go.Proofs.Ytaogjejokdciaaa
open Go.RowKit

theorem below_then {w a b : World} (h : Below w.heap.size w a) (k : Below a.heap.size a b) : Below w.heap.size w b := h.trans (k.mono h.size)

theorem liveA (w : World) : Calls Try.prog 16 #[.string ⟨#[1, 2, 3]⟩, .int .i64 1, .int .i64 2] w fun e w' => e = .returned (.tuple #[.int .i64 515, .int .i64 0]) ∧ Below w.heap.size w w' :=
  get_c _ _ _ w (by decide) (by decide) (by decide)
theorem liveB (w : World) : Calls Try.prog 19 #[.int .i64 256, .int .i64 1] w fun e w' => e = .returned (.tuple #[.string ⟨#[]⟩, .int .i64 1]) ∧ Below w.heap.size w w' :=
  put_c _ _ w (by decide) (by decide)
theorem liveC (w : World) : Calls Try.prog 25 #[.string ⟨#[97, 98, 99]⟩, .int .i64 3, .int .i64 0] w fun e w' => e = .returned (.tuple #[.string ⟨#[]⟩, .int .i64 0]) ∧ Below w.heap.size w w' :=
  cut_c _ _ _ w (by decide) (by decide) (by decide)
theorem liveD (w : World) : Calls Try.prog 25 #[.string ⟨#[97, 98, 99]⟩, .int .i64 4, .int .i64 0] w fun e w' => e = .returned (.tuple #[.string ⟨#[]⟩, .int .i64 2]) ∧ Below w.heap.size w w' :=
  cut_c _ _ _ w (by decide) (by decide) (by decide)
theorem liveE (w : World) : Calls Try.prog 23 #[.int .u64 258] w fun e w' => e = .returned (.string ⟨#[0, 0, 0, 0, 0, 0, 1, 2]⟩) ∧ Below w.heap.size w w' :=
  eight_c _ w (by decide)

set_option maxHeartbeats 1000000 in
set_option maxRecDepth 100000 in
theorem live1_c (w : World) : Calls Try.prog 18 #[] w fun e w' => e = .returned (.bool true) ∧ Below w.heap.size w w' := by
  go_enter Try.func18, Try.ntmps18
  go_wp2_with fail
  refine (liveA _).mono ?_
  rintro e w1 ⟨rfl, h1⟩
  go_wp2_with fail
  refine (liveB _).mono ?_
  rintro e w2 ⟨rfl, h2⟩
  go_wp2_with fail
  refine (liveC _).mono ?_
  rintro e w3 ⟨rfl, h3⟩
  go_wp2_with fail
  refine (liveD _).mono ?_
  rintro e w4 ⟨rfl, h4⟩
  go_wp2_with fail
  refine (liveE _).mono ?_
  rintro e w5 ⟨rfl, h5⟩
  go_wp2_with fail
  go_ret
  exact ⟨rfl, below_then (below_then (below_then (below_then h1 h2) h3) h4) h5⟩

end Go.Proofs.Ytaogjejokdciaaa
