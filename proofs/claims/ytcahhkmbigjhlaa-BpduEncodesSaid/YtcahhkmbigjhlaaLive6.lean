/-
  The statement's own samples of layer 6 come out true: siphonlaw06.live returns true.
-/
import Derived.Test.YtcahhkmbigjhlaaBpB
import Derived.Test.YtcahhkmbigjhlaaBpF
namespace Go.Proofs.Ytcahhkmbigjhlaa
open Go.RowKit
set_option linter.unusedVariables false

/-- The sample's bytes. -/
def smpB : ByteArray := ⟨#[66, 66, 3, 0, 0, 2, 2, 12, 0, 0, 0, 0, 0, 0, 0, 0, 0, 0, 0, 0, 0, 0, 0, 0, 0, 0, 0, 0, 0, 0, 0, 0, 20, 0, 2, 0, 15, 0, 0]⟩
theorem smpB_enc : encB 0 0 0 0 0 false false false = (smpB, 0) := by kernel_rfl
theorem smpB_dec : decB smpB = (BpV.zero, 0) := by kernel_rfl
theorem smpB_none : decB ⟨#[]⟩ = (BpV.zero, 2) := by kernel_rfl
theorem smpB_size : smpB.size = 39 := rfl
theorem smpB_flag (h : 7 < smpB.size) : smpB[7].toNat = 12 := rfl

theorem live6A (w : World) : Calls Try.prog 12 #[.agg #[.int .u64 0, .int .i64 0, .int .u64 0, .int .i64 0, .int .i64 0, .bool false, .bool false, .bool false]] w fun e w' => e = .returned (.tuple #[.string smpB, .int .i64 0]) ∧ Below w.heap.size w w' := by
  have h := encB_c 0 0 0 0 0 false false false w (by decide) (by decide) (by decide) (by decide) (by decide) (by decide) (by decide) (by decide) (by decide) (by decide)
  rw [smpB_enc] at h; exact h
theorem live6B (w : World) : Calls Try.prog 9 #[.string smpB] w fun e w' => e = .returned (.tuple #[.agg #[.int .u64 0, .int .i64 0, .int .u64 0, .int .i64 0, .int .i64 0, .bool false, .bool false, .bool false], .int .i64 0]) ∧ Below w.heap.size w w' := by
  have h := decB_c smpB w (by decide)
  rw [smpB_dec] at h; exact h
theorem live6C (w : World) : Calls Try.prog 9 #[.string ⟨#[]⟩] w fun e w' => e = .returned (.tuple #[.agg #[.int .u64 0, .int .i64 0, .int .u64 0, .int .i64 0, .int .i64 0, .bool false, .bool false, .bool false], .int .i64 2]) ∧ Below w.heap.size w w' := by
  have h := decB_c ⟨#[]⟩ w (by decide)
  rw [smpB_none] at h; exact h

set_option maxHeartbeats 400000 in
theorem to_c (w : World) : Calls Try.prog 22 #[] w fun e w' => e = .returned (.string ⟨#[1, 128, 194, 0, 0, 0]⟩) ∧ w' = w := by
  go_enter Try.func22, Try.ntmps22
  go_wp2
  go_ret
  exact ⟨rfl, rfl⟩

set_option maxHeartbeats 2000000 in
set_option maxRecDepth 100000 in
theorem live6_c (w : World) : Calls Try.prog 11 #[] w fun e w' => e = .returned (.bool true) ∧ Below w.heap.size w w' := by
  have zs : (smpB.size : Int) = 39 := by rw [smpB_size]; rfl
  obtain ⟨s1, s2⟩ := eq_t zs
  have h7 : 7 < smpB.size := by rw [smpB_size]; decide
  have f7 : (smpB[7].toNat : Int) = 12 := by rw [smpB_flag h7]; rfl
  obtain ⟨s3, s4⟩ := eq_t f7
  have h7i : (7 : Int) < (smpB.size : Int) := by omega
  clear zs f7
  go_enter Try.func11, Try.ntmps11
  go_wp2_with fail
  refine (live6A _).mono ?_
  rintro e w1 ⟨rfl, h1⟩
  go_wp2_with fail
  refine (live6B _).mono ?_
  rintro e w2 ⟨rfl, h2⟩
  go_wp2_with fail
  refine (live6C _).mono ?_
  rintro e w3 ⟨rfl, h3⟩
  have g3 : w2.heap.size < w3.heap.size := by have := h3.size; simp at this; omega
  obtain ⟨hc3, hf3⟩ := below_cells h3
  go_wp2_with fail
  refine (to_c _).mono ?_
  rintro e w4 ⟨rfl, rfl⟩
  go_wp2_with fail
  go_ret
  have k2 := below_then h1 h2
  have k3 := below_then k2 (vboxed h3)
  exact ⟨rfl, k3.alloc k3.size _⟩

end Go.Proofs.Ytcahhkmbigjhlaa
