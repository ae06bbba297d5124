/-
  The statement's own samples of layer 4 come out true: siphonlaw04.live returns true.
-/
import Derived.Test.YtolgakgimcbkpaaV4F
import Derived.Test.YtolgakgimcbkpaaV4H
namespace Go.Proofs.Ytolgakgimcbkpaa
open Go.RowKit
set_option linter.unusedVariables false

/-- The sample's bytes. -/
def smp : ByteArray := ⟨#[69, 0, 0, 21, 0, 0, 0, 0, 0, 0, 41, 85, 97, 98, 99, 100, 101, 102, 103, 104, 120]⟩

theorem smp_enc : encV 0 0 0 ⟨#[97, 98, 99, 100]⟩ ⟨#[101, 102, 103, 104]⟩ ⟨#[]⟩ ⟨#[120]⟩ = (smp, 0) := by kernel_rfl
theorem smp_dec : decV (smp ++ ⟨#[98, 101, 104, 105, 110, 100]⟩) = (⟨0, 0, 0, ⟨#[97, 98, 99, 100]⟩, ⟨#[101, 102, 103, 104]⟩, ⟨#[]⟩, ⟨#[120]⟩⟩, 0) := by kernel_rfl
theorem smp_none : decV ⟨#[]⟩ = (.zero, 2) := by kernel_rfl
theorem smp_yes : alertV ⟨#[148, 4, 0, 0]⟩ = (true, 0) := by kernel_rfl
theorem smp_no : alertV ⟨#[148, 1]⟩ = (false, 3) := by kernel_rfl

theorem live4A (w : World) : Calls Try.prog 20 #[.string ⟨#[148, 4, 0, 0]⟩] w fun e w' => e = .returned (.tuple #[.bool true, .int .i64 0]) ∧ Below w.heap.size w w' := by
  have h := alert_c ⟨#[148, 4, 0, 0]⟩ w (by decide)
  rw [smp_yes] at h; exact h
theorem live4B (w : World) : Calls Try.prog 20 #[.string ⟨#[148, 1]⟩] w fun e w' => e = .returned (.tuple #[.bool false, .int .i64 3]) ∧ Below w.heap.size w w' := by
  have h := alert_c ⟨#[148, 1]⟩ w (by decide)
  rw [smp_no] at h; exact h
theorem live4C (w : World) : Calls Try.prog 8 #[.agg #[.int .i64 0, .int .i64 0, .int .i64 0, .string ⟨#[97, 98, 99, 100]⟩, .string ⟨#[101, 102, 103, 104]⟩, .string ⟨#[]⟩, .string ⟨#[120]⟩]] w fun e w' => e = .returned (.tuple #[.string smp, .int .i64 0]) ∧ Below w.heap.size w w' := by
  have h := venc_c 0 0 0 ⟨#[97, 98, 99, 100]⟩ ⟨#[101, 102, 103, 104]⟩ ⟨#[]⟩ ⟨#[120]⟩ w (by decide) (by decide) (by decide) (by decide)
  rw [smp_enc] at h; exact h
theorem live4D (w : World) : Calls Try.prog 10 #[.string (smp ++ ⟨#[98, 101, 104, 105, 110, 100]⟩)] w fun e w' => e = .returned (.tuple #[.agg #[.int .i64 0, .int .i64 0, .int .i64 0, .string ⟨#[97, 98, 99, 100]⟩, .string ⟨#[101, 102, 103, 104]⟩, .string ⟨#[]⟩, .string ⟨#[120]⟩], .int .i64 0]) ∧ Below w.heap.size w w' := by
  have h := vdec_c (smp ++ ⟨#[98, 101, 104, 105, 110, 100]⟩) w (by decide)
  rw [smp_dec] at h; exact h
theorem live4E (w : World) : Calls Try.prog 10 #[.string ⟨#[]⟩] w fun e w' => e = .returned (.tuple #[.agg #[.int .i64 0, .int .i64 0, .int .i64 0, .string ⟨#[]⟩, .string ⟨#[]⟩, .string ⟨#[]⟩, .string ⟨#[]⟩], .int .i64 2]) ∧ Below w.heap.size w w' := by
  have h := vdec_c ⟨#[]⟩ w (by decide)
  rw [smp_none] at h; exact h
theorem smp_size : smp.size = 21 := rfl

set_option maxHeartbeats 2000000 in
set_option maxRecDepth 100000 in
theorem live4_c (w : World) : Calls Try.prog 9 #[] w fun e w' => e = .returned (.bool true) ∧ Below w.heap.size w w' := by
  have zs : (smp.size : Int) = 21 := by rw [smp_size]; rfl
  obtain ⟨s1, s2⟩ := eq_t zs
  have zl : smp.size ≤ 21 := by rw [smp_size]; exact Nat.le_refl _
  clear zs
  go_enter Try.func9, Try.ntmps9
  go_wp2_with fail
  refine (live4A _).mono ?_
  rintro e w1 ⟨rfl, h1⟩
  go_wp2_with fail
  refine (live4B _).mono ?_
  rintro e w2 ⟨rfl, h2⟩
  go_wp2_with fail
  refine (live4C _).mono ?_
  rintro e w3 ⟨rfl, h3⟩
  go_wp2_with fail
  refine (live4D _).mono ?_
  rintro e w4 ⟨rfl, h4⟩
  go_wp2_with fail
  refine (live4E _).mono ?_
  rintro e w5 ⟨rfl, h5⟩
  have g5 : w4.heap.size < w5.heap.size := by have := h5.size; simp at this; omega
  obtain ⟨hc5, hf5⟩ := below_cells h5
  go_wp2_with fail
  go_ret
  have k4 := below_then (below_then (below_then h1 h2) h3) h4
  have k5 := below_then k4 (vboxed h5)
  exact ⟨rfl, k5.alloc k5.size _⟩

end Go.Proofs.Ytolgakgimcbkpaa
