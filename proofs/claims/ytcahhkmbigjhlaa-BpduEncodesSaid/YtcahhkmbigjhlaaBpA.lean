/-
  The flags of a message: bpdu.flagsOf; and which messages may be: siphonref06.May.
-/
import Derived.Test.YtcahhkmbigjhlaaBpS
import Derived.Test.YtcahhkmbigjhlaaBits
namespace Go.Proofs.Ytcahhkmbigjhlaa
open Go.RowKit
set_option linter.unusedVariables false
set_option linter.unusedSimpArgs false

/-- The flag that is set, or not. -/
def orB (n f : Nat) (is : Bool) : Nat := if is then n ||| f else n
theorem flag_or (ch le fw : Bool) : orB (orB (orB 12 1 ch) 16 le) 32 fw = flagB ch le fw := by cases ch <;> cases le <;> cases fw <;> decide
theorem orB_lt (n f : Nat) (is : Bool) (h : n < 64) (h2 : f < 64) : orB n f is < 64 := by
  unfold orB
  split
  · exact Nat.or_lt_two_pow (n := 6) h h2
  · exact h

set_option maxHeartbeats 1000000 in
set_option maxRecDepth 100000 in
theorem fset_c (A n f : Nat) (is : Bool) (w : World) (hA : w.cell? ⟨A, 0, none⟩ = some (.int .i64 (n : Int))) (hf : w.frozen? ⟨A, 0, none⟩ = false) (hn : n < 64) (hff : f < 64) :
    Calls Try.prog 40 #[.int .i64 (f : Int), .bool is, .pointer (some ⟨A, 0, none⟩)] w fun e w' => e = .returned (.tuple #[]) ∧ w'.cell? ⟨A, 0, none⟩ = some (.int .i64 (orB n f is : Int)) ∧ w'.frozen? ⟨A, 0, none⟩ = false ∧ Below A w w' := by
  have hor := i64_or_nat n f (by omega) (by omega)
  cases is
  · go_enter Try.func40, Try.ntmps40
    go_wp2_with fail
    go_end0
    exact ⟨rfl, hA, hf, Below.refl _ _⟩
  · have e : orB n f true = n ||| f := rfl
    rw [e]
    go_enter Try.func40, Try.ntmps40
    go_wp2_with fail
    go_end0
    refine ⟨rfl, ?_, ?_, (Below.refl _ _).setCell (p := ⟨A, 0, none⟩) (Nat.le_refl _) _⟩
    · exact World.cell?_setCell_same' _ _ _ (by rw [hA]; rfl)
    · rw [World.frozen?_setCell]; exact hf

theorem ret_int {a b : Int} (h : a = b) : Ending.returned (.int .i64 a) = .returned (.int .i64 b) := by rw [h]
theorem ret_boolB {a b : Bool} (h : a = b) : Ending.returned (.bool a) = .returned (.bool b) := by rw [h]

set_option maxHeartbeats 2000000 in
set_option maxRecDepth 100000 in
theorem flags_c (r c b p a : Int) (ch le fw : Bool) (w : World) :
    Calls Try.prog 26 #[.agg #[.int .u64 r, .int .i64 c, .int .u64 b, .int .i64 p, .int .i64 a, .bool ch, .bool le, .bool fw]] w fun e w' => e = .returned (.int .i64 (flagB ch le fw : Int)) ∧ Below w.heap.size w w' := by
  have hfl := flag_or ch le fw
  have l1 := orB_lt 12 1 ch (by omega) (by omega)
  have l2 := orB_lt (orB 12 1 ch) 16 le l1 (by omega)
  have HF := Lib.hid hfl
  clear hfl
  go_enter Try.func26, Try.ntmps26
  go_wp2_with fail
  refine (fset_c (w.heap.size + 1) 12 1 ch _ (by simp) (by simp) (by omega) (by omega)).mono ?_
  rintro e w1 ⟨rfl, c1, f1, h1⟩
  obtain ⟨hc1, hf1⟩ := below_cells h1
  go_wp2_with fail
  refine (fset_c (w.heap.size + 1) _ 16 le _ c1 f1 l1 (by omega)).mono ?_
  rintro e w2 ⟨rfl, c2, f2, h2⟩
  have k2 := h1.trans h2
  clear hc1 hf1 c1 f1 h1 h2
  obtain ⟨hc2, hf2⟩ := below_cells k2
  go_wp2_with fail
  refine (fset_c (w.heap.size + 1) _ 32 fw _ c2 f2 l2 (by omega)).mono ?_
  rintro e w3 ⟨rfl, c3, f3, h3⟩
  rw [HF.out] at c3
  have k3 := k2.trans h3
  clear hc2 hf2 c2 f2 k2 h3
  go_wp2_with fail
  go_ret
  refine ⟨rfl, ?_⟩
  have kA : Below w.heap.size w ((w.alloc (.cells #[.int .u64 r, .int .i64 c, .int .u64 b, .int .i64 p, .int .i64 a, .bool ch, .bool le, .bool fw] 26)).alloc (.cells #[.int .i64 12] 3)) := ((Below.refl _ w).alloc (Nat.le_refl _) _).alloc (by simp) _
  exact kA.trans (k3.mono (by simp))

set_option maxHeartbeats 2000000 in
set_option maxRecDepth 100000 in
theorem rmayB_c (r c b p a : Int) (ch le fw : Bool) (w : World) :
    Calls Try.prog 29 #[.agg #[.int .u64 r, .int .i64 c, .int .u64 b, .int .i64 p, .int .i64 a, .bool ch, .bool le, .bool fw]] w fun e w' => e = .returned (.bool (okB c p a)) ∧ Below w.heap.size w w' := by
  go_enter Try.func29, Try.ntmps29
  go_wp2
  all_goals
    go_ret
    refine ⟨ret_boolB (Bool.eq_iff_iff.2 ?_), (Below.refl _ _).alloc (Nat.le_refl _) _⟩
    rw [okB_iff]
    simp only [bne_iff_ne, ne_eq, Bool.not_eq_true', Bool.not_eq_false', decide_eq_false_iff_not, decide_eq_true_eq, bne_eq_false_iff_eq, beq_iff_eq, Bool.false_eq_true, false_iff, true_iff] at *
    omega

end Go.Proofs.Ytcahhkmbigjhlaa
