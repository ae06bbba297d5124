/-
  Places (pairs of ints) as keys of a map: what they read as.
-/
import Derived.Test.YtggbnkbhobbopaaProg
import Derived.Test.YtggbnkbhobbopaaGrM
import Derived.DeepKeys4
import Derived.ChangeKeysEq
import Derived.Laws.StructEq
namespace Go.Proofs.Ytggbnkbhobbopaa
open Go Go.Maps Go.WideMaps
open Go.RowKit
set_option linter.unusedVariables false
set_option linter.unusedSimpArgs false

theorem laid_P : laidOutB Try.prog = true := by kernel_rfl
theorem und_PL : Try.prog.underlying 46 = some (.array 2 3) := by kernel_rfl
theorem row_PL : (46 : TypeId) < Try.prog.types.size := of_decide_eq_true (by kernel_rfl)
theorem wide_PL : (match Try.prog.underlying 46 with | some (.array _ _) | some (.struct _) => true | _ => false) = true := by kernel_rfl
theorem law_PL : Keyed Try.prog 46 := Keyed.of_law (deep_law_laid laid_P (m := 2) (by omega) row_PL (by kernel_rfl) wide_PL)
theorem ktype_PL : Try.prog.keyType 46 = true := by kernel_rfl
theorem cells_PL : Try.prog.cellsOf 46 = 2 := by kernel_rfl
theorem cells_In : Try.prog.cellsOf 3 = 1 := by kernel_rfl
theorem und_In : Try.prog.underlying 3 = some (.int .i64) := by kernel_rfl

/-- A place as a value, and what it reads as. -/
def litP (v p : Int) : Lit := .string (keyBytes [.int .i64 v, .int .i64 p])
/-- Numbers of 64 bits. -/
def WfP (v p : Int) : Prop := (Lit.int .i64 v).wf = true ∧ (Lit.int .i64 p).wf = true
theorem WfP.of {v p : Int} (h1 : -9223372036854775808 ≤ v) (h2 : v ≤ 9223372036854775807) (h3 : -9223372036854775808 ≤ p) (h4 : p ≤ 9223372036854775807) : WfP v p := by
  constructor <;> (simp [Lit.wf, IntKind.min, IntKind.max, IntKind.bits, IntKind.signed]; omega)

theorem lits_PL (v p : Int) (h : WfP v p) (d : Nat) : Try.prog.keyLits (d + 2) 46 [.int .i64 v, .int .i64 p] = some [.int .i64 v, .int .i64 p] := by
  unfold Program.keyLits
  rw [und_PL]
  simp only
  rw [if_pos (by rw [cells_PL]; rfl)]
  have k0 : Try.prog.keyLits (d + 1) 3 (List.take (Try.prog.cellsOf 3) (List.drop (0 * Try.prog.cellsOf 3) [.int .i64 v, .int .i64 p])) = some [.int .i64 v] := by
    rw [cells_In]
    unfold Program.keyLits
    rw [und_In]
    simp [h.1]
  have k1 : Try.prog.keyLits (d + 1) 3 (List.take (Try.prog.cellsOf 3) (List.drop (1 * Try.prog.cellsOf 3) [.int .i64 v, .int .i64 p])) = some [.int .i64 p] := by
    rw [cells_In]
    unfold Program.keyLits
    rw [und_In]
    simp [h.2]
  rw [show List.range 2 = [0, 1] from rfl]
  simp only [List.mapM_cons, List.mapM_nil, k0, k1]
  rfl

theorem keyP (v p : Int) (h : WfP v p) : keyOf Try.prog 46 (.agg #[.int .i64 v, .int .i64 p]) = some (litP v p) := by
  obtain ⟨d, hd⟩ : ∃ d, Try.prog.types.size = d + 1 := Nat.exists_eq_succ_of_ne_zero (fun e => absurd row_PL (by rw [e]; exact Nat.not_lt_zero _))
  have hl := lits_PL v p h d
  have hform : (Value.agg #[.int .i64 v, .int .i64 p]).formed Try.prog 46 = true := by
    have hu := und_PL
    simp [Value.formed, hu, cells_PL]
  unfold keyOf
  rw [und_PL]
  simp only
  rw [ktype_PL, hform, hd]
  have e : (Value.agg #[.int .i64 v, .int .i64 p]).cells.toList = [.int .i64 v, .int .i64 p] := rfl
  rw [e, hl]
  rfl

theorem keyP_inv (key : Value) (kl : Lit) (h : keyOf Try.prog 46 key = some kl) : ∃ v p, WfP v p ∧ key = .agg #[.int .i64 v, .int .i64 p] ∧ kl = litP v p := by
  obtain ⟨xs, L, rfl, h1, h2⟩ := keyOf_top wide_PL h
  have h1' := h1
  unfold Program.keyLits at h1'
  rw [und_PL] at h1'
  simp only at h1'
  split at h1'
  · next hc =>
    rw [cells_PL] at hc
    obtain ⟨l⟩ := xs
    have hl : l.length = 2 := hc
    rcases l with _ | ⟨x0, _ | ⟨x1, _ | ⟨x2, r⟩⟩⟩
    · simp at hl
    · simp at hl
    · rw [show List.range 2 = [0, 1] from rfl] at h1'
      simp only [List.mapM_cons, List.mapM_nil] at h1'
      rw [cells_In] at h1'
      simp only [Nat.zero_mul, Nat.one_mul, List.drop_zero, List.take_succ_cons, List.take_zero, List.drop_succ_cons] at h1'
      cases q0 : Try.prog.keyLits Try.prog.types.size 3 [x0] with
      | none => rw [q0] at h1'; simp at h1'
      | some l0 =>
        cases q1 : Try.prog.keyLits Try.prog.types.size 3 [x1] with
        | none => rw [q0, q1] at h1'; simp at h1'
        | some l1 =>
          obtain ⟨n, e0, e0'⟩ := keyLits_int' und_In q0
          obtain ⟨s, e1, e1'⟩ := keyLits_int' und_In q1
          simp only [List.cons.injEq, and_true] at e0 e1
          subst e0 e1
          obtain ⟨d, hd⟩ : ∃ d, Try.prog.types.size = d + 1 := Nat.exists_eq_succ_of_ne_zero (fun e => absurd row_PL (by rw [e]; exact Nat.not_lt_zero _))
          have w0 : (Lit.int .i64 n).wf = true := by
            rw [hd] at q0
            unfold Program.keyLits at q0
            rw [und_In] at q0
            simp only at q0
            split at q0
            · next hh => exact hh.2
            · cases q0
          have w1 : (Lit.int .i64 s).wf = true := by
            rw [hd] at q1
            unfold Program.keyLits at q1
            rw [und_In] at q1
            simp only at q1
            split at q1
            · next hh => exact hh.2
            · cases q1
          have hk := keyP n s ⟨w0, w1⟩
          exact ⟨n, s, ⟨w0, w1⟩, rfl, Option.some.inj (h.symm.trans hk)⟩
    · simp at hl
  · cases h1'

theorem litP_inj {v v' p p' : Int} (h : WfP v p) (h' : WfP v' p') (e : litP v p = litP v' p') : v = v' ∧ p = p' := by
  have := law_PL.inj (keyP v p h) (e ▸ keyP v' p' h')
  simp at this
  exact this

end Go.Proofs.Ytggbnkbhobbopaa
