/-
  Stations as keys of a map: what they read as.
-/
import Derived.Test.YtodddahjibccoaaProg
import Derived.Test.YtodddahjibccoaaWhM
import Derived.Test.YtodddahjibccoaaStrL
import Derived.DeepKeys4
import Derived.ChangeKeysEq
import Derived.Laws.StructEq
namespace Go.Proofs.Ytodddahjibccoaa
open Go Go.Maps Go.WideMaps
open Go.RowKit
set_option linter.unusedVariables false
set_option linter.unusedSimpArgs false

theorem laid_F : laidOutB Try.prog = true := by kernel_rfl
theorem und_ST : Try.prog.underlying 52 = some (.struct (Try.prog.fieldsOf 52)) := by kernel_rfl
theorem row_ST : (52 : TypeId) < Try.prog.types.size := of_decide_eq_true (by kernel_rfl)
theorem wide_ST : (match Try.prog.underlying 52 with | some (.array _ _) | some (.struct _) => true | _ => false) = true := by kernel_rfl
theorem law_ST : Keyed Try.prog 52 := Keyed.of_law (deep_law_laid laid_F (m := 2) (by omega) row_ST (by kernel_rfl) wide_ST)
theorem ktype_ST : Try.prog.keyType 52 = true := by kernel_rfl
theorem cells_ST : Try.prog.cellsOf 52 = 2 := by kernel_rfl
theorem cells_In : Try.prog.cellsOf 3 = 1 := by kernel_rfl
theorem cells_Mc : Try.prog.cellsOf 33 = 1 := by kernel_rfl
theorem und_In : Try.prog.underlying 3 = some (.int .i64) := by kernel_rfl
theorem und_Mc : Try.prog.underlying 33 = some .string := by kernel_rfl
theorem fields_ST : (Try.prog.fieldsOf 52).toList.map (fun f => (f.name != "_", f.type, f.offset)) = [(true, 3, 0), (true, 33, 1)] := by kernel_rfl
theorem fields2 : ∃ f0 f1 : Field, Try.prog.fieldsOf 52 = #[f0, f1] ∧ (f0.name != "_") = true ∧ f0.type = 3 ∧ f0.offset = 0 ∧ (f1.name != "_") = true ∧ f1.type = 33 ∧ f1.offset = 1 := by
  have h := fields_ST
  generalize Try.prog.fieldsOf 52 = fs at h ⊢
  obtain ⟨fs⟩ := fs
  rcases fs with _ | ⟨f0, _ | ⟨f1, _ | ⟨f2, r⟩⟩⟩
  · simp at h
  · simp at h
  · simp only [List.map_cons, List.map_nil, List.cons.injEq, Prod.mk.injEq, and_true] at h
    obtain ⟨⟨a0, b0, c0⟩, a1, b1, c1⟩ := h
    exact ⟨f0, f1, rfl, a0, b0, c0, a1, b1, c1⟩
  · simp at h

/-- A station as a value, and what it reads as. -/
def staV (v : Int) (m : ByteArray) : Value := .agg #[.int .i64 v, .string m]
def litE (v : Int) (m : ByteArray) : Lit := .string (keyBytes [.int .i64 v, .string m.data.toList])
/-- A number of 64 bits, a text that is not too long. -/
def WfK (v : Int) (m : ByteArray) : Prop := (Lit.int .i64 v).wf = true ∧ m.size ≤ maxLen

theorem lits_ST (v : Int) (m : ByteArray) (h : WfK v m) (d : Nat) : Try.prog.keyLits (d + 2) 52 [.int .i64 v, .string m] = some [.int .i64 v, .string m.data.toList] := by
  obtain ⟨f0, f1, hf, a0, b0, c0, a1, b1, c1⟩ := fields2
  have hu := und_ST
  rw [hf] at hu
  unfold Program.keyLits
  rw [hu]
  simp only
  rw [if_pos (by rw [cells_ST]; simp [a0, a1])]
  have k0 : Try.prog.keyLits (d + 1) f0.type (List.take (Try.prog.cellsOf f0.type) (List.drop f0.offset [.int .i64 v, .string m])) = some [.int .i64 v] := by
    rw [b0, c0, cells_In]
    unfold Program.keyLits
    rw [und_In]
    simp [h.1]
  have k1 : Try.prog.keyLits (d + 1) f1.type (List.take (Try.prog.cellsOf f1.type) (List.drop f1.offset [.int .i64 v, .string m])) = some [.string m.data.toList] := by
    rw [b1, c1, cells_Mc]
    unfold Program.keyLits
    rw [und_Mc]
    simp [h.2]
  simp [List.mapM_cons, k0, k1]

theorem keyE (v : Int) (m : ByteArray) (h : WfK v m) : keyOf Try.prog 52 (.agg #[.int .i64 v, .string m]) = some (litE v m) := by
  obtain ⟨d, hd⟩ : ∃ d, Try.prog.types.size = d + 1 := Nat.exists_eq_succ_of_ne_zero (fun e => absurd row_ST (by rw [e]; exact Nat.not_lt_zero _))
  have hl := lits_ST v m h d
  have hform : (Value.agg #[.int .i64 v, .string m]).formed Try.prog 52 = true := by
    have hu := und_ST
    simp [Value.formed, hu, cells_ST]
  unfold keyOf
  rw [und_ST]
  simp only
  rw [ktype_ST, hform, hd]
  have e : (Value.agg #[.int .i64 v, .string m]).cells.toList = [.int .i64 v, .string m] := rfl
  rw [e, hl]
  rfl

theorem keyE_inv (key : Value) (kl : Lit) (h : keyOf Try.prog 52 key = some kl) : ∃ v m, WfK v m ∧ key = .agg #[.int .i64 v, .string m] ∧ kl = litE v m := by
  obtain ⟨f0, f1, hf, a0, b0, c0, a1, b1, c1⟩ := fields2
  have hu := und_ST
  rw [hf] at hu
  obtain ⟨xs, L, rfl, h1, h2⟩ := keyOf_top wide_ST h
  have h1' := h1
  unfold Program.keyLits at h1'
  rw [hu] at h1'
  simp only at h1'
  split at h1'
  · next hc =>
    rw [cells_ST] at hc
    obtain ⟨l⟩ := xs
    have hl : l.length = 2 := hc.1
    rcases l with _ | ⟨x0, _ | ⟨x1, _ | ⟨x2, r⟩⟩⟩
    · simp at hl
    · simp at hl
    · simp only [List.mapM_cons, List.mapM_nil] at h1'
      rw [b0, b1, c0, c1, cells_In, cells_Mc] at h1'
      simp only [List.drop_zero, List.take_succ_cons, List.take_zero, List.drop_succ_cons] at h1'
      cases q0 : Try.prog.keyLits Try.prog.types.size 3 [x0] with
      | none => rw [q0] at h1'; simp at h1'
      | some l0 =>
        cases q1 : Try.prog.keyLits Try.prog.types.size 33 [x1] with
        | none => rw [q0, q1] at h1'; simp at h1'
        | some l1 =>
          obtain ⟨n, e0, e0'⟩ := keyLits_int' und_In q0
          obtain ⟨s, e1, e1'⟩ := keyLits_string' und_Mc q1
          simp only [List.cons.injEq, and_true] at e0 e1
          subst e0 e1
          obtain ⟨d, hd⟩ : ∃ d, Try.prog.types.size = d + 1 := Nat.exists_eq_succ_of_ne_zero (fun e => absurd row_ST (by rw [e]; exact Nat.not_lt_zero _))
          have w0 : (Lit.int .i64 n).wf = true := by
            rw [hd] at q0
            unfold Program.keyLits at q0
            rw [und_In] at q0
            simp only at q0
            split at q0
            · next hh => exact hh.2
            · cases q0
          have w1 : s.size ≤ maxLen := by
            rw [hd] at q1
            unfold Program.keyLits at q1
            rw [und_Mc] at q1
            simp only at q1
            split at q1
            · next hh => exact hh
            · cases q1
          have hk := keyE n s ⟨w0, w1⟩
          exact ⟨n, s, ⟨w0, w1⟩, rfl, Option.some.inj (h.symm.trans hk)⟩
    · simp at hl
  · cases h1'

theorem litE_inj {v v' : Int} {m m' : ByteArray} (h : WfK v m) (h' : WfK v' m') (e : litE v m = litE v' m') : v = v' ∧ m = m' := by
  have := law_ST.inj (keyE v m h) (e ▸ keyE v' m' h')
  simp at this
  exact this

end Go.Proofs.Ytodddahjibccoaa
