/-
  Filters: filter.merge, with the closures of join and of without. Contracts over the translated program.
-/
import Derived.Test.YtceilgeefegbmaaFlA
import Derived.BigQuiet
import Derived.Deep.QuietTactic
import Derived.Deep.Cut
namespace Go.Proofs.Ytceilgeefegbmaa
open Go.RowKit
set_option linter.unusedVariables false

/-- A list of texts whose slice has room for it. -/
def AC (w : World) (p : Option Addr) (c : Nat) (l : List ByteArray) : Prop := l.length ≤ c ∧ AddrsAt w (.slice p l.length c) l
theorem AC.below {w w' : World} {p : Option Addr} {c : Nat} {l : List ByteArray} (h : AC w p c l) (k : Below w.heap.size w w') : AC w' p c l := ⟨h.1, h.2.below k⟩
theorem AC.cons {w : World} {p : Option Addr} {c : Nat} {x : ByteArray} {t : List ByteArray} (h : AC w p c (x :: t)) :
    ∃ b off, p = some ⟨b, off, none⟩ ∧ w.cell? ⟨b, off, none⟩ = some (.string x) ∧ ((c = 1 ∧ t = [] ∧ AC w p 0 t) ∨ (¬ c = 1 ∧ AC w (some ⟨b, off + 1, none⟩) (c - 1) t)) := by
  obtain ⟨hc, p', cap', b, off, hv, hp, hcell⟩ := h
  cases hv
  obtain ⟨rfl, -⟩ := hp (by simp)
  refine ⟨b, off, rfl, by have := hcell 0 x (by simp); simpa using this, ?_⟩
  simp only [List.length_cons] at hc
  by_cases h1 : c = 1
  · have ht : t = [] := List.eq_nil_of_length_eq_zero (by omega)
    subst ht
    exact .inl ⟨h1, rfl, Nat.le_refl _, AddrsG.empty _ _ _ _ _⟩
  · refine .inr ⟨h1, by omega, _, _, b, off + 1, rfl, fun _ => ⟨rfl, Nat.zero_le _, fun h => by cases h⟩, fun j s hj => ?_⟩
    have := hcell (j + 1) s (by simpa using hj)
    rw [show off + 1 + j = off + (j + 1) from by omega]
    exact this

theorem leq_of {x y : ByteArray} {r : Bool} (h : (!sl y x) = r) (t : TypeId) : binOp .leq t (.string x) (.string y) = pure (.bool r) := by
  have e : (Op.bytesLess x.toList y.toList || x.toList == y.toList) = !sl y x := by
    rcases h1 : sl y x with _ | _
    · rcases h2 : sl x y with _ | _
      · obtain rfl := sl_tri h2 h1
        simp
      · unfold sl at h2
        rw [h2]
        rfl
    · have h2 := sl_asym h1
      have h3 := sl_ne h1
      unfold sl at h2
      rw [h2]
      have : x.toList ≠ y.toList := fun e => h3 (ba_ext (by rw [← Lib.toList_data, ← Lib.toList_data, e]))
      simp [this]
  rw [← h, ← e]
  simp [binOp, Op.stringOp]

theorem mgo_len (st : Bool → Bool → Bool) : ∀ a b : List ByteArray, (mgo st a b).length ≤ a.length + b.length
  | [], [] => by simp [mgo]
  | x :: a, [] => by
    have := mgo_len st a []
    unfold mgo
    split <;> simp only [List.length_append, List.length_cons, List.length_nil] at * <;> omega
  | [], y :: b => by
    have := mgo_len st [] b
    unfold mgo
    split <;> simp only [List.length_append, List.length_cons, List.length_nil] at * <;> omega
  | x :: a, y :: b => by
    have h1 := mgo_len st a (y :: b)
    have h2 := mgo_len st (x :: a) b
    have h3 := mgo_len st a b
    unfold mgo
    split
    · split <;> simp only [List.length_append, List.length_cons, List.length_nil] at * <;> omega
    · split
      · split <;> simp only [List.length_append, List.length_cons, List.length_nil] at * <;> omega
      · split <;> simp only [List.length_append, List.length_cons, List.length_nil] at * <;> omega
termination_by a b => a.length + b.length

theorem infoAd : (Try.prog.info? 25).map (fun i => (i.zero, i.size, i.bytes)) = some (some (.string ⟨#[]⟩), 1, 16) := by kernel_rfl
theorem cells1a (w : World) (x : Value) (t : TypeId) : ∀ j u, [x][j]? = some u → (w.alloc (.cells #[x] t)).cell? ((⟨w.heap.size, 0, none⟩ : Addr).add j) = some u := by
  intro j u hj
  have e : (⟨w.heap.size, 0, none⟩ : Addr).add j = ⟨w.heap.size, j, none⟩ := by unfold Addr.add; split <;> simp_all
  rw [e]
  exact cell_of_block (heap_new _ _) (by simpa using hj)
/-- What merge answers. -/
def MPost (l : List ByteArray) (w : World) (e : Ending) (w' : World) : Prop := ∃ v, e = .returned v ∧ AddrsG w.heap.size true w' v l ∧ Below w.heap.size w w'

theorem run_tail (b o m d : Nat) (U : World) : (Instr.slice 35 (.slice (some ⟨b, o, none⟩) (m + 1) d) (some (.int .i64 1)) none none).run Try.prog U = .ok (.slice (if d = 1 then some ⟨b, o, none⟩ else some ⟨b, o + 1, none⟩) m (d - 1)) U := by
  have h := run_slice_l (P := Try.prog) (w := U) 35 (some ⟨b, o, none⟩) (m + 1) d (by rw [show Try.prog.elem 35 = 25 from by kernel_rfl]; exact Try.underlying35) .i64 1 (by omega) (by omega)
  rw [h, show Try.prog.elem 35 = 25 from by kernel_rfl, Try.sizeOf25]
  simp [Result.andThen, sliced, Addr.add]
theorem run_tail2 (b o m d : Nat) (U : World) : (Instr.sliceAt 35 (.slice (some ⟨b, o, none⟩) (m + 1) d) (some (.int .i64 1)) none none).run Try.prog U = .ok (.slice (if d = 1 then some ⟨b, o, none⟩ else some ⟨b, o + 1, none⟩) m (d - 1)) U :=
  (run_sliceAt_slice (P := Try.prog) (w := U) 35 (.slice (some ⟨b, o, none⟩) (m + 1) d) (some (.int .i64 1)) none none (by rw [show Try.prog.elem 35 = 25 from by kernel_rfl]; exact Try.underlying35)).trans (run_tail b o m d U)
theorem AC.cons2 {w : World} {p : Option Addr} {c : Nat} {x : ByteArray} {t : List ByteArray} (h : AC w p c (x :: t)) :
    ∃ b off q, p = some ⟨b, off, none⟩ ∧ w.cell? ⟨b, off, none⟩ = some (.string x) ∧ (∀ m U, (Instr.slice 35 (.slice (some ⟨b, off, none⟩) (m + 1) c) (some (.int .i64 1)) none none).run Try.prog U = .ok (.slice q m (c - 1)) U) ∧ (∀ m U, (Instr.sliceAt 35 (.slice (some ⟨b, off, none⟩) (m + 1) c) (some (.int .i64 1)) none none).run Try.prog U = .ok (.slice q m (c - 1)) U) ∧ AC w q (c - 1) t := by
  obtain ⟨b, off, h1, h2, h3⟩ := h.cons
  refine ⟨b, off, if c = 1 then some ⟨b, off, none⟩ else some ⟨b, off + 1, none⟩, h1, h2, fun m U => run_tail b off m c U, fun m U => run_tail2 b off m c U, ?_⟩
  rcases h3 with ⟨rfl, rfl, h4⟩ | ⟨hc, h4⟩
  · rw [if_pos rfl, ← h1]; exact h4
  · rw [if_neg hc]; exact h4
theorem AC.mono0 {w : World} {p : Option Addr} {c : Nat} {l : List ByteArray} (h : AC w p c l) : AC w p c l := h
theorem iow_below {w w' : World} {base e size n : Nat} {v : Value} {xs : List Value} (h : w.ownsRow base e size v n xs) (k : Below w.heap.size w w') : w'.ownsRow base e size v n xs := owns_below h k

theorem mgo_x (st : Bool → Bool → Bool) (x : ByteArray) (a : List ByteArray) : mgo st (x :: a) [] = (if st true false then [x] else []) ++ mgo st a [] := by rw [mgo]
theorem mgo_y (st : Bool → Bool → Bool) (y : ByteArray) (b : List ByteArray) : mgo st [] (y :: b) = (if st false true then [y] else []) ++ mgo st [] b := by rw [mgo]
theorem mgo_lt (st : Bool → Bool → Bool) (x y : ByteArray) (a b : List ByteArray) (h : sl x y = true) : mgo st (x :: a) (y :: b) = (if st true false then [x] else []) ++ mgo st a (y :: b) := by rw [mgo, if_pos h]
theorem mgo_gt (st : Bool → Bool → Bool) (x y : ByteArray) (a b : List ByteArray) (h : sl x y = false) (k : sl y x = true) : mgo st (x :: a) (y :: b) = (if st false true then [y] else []) ++ mgo st (x :: a) b := by rw [mgo, if_neg (by simp [h]), if_pos k]
theorem mgo_eq (st : Bool → Bool → Bool) (x : ByteArray) (a b : List ByteArray) : mgo st (x :: a) (x :: b) = (if st true true then [x] else []) ++ mgo st a b := by rw [mgo, if_neg (by simp [sl_irrefl]), if_neg (by simp [sl_irrefl])]

end Go.Proofs.Ytceilgeefegbmaa
