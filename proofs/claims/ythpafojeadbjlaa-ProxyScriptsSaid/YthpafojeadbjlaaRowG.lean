/-
  Lists of structs that came in as data: what lies in memory, whatever the struct.
-/
import Derived.Test.YthpafojeadbjlaaProg
import Derived.Test.YthpafojeadbjlaaKit
import Derived.WalkKit
import Derived.ChangeSlices
import Derived.OpenShut
import Derived.Deep.Slices
import Derived.ChangeArms
import Derived.ChangeSame
namespace Go.Proofs.Ythpafojeadbjlaa
open Go.RowKit Go.ChangeShapes Go.WideShapes Go.Deep
set_option linter.unusedVariables false

/-- A list whose elements lie in memory, each as a row of cells. -/
def RowsAt {α : Type} (size : Nat) (cells : α → List Value) (w : World) (v : Value) (l : List α) : Prop :=
  ∃ (p : Option Addr) (cap b off : Nat), v = .slice p l.length cap ∧ (l ≠ [] → p = some ⟨b, off, none⟩) ∧ ∀ j x, l[j]? = some x → ∀ i u, (cells x)[i]? = some u → w.cell? ⟨b, off + j * size + i, none⟩ = some u

theorem gcell_lt {w : World} {b o : Nat} {v : Value} (h : w.cell? ⟨b, o, none⟩ = some v) : b < w.heap.size := by
  unfold World.cell? at h
  simp only at h
  split at h
  · next hb => exact lt_of_block hb
  · cases h
theorem gcell_below {w w' : World} {b o : Nat} {v : Value} (k : Below w.heap.size w w') (h : w.cell? ⟨b, o, none⟩ = some v) : w'.cell? ⟨b, o, none⟩ = some v :=
  ((below_cells k).1 b o (gcell_lt h)).trans h

section
variable {α : Type} {size : Nat} {cells : α → List Value}
theorem RowsAt.below {w w' : World} {v : Value} {l : List α} (h : RowsAt size cells w v l) (k : Below w.heap.size w w') : RowsAt size cells w' v l := by
  obtain ⟨p, cap, b, off, hv, hp, hc⟩ := h
  exact ⟨p, cap, b, off, hv, hp, fun j s hj i u hu => gcell_below k (hc j s hj i u hu)⟩
theorem RowsAt.slice {w : World} {v : Value} {l : List α} (h : RowsAt size cells w v l) : ∃ p cap, v = .slice p l.length cap := by
  obtain ⟨p, cap, b, off, hv, _⟩ := h
  exact ⟨p, cap, hv⟩
theorem RowsAt.nil (w : World) : RowsAt size cells w (.slice none 0 0) ([] : List α) := ⟨none, 0, 0, 0, rfl, fun h => absurd rfl h, fun j s hj => by simp at hj⟩

theorem gat_plain {w : World} {b off k : Nat} {spot : Option Nat} {v : Value} (h : w.cell? ((⟨b, off, spot⟩ : Addr).add k) = some v) : w.cell? ⟨b, off + k, none⟩ = some v := by
  have hs := World.cell?_spot h
  unfold Addr.add at h hs
  split at h
  · next h0 =>
    subst h0
    simp at hs
    subst hs
    simpa using h
  · exact h

theorem glist3 {β : Type} (l : List β) (h : l.length = 3) : ∃ x0 x1 x2 : β, l = [x0, x1, x2] := by
  match l, h with
  | [x0, x1, x2], _ => exact ⟨x0, x1, x2, rfl⟩

variable {H : Type} {enc : TypeId × Value → H} {P : Program} {w : World} {base : Nat} {spare : Nat → Bool} {held : Bool}

theorem rows_open {good : α → Prop} {st et : TypeId} (hu : P.underlying st = some (.slice et)) (hz : P.cellsOf et = size) (h0 : 0 < size) (hcl : ∀ a : α, (cells a).length = size)
    (elem : ∀ (fuel : Nat) (cs : List Value) (x : DataW H × List MemPlace), cs.length = size → DataW.trod enc P w base spare held fuel et cs = some x → ∃ a : α, cs = cells a ∧ good a)
    {fuel : Nat} {cs : List Value} {x : DataW H × List MemPlace} (h : DataW.trod enc P w base spare held fuel st cs = some x) :
    ∃ (v : Value) (L : List α), cs = [v] ∧ RowsAt size cells w v L ∧ L.length ≤ maxLen ∧ ∀ r ∈ L, good r := by
  rcases open_slice hu h with ⟨rfl, -⟩ | ⟨a, len, cap, m, n, D, Pl, rfl, -, hl, hm, hmm, -, hi⟩
  · exact ⟨_, [], rfl, RowsAt.nil _, Nat.zero_le _, fun r h => by simp at h⟩
  · obtain ⟨b, off, spot⟩ := a
    have hml : len ≤ m := by rw [hmm]; split <;> omega
    have each : ∀ i, i < len → ∃ r : α, good r ∧ (∀ k u, (cells r)[k]? = some u → w.cell? ⟨b, off + i * size + k, none⟩ = some u) ∧ ∃ v, w.cell? ((⟨b, off, spot⟩ : Addr).add (i * size)) = some v := by
      intro i hil
      obtain ⟨cs', hc, ht⟩ := hi i (by omega)
      rw [hz] at hc
      obtain ⟨-, hcl', hat⟩ := World.cells?_some hc
      obtain ⟨r, rfl, hw⟩ := elem _ _ _ hcl' ht
      refine ⟨r, hw, fun k u hk => ?_, ?_⟩
      · have hk' : k < (cells r).length := (List.getElem?_eq_some_iff.1 hk).1
        have c0 := hat k (by rw [← hcl r]; exact hk')
        rw [Go.Deep.add_add] at c0
        rw [hk] at c0
        rw [Nat.add_assoc]
        exact gat_plain c0
      · have c0 := hat 0 h0
        rw [Go.Deep.add_add] at c0
        rw [Nat.add_zero] at c0
        exact ⟨_, c0.trans (List.getElem?_eq_getElem (by rw [hcl]; exact h0))⟩
    have build : ∀ k, k ≤ len → ∃ L : List α, L.length = k ∧ (∀ r ∈ L, good r) ∧ ∀ j r, L[j]? = some r → ∀ i u, (cells r)[i]? = some u → w.cell? ⟨b, off + j * size + i, none⟩ = some u := by
      intro k
      induction k with
      | zero => intro _; exact ⟨[], rfl, fun r h => by simp at h, fun j r h => by simp at h⟩
      | succ k ih =>
        intro hk
        obtain ⟨L, h1, h2, h3⟩ := ih (by omega)
        obtain ⟨r, r1, r2, -⟩ := each k (by omega)
        refine ⟨L ++ [r], by simp [h1], fun x hx => ?_, fun j x hj => ?_⟩
        · rcases List.mem_append.1 hx with h | h
          · exact h2 x h
          · rw [List.mem_singleton.1 h]; exact r1
        · by_cases hjk : j < L.length
          · rw [List.getElem?_append_left hjk] at hj
            exact h3 j x hj
          · have hj' := (List.getElem?_eq_some_iff.1 hj).1
            simp only [List.length_append, List.length_singleton] at hj'
            obtain rfl : j = k := by omega
            rw [List.getElem?_append_right (by omega), h1, Nat.sub_self] at hj
            obtain rfl : r = x := by simpa using hj
            exact r2
    obtain ⟨L, h1, h2, h3⟩ := build len (Nat.le_refl _)
    refine ⟨_, L, rfl, ⟨some ⟨b, off, spot⟩, cap, b, off, by rw [h1], fun hne => ?_, h3⟩, by omega, h2⟩
    have hl0 : 0 < len := by
      rw [← h1]
      cases L with
      | nil => exact absurd rfl hne
      | cons r L => simp
    obtain ⟨-, -, -, v, hv⟩ := each 0 hl0
    have := World.cell?_spot hv
    have hsp : spot = none := by simpa [Addr.add] using this
    rw [hsp]
end

end Go.Proofs.Ythpafojeadbjlaa
