/-
  Plain lemmas on the Internet's sums: words of a text, ones' addition. No program is imported.
-/
import Derived.Test.YtniahpbjfpmmhaaGreatOctMath
namespace Go.Proofs.YtniahpbjfpmmhaaGreat

/-- Ones' addition of two words. -/
def addc (a b : Nat) : Nat := if 65535 < a + b then a + b - 65535 else a + b

theorem addc_le (a b : Nat) (ha : a ≤ 65535) (hb : b ≤ 65535) : addc a b ≤ 65535 := by unfold addc; split <;> omega

/-- The word at a place; a byte that is not there counts as 0. -/
def wordN (l : List UInt8) (i : Nat) : Nat := 256 * (l.getD i 0).toNat + (l.getD (i + 1) 0).toNat

theorem wordN_le (l : List UInt8) (i : Nat) : wordN l i ≤ 65535 := by
  unfold wordN
  have h1 := (l.getD i 0).toNat_lt
  have h2 := (l.getD (i + 1) 0).toNat_lt
  omega

/-- How many words a text has; all of them. -/
def cntW (l : List UInt8) : Nat := (l.length + 1) / 2
def wordsL (l : List UInt8) : List Nat := (List.range (cntW l)).map fun j => wordN l (2 * j)

/-- All words by ones' addition. -/
def tot (ws : List Nat) : Nat := ws.foldl addc 0

theorem tot_nil : tot [] = 0 := rfl
theorem tot_snoc (ws : List Nat) (x : Nat) : tot (ws ++ [x]) = addc (tot ws) x := by simp [tot]

theorem tot_le (ws : List Nat) (h : ∀ x ∈ ws, x ≤ 65535) : tot ws ≤ 65535 := by
  revert h
  refine snoc_ind (P := fun ws => (∀ x ∈ ws, x ≤ 65535) → tot ws ≤ 65535) ?_ ?_ ws
  · intro _; simp [tot]
  · intro l a ih h
    rw [tot_snoc]
    exact addc_le _ _ (ih fun x hx => h x (List.mem_append.2 (.inl hx))) (h a (by simp))

/-- What a Sum answers. -/
def sumN (l : List UInt8) : Nat := 65535 - tot (wordsL l)

theorem wordsL_le (l : List UInt8) : ∀ x ∈ wordsL l, x ≤ 65535 := by
  intro x hx
  obtain ⟨j, _, rfl⟩ := List.mem_map.1 hx
  exact wordN_le _ _

theorem wordsL_length (l : List UInt8) : (wordsL l).length = cntW l := by simp [wordsL]

theorem wordsL_take_succ (l : List UInt8) (k : Nat) (h : k < cntW l) : (wordsL l).take (k + 1) = (wordsL l).take k ++ [wordN l (2 * k)] := by
  rw [List.take_succ_eq_append_getElem (by rw [wordsL_length]; exact h)]
  simp [wordsL]

theorem tot_take_le (l : List UInt8) (k : Nat) : tot ((wordsL l).take k) ≤ 65535 :=
  tot_le _ fun x hx => wordsL_le l x (List.mem_of_mem_take hx)

end Go.Proofs.YtniahpbjfpmmhaaGreat
