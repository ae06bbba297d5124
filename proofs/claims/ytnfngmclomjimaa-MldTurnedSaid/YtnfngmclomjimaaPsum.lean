/-
  How the plain sum of a text's words turns where one byte turns; a byte 0 behind an odd text; a byte with one bit turned; '[]byte(s)' and back.
-/
import Derived.Test.YtnfngmclomjimaaFillMath
import Derived.Test.YtnfngmclomjimaaBytesN
namespace Go.Proofs.Ytnfngmclomjimaa
open Go.RowKit

/-- What a byte at a place counts. -/
def wt (p : Nat) : Nat := if p % 2 = 0 then 256 else 1

theorem psum_nil : psum [] = 0 := rfl
theorem psum_one (x : UInt8) : psum [x] = 256 * x.toNat := by simp [psum, wordsL, cntW, wordN, plain, List.range_succ]
theorem psum_cons2 (x y : UInt8) (l : List UInt8) : psum (x :: y :: l) = 256 * x.toNat + y.toNat + psum l := by
  have := psum_append [x, y] l (by simp)
  rw [psum_two] at this
  exact this

theorem psum_set : ∀ (n : Nat) (l : List UInt8) (p : Nat) (v : UInt8), l.length ≤ n → (h : p < l.length) → psum (l.set p v) + wt p * l[p].toNat = psum l + wt p * v.toNat
  | _, [], p, v, _, h => by simp at h
  | _, [x], p, v, _, h => by
    obtain rfl : p = 0 := by simpa using h
    simp [psum_one, wt]; omega
  | n + 2, x :: y :: l, p, v, hn, h => by
    match p, h with
    | 0, _ => simp [psum_cons2, wt]; omega
    | 1, _ => simp [psum_cons2, wt]; omega
    | p + 2, h =>
      have hl : l.length ≤ n := by simp at hn; omega
      have hp : p < l.length := by simp at h; omega
      have ih := psum_set n l p v hl hp
      have hw : wt (p + 2) = wt p := by unfold wt; rw [Nat.add_mod_right]
      simp only [List.set_cons_succ, psum_cons2, hw, List.getElem_cons_succ]
      omega
  | 1, x :: y :: l, p, v, hn, h => by simp at hn
  | 0, x :: y :: l, p, v, hn, h => by simp at hn

/-- Two bytes at places of one kind, changed about. -/
theorem psum_swap (l : List UInt8) (p q : Nat) (hp : p < l.length) (hq : q < l.length) (he : p % 2 = q % 2) :
    psum ((l.set p l[q]).set q l[p]) = psum l := by
  have h1 := psum_set _ l p l[q] (Nat.le_refl _) hp
  have h2 := psum_set _ (l.set p l[q]) q l[p] (Nat.le_refl _) (by simpa using hq)
  have h3 : (l.set p l[q])[q]'(by simpa using hq) = l[q] := by
    rw [List.getElem_set]
    split <;> simp_all
  rw [h3] at h2
  have hw : wt p = wt q := by unfold wt; rw [he]
  rw [hw] at h1
  omega

theorem psum_odd (l : List UInt8) (h : l.length % 2 = 1) : psum (l ++ [0]) = psum l := by
  have hw : wordsL (l ++ [0]) = wordsL l := by
    unfold wordsL
    have hc : cntW (l ++ [0]) = cntW l := by unfold cntW; rw [List.length_append, List.length_singleton]; omega
    rw [hc]
    apply List.map_congr_left
    intro j _
    have hg : ∀ i, (l ++ [0]).getD i 0 = l.getD i 0 := fun i => by
      by_cases hi : i < l.length
      · exact getD_append_left _ _ _ hi
      · rw [getD_append_right _ _ _ (by omega)]
        have h1 : l.getD i 0 = 0 := by simp [List.getD, List.getElem?_eq_none (show l.length ≤ i by omega)]
        rw [h1]
        cases i - l.length with
        | zero => rfl
        | succ m => simp [List.getD]
    unfold wordN
    rw [hg, hg]
  unfold psum; rw [hw]

theorem sumN_congr {a b : List UInt8} (h : psum a = psum b) : sumN a = sumN b := by rw [sumN_psum, sumN_psum, h]

/-- One bit of a byte, turned. -/
theorem xor_bit : ∀ (v : Fin 256) (m : Fin 8), (v.val ^^^ 2 ^ m.val < 256) ∧ (v.val ^^^ 2 ^ m.val = v.val + 2 ^ m.val ∨ (v.val ^^^ 2 ^ m.val) + 2 ^ m.val = v.val) := by decide +kernel

theorem sumN_turn (l : List UInt8) (p m : Nat) (hp : p < l.length) (hm : m < 8) (v : UInt8) (hv : v.toNat = l[p].toNat ^^^ 2 ^ m) : sumN l % 65535 ≠ sumN (l.set p v) % 65535 := by
  have h1 := psum_set _ l p v (Nat.le_refl _) hp
  have hx := xor_bit ⟨l[p].toNat, l[p].toNat_lt⟩ ⟨m, hm⟩
  simp only at hx
  rw [← hv] at hx
  have h2 : 2 ^ m = 1 ∨ 2 ^ m = 2 ∨ 2 ^ m = 4 ∨ 2 ^ m = 8 ∨ 2 ^ m = 16 ∨ 2 ^ m = 32 ∨ 2 ^ m = 64 ∨ 2 ^ m = 128 := by
    have : m = 0 ∨ m = 1 ∨ m = 2 ∨ m = 3 ∨ m = 4 ∨ m = 5 ∨ m = 6 ∨ m = 7 := by omega
    rcases this with rfl | rfl | rfl | rfl | rfl | rfl | rfl | rfl <;> simp
  rw [sumN_psum, sumN_psum]
  generalize psum l = a at *
  generalize psum (l.set p v) = b at *
  generalize l[p].toNat = x at *
  generalize v.toNat = y at *
  generalize 2 ^ m = c at *
  unfold wt at h1
  split at h1 <;> (split <;> (try split) <;> (try split) <;> (try split) <;> omega)

end Go.Proofs.Ytnfngmclomjimaa
