/-
  Vectors and what ports have heard, plainly: the order, ways, the best, the roles. It speaks of no program.
-/
import Derived.WalkKit
import Derived.Test.YtolmkflhddlcnaaRowHd
namespace Go.Proofs.Ytolmkflhddlcnaa
open Go.RowKit
set_option linter.unusedVariables false
set_option linter.unusedSimpArgs false

/-- cmp.Compare at numbers. -/
def cmpN (a b : Int) : Int := if a < b then -1 else if b < a then 1 else 0
/-- A vector: Root, Cost, Bridge, Port. -/
abbrev V4 := Int × Int × Int × Int
def vV (v : V4) : Value := .agg #[.int .u64 v.1, .int .i64 v.2.1, .int .u64 v.2.2.1, .int .i64 v.2.2.2]
def fst4 (x0 x1 x2 x3 : Int) : Int := if x0 ≠ 0 then x0 else if x1 ≠ 0 then x1 else if x2 ≠ 0 then x2 else x3
/-- Which of two is better. -/
def cmpV (a b : V4) : Int := fst4 (cmpN a.1 b.1) (cmpN a.2.1 b.2.1) (cmpN a.2.2.1 b.2.2.1) (cmpN a.2.2.2 b.2.2.2)
def ownV (b : Int) : V4 := (b, 0, b, 0)
/-- Is a way of cost k from a vector of cost c none? -/
def badW (c k : Int) : Bool := decide (k < 1) || decide (200000000 < k) || decide (c < 0) || decide (4294967295 < c)
def farC (c k : Int) : Int := if c + k ≤ 4294967295 then c + k else 4294967295
def thrV (v : V4) (k : Int) : V4 := (v.1, farC v.2.1 k, v.2.2.1, v.2.2.2)

theorem cmpN_lt {a b : Int} : cmpN a b < 0 ↔ a < b := by unfold cmpN; repeat' split
                                                         all_goals omega
theorem cmpN_eq {a b : Int} : cmpN a b = 0 ↔ a = b := by unfold cmpN; repeat' split
                                                         all_goals omega
theorem cmpN_gt {a b : Int} : 0 < cmpN a b ↔ b < a := by unfold cmpN; repeat' split
                                                         all_goals omega
theorem cmpN_one (a b : Int) : cmpN a b = -1 ∨ cmpN a b = 0 ∨ cmpN a b = 1 := by unfold cmpN; repeat' split
                                                                                 all_goals omega
theorem cmpN_neg (a b : Int) : cmpN b a = - cmpN a b := by unfold cmpN; repeat' split
                                                           all_goals omega

/-- What was heard: Is, Vector, Cost. -/
def vecH (h : Hd) : V4 := (h.2.1, h.2.2.1, h.2.2.2.1, h.2.2.2.2.1)
def costH (h : Hd) : Int := h.2.2.2.2.2
def hdV (h : Hd) : Value := .agg #[.bool h.1, .int .u64 h.2.1, .int .i64 h.2.2.1, .int .u64 h.2.2.2.1, .int .i64 h.2.2.2.2.1, .int .i64 h.2.2.2.2.2]
/-- Does what was heard lead anywhere? -/
def leadB (b : Int) (h : Hd) : Bool := h.1 && decide (h.2.2.2.1 ≠ b) && !badW h.2.2.1 h.2.2.2.2.2
def leadV (h : Hd) : V4 := thrV (vecH h) (costH h)
/-- The best so far: the port and the vector. -/
abbrev Bst := Int × V4
def stepB (b : Int) (i : Int) (h : Hd) (s : Bst) : Bst := if leadB b h && decide (cmpV (leadV h) s.2 < 0) then (i, leadV h) else s
def bestGo (b : Int) : Int → List Hd → Bst → Bst
  | _, [], s => s
  | i, h :: r, s => bestGo b (i + 1) r (stepB b i h s)
def bestL (b : Int) (L : List Hd) : Bst := bestGo b 0 L (-1, ownV b)

theorem bestGo_snoc (b : Int) (h : Hd) : ∀ (L : List Hd) (i : Int) (s : Bst), bestGo b i (L ++ [h]) s = stepB b (i + L.length) h (bestGo b i L s)
  | [], i, s => by simp [bestGo]
  | x :: r, i, s => by
    show bestGo b (i + 1) (r ++ [h]) (stepB b i x s) = _
    rw [bestGo_snoc b h r (i + 1)]
    simp only [bestGo, List.length_cons]
    congr 1
    omega
theorem best_take (b : Int) (L : List Hd) (k : Nat) (h : k < L.length) : bestL b (L.take (k + 1)) = stepB b k L[k] (bestL b (L.take k)) := by
  unfold bestL
  rw [List.take_succ_eq_append_getElem h, bestGo_snoc]
  congr 1
  simp
  omega

/-- A port's role. -/
def roleH (b : Int) (s : Bst) (i : Int) (h : Hd) : Int := if i = s.1 then 1 else if !h.1 || decide (cmpV (s.2.1, s.2.2.1, b, i) (vecH h) ≤ 0) then 2 else 3
def rolesGo (b : Int) (s : Bst) : Int → List Hd → List Int
  | _, [] => []
  | i, h :: r => roleH b s i h :: rolesGo b s (i + 1) r
def rolesL (b : Int) (L : List Hd) : List Int := rolesGo b (bestL b L) 0 L

theorem rolesGo_snoc (b : Int) (s : Bst) (h : Hd) : ∀ (L : List Hd) (i : Int), rolesGo b s i (L ++ [h]) = rolesGo b s i L ++ [roleH b s (i + L.length) h]
  | [], i => by simp [rolesGo]
  | x :: r, i => by
    show roleH b s i x :: rolesGo b s (i + 1) (r ++ [h]) = _
    rw [rolesGo_snoc b s h r (i + 1)]
    simp only [rolesGo, List.length_cons, List.cons_append]
    congr 4
    omega
theorem roles_take (b : Int) (s : Bst) (L : List Hd) (k : Nat) (h : k < L.length) : rolesGo b s 0 (L.take (k + 1)) = rolesGo b s 0 (L.take k) ++ [roleH b s k L[k]] := by
  rw [List.take_succ_eq_append_getElem h, rolesGo_snoc]
  congr 3
  simp
  omega
theorem rolesGo_len (b : Int) (s : Bst) : ∀ (L : List Hd) (i : Int), (rolesGo b s i L).length = L.length
  | [], _ => rfl
  | x :: r, i => by simp [rolesGo, rolesGo_len b s r]

end Go.Proofs.Ytolmkflhddlcnaa
