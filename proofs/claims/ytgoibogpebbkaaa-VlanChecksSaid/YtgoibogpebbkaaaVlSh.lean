/-
  slices.BinarySearch at []int, by the shelf's contract.
-/
import Derived.Test.YtgoibogpebbkaaaProg
import Derived.Test.YtgoibogpebbkaaaMemI
import Derived.Shelf.Slices.SearchI
import Derived.Shelf.Slices.Empties
import Derived.Ground.Names2Prog
namespace Go.Proofs.Ytgoibogpebbkaaa
open Go.Shelf Go.RowKit
set_option linter.unusedVariables false

def lay_laysNm225_ren : Go.Shelf.Ren := ⟨fun | 25 => 30 | 31 => 34 | 32 => 35 | 37 => 42 | n => n, fun | 22 => 25 | 3 => 3 | 4 => 4 | 40 => 52 | 0 => 0 | n => n, fun | n => n⟩

theorem lay_laysNm225 : Go.Proofs.Lays2.n25 Try.prog lay_laysNm225_ren := {
  mixed := by kernel_rfl
  f25 := Try.func30.trans (congrArg some (by kernel_rfl))
  f31 := Try.func34.trans (congrArg some (by kernel_rfl))
  f32 := Try.func35.trans (congrArg some (by kernel_rfl))
  f37 := Try.func42.trans (congrArg some (by kernel_rfl))
  t0 := Try.underlying0
  a0 := Try.isAgg0
  z0 := Try.sizeOf0
  v0 := Try.zeroValue0
  t3 := Try.underlying3
  a3 := Try.isAgg3
  z3 := Try.sizeOf3
  v3 := Try.zeroValue3
  t4 := Try.underlying4
  a4 := Try.isAgg4
  z4 := Try.sizeOf4
  v4 := Try.zeroValue4
  t22 := Try.underlying25
  a22 := Try.isAgg25
  z22 := Try.sizeOf25
  v22 := Try.zeroValue25
  t40 := Try.underlying52
  a40 := Try.isAgg52
  z40 := Try.sizeOf52
  v40 := Try.zeroValue52 }

def FndPost (b : Bool) (w : World) (e : Ending) (w' : World) : Prop := ∃ i : Int, e = .returned (.tuple #[.int .i64 i, .bool b]) ∧ ∃ n, w' = w.drewN n

/-- slices.BinarySearch of a list that rises. -/
theorem bsearch_c (u : Value) (l : List Int) (v : Int) (w : World) (hl : l.length < 4611686018427387904) (ha : IntsAt w u l) (hs : l.Pairwise (· < ·)) :
    Calls Try.prog 30 #[u, .int .i64 v] w (FndPost (hasB l v) w) := by
  obtain ⟨p, cap, b, off, rfl, hp, hc⟩ := ha
  by_cases hne : l = []
  · subst hne
    refine (Any.slices_BinarySearch_int_empty lay_laysNm225 p cap v w).mono fun e w' h => ⟨0, h.1, 0, h.2⟩
  · obtain rfl := hp hne
    have ht : l.take l.length = l := List.take_length
    refine (Any.slices_BinarySearch_int lay_laysNm225 b off l.length cap l v w (Nat.le_refl _) hl (fun j hj => ?_) (by rw [ht]; exact hs.imp (fun h => Int.le_of_lt h))).mono fun e w' h => ?_
    · have := hc j _ (List.getElem?_eq_getElem hj)
      rw [this]
      simp [List.getD, hj]
    · obtain ⟨h1, q, h2⟩ := h
      rw [ht] at h1
      have : l.contains v = hasB l v := by
        rw [Bool.eq_iff_iff, hasB_iff]
        simp
      rw [this] at h1
      exact ⟨_, h1, q, h2⟩

end Go.Proofs.Ytgoibogpebbkaaa
