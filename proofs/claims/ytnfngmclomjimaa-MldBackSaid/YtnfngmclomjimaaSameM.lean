/-
  siphonref08.Same of two messages that hold the same.
-/
import Derived.Test.YtnfngmclomjimaaSameA
namespace Go.Proofs.Ytnfngmclomjimaa
open Go.RowKit
set_option linter.unusedVariables false

set_option maxHeartbeats 1000000 in
set_option maxRecDepth 100000 in
theorem sameM_c (m : Msg) (vs1 vr1 vs2 vr2 : Value) (w : World) (hl : m.srcs.length ≤ 9223372036854775807) (hL : m.recs.length ≤ 9223372036854775807) (hs : ∀ r ∈ m.recs, r.srcs.length ≤ 9223372036854775807)
    (a1 : AddrsAt w vs1 m.srcs) (r1 : RecsAt w vr1 m.recs) (a2 : AddrsAt w vs2 m.srcs) (r2 : RecsAt w vr2 m.recs) :
    Calls Try.prog 10 #[m.val vs1 vr1, m.val vs2 vr2] w fun e w' => e = .returned (.bool true) ∧ Below w.heap.size w w' := by
  obtain ⟨k, ver, g, mx, q, rob, ev, ss, rs⟩ := m
  unfold Msg.val
  simp only at *
  have b : ∀ o p, Below w.heap.size w ((w.alloc o).alloc p) := fun o p => ((Below.refl _ w).alloc (Nat.le_refl _) o).alloc (by simp) p
  have HA := Lib.hid fun o p => sameA_c vs1 vs2 ss ((w.alloc o).alloc p) hl (a1.below (b o p)) (a2.below (b o p))
  have HR := Lib.hid fun o p n => sameR_c vr1 vr2 rs (((w.alloc o).alloc p).drewN n) hL hs ((r1.below (b o p)).drewN n) ((r2.below (b o p)).drewN n)
  have HB := Lib.hid b
  clear b a1 r1 a2 r2 hl hL hs
  go_enter Try.func10, Try.ntmps10
  go_wp2_with fail
  refine (HA.out _ _).mono ?_
  rintro e w1 ⟨rfl, n1, rfl⟩
  go_wp2_with fail
  refine (HR.out _ _ _).mono ?_
  rintro e w1 ⟨rfl, n2, rfl⟩
  go_wp2_with fail
  go_ret
  exact ⟨rfl, below_drewN (HB.out _ _) _⟩

end Go.Proofs.Ytnfngmclomjimaa
