/-
  The samples of layer 20 (siphonlaw20.live). A contract over the translated program.
-/
import Derived.Test.YtlpcndmblnpjmaaDoorQrA
namespace Go.Proofs.YtlpcndmblnpjmaaDoor
open Go Go.RowKit
set_option linter.unusedVariables false
set_option linter.unusedSimpArgs false

theorem Tw.bel {w a b : World} {q : Nat} (h : Below w.heap.size w a) (hq : w.heap.size ≤ q) (k : Tw a b q q) : Below w.heap.size w b :=
  h.trans (k.below hq hq h.size)

set_option maxHeartbeats 2000000 in
set_option maxRecDepth 100000 in
theorem live20_c (w : World) : Calls Tryd.prog 8 #[] w fun e w' => e = .returned (.bool true) ∧ Below w.heap.size w w' := by
  have N1 := Lib.hid fun U => new_ok ⟨#[10, 0, 0, 2]⟩ 100 2 U (by decide) (by decide) (by decide) (by decide) (by decide)
  have N2 := Lib.hid fun U => new_no ⟨#[97, 98, 99]⟩ 100 2 U (by decide)
  go_enter Tryd.func8, Tryd.ntmps8
  go_wp2_with fail
  ((with_reducible refine (N1.out _).mono ?_); rintro e w1 ⟨q, rfl, hq, h1, b1⟩)
  have HQ := Lib.hid hq
  have H1 := Lib.hid h1
  have B1 := Lib.hid b1
  clear hq h1 b1
  go_wp2_with fail
  ((with_reducible refine (N2.out _).mono ?_); rintro e w2 ⟨rfl, rfl⟩)
  have C1 := Lib.hid (tick_yes H1.out 0 (by decide) (by decide) (by decide) (by decide) (by decide) (by decide) (by decide))
  go_wp2_with fail
  ((with_reducible refine C1.out.mono ?_); rintro e w3 ⟨rfl, h3, k3⟩)
  have H3 := Lib.hid (show HasQ w3 q ⟨#[10, 0, 0, 2]⟩ 100 2 0 25 1 from h3)
  have B3 := Lib.hid (Tw.bel B1.out HQ.out k3)
  clear h3 k3 C1 H1 B1
  have C2 := Lib.hid (tick_wait H3.out 24 (by decide) (by decide) (by decide))
  go_wp2_with fail
  ((with_reducible refine C2.out.mono ?_); rintro e w4 ⟨rfl, rfl⟩)
  have C3 := Lib.hid (tick_yes H3.out 25 (by decide) (by decide) (by decide) (by decide) (by decide) (by decide) (by decide))
  go_wp2_with fail
  ((with_reducible refine C3.out.mono ?_); rintro e w5 ⟨rfl, h5, k5⟩)
  have H5 := Lib.hid (show HasQ w5 q ⟨#[10, 0, 0, 2]⟩ 100 2 0 125 2 from h5)
  have B5 := Lib.hid (Tw.bel B3.out HQ.out k5)
  clear h5 k5 C2 C3 H3 B3
  have C4 := Lib.hid (tick_wait H5.out 124 (by decide) (by decide) (by decide))
  go_wp2_with fail
  ((with_reducible refine C4.out.mono ?_); rintro e w6 ⟨rfl, rfl⟩)
  have C5 := Lib.hid (tick_yes H5.out 125 (by decide) (by decide) (by decide) (by decide) (by decide) (by decide) (by decide))
  go_wp2_with fail
  ((with_reducible refine C5.out.mono ?_); rintro e w7 ⟨rfl, h7, k7⟩)
  have H7 := Lib.hid (show HasQ w7 q ⟨#[10, 0, 0, 2]⟩ 100 2 0 225 3 from h7)
  have B7 := Lib.hid (Tw.bel B5.out HQ.out k7)
  clear h7 k7 C4 C5 H5 B5
  have C6 := Lib.hid (hear_yes H7.out ⟨#[10, 0, 0, 1]⟩ (by decide) 130 (by decide +kernel) (by decide) (by decide) (by decide) (by decide))
  go_wp2_with fail
  ((with_reducible refine C6.out.mono ?_); rintro e w8 ⟨rfl, h8, k8⟩)
  have H8 := Lib.hid (show HasQ w8 q ⟨#[10, 0, 0, 2]⟩ 100 2 335 225 3 from h8)
  have B8 := Lib.hid (Tw.bel B7.out HQ.out k8)
  clear h8 k8 C6 H7 B7
  have D1 := is_c H8.out 334
  rw [show isB ⟨#[10, 0, 0, 2]⟩ 335 334 = false from by decide] at D1
  have D2 := is_c H8.out 335
  rw [show isB ⟨#[10, 0, 0, 2]⟩ 335 335 = true from by decide] at D2
  replace D1 := Lib.hid D1
  replace D2 := Lib.hid D2
  go_wp2_with fail
  ((with_reducible refine D1.out.mono ?_); rintro e w9 ⟨rfl, rfl⟩)
  go_wp2_with fail
  ((with_reducible refine D2.out.mono ?_); rintro e w9 ⟨rfl, rfl⟩)
  go_wp2_with fail
  go_ret
  exact ⟨rfl, B8.out⟩
end Go.Proofs.YtlpcndmblnpjmaaDoor
