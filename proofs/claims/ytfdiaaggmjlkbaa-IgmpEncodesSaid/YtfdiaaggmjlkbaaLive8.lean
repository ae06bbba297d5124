/-
  The statement's own samples of layer 8 come out true: siphonlaw08.live returns true.
-/
import Derived.Test.YtfdiaaggmjlkbaaIgXY
import Derived.Test.YtfdiaaggmjlkbaaIgG
namespace Go.Proofs.Ytfdiaaggmjlkbaa
open Go.RowKit
set_option linter.unusedVariables false

def lvG : ByteArray := ⟨#[224, 1, 2, 3]⟩
def lvS : ByteArray := ⟨#[23, 0, 6, 251, 224, 1, 2, 3]⟩
def lvT : ByteArray := ⟨#[23, 0, 6, 251, 224, 1, 2, 4]⟩

theorem lv_fill : (fillSpec ⟨#[]⟩ ⟨(oneL 23 lvG).toArray⟩ 2).1 = lvS := by decide +kernel
theorem lv_dec : decM lvS = (0, ⟨3, 2, lvG, 0, false, 0, 0, [], []⟩) := by kernel_rfl
theorem lv_bad : decM lvT = (4, zeroM) := by kernel_rfl

theorem lv1 (w : World) : Calls Try.prog 7 #[.agg #[.int .i64 3, .int .i64 2, .string lvG, .int .i64 0, .bool false, .int .i64 0, .int .i64 0, .slice none 0 0, .slice none 0 0]] w fun e w' => e = .returned (.tuple #[.string lvS, .int .i64 0]) ∧ Below w.heap.size w w' := by
  have h := ienc_one 3 2 lvG 0 false 0 0 none 0 0 none 0 0 23 w (by decide) (by decide) (by decide) (by decide +kernel) rfl (by decide) rfl
  rw [lv_fill] at h
  exact h
theorem lv2 (w : World) : Calls Try.prog 10 #[.string lvS] w fun e w' => ∃ p n c p' n' c', e = .returned (.tuple #[.agg #[.int .i64 3, .int .i64 2, .string lvG, .int .i64 0, .bool false, .int .i64 0, .int .i64 0, .slice p n c, .slice p' n' c'], .int .i64 0]) ∧ Below w.heap.size w w' := by
  refine (decode_c lvS w (by decide)).mono ?_
  rintro e w' ⟨vs, vr, he, h1, h2, h3⟩
  rw [lv_dec] at he h1 h2
  obtain ⟨p, c, rfl⟩ := h1.slice
  obtain ⟨p', c', rfl⟩ := h2.slice
  exact ⟨_, _, _, _, _, _, he, h3⟩
theorem lv3 (w : World) : Calls Try.prog 10 #[.string lvT] w fun e w' => ∃ p n c p' n' c', e = .returned (.tuple #[.agg #[.int .i64 0, .int .i64 0, .string ⟨#[]⟩, .int .i64 0, .bool false, .int .i64 0, .int .i64 0, .slice p n c, .slice p' n' c'], .int .i64 4]) ∧ Below w.heap.size w w' := by
  refine (decode_c lvT w (by decide)).mono ?_
  rintro e w' ⟨vs, vr, he, h1, h2, h3⟩
  rw [lv_bad] at he h1 h2
  obtain ⟨p, c, rfl⟩ := h1.slice
  obtain ⟨p', c', rfl⟩ := h2.slice
  exact ⟨_, _, _, _, _, _, he, h3⟩
theorem lv4 (w : World) : Calls Try.prog 7 #[.agg #[.int .i64 0, .int .i64 0, .string ⟨#[]⟩, .int .i64 0, .bool false, .int .i64 0, .int .i64 0, .slice none 0 0, .slice none 0 0]] w fun e w' => e = .returned (.tuple #[.string ⟨#[]⟩, .int .i64 1]) ∧ Below w.heap.size w w' :=
  ienc_no 0 0 ⟨#[]⟩ 0 false 0 0 none 0 0 none 0 0 w fun U => may_none 0 0 ⟨#[]⟩ 0 false 0 0 none 0 0 none 0 0 U (by decide) (by decide) (by decide)

set_option maxHeartbeats 1000000 in
set_option maxRecDepth 100000 in
theorem live8_c (w : World) : Calls Try.prog 5 #[] w fun e w' => e = .returned (.bool true) ∧ Below w.heap.size w w' := by
  have h1 := Lib.hid lv1
  have h2 := Lib.hid lv2
  have h3 := Lib.hid lv3
  have h4 := Lib.hid lv4
  have t1 : (lvS.toList == [23, 0, 6, 251, 224, 1, 2, 3]) = true := by decide +kernel
  have t2 : (lvG.toList == [224, 1, 2, 3]) = true := by decide +kernel
  go_enter Try.func5, Try.ntmps5
  go_wp2_with fail
  refine (h1.out _).mono ?_
  rintro e w1 ⟨rfl, b1⟩
  go_wp2_with fail
  refine (h2.out _).mono ?_
  rintro e w2 ⟨p, n, c, p', n', c', rfl, b2⟩
  have D2 := Lib.hid (b1.trans (b2.mono b1.size))
  clear b1 b2
  go_wp2_with fail
  have B := Lib.hid (Box.start w2 #[.int .i64 3, .int .i64 2, .string lvG, .int .i64 0, .bool false, .int .i64 0, .int .i64 0, .slice p n c, .slice p' n' c'] 26)
  refine (h3.out _).mono ?_
  rintro e w3 ⟨q, k, d, q', k', d', rfl, b3⟩
  replace B := Lib.hid (B.out.below b3)
  clear b3
  go_wp2_with fail
  refine (h4.out _).mono ?_
  rintro e w4 ⟨rfl, b4⟩
  replace B := Lib.hid (B.out.below (vboxed b4))
  clear b4
  have c0 := B.out.cell 0 rfl
  have c2 := B.out.cell 2 rfl
  go_wp2_with fail
  go_ret
  exact ⟨rfl, D2.out.trans (B.out.2.mono D2.out.size)⟩

end Go.Proofs.Ytfdiaaggmjlkbaa
