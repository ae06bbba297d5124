/-
  Where a group's frames go, and which frames go to many, the document's answers.
-/
import Derived.Test.YtniahpbjfpmmhaaGreatEthD
namespace Go.Proofs.YtniahpbjfpmmhaaGreat
open Go.RowKit
set_option linter.unusedVariables false
set_option linter.unusedSimpArgs false

theorem ret_bt {a b : ByteArray} {v : Value} (h : a = b) : Ending.returned (.tuple #[.string a, v]) = .returned (.tuple #[.string b, v]) := by rw [h]

set_option maxHeartbeats 1000000 in
set_option maxRecDepth 100000 in
theorem isgrp_yes (s : ByteArray) (w : World) (h : (s.size = 4 ∧ 224 ≤ (byteAt s 0).toNat ∧ (byteAt s 0).toNat ≤ 239) ∨ (s.size = 16 ∧ (byteAt s 0).toNat = 255)) :
    Calls Tryz.prog 63 #[.string s] w fun e w' => e = .returned (.bool true) ∧ w = w' := by
  have k0 : 0 < s.size := by omega
  have e0 : s[0] = byteAt s 0 := byteAt_get s 0 k0
  have u1 : (0 : Int) < (s.size : Int) := by omega
  rcases h with ⟨h4, h0, h1⟩ | ⟨h16, h0⟩
  · obtain ⟨q1, q2⟩ := eq_t (show (s.size : Int) = 4 by omega)
    have j0 : (224 : Int) ≤ (s[0].toNat : Int) := by rw [e0]; omega
    have j1 : (s[0].toNat : Int) ≤ 239 := by rw [e0]; omega
    clear h4 h0 h1 e0
    go_enter Tryz.func63, Tryz.ntmps63
    go_wp2_with fail
    go_ret
    exact ⟨rfl, rfl⟩
  · obtain ⟨q1, q2⟩ := ne_t (show (s.size : Int) ≠ 4 by omega)
    obtain ⟨r1, r2⟩ := eq_t (show (s.size : Int) = 16 by omega)
    obtain ⟨p1, p2⟩ := eq_t (show (s[0].toNat : Int) = 255 by rw [e0]; omega)
    clear h16 h0 e0
    go_enter Tryz.func63, Tryz.ntmps63
    go_wp2_with fail
    go_ret
    exact ⟨rfl, rfl⟩

set_option maxHeartbeats 1000000 in
set_option maxRecDepth 100000 in
theorem isgrp_no (s : ByteArray) (w : World) (n4 : ¬ (s.size = 4 ∧ 224 ≤ (byteAt s 0).toNat ∧ (byteAt s 0).toNat ≤ 239)) (n16 : ¬ (s.size = 16 ∧ (byteAt s 0).toNat = 255)) :
    Calls Tryz.prog 63 #[.string s] w fun e w' => e = .returned (.bool false) ∧ w = w' := by
  by_cases h4 : s.size = 4
  · have k0 : 0 < s.size := by omega
    have e0 : s[0] = byteAt s 0 := byteAt_get s 0 k0
    obtain ⟨q1, q2⟩ := eq_t (show (s.size : Int) = 4 by omega)
    have u1 : (0 : Int) < (s.size : Int) := by omega
    by_cases hlo : (s[0].toNat : Int) < 224
    · clear n4 n16 h4 e0
      go_enter Tryz.func63, Tryz.ntmps63
      go_wp2_with fail
      go_ret
      exact ⟨rfl, rfl⟩
    · have hlo' : (224 : Int) ≤ (s[0].toNat : Int) := by omega
      have hhi : (239 : Int) < (s[0].toNat : Int) := by rw [e0] at hlo' ⊢; omega
      have hd : decide ((s[0].toNat : Int) ≤ 239) = false := decide_eq_false (by omega)
      clear n4 n16 h4 e0 hlo
      go_enter Tryz.func63, Tryz.ntmps63
      go_wp2_with fail
      go_ret
      exact ⟨rfl, rfl⟩
  · obtain ⟨q1, q2⟩ := ne_t (show (s.size : Int) ≠ 4 by omega)
    by_cases h16 : s.size = 16
    · have k0 : 0 < s.size := by omega
      have e0 : s[0] = byteAt s 0 := byteAt_get s 0 k0
      obtain ⟨r1, r2⟩ := eq_t (show (s.size : Int) = 16 by omega)
      have u1 : (0 : Int) < (s.size : Int) := by omega
      obtain ⟨p1, p2⟩ := ne_t (show (s[0].toNat : Int) ≠ 255 by rw [e0]; omega)
      clear n4 n16 h4 h16 e0
      go_enter Tryz.func63, Tryz.ntmps63
      go_wp2_with fail
      go_ret
      exact ⟨rfl, rfl⟩
    · obtain ⟨r1, r2⟩ := ne_t (show (s.size : Int) ≠ 16 by omega)
      clear n4 n16 h4 h16
      go_enter Tryz.func63, Tryz.ntmps63
      go_wp2_with fail
      go_ret
      exact ⟨rfl, rfl⟩

theorem grp4_bytes (s : ByteArray) (h4 : s.size = 4) :
    (⟨#[1, 0, 94]⟩ ++ ⟨#[UInt8.ofNat ((byteAt s 1).toNat % 128)]⟩ ++ s.extract 2 s.size : ByteArray) = ⟨#[1, 0, 94, UInt8.ofNat ((byteAt s 1).toNat % 128), byteAt s 2, byteAt s 3]⟩ := by
  rw [h4]
  obtain ⟨⟨l⟩⟩ := s
  match l, h4 with
  | [b0, b1, b2, b3], _ =>
    apply ByteArray.ext
    simp [ByteArray.data_append, ByteArray.data_extract, byteAt]

end Go.Proofs.YtniahpbjfpmmhaaGreat
