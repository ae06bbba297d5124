/-
  Groups' addresses: ether.Group, ether.Many and the document's answers are the same.
-/
import Derived.Test.YthpafojeadbjlaaEthB
import Derived.RegionTactic
namespace Go.Proofs.Ythpafojeadbjlaa
open Go.RowKit
set_option linter.unusedVariables false

/-- Byte j of s, or 0. -/
def byteAt (s : ByteArray) (j : Nat) : UInt8 := s.data.toList.getD j 0

theorem byteAt_get (s : ByteArray) (j : Nat) (h : j < s.size) : s[j] = byteAt s j := by
  unfold byteAt
  rw [getD_at _ _ _ (by simpa using h)]
  simp; rfl

/-- What Group answers. -/
def grpSpec (a : ByteArray) : ByteArray × Int :=
  if a.size = 4 ∧ 224 ≤ (byteAt a 0).toNat ∧ (byteAt a 0).toNat ≤ 239 then (⟨#[1, 0, 94, UInt8.ofNat ((byteAt a 1).toNat % 128), byteAt a 2, byteAt a 3]⟩, 0)
  else if a.size = 16 ∧ (byteAt a 0).toNat = 255 then (⟨#[51, 51]⟩ ++ a.extract 12 16, 0) else (⟨#[]⟩, 1)

def manyB (m : ByteArray) : Bool := decide (m.size = 6 ∧ (byteAt m 0).toNat % 2 = 1)

theorem and127 (b : UInt8) : bits .and .u8 (b.toNat : Int) 127 = ((UInt8.ofNat (b.toNat % 128)).toNat : Int) := by
  have h := u8_and_nat b.toNat 127 b.toNat_lt (by omega)
  rw [nat_mask7] at h
  rw [UInt8.toNat_ofNat', Nat.mod_eq_of_lt (a := b.toNat % 128) (by omega)]
  exact h
theorem mod128 (b : UInt8) : (b.toNat : Int) % 128 = ((UInt8.ofNat (b.toNat % 128)).toNat : Int) := by
  rw [UInt8.toNat_ofNat', Nat.mod_eq_of_lt (a := b.toNat % 128) (by omega)]
  omega

set_option maxHeartbeats 1000000 in
set_option maxRecDepth 100000 in
theorem grp4_yes (s : ByteArray) (w : World) (h4 : s.size = 4) (h0 : 224 ≤ (byteAt s 0).toNat) (h1 : (byteAt s 0).toNat ≤ 239) :
    Calls Try.prog 57 #[.string s] w fun e w' => e = .returned (.tuple #[.string ⟨#[1, 0, 94, UInt8.ofNat ((byteAt s 1).toNat % 128), byteAt s 2, byteAt s 3]⟩, .int .i64 0]) ∧ Below w.heap.size w w' := by
  have k0 : 0 < s.size := by omega
  have k1 : 1 < s.size := by omega
  have k2 : 2 < s.size := by omega
  have k3 : 3 < s.size := by omega
  have hcv : (convert 110 96 (.slice (some ⟨w.heap.size, 0, none⟩) 6 6)).run Try.prog ((w.alloc (.cells #[.int .u8 1, .int .u8 0, .int .u8 94, .int .u8 (bits .and .u8 (s[1].toNat : Int) 127), .int .u8 (s[2].toNat : Int), .int .u8 (s[3].toNat : Int)] 5)).drew)
      = .ok (.string ⟨#[1, 0, 94, UInt8.ofNat ((byteAt s 1).toNat % 128), byteAt s 2, byteAt s 3]⟩) ((w.alloc (.cells #[.int .u8 1, .int .u8 0, .int .u8 94, .int .u8 (bits .and .u8 (s[1].toNat : Int) 127), .int .u8 (s[2].toNat : Int), .int .u8 (s[3].toNat : Int)] 5)).drew) := by
    refine run_string_of_row (l := [1, 0, 94, UInt8.ofNat ((byteAt s 1).toNat % 128), byteAt s 2, byteAt s 3]) (t := 5) (f := (0, 0)) 110 96 5 ?_ Try.underlying110 Try.underlying5 Try.underlying96 6 rfl
    have e : #[Value.int .u8 1, .int .u8 0, .int .u8 94, .int .u8 (bits .and .u8 (s[1].toNat : Int) 127), .int .u8 (s[2].toNat : Int), .int .u8 (s[3].toNat : Int)] = byteRow [1, 0, 94, UInt8.ofNat ((byteAt s 1).toNat % 128), byteAt s 2, byteAt s 3] := by
      rw [and127, byteAt_get s 1 k1, byteAt_get s 2 k2, byteAt_get s 3 k3]
      rfl
    rw [← e]
    exact heap_new w _
  have e0 : s[0] = byteAt s 0 := byteAt_get s 0 k0
  have j0 : (224 : Int) ≤ (s[0].toNat : Int) := by rw [e0]; omega
  have j1 : (s[0].toNat : Int) ≤ 239 := by rw [e0]; omega
  have j2 : (s.size : Int) = 4 := by omega
  obtain ⟨q1, q2⟩ := eq_t j2
  have u1 : (1 : Int) < (s.size : Int) := by omega
  have u2 : (2 : Int) < (s.size : Int) := by omega
  have u3 : (3 : Int) < (s.size : Int) := by omega
  clear j2 e0 h0 h1 h4
  go_enter Try.func57, Try.ntmps57
  go_wp2_with fail
  go_region
  all_goals
    go_wp2
    go_ret2
    exact ⟨rfl, ((Below.refl _ w).alloc (Nat.le_refl _) _).drew⟩

set_option maxHeartbeats 1000000 in
set_option maxRecDepth 100000 in
theorem grp16_yes (s : ByteArray) (w : World) (h4 : s.size = 16) (h0 : (byteAt s 0).toNat = 255) :
    Calls Try.prog 57 #[.string s] w fun e w' => e = .returned (.tuple #[.string (⟨#[51, 51]⟩ ++ s.extract 12 16), .int .i64 0]) ∧ Below w.heap.size w w' := by
  have k0 : 0 < s.size := by omega
  have e0 : s[0] = byteAt s 0 := byteAt_get s 0 k0
  obtain ⟨p1, p2⟩ := eq_t (show (s[0].toNat : Int) = 255 by rw [e0]; omega)
  obtain ⟨q1, q2⟩ := eq_t (show (s.size : Int) = 16 by omega)
  obtain ⟨r1, r2⟩ := ne_t (show (s.size : Int) ≠ 4 by omega)
  have u1 : (0 : Int) < (s.size : Int) := by omega
  have u2 : (12 : Int) ≤ (s.size : Int) := by omega
  have u3 : s.size ≤ 16 := by omega
  have E := Lib.hid (show s.extract 12 s.size = s.extract 12 16 by rw [h4])
  clear e0 h0 h4
  go_enter Try.func57, Try.ntmps57
  go_wp2_with fail
  go_ret2
  exact ⟨by rw [← E.out]; rfl, Below.refl _ _⟩

set_option maxHeartbeats 1000000 in
set_option maxRecDepth 100000 in
theorem grp_no (s : ByteArray) (w : World) (n4 : ¬ (s.size = 4 ∧ 224 ≤ (byteAt s 0).toNat ∧ (byteAt s 0).toNat ≤ 239)) (n16 : ¬ (s.size = 16 ∧ (byteAt s 0).toNat = 255)) :
    Calls Try.prog 57 #[.string s] w fun e w' => e = .returned (.tuple #[.string ⟨#[]⟩, .int .i64 1]) ∧ Below w.heap.size w w' := by
  by_cases h4 : s.size = 4
  · have k0 : 0 < s.size := by omega
    have e0 : s[0] = byteAt s 0 := byteAt_get s 0 k0
    obtain ⟨q1, q2⟩ := eq_t (show (s.size : Int) = 4 by omega)
    obtain ⟨r1, r2⟩ := ne_t (show (s.size : Int) ≠ 16 by omega)
    have u1 : (0 : Int) < (s.size : Int) := by omega
    by_cases hlo : (s[0].toNat : Int) < 224
    · clear n4 n16 h4 e0
      go_enter Try.func57, Try.ntmps57
      go_wp2_with fail
      go_ret2
      exact ⟨rfl, Below.refl _ _⟩
    · have hlo' : (224 : Int) ≤ (s[0].toNat : Int) := by omega
      have hhi : (239 : Int) < (s[0].toNat : Int) := by rw [e0] at hlo' ⊢; omega
      clear n4 n16 h4 e0 hlo
      go_enter Try.func57, Try.ntmps57
      go_wp2_with fail
      go_ret2
      exact ⟨rfl, Below.refl _ _⟩
  · obtain ⟨q1, q2⟩ := ne_t (show (s.size : Int) ≠ 4 by omega)
    by_cases h16 : s.size = 16
    · have k0 : 0 < s.size := by omega
      have e0 : s[0] = byteAt s 0 := byteAt_get s 0 k0
      obtain ⟨r1, r2⟩ := eq_t (show (s.size : Int) = 16 by omega)
      have u1 : (0 : Int) < (s.size : Int) := by omega
      obtain ⟨p1, p2⟩ := ne_t (show (s[0].toNat : Int) ≠ 255 by rw [e0]; omega)
      clear n4 n16 h4 h16 e0
      go_enter Try.func57, Try.ntmps57
      go_wp2_with fail
      go_ret2
      exact ⟨rfl, Below.refl _ _⟩
    · obtain ⟨r1, r2⟩ := ne_t (show (s.size : Int) ≠ 16 by omega)
      clear n4 n16 h4 h16
      go_enter Try.func57, Try.ntmps57
      go_wp2_with fail
      go_ret2
      exact ⟨rfl, Below.refl _ _⟩

theorem grp_c (s : ByteArray) (w : World) :
    Calls Try.prog 57 #[.string s] w fun e w' => e = .returned (.tuple #[.string (grpSpec s).1, .int .i64 (grpSpec s).2]) ∧ Below w.heap.size w w' := by
  unfold grpSpec
  split
  · next h => exact grp4_yes s w h.1 h.2.1 h.2.2
  · next n4 =>
    split
    · next h => exact grp16_yes s w h.1 h.2
    · next n16 => exact grp_no s w n4 n16

end Go.Proofs.Ythpafojeadbjlaa
