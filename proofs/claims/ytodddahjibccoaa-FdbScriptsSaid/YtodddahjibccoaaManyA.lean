/-
  ether.Many and the document's, for what stands on it. Contracts over the translated program.
-/
import Derived.Test.YtodddahjibccoaaProg
import Derived.Test.YtodddahjibccoaaTst
import Derived.Test.YtodddahjibccoaaKit
import Derived.WalkKit
namespace Go.Proofs.Ytodddahjibccoaa
open Go.RowKit
set_option linter.unusedVariables false

def mbAt (s : ByteArray) (j : Nat) : UInt8 := s.data.toList.getD j 0
theorem mbAt_get (s : ByteArray) (j : Nat) (h : j < s.size) : s[j] = mbAt s j := by
  unfold mbAt
  rw [List.getD_eq_getElem?_getD, List.getElem?_eq_getElem (by simpa using h)]
  rfl
def mnyB (m : ByteArray) : Bool := decide (m.size = 6 ∧ (mbAt m 0).toNat % 2 = 1)

set_option maxHeartbeats 1000000 in
set_option maxRecDepth 100000 in
theorem mny_c (m : ByteArray) (w : World) :
    Calls Try.prog 42 #[.string m] w fun e w' => e = .returned (.bool (mnyB m)) ∧ w = w' := by
  by_cases h6 : m.size = 6
  · have k0 : 0 < m.size := by omega
    have e0 : m[0] = mbAt m 0 := mbAt_get m 0 k0
    obtain ⟨q1, q2⟩ := eq_t (show (m.size : Int) = 6 by omega)
    have u1 : (0 : Int) < (m.size : Int) := by omega
    by_cases hb : (mbAt m 0).toNat % 2 = 1
    · have V := Lib.hid (show mnyB m = true from decide_eq_true ⟨h6, hb⟩)
      obtain ⟨r1, r2⟩ := eq_t (show (m[0].toNat : Int) % 2 = 1 by rw [e0]; omega)
      clear h6 hb e0
      go_enter Try.func42, Try.ntmps42
      go_wp2_with fail
      go_ret
      exact ⟨by rw [V.out]; rfl, rfl⟩
    · have V := Lib.hid (show mnyB m = false from decide_eq_false fun h => hb h.2)
      obtain ⟨r1, r2⟩ := ne_t (show (m[0].toNat : Int) % 2 ≠ 1 by rw [e0]; omega)
      clear h6 hb e0
      go_enter Try.func42, Try.ntmps42
      go_wp2_with fail
      go_ret
      exact ⟨by rw [V.out]; rfl, rfl⟩
  · have V := Lib.hid (show mnyB m = false from decide_eq_false fun h => h6 h.1)
    obtain ⟨q1, q2⟩ := ne_t (show (m.size : Int) ≠ 6 by omega)
    clear h6
    go_enter Try.func42, Try.ntmps42
    go_wp2_with fail
    go_ret
    exact ⟨by rw [V.out]; rfl, rfl⟩

set_option maxHeartbeats 1000000 in
set_option maxRecDepth 100000 in
theorem rmny_c (m : ByteArray) (w : World) :
    Calls Try.prog 32 #[.string m] w fun e w' => e = .returned (.bool (mnyB m)) ∧ w = w' := by
  by_cases h6 : m.size = 6
  · have k0 : 0 < m.size := by omega
    have e0 : m[0] = mbAt m 0 := mbAt_get m 0 k0
    obtain ⟨q1, q2⟩ := eq_t (show (m.size : Int) = 6 by omega)
    have u1 : (0 : Int) < (m.size : Int) := by omega
    by_cases hb : (mbAt m 0).toNat % 2 = 1
    · have V := Lib.hid (show mnyB m = true from decide_eq_true ⟨h6, hb⟩)
      obtain ⟨r1, r2⟩ := eq_t (show (m[0].toNat : Int) % 2 = 1 by rw [e0]; omega)
      clear h6 hb e0
      go_enter Try.func32, Try.ntmps32
      go_wp2_with fail
      go_ret
      exact ⟨by rw [V.out]; rfl, rfl⟩
    · have V := Lib.hid (show mnyB m = false from decide_eq_false fun h => hb h.2)
      obtain ⟨r1, r2⟩ := ne_t (show (m[0].toNat : Int) % 2 ≠ 1 by rw [e0]; omega)
      clear h6 hb e0
      go_enter Try.func32, Try.ntmps32
      go_wp2_with fail
      go_ret
      exact ⟨by rw [V.out]; rfl, rfl⟩
  · have V := Lib.hid (show mnyB m = false from decide_eq_false fun h => h6 h.1)
    obtain ⟨q1, q2⟩ := ne_t (show (m.size : Int) ≠ 6 by omega)
    clear h6
    go_enter Try.func32, Try.ntmps32
    go_wp2_with fail
    go_ret
    exact ⟨by rw [V.out]; rfl, rfl⟩

end Go.Proofs.Ytodddahjibccoaa
