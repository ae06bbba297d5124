/-
  Whether options ask each router to look, the document's answer: siphonref04.Alert.
-/
import Derived.Test.YtocckinnmdgdfaaV4H
namespace Go.Proofs.Ytocckinnmdgdfaa
open Go.RowKit
set_option linter.unusedVariables false
set_option linter.unusedSimpArgs false

set_option maxHeartbeats 4000000 in
set_option maxRecDepth 100000 in
theorem ralert_c (s : ByteArray) (w : World) (hs : s.size ≤ 140737488351232) :
    Calls Try.prog 32 #[.string s] w fun e w' => e = .returned (.tuple #[.bool (alertV s).1, .int .i64 (alertV s).2]) ∧ w = w' := by
  obtain ⟨V, hV⟩ : ∃ V, V = alertV s := ⟨_, rfl⟩
  rw [← hV]
  have H0 := Lib.hid (show alertF s (s.size + 1) 0 false = V from hV.symm)
  clear hV
  go_enter Try.func32, Try.ntmps32
  go_wp2_with fail
  go_loop [4, 5] (fun x y => ∃ (a f : Nat) (k : Bool), y = .int .i64 (a : Int) ∧ x = .bool k ∧ Hid (alertF s f a k = V) ∧ a ≤ s.size ∧ s.size < a + f)
    (fun _ y => s.size - (intOf y).toNat)
  case atStart => exact ⟨0, s.size + 1, false, rfl, rfl, H0, Nat.zero_le _, by omega⟩
  case round =>
    obtain ⟨a, f, k, rfl, rfl, hF, ha, hf⟩ := hrel
    obtain ⟨f, rfl⟩ : ∃ g, f = g + 1 := ⟨f - 1, by omega⟩
    clear H0
    by_cases c1 : s.size ≤ a
    · have E := Lib.hid (show V = (k, 0) by rw [← hF.out]; unfold alertF; rw [if_pos c1])
      have u1 : (s.size : Int) ≤ (a : Int) := by omega
      have hd : decide ((a : Int) < (s.size : Int)) = false := decide_eq_false (by omega)
      go_wp2_with fail
      go_ret2
      exact ⟨ret_pair E.out.symm, rfl⟩
    · have hlt : a < s.size := by omega
      have hb := byt_get s a hlt
      have u1 : (a : Int) < (s.size : Int) := by omega
      by_cases c2 : byt s a = 0
      · have E := Lib.hid (show V = (k, 0) by rw [← hF.out]; unfold alertF; rw [if_neg c1, if_pos c2])
        obtain ⟨t1, t2⟩ := eq_t (show (s[a].toNat : Int) = 0 by omega)
        clear hb c2 c1
        go_wp2_with fail
        go_ret2
        exact ⟨ret_pair E.out.symm, rfl⟩
      · obtain ⟨t1, t2⟩ := ne_t (show (s[a].toNat : Int) ≠ 0 by omega)
        by_cases c3 : byt s a = 1
        · have E := Lib.hid (show alertF s f (a + 1) k = V by rw [← hF.out]; conv => rhs; unfold alertF
                                                              rw [if_neg c1, if_neg c2, if_pos c3])
          obtain ⟨t3, t4⟩ := eq_t (show (s[a].toNat : Int) = 1 by omega)
          clear hb c2 c1 c3
          go_wp2_with fail
          go_round
          case rel => exact ⟨a + 1, f, k, by go_num, rfl, E, by omega, by omega⟩
          case measure => simp [intOf]; omega
        · obtain ⟨t3, t4⟩ := ne_t (show (s[a].toNat : Int) ≠ 1 by omega)
          by_cases c4 : s.size ≤ a + 1
          · have E := Lib.hid (show V = (false, 3) by rw [← hF.out]; unfold alertF; rw [if_neg c1, if_neg c2, if_neg c3, if_pos c4])
            have u2 : (s.size : Int) ≤ (a : Int) + 1 := by omega
            clear hb c2 c1 c3 c4
            go_wp2_with fail
            go_ret2
            exact ⟨ret_pair E.out.symm, rfl⟩
          · have F1 := Lib.hid (show alertF s (f + 1) a k = (if byt s (a + 1) < 2 then (false, 3) else if s.size < a + byt s (a + 1) then (false, 3) else alertF s f (a + byt s (a + 1)) (k || ((s.extract a (a + byt s (a + 1))).toList == [148, 4, 0, 0]))) by
              conv => lhs; unfold alertF
              rw [if_neg c1, if_neg c2, if_neg c3, if_neg c4])
            have hlt1 : a + 1 < s.size := by omega
            have hb1 := byt_get s (a + 1) hlt1
            have u2 : (a : Int) + 1 < (s.size : Int) := by omega
            have u4 : (s[a + 1].toNat : Int) < 256 := by have := s[a + 1].toNat_lt; omega
            rw [← hb1] at F1
            clear hb c2 c1 c3 c4 hb1
            by_cases c5 : s[a + 1].toNat < 2
            · have E := Lib.hid (show V = (false, 3) by rw [← hF.out, F1.out, if_pos c5])
              have u3 : (s[a + 1].toNat : Int) < 2 := by omega
              clear c5
              go_wp2_with fail
              go_ret2
              exact ⟨ret_pair E.out.symm, rfl⟩
            · have u3 : (2 : Int) ≤ (s[a + 1].toNat : Int) := by omega
              by_cases c6 : s.size < a + s[a + 1].toNat
              · have E := Lib.hid (show V = (false, 3) by rw [← hF.out, F1.out, if_neg c5, if_pos c6])
                have u5 : (s.size : Int) - (a : Int) < (s[a + 1].toNat : Int) := by omega
                clear c5 c6
                go_wp2_with fail
                go_ret2
                exact ⟨ret_pair E.out.symm, rfl⟩
              · have E := Lib.hid (show alertF s f (a + s[a + 1].toNat) (k || ((s.extract a (a + s[a + 1].toNat)).toList == [148, 4, 0, 0])) = V by rw [← hF.out, F1.out, if_neg c5, if_neg c6])
                have u5 : (s[a + 1].toNat : Int) ≤ (s.size : Int) - (a : Int) := by omega
                have u6 : (a : Int) + (s[a + 1].toNat : Int) ≤ (s.size : Int) := by omega
                have hd : decide ((s.size : Int) - (a : Int) < (s[a + 1].toNat : Int)) = false := decide_eq_false (by omega)
                have hd2 : decide ((s[a + 1].toNat : Int) < 2) = false := decide_eq_false (by omega)
                clear c5 c6 F1
                by_cases hq : ((s.extract a (a + s[a + 1].toNat)).toList == [148, 4, 0, 0]) = true
                · rw [hq, Bool.or_true] at E
                  go_wp2_with fail
                  go_round
                  case rel => exact ⟨a + s[a + 1].toNat, f, true, by go_num, rfl, E, by omega, by omega⟩
                  case measure => simp [intOf]; omega
                · have hq' : ((s.extract a (a + s[a + 1].toNat)).toList == [148, 4, 0, 0]) = false := by simpa using hq
                  rw [hq', Bool.or_false] at E
                  clear hq
                  go_wp2_with fail
                  go_round
                  case rel => exact ⟨a + s[a + 1].toNat, f, k, by go_num, rfl, E, by omega, by omega⟩
                  case measure => simp [intOf]; omega

end Go.Proofs.Ytocckinnmdgdfaa
