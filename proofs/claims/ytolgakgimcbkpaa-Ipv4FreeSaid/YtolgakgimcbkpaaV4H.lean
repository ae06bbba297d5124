/-
  Whether options ask each router to look: ipv4.Alert and the document's answer siphonref04.Alert are the same.
-/
import Derived.Test.YtolgakgimcbkpaaV4B
import Derived.Test.YtolgakgimcbkpaaOctCut
namespace Go.Proofs.Ytolgakgimcbkpaa
open Go.RowKit
set_option linter.unusedVariables false
set_option linter.unusedSimpArgs false

/-- From place a on, in at most so many steps. -/
def alertF (s : ByteArray) : Nat → Nat → Bool → Bool × Int
  | 0, _, k => (k, 0)
  | f + 1, a, k =>
    if s.size ≤ a then (k, 0)
    else if byt s a = 0 then (k, 0)
    else if byt s a = 1 then alertF s f (a + 1) k
    else if s.size ≤ a + 1 then (false, 3)
    else if byt s (a + 1) < 2 then (false, 3)
    else if s.size < a + byt s (a + 1) then (false, 3)
    else alertF s f (a + byt s (a + 1)) (k || ((s.extract a (a + byt s (a + 1))).toList == [148, 4, 0, 0]))
def alertV (s : ByteArray) : Bool × Int := alertF s (s.size + 1) 0 false

theorem ret_pair {a b : Bool} {x y : Int} (h : (a, x) = (b, y)) : Ending.returned (.tuple #[.bool a, .int .i64 x]) = .returned (.tuple #[.bool b, .int .i64 y]) := by cases h; rfl

set_option maxHeartbeats 4000000 in
set_option maxRecDepth 100000 in
theorem alert_c (s : ByteArray) (w : World) (hs : s.size ≤ 140737488351232) :
    Calls Try.prog 20 #[.string s] w fun e w' => e = .returned (.tuple #[.bool (alertV s).1, .int .i64 (alertV s).2]) ∧ Below w.heap.size w w' := by
  obtain ⟨V, hV⟩ : ∃ V, V = alertV s := ⟨_, rfl⟩
  rw [← hV]
  have H0 := Lib.hid (show alertF s (s.size + 1) 0 false = V from hV.symm)
  clear hV
  go_enter Try.func20, Try.ntmps20
  go_wp2_with fail
  go_step3
  go_wp2_with fail
  go_step3
  go_wp2_with fail
  go_loopw [4, 5] (fun x y wr => ∃ (a f : Nat) (k : Bool), y = .int .i64 (a : Int) ∧ x = .bool k ∧ Hid (alertF s f a k = V) ∧ a ≤ s.size ∧ s.size < a + f ∧ Below w.heap.size w wr)
    (fun _ y _ => s.size - (intOf y).toNat)
  case atStart => exact ⟨0, s.size + 1, false, rfl, rfl, H0, Nat.zero_le _, by omega, Below.refl _ _⟩
  case round =>
    obtain ⟨a, f, k, rfl, rfl, hF, ha, hf, hbl⟩ := hrel
    obtain ⟨f, rfl⟩ : ∃ g, f = g + 1 := ⟨f - 1, by omega⟩
    clear H0
    by_cases c1 : s.size ≤ a
    · have E := Lib.hid (show V = (k, 0) by rw [← hF.out]; unfold alertF; rw [if_pos c1])
      go_wp2_with fail
      (try rw [Exit.noGoto_ret])
      go_ret2
      exact ⟨ret_pair E.out.symm, hbl⟩
    · have hlt : a < s.size := by omega
      have hb := byt_get s a hlt
      have u1 : (a : Int) < (s.size : Int) := by omega
      by_cases c2 : byt s a = 0
      · have E := Lib.hid (show V = (k, 0) by rw [← hF.out]; unfold alertF; rw [if_neg c1, if_pos c2])
        obtain ⟨t1, t2⟩ := eq_t (show (s[a].toNat : Int) = 0 by omega)
        clear hb c2 c1
        go_wp2_with fail
        (try rw [Exit.noGoto_ret])
        go_ret2
        exact ⟨ret_pair E.out.symm, hbl⟩
      · obtain ⟨t1, t2⟩ := ne_t (show (s[a].toNat : Int) ≠ 0 by omega)
        by_cases c3 : byt s a = 1
        · have E := Lib.hid (show alertF s f (a + 1) k = V by rw [← hF.out]; conv => rhs; unfold alertF
                                                              rw [if_neg c1, if_neg c2, if_pos c3])
          obtain ⟨t3, t4⟩ := eq_t (show (s[a].toNat : Int) = 1 by omega)
          clear hb c2 c1 c3
          go_wp2_with fail
          go_roundw
          case rel => exact ⟨a + 1, f, k, by go_num, rfl, E, by omega, by omega, hbl⟩
          case measure => simp [intOf]; omega
        · obtain ⟨t3, t4⟩ := ne_t (show (s[a].toNat : Int) ≠ 1 by omega)
          have H1 := Lib.hid fun U => get_c s ((a : Int) + 1) 1 U (by omega) (by omega) (by omega)
          by_cases c4 : s.size ≤ a + 1
          · have E := Lib.hid (show V = (false, 3) by rw [← hF.out]; unfold alertF; rw [if_neg c1, if_neg c2, if_neg c3, if_pos c4])
            have hv : getSpec s ((a : Int) + 1) 1 = (0, 2) := by unfold getSpec; rw [if_neg (by omega), if_pos (by omega)]
            rw [hv] at H1
            clear hb c2 c1 c3 c4 hv
            go_wp2_with fail
            refine (H1.out _).mono ?_
            rintro e w1 ⟨rfl, h1⟩
            go_wp2_with fail
            (try rw [Exit.noGoto_ret])
            go_ret2
            exact ⟨ret_pair E.out.symm, hbl.trans (h1.mono hbl.size)⟩
          · have hv : getSpec s ((a : Int) + 1) 1 = ((byt s (a + 1) : Int), 0) := get_byte s (a + 1) (by omega)
            rw [hv] at H1
            clear hv
            have F1 := Lib.hid (show alertF s (f + 1) a k = (if byt s (a + 1) < 2 then (false, 3) else if s.size < a + byt s (a + 1) then (false, 3) else alertF s f (a + byt s (a + 1)) (k || ((s.extract a (a + byt s (a + 1))).toList == [148, 4, 0, 0]))) by
              conv => lhs; unfold alertF
              rw [if_neg c1, if_neg c2, if_neg c3, if_neg c4])
            obtain ⟨n, hn⟩ : ∃ n, n = byt s (a + 1) := ⟨_, rfl⟩
            have hnb : n ≤ 255 := by rw [hn]; unfold byt; have := (s.data.toList.getD (a + 1) 0).toNat_lt; omega
            rw [← hn] at H1 F1
            clear hb c2 c1 c3 c4 hn
            by_cases c5 : n < 2
            · have E := Lib.hid (show V = (false, 3) by rw [← hF.out, F1.out, if_pos c5])
              have u2 : (n : Int) < 2 := by omega
              go_wp2_with fail
              refine (H1.out _).mono ?_
              rintro e w1 ⟨rfl, h1⟩
              go_wp2_with fail
              (try rw [Exit.noGoto_ret])
              go_ret2
              exact ⟨ret_pair E.out.symm, hbl.trans (h1.mono hbl.size)⟩
            · have u2 : (2 : Int) ≤ (n : Int) := by omega
              have H2 := Lib.hid fun U => cut_c s (a : Int) (n : Int) U (by omega) (by omega) (by omega)
              by_cases c6 : s.size < a + n
              · have E := Lib.hid (show V = (false, 3) by rw [← hF.out, F1.out, if_neg c5, if_pos c6])
                have hv : cutSpec s (a : Int) (n : Int) = (⟨#[]⟩, 2) := by unfold cutSpec; rw [if_neg (by omega), if_pos (by omega)]
                rw [hv] at H2
                clear hv c5 c6
                go_wp2_with fail
                refine (H1.out _).mono ?_
                rintro e w1 ⟨rfl, h1⟩
                go_wp2_with fail
                refine (H2.out _).mono ?_
                rintro e w2 ⟨rfl, h2⟩
                go_wp2_with fail
                (try rw [Exit.noGoto_ret])
                go_ret2
                have k1 := hbl.trans (h1.mono hbl.size)
                exact ⟨ret_pair E.out.symm, k1.trans (h2.mono k1.size)⟩
              · have E := Lib.hid (show alertF s f (a + n) (k || ((s.extract a (a + n)).toList == [148, 4, 0, 0])) = V by rw [← hF.out, F1.out, if_neg c5, if_neg c6])
                rw [cut_okh s a n (by omega)] at H2
                obtain ⟨X, hX⟩ : ∃ X, X = s.extract a (a + n) := ⟨_, rfl⟩
                rw [← hX] at H2 E
                have u3 : a + n ≤ s.size := by omega
                clear hX c5 c6 F1
                cases k
                · go_wp2_with fail
                  refine (H1.out _).mono ?_
                  rintro e w1 ⟨rfl, h1⟩
                  go_wp2_with fail
                  refine (H2.out _).mono ?_
                  rintro e w2 ⟨rfl, h2⟩
                  go_wp2_with fail
                  go_roundw
                  case rel =>
                    have k1 := hbl.trans (h1.mono hbl.size)
                    exact ⟨a + n, f, _, by go_num, rfl, E, by omega, by omega, k1.trans (h2.mono k1.size)⟩
                  case measure => simp [intOf]; omega
                · go_wp2_with fail
                  refine (H1.out _).mono ?_
                  rintro e w1 ⟨rfl, h1⟩
                  go_wp2_with fail
                  refine (H2.out _).mono ?_
                  rintro e w2 ⟨rfl, h2⟩
                  go_wp2_with fail
                  go_roundw
                  case rel =>
                    have k1 := hbl.trans (h1.mono hbl.size)
                    exact ⟨a + n, f, true, by go_num, rfl, by rw [Bool.true_or] at E; exact E, by omega, by omega, k1.trans (h2.mono k1.size)⟩
                  case measure => simp [intOf]; omega

end Go.Proofs.Ytolgakgimcbkpaa
