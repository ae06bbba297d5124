/-
  Codes of times: Dec8, Dec16, Enc8, Enc16 of the document's answer, and its samples.
-/
import Derived.Test.YtfdiaaggmjlkbaaCodeR
namespace Go.Proofs.Ytfdiaaggmjlkbaa
open Go.RowKit
set_option linter.unusedVariables false

set_option maxHeartbeats 1000000 in
set_option maxRecDepth 100000 in
theorem renc8_c (n : Int) (w : World) :
    Calls Try.prog 46 #[.int .i64 n] w fun e w' => e = .returned (.tuple #[.int .i64 (encI 4 n).1, .int .i64 (encI 4 n).2]) ∧ w = w' := by
  by_cases h0 : n < 0
  · have hv : encI 4 n = (0, 1) := by unfold encI; rw [if_pos h0]
    rw [hv]
    clear hv
    go_enter Try.func46, Try.ntmps46
    go_wp2_with fail
    go_ret2
    exact ⟨rfl, rfl⟩
  · have h1 : 0 ≤ n := by omega
    have hv : encI 4 n = ((encN 4 n.toNat : Int), 0) := by unfold encI; rw [if_neg h0]
    rw [hv]
    have HD := Lib.hid fun (k : Nat) (hk : k ≤ 255) U => rdec_c (k : Int) 4 U (by omega) (by omega) (by omega)
    have HE := Lib.hid fun (k : Nat) => enc_one 4 n.toNat k
    clear hv h0
    go_enter Try.func46, Try.ntmps46
    go_wp2_with fail
    go_loop [4] (fun c => ∃ k : Nat, k ≤ 255 ∧ c = .int .i64 k ∧ (k + 1 < 256 → n.toNat < decN 4 (k + 1))) (fun c => (intOf c).toNat)
    case atStart => exact ⟨255, Nat.le_refl _, rfl, fun h => by omega⟩
    case round =>
      obtain ⟨k, hk, rfl, hn⟩ := hrel
      have HK := Lib.hid (HD.out k hk)
      rw [Int.toNat_natCast] at HK
      have HN := Lib.hid hn
      clear hn
      by_cases hgt : n.toNat < decN 4 k
      · have hk0 : 0 < k := by
          rcases Nat.eq_zero_or_pos k with rfl | h
          · rw [dec_small 4 0 (by omega)] at hgt; omega
          · exact h
        have hg : n < (decN 4 k : Int) := by omega
        have hki : (1 : Int) ≤ (k : Int) := by omega
        have HG := Lib.hid hgt
        obtain ⟨q, hq⟩ : ∃ q, q = decN 4 k := ⟨_, rfl⟩
        rw [← hq] at HK hg
        clear hgt hq
        go_wp2_with fail
        refine (HK.out _).mono ?_
        rintro e w1 ⟨rfl, rfl⟩
        go_wp2_with fail
        go_round
        case rel => exact ⟨k - 1, by omega, by rw [Int.ofNat_sub hk0]; rfl, fun h => by rw [Nat.sub_add_cancel hk0]; exact HG.out⟩
        case measure => simp [intOf]; omega
      · have hle : (decN 4 k : Int) ≤ n := by omega
        have hE : encN 4 n.toNat = k := (HE.out k (by omega) (by omega) (fun h => HN.out (by omega))).symm
        have HX := Lib.hid hE
        obtain ⟨q, hq⟩ : ∃ q, q = decN 4 k := ⟨_, rfl⟩
        rw [← hq] at HK hle
        clear hgt hq hE HE
        go_wp2_with fail
        refine (HK.out _).mono ?_
        rintro e w1 ⟨rfl, rfl⟩
        go_wp2_with fail
        go_ret2
        exact ⟨by rw [HX.out]; rfl, rfl⟩

end Go.Proofs.Ytfdiaaggmjlkbaa
