/-
  Codes of times: Dec8, Dec16, Enc8, Enc16 of the document's answer, and its samples.
-/
import Derived.Test.YtniahpbjfpmmhaaGreatCodeR
namespace Go.Proofs.YtniahpbjfpmmhaaGreat
open Go.RowKit
set_option linter.unusedVariables false

set_option maxHeartbeats 1000000 in
set_option maxRecDepth 100000 in
theorem renc8_c (n : Int) (w : World) :
    Calls Tryz.prog 36 #[.int .i64 n] w fun e w' => e = .returned (.tuple #[.int .i64 (encI 4 n).1, .int .i64 (encI 4 n).2]) ∧ w = w' := by
  by_cases h0 : n < 0
  · have hv : encI 4 n = (0, 1) := by unfold encI; rw [if_pos h0]
    rw [hv]
    clear hv
    go_enter Tryz.func36, Tryz.ntmps36
    go_wp2_with fail
    go_ret2
    exact ⟨rfl, rfl⟩
  · have h1 : 0 ≤ n := by omega
    have hv : encI 4 n = ((encN 4 n.toNat : Int), 0) := by unfold encI; rw [if_neg h0]
    rw [hv]
    have HD := Lib.hid fun (k : Nat) (hk : k ≤ 255) U => rdec_c (k : Int) 4 U (by omega) (by omega) (by omega)
    have HE := Lib.hid fun (k : Nat) => enc_one 4 n.toNat k
    clear hv h0
    go_enter Tryz.func36, Tryz.ntmps36
    go_wp2_with fail
    go_loop [4] (fun c => ∃ k : Nat, k ≤ 255 ∧ c = .int .i64 k ∧ (k + 1 < 256 → n.toNat < decN 4 (k + 1))) (fun c => (intOf c).toNat)
    case atStart => exact ⟨255, Nat.le_refl _, rfl, fun h => by omega⟩
    case round =>
      obtain ⟨k, hk, rfl, hn⟩ := hrel
      have HK := Lib.hid (HD.out k hk)
      rw [Int.toNat_natCast] at HK
      have HN := Lib.hid hn
      clear hn
      by_cases hgt : n.toNat < decN 4 k
      · have hk0 : 0 < k := by
          rcases Nat.eq_zero_or_pos k with rfl | h
          · rw [dec_small 4 0 (by omega)] at hgt; omega
          · exact h
        have hg : n < (decN 4 k : Int) := by omega
        have hki : (1 : Int) ≤ (k : Int) := by omega
        have HG := Lib.hid hgt
        obtain ⟨q, hq⟩ : ∃ q, q = decN 4 k := ⟨_, rfl⟩
        rw [← hq] at HK hg
        clear hgt hq
        go_wp2_with fail
        refine (HK.out _).mono ?_
        rintro e w1 ⟨rfl, rfl⟩
        go_wp2_with fail
        go_round
        case rel => exact ⟨k - 1, by omega, by rw [Int.ofNat_sub hk0]; rfl, fun h => by rw [Nat.sub_add_cancel hk0]; exact HG.out⟩
        case measure => simp [intOf]; omega
      · have hle : (decN 4 k : Int) ≤ n := by omega
        have hE : encN 4 n.toNat = k := (HE.out k (by omega) (by omega) (fun h => HN.out (by omega))).symm
        have HX := Lib.hid hE
        obtain ⟨q, hq⟩ : ∃ q, q = decN 4 k := ⟨_, rfl⟩
        rw [← hq] at HK hle
        clear hgt hq hE HE
        go_wp2_with fail
        refine (HK.out _).mono ?_
        rintro e w1 ⟨rfl, rfl⟩
        go_wp2_with fail
        go_ret2
        exact ⟨by rw [HX.out]; rfl, rfl⟩

set_option maxHeartbeats 1000000 in
set_option maxRecDepth 100000 in
theorem renc16_c (n : Int) (w : World) :
    Calls Tryz.prog 35 #[.int .i64 n] w fun e w' => e = .returned (.tuple #[.int .i64 (encI 12 n).1, .int .i64 (encI 12 n).2]) ∧ w = w' := by
  by_cases h0 : n < 0
  · have hv : encI 12 n = (0, 1) := by unfold encI; rw [if_pos h0]
    rw [hv]
    clear hv
    go_enter Tryz.func35, Tryz.ntmps35
    go_wp2_with fail
    go_ret2
    exact ⟨rfl, rfl⟩
  · have h1 : 0 ≤ n := by omega
    have hv : encI 12 n = ((encN 12 n.toNat : Int), 0) := by unfold encI; rw [if_neg h0]
    rw [hv]
    have HD := Lib.hid fun (k : Int) (hk : 0 ≤ k) (h2 : k ≤ 65535) U => rdec_c k 12 U (by omega) hk (by omega)
    have HE := Lib.hid fun (k : Nat) => enc_one 12 n.toNat k
    clear hv h0
    go_enter Tryz.func35, Tryz.ntmps35
    go_wp2_with fail
    go_loop [4, 5, 6] (fun lo hi _ => ∃ a b : Int, 0 ≤ a ∧ a < b ∧ b ≤ 65536 ∧ lo = .int .i64 a ∧ hi = .int .i64 b ∧ Hid (decN 12 a.toNat ≤ n.toNat) ∧ Hid (b ≤ 65535 → n.toNat < decN 12 b.toNat)) (fun lo hi _ => (intOf hi - intOf lo).toNat)
    case atStart => exact ⟨0, 65536, by omega, by omega, by omega, rfl, rfl, Lib.hid (by rw [dec_small 12 _ (by decide)]; exact Nat.zero_le _), Lib.hid (fun h => by omega)⟩
    case round =>
      obtain ⟨a, b, ha, hab, hb, rfl, rfl, hda, hdb⟩ := hrel
      by_cases hgt : 1 < b - a
      · obtain ⟨m, hm⟩ : ∃ m, m = (a + b) / 2 := ⟨_, rfl⟩
        have m1 : a < m := by omega
        have m2 : m < b := by omega
        have hs : a + b ≤ 200000 := by omega
        have hs0 : 0 ≤ a + b := by omega
        have HK := Lib.hid (HD.out m (by omega) (by omega))
        have hq0 : (decN 12 m.toNat : Int) ≤ n ↔ decN 12 m.toNat ≤ n.toNat := by omega
        have HQ := Lib.hid hq0
        have hm' : (a + b) / 2 = m := hm.symm
        clear hq0 hm
        by_cases hle : decN 12 m.toNat ≤ n.toNat
        · have hg : (decN 12 m.toNat : Int) ≤ n := HQ.out.2 hle
          have HL := Lib.hid hle
          obtain ⟨q, hq⟩ : ∃ q, q = decN 12 m.toNat := ⟨_, rfl⟩
          rw [← hq] at HK hg
          clear hle hq HQ
          go_wp2_with fail
          refine (HK.out _).mono ?_
          rintro e w1 ⟨rfl, rfl⟩
          go_wp2_with fail
          go_round
          case rel => exact ⟨m, b, by omega, by omega, hb, rfl, rfl, HL, hdb⟩
          case measure => simp [intOf]; omega
        · have hg : n < (decN 12 m.toNat : Int) := by have := HQ.out; omega
          have HL := Lib.hid (show n.toNat < decN 12 m.toNat by omega)
          obtain ⟨q, hq⟩ : ∃ q, q = decN 12 m.toNat := ⟨_, rfl⟩
          rw [← hq] at HK hg
          clear hle hq HQ
          go_wp2_with fail
          refine (HK.out _).mono ?_
          rintro e w1 ⟨rfl, rfl⟩
          go_wp2_with fail
          go_round
          case rel => exact ⟨a, m, ha, m1, by omega, rfl, rfl, hda, Lib.hid (fun _ => HL.out)⟩
          case measure => simp [intOf]; omega
      · have hb1 : b = a + 1 := by omega
        have hE : ((encN 12 n.toNat : Nat) : Int) = a := by
          have := HE.out a.toNat (by omega) hda.out (fun h => by
            have := hdb.out (by omega)
            rw [hb1, show (a + 1).toNat = a.toNat + 1 from by omega] at this
            exact this)
          omega
        have HX := Lib.hid hE
        clear hE HE HD hb1 hda hdb
        have hle : b - a ≤ 1 := by omega
        clear hgt
        go_wp2_with fail
        go_ret2
        exact ⟨by rw [HX.out]; rfl, rfl⟩

end Go.Proofs.YtniahpbjfpmmhaaGreat
