/-
  The document's answer siphonref02.Pseudo is the same text as csum.Pseudo's.
-/
import Derived.Test.YtniahpbjfpmmhaaGreatPseudo
import Derived.Test.YtniahpbjfpmmhaaGreatRefQ
namespace Go.Proofs.YtniahpbjfpmmhaaGreat
open Go.RowKit

set_option maxHeartbeats 1000000 in
set_option maxRecDepth 100000 in
theorem rpseudo_no (src dst : ByteArray) (n proto : Int) (w : World)
    (h : src.size ≠ dst.size ∨ (src.size ≠ 4 ∧ src.size ≠ 16) ∨ proto < 0 ∨ 255 < proto ∨ n < 0 ∨ 65535 < n) :
    Calls Tryz.prog 16 #[.string src, .string dst, .int .i64 n, .int .i64 proto] w fun e w' => e = .returned (.tuple #[.string ⟨#[]⟩, .int .i64 1]) ∧ Below w.heap.size w w' := by
  by_cases c2 : src.size ≠ dst.size
  · obtain ⟨b1, b2⟩ := ne_t (show (src.size : Int) ≠ (dst.size : Int) by omega)
    clear h c2
    go_enter Tryz.func16, Tryz.ntmps16
    go_wp2_with fail
    go_ret2
    exact ⟨rfl, Below.refl _ _⟩
  · obtain ⟨b1, b2⟩ := eq_t (show (src.size : Int) = (dst.size : Int) by omega)
    by_cases c1 : src.size ≠ 4 ∧ src.size ≠ 16
    · obtain ⟨a1, a2⟩ := ne_t (show (src.size : Int) ≠ 4 by omega)
      obtain ⟨a3, a4⟩ := ne_t (show (src.size : Int) ≠ 16 by omega)
      clear h c1 c2
      go_enter Tryz.func16, Tryz.ntmps16
      go_wp2_with fail
      go_ret2
      exact ⟨rfl, Below.refl _ _⟩
    · have c1' : src.size = 4 ∨ src.size = 16 := by omega
      have tests : ∃ x y : Bool, ((src.size : Int) == 4) = x ∧ ((src.size : Int) != 4) = !x ∧ ((src.size : Int) == 16) = y ∧ ((src.size : Int) != 16) = !y ∧ (x = true ∧ y = false ∨ x = false ∧ y = true) := by
        rcases c1' with e | e
        · exact ⟨true, false, by rw [e]; rfl, by rw [e]; rfl, by rw [e]; rfl, by rw [e]; rfl, .inl ⟨rfl, rfl⟩⟩
        · exact ⟨false, true, by rw [e]; rfl, by rw [e]; rfl, by rw [e]; rfl, by rw [e]; rfl, .inr ⟨rfl, rfl⟩⟩
      obtain ⟨x, y, t1, t2, t3, t4, hxy⟩ := tests
      have hh : proto < 0 ∨ ¬ proto < 0 ∧ (255 < proto ∨ ¬ 255 < proto ∧ (n < 0 ∨ ¬ n < 0 ∧ 65535 < n)) := by omega
      clear h c1 c1' c2
      rcases hh with h | ⟨h, g | ⟨g, k | ⟨k, j⟩⟩⟩
      all_goals
        rcases hxy with ⟨rfl, rfl⟩ | ⟨rfl, rfl⟩
        all_goals
          go_enter Tryz.func16, Tryz.ntmps16
          go_wp2_with fail
          go_ret2
          exact ⟨rfl, Below.refl _ _⟩

set_option maxHeartbeats 1000000 in
set_option maxRecDepth 100000 in
theorem rpseudo_yes (src dst : ByteArray) (n proto : Nat) (w : World) (h1 : src.size = dst.size) (h2 : src.size = 4 ∨ src.size = 16) (hp : proto ≤ 255) (hn : n ≤ 65535) :
    Calls Tryz.prog 16 #[.string src, .string dst, .int .i64 (n : Int), .int .i64 (proto : Int)] w fun e w' => e = .returned (.tuple #[.string (pseudoSpec src dst n proto).1, .int .i64 0]) ∧ Below w.heap.size w w' := by
  have H1 := Lib.hid fun U => of_c proto 1 U (by omega) (by omega)
  have e1 : putSpec proto 1 = (⟨(bytesOf proto 1).toArray⟩, 0) := put_ok proto 1 (by omega) (by omega) (by omega)
  rw [e1] at H1
  have s1 := bytes_size proto 1
  obtain ⟨K, hK⟩ : ∃ K : ByteArray, K = ⟨(bytesOf proto 1).toArray⟩ := ⟨_, rfl⟩
  rw [← hK] at H1 s1
  obtain ⟨b1, b2⟩ := eq_t (show (src.size : Int) = (dst.size : Int) by omega)
  have iK : K.size ≤ 1 := by omega
  have j1 : (0 : Int) ≤ n := by omega
  have j2 : (n : Int) ≤ 65535 := by omega
  have j3 : (0 : Int) ≤ proto := by omega
  have j4 : (proto : Int) ≤ 255 := by omega
  rcases h2 with h2 | h2
  · have H2 := Lib.hid fun U => of_c n 2 U (by omega) (by omega)
    have e2 : putSpec n 2 = (⟨(bytesOf n 2).toArray⟩, 0) := put_ok n 2 (by omega) (by omega) (by omega)
    rw [e2] at H2
    have s2 := bytes_size n 2
    obtain ⟨L, hL⟩ : ∃ L : ByteArray, L = ⟨(bytesOf n 2).toArray⟩ := ⟨_, rfl⟩
    rw [← hL] at H2 s2
    have iL : L.size ≤ 2 := by omega
    have hv : pseudoSpec src dst n proto = (src ++ dst ++ ⟨#[0]⟩ ++ K ++ L, 0) := by
      unfold pseudoSpec
      rw [if_neg (by omega), if_pos h2, Int.toNat_natCast, Int.toNat_natCast, ← hK, ← hL]
    rw [hv]
    obtain ⟨a1, a2⟩ := eq_t (show (src.size : Int) = 4 by omega)
    have i1 : src.size ≤ 4 := by omega
    have i2 : dst.size ≤ 4 := by omega
    clear hv h1 h2 hK hL s1 s2 e1 e2 hp hn
    go_enter Tryz.func16, Tryz.ntmps16
    go_wp2_with fail
    refine (H1.out _).mono ?_
    rintro e w2 ⟨rfl, h2⟩
    go_wp2_with fail
    refine (H2.out _).mono ?_
    rintro e w3 ⟨rfl, h3⟩
    go_wp2_with fail
    go_ret2
    exact ⟨rfl, below_then h2 h3⟩
  · have H2 := Lib.hid fun U => of_c n 4 U (by omega) (by omega)
    have e2 : putSpec n 4 = (⟨(bytesOf n 4).toArray⟩, 0) := put_ok n 4 (by omega) (by omega) (by omega)
    rw [e2] at H2
    have s2 := bytes_size n 4
    obtain ⟨L, hL⟩ : ∃ L : ByteArray, L = ⟨(bytesOf n 4).toArray⟩ := ⟨_, rfl⟩
    rw [← hL] at H2 s2
    have iL : L.size ≤ 4 := by omega
    have hv : pseudoSpec src dst n proto = (src ++ dst ++ L ++ ⟨#[0, 0, 0]⟩ ++ K, 0) := by
      unfold pseudoSpec
      rw [if_neg (by omega), if_neg (by omega), Int.toNat_natCast, Int.toNat_natCast, ← hK, ← hL]
    rw [hv]
    obtain ⟨a1, a2⟩ := ne_t (show (src.size : Int) ≠ 4 by omega)
    obtain ⟨a3, a4⟩ := eq_t (show (src.size : Int) = 16 by omega)
    have i1 : src.size ≤ 16 := by omega
    have i2 : dst.size ≤ 16 := by omega
    clear hv h1 h2 hK hL s1 s2 e1 e2 hp hn
    go_enter Tryz.func16, Tryz.ntmps16
    go_wp2_with fail
    refine (H2.out _).mono ?_
    rintro e w2 ⟨rfl, h2⟩
    go_wp2_with fail
    refine (H1.out _).mono ?_
    rintro e w3 ⟨rfl, h3⟩
    go_wp2_with fail
    go_ret2
    exact ⟨rfl, below_then h2 h3⟩

theorem rpseudo_c (src dst : ByteArray) (n proto : Int) (w : World) :
    Calls Tryz.prog 16 #[.string src, .string dst, .int .i64 n, .int .i64 proto] w fun e w' => e = .returned (.tuple #[.string (pseudoSpec src dst n proto).1, .int .i64 (pseudoSpec src dst n proto).2]) ∧ Below w.heap.size w w' := by
  by_cases h : src.size ≠ dst.size ∨ (src.size ≠ 4 ∧ src.size ≠ 16) ∨ proto < 0 ∨ 255 < proto ∨ n < 0 ∨ 65535 < n
  · have hv : pseudoSpec src dst n proto = (⟨#[]⟩, 1) := by unfold pseudoSpec; rw [if_pos h]
    rw [hv]
    exact rpseudo_no src dst n proto w h
  · obtain ⟨N, rfl⟩ := Int.eq_ofNat_of_zero_le (show 0 ≤ n by omega)
    obtain ⟨P, rfl⟩ := Int.eq_ofNat_of_zero_le (show 0 ≤ proto by omega)
    have hv : (pseudoSpec src dst N P).2 = 0 := by unfold pseudoSpec; rw [if_neg h]; split <;> rfl
    rw [hv]
    exact rpseudo_yes src dst N P w (by omega) (by omega) (by omega) (by omega)

end Go.Proofs.YtniahpbjfpmmhaaGreat
