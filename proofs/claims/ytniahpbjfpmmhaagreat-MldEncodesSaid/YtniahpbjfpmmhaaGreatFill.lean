/-
  What csum.Fill answers: the text with its sum put in, or why there is none.
-/
import Derived.Test.YtniahpbjfpmmhaaGreatSumAB
import Derived.Test.YtniahpbjfpmmhaaGreatOctCut
import Derived.Test.YtniahpbjfpmmhaaGreatBase
namespace Go.Proofs.YtniahpbjfpmmhaaGreat
open Go.RowKit

/-- What stands ahead of the place, and behind it. -/
def hd (s : ByteArray) (a : Nat) : ByteArray := s.extract 0 a
def tl (s : ByteArray) (a : Nat) : ByteArray := s.extract (a + 2) s.size

/-- The text with the two bytes of the sum. -/
def filled (ahead s : ByteArray) (a : Nat) : ByteArray :=
  hd s a ++ ⟨(bytesOf (sumN (ahead ++ hd s a ++ ⟨#[0, 0]⟩ ++ tl s a).data.toList) 2).toArray⟩ ++ tl s a

def fillBad (ahead s : ByteArray) (a : Int) : Prop := a < 0 ∨ (s.size : Int) - 2 < a ∨ (ahead.size : Int) % 2 = 1 ∨ a % 2 = 1

instance (ahead s : ByteArray) (a : Int) : Decidable (fillBad ahead s a) := by unfold fillBad; infer_instance

def fillSpec (ahead s : ByteArray) (a : Int) : ByteArray × Int :=
  if fillBad ahead s a then (⟨#[]⟩, 1) else (filled ahead s a.toNat, 0)

theorem cut_hd (s : ByteArray) (A : Nat) (h : A ≤ s.size) : cutSpec s 0 A = (hd s A, 0) := by
  have e : hd s A = s.extract 0 (0 + A) := by unfold hd; rw [Nat.zero_add]
  unfold cutSpec
  rw [if_neg (by omega), if_neg (by omega), e, extract_mk]; rfl

theorem cut_tl (s : ByteArray) (A : Nat) (h : A + 2 ≤ s.size) : cutSpec s ((A : Int) + 2) ((s.size : Int) - (A : Int) - 2) = (tl s A, 0) := by
  have e : tl s A = s.extract (A + 2) (A + 2 + (s.size - A - 2)) := by unfold tl; congr 1; omega
  unfold cutSpec
  rw [if_neg (by omega), if_neg (by omega), e, extract_mk, show ((A : Int) + 2).toNat = A + 2 from by omega, show ((s.size : Int) - (A : Int) - 2).toNat = s.size - A - 2 from by omega]

theorem hd_size (s : ByteArray) (A : Nat) (h : A ≤ s.size) : (hd s A).size = A := by unfold hd; simp; omega
theorem tl_size (s : ByteArray) (A : Nat) : (tl s A).size = s.size - (A + 2) := by unfold tl; simp

set_option maxHeartbeats 1000000 in
set_option maxRecDepth 100000 in
theorem fill_no (ahead s : ByteArray) (a : Int) (w : World) (hs : s.size ≤ 140737488351232) (h : fillBad ahead s a) :
    Calls Tryz.prog 13 #[.string ahead, .string s, .int .i64 a] w fun e w' => e = .returned (.tuple #[.string ⟨#[]⟩, .int .i64 1]) ∧ Below w.heap.size w w' := by
  by_cases c1 : a < 0
  · clear h
    go_enter Tryz.func13, Tryz.ntmps13
    go_wp2_with fail
    go_ret2
    exact ⟨rfl, Below.refl _ _⟩
  · have c1' : 0 ≤ a := by omega
    by_cases c2 : (s.size : Int) - 2 < a
    · clear h c1
      go_enter Tryz.func13, Tryz.ntmps13
      go_wp2_with fail
      go_ret2
      exact ⟨rfl, Below.refl _ _⟩
    · by_cases c3 : (ahead.size : Int) % 2 = 1
      · obtain ⟨a1, a2⟩ := eq_t c3
        clear h c1 c3
        go_enter Tryz.func13, Tryz.ntmps13
        go_wp2_with fail
        go_ret2
        exact ⟨rfl, Below.refl _ _⟩
      · obtain ⟨a1, a2⟩ := ne_t c3
        have c4 : a % 2 = 1 := by unfold fillBad at h; omega
        obtain ⟨a3, a4⟩ := eq_t c4
        clear h c1 c3 c4
        go_enter Tryz.func13, Tryz.ntmps13
        go_wp2_with fail
        go_ret2
        exact ⟨rfl, Below.refl _ _⟩

set_option maxHeartbeats 1000000 in
set_option maxRecDepth 100000 in
theorem fill_yes (ahead s : ByteArray) (A : Nat) (w : World) (ha : ahead.size ≤ 140737488351232) (hs : s.size ≤ 140737488351232) (h : ¬ fillBad ahead s A) :
    Calls Tryz.prog 13 #[.string ahead, .string s, .int .i64 (A : Int)] w fun e w' => e = .returned (.tuple #[.string (filled ahead s A), .int .i64 0]) ∧ Below w.heap.size w w' := by
  unfold fillBad at h
  obtain ⟨a1, a2⟩ := ne_t (show ¬ (ahead.size : Int) % 2 = 1 by omega)
  obtain ⟨a3, a4⟩ := ne_t (show ¬ (A : Int) % 2 = 1 by omega)
  have i1 : (A : Int) ≤ (s.size : Int) - 2 := by omega
  have H1 := Lib.hid fun U => cut_c s 0 A U (by omega) (by omega) (by omega)
  rw [cut_hd s A (by omega)] at H1
  have H2 := Lib.hid fun U => cut_c s ((A : Int) + 2) ((s.size : Int) - (A : Int) - 2) U (by omega) (by omega) (by omega)
  rw [cut_tl s A (by omega)] at H2
  have z1 := hd_size s A (by omega)
  have z2 := tl_size s A
  have hf : filled ahead s A = hd s A ++ ⟨(bytesOf (sumN (ahead ++ hd s A ++ ⟨#[0, 0]⟩ ++ tl s A).data.toList) 2).toArray⟩ ++ tl s A := rfl
  rw [hf]
  obtain ⟨X, hX⟩ : ∃ X, X = hd s A := ⟨_, rfl⟩
  obtain ⟨Y, hY⟩ : ∃ Y, Y = tl s A := ⟨_, rfl⟩
  rw [← hX] at z1 H1 ⊢
  rw [← hY] at z2 H2 ⊢
  have z0 : (⟨#[0, 0]⟩ : ByteArray).size = 2 := rfl
  have H3 := Lib.hid fun U => sum_c (ahead ++ X ++ ⟨#[0, 0]⟩ ++ Y) U (by rw [ByteArray.size_append, ByteArray.size_append, ByteArray.size_append]; omega)
  clear z0
  obtain ⟨q, hq⟩ : ∃ q, q = sumN (ahead ++ X ++ ⟨#[0, 0]⟩ ++ Y).data.toList := ⟨_, rfl⟩
  have hq2 : q ≤ 65535 := by rw [hq]; exact sumN_le _
  rw [← hq] at H3 ⊢
  have H4 := Lib.hid fun U => put_c q 2 U (by omega) (by omega)
  have e2 : putSpec q 2 = (⟨(bytesOf q 2).toArray⟩, 0) := put_ok q 2 (by omega) (by omega) (by omega)
  rw [e2] at H4
  have s2 := bytes_size q 2
  obtain ⟨L, hL⟩ : ∃ L : ByteArray, L = ⟨(bytesOf q 2).toArray⟩ := ⟨_, rfl⟩
  rw [← hL] at H4 s2 ⊢
  have i2 : L.size ≤ 2 := by omega
  have i3 : X.size ≤ 140737488351232 := by omega
  have i4 : Y.size ≤ 140737488351232 := by omega
  clear h hf hX hY hq hL s2 z1 z2 e2
  go_enter Tryz.func13, Tryz.ntmps13
  go_wp2_with fail
  refine (H1.out _).mono ?_
  rintro e w1 ⟨rfl, h1⟩
  go_wp2_with fail
  refine (H2.out _).mono ?_
  rintro e w2 ⟨rfl, h2⟩
  go_wp2_with fail
  refine (H3.out _).mono ?_
  rintro e w3 ⟨rfl, h3⟩
  go_wp2_with fail
  refine (H4.out _).mono ?_
  rintro e w4 ⟨rfl, h4⟩
  go_wp2_with fail
  go_ret2
  exact ⟨rfl, below_then (below_then (below_then h1 h2) h3) h4⟩

theorem fill_c (ahead s : ByteArray) (a : Int) (w : World) (ha : ahead.size ≤ 140737488351232) (hs : s.size ≤ 140737488351232) :
    Calls Tryz.prog 13 #[.string ahead, .string s, .int .i64 a] w fun e w' => e = .returned (.tuple #[.string (fillSpec ahead s a).1, .int .i64 (fillSpec ahead s a).2]) ∧ Below w.heap.size w w' := by
  by_cases h : fillBad ahead s a
  · have hv : fillSpec ahead s a = (⟨#[]⟩, 1) := by unfold fillSpec; rw [if_pos h]
    rw [hv]
    exact fill_no ahead s a w hs h
  · obtain ⟨A, rfl⟩ := Int.eq_ofNat_of_zero_le (show 0 ≤ a by unfold fillBad at h; omega)
    have hv : fillSpec ahead s A = (filled ahead s A, 0) := by unfold fillSpec; rw [if_neg h, Int.toNat_natCast]
    rw [hv]
    exact fill_yes ahead s A w ha hs h

end Go.Proofs.YtniahpbjfpmmhaaGreat
