/-
  The document's answer siphonref02.Fill is the same as csum.Fill's; the statement's own samples of layer 2 come out true.
-/
import Derived.Test.YtniahpbjfpmmhaaGreatFill
import Derived.Test.YtniahpbjfpmmhaaGreatRefQ
import Derived.Deep.RegionWith
namespace Go.Proofs.YtniahpbjfpmmhaaGreat
open Go.RowKit

/-- A callee that leaves the world alone, met in a region that reads. -/
theorem quiet_same {P : Program} {f : FuncId} {args : Array Value} {w : World} {n : Nat} {v : Value}
    (h : Calls P f args (w.drewN n) fun e w' => e = .returned v ∧ w.drewN n = w') : Calls P f args (w.drewN n) fun e w'' => e = .returned v ∧ ∃ m, w'' = w.drewN m :=
  h.mono fun _ _ ⟨he, hm⟩ => ⟨he, n, hm.symm⟩

set_option maxHeartbeats 1000000 in
set_option maxRecDepth 100000 in
theorem rfill_no (ahead s : ByteArray) (a : Int) (w : World) (hs : s.size ≤ 140737488351232) (h : fillBad ahead s a) :
    Calls Tryz.prog 17 #[.string ahead, .string s, .int .i64 a] w fun e w' => e = .returned (.tuple #[.string ⟨#[]⟩, .int .i64 1]) ∧ Below w.heap.size w w' := by
  by_cases c1 : a < 0
  · clear h
    go_enter Tryz.func17, Tryz.ntmps17
    go_wp2_with fail
    go_ret2
    exact ⟨rfl, Below.refl _ _⟩
  · have c1' : 0 ≤ a := by omega
    by_cases c2 : (s.size : Int) < a
    · clear h c1
      go_enter Tryz.func17, Tryz.ntmps17
      go_wp2_with fail
      go_ret2
      exact ⟨rfl, Below.refl _ _⟩
    · by_cases c2b : (s.size : Int) - a < 2
      · clear h c1
        go_enter Tryz.func17, Tryz.ntmps17
        go_wp2_with fail
        go_ret2
        exact ⟨rfl, Below.refl _ _⟩
      · by_cases c4 : a % 2 = 1
        · obtain ⟨a3, a4⟩ := eq_t c4
          clear h c1 c4
          go_enter Tryz.func17, Tryz.ntmps17
          go_wp2_with fail
          go_ret2
          exact ⟨rfl, Below.refl _ _⟩
        · obtain ⟨a3, a4⟩ := ne_t c4
          have c3 : (ahead.size : Int) % 2 = 1 := by unfold fillBad at h; omega
          obtain ⟨a1, a2⟩ := eq_t c3
          clear h c1 c3 c4
          go_enter Tryz.func17, Tryz.ntmps17
          go_wp2_with fail
          go_ret2
          exact ⟨rfl, Below.refl _ _⟩

set_option maxHeartbeats 1000000 in
set_option maxRecDepth 100000 in
theorem rfill_yes (ahead s : ByteArray) (A : Nat) (w : World) (ha : ahead.size ≤ 140737488351232) (hs : s.size ≤ 140737488351232) (h : ¬ fillBad ahead s A) :
    Calls Tryz.prog 17 #[.string ahead, .string s, .int .i64 (A : Int)] w fun e w' => e = .returned (.tuple #[.string (filled ahead s A), .int .i64 0]) ∧ Below w.heap.size w w' := by
  unfold fillBad at h
  obtain ⟨a1, a2⟩ := ne_t (show ¬ (ahead.size : Int) % 2 = 1 by omega)
  obtain ⟨a3, a4⟩ := ne_t (show ¬ (A : Int) % 2 = 1 by omega)
  have i1 : (A : Int) ≤ (s.size : Int) - 2 := by omega
  have hf : filled ahead s A = s.extract 0 A ++ ⟨(bytesOf (sumN (ahead ++ s.extract 0 A ++ ⟨#[0, 0]⟩ ++ s.extract (A + 2) s.size).data.toList) 2).toArray⟩ ++ s.extract (A + 2) s.size := rfl
  rw [hf]
  have z0 : (⟨#[0, 0]⟩ : ByteArray).size = 2 := rfl
  have H3 := Lib.hid fun U => rsum_c (ahead ++ s.extract 0 A ++ ⟨#[0, 0]⟩ ++ s.extract (A + 2) s.size) U (by rw [ByteArray.size_append, ByteArray.size_append, ByteArray.size_append]; simp; omega)
  obtain ⟨q, hq⟩ : ∃ q, q = sumN (ahead ++ s.extract 0 A ++ ⟨#[0, 0]⟩ ++ s.extract (A + 2) s.size).data.toList := ⟨_, rfl⟩
  have hq2 : q ≤ 65535 := by rw [hq]; exact sumN_le _
  rw [← hq] at H3 ⊢
  have H4 := Lib.hid fun U => of_c q 2 U (by omega) (by omega)
  have e2 : putSpec q 2 = (⟨(bytesOf q 2).toArray⟩, 0) := put_ok q 2 (by omega) (by omega) (by omega)
  rw [e2] at H4
  have s2 := bytes_size q 2
  obtain ⟨L, hL⟩ : ∃ L : ByteArray, L = ⟨(bytesOf q 2).toArray⟩ := ⟨_, rfl⟩
  rw [← hL] at H4 s2 ⊢
  have i2 : L.size ≤ 2 := by omega
  clear h hf hq hL s2 e2 z0
  go_enter Tryz.func17, Tryz.ntmps17
  go_wp2_with fail
  go_quiet ((refine quiet_same (H3.out _)))
  go_wp2_with fail
  have hbd : Below w.heap.size w (w.drewN nq) := below_drewN (Below.refl _ w) nq
  obtain ⟨w0, hw0⟩ : ∃ w0, w0 = w.drewN nq := ⟨_, rfl⟩
  rw [← hw0] at hbd ⊢
  clear hw0 H3
  have k1 : (A : Int) + 2 ≤ (s.size : Int) := by omega
  have k2 : (A : Int) ≤ (s.size : Int) := by omega
  have k3 : (0 : Int) ≤ (A : Int) + 2 := by omega
  have k4 : (0 : Int) ≤ (A : Int) := by omega
  have k5 : IntKind.i64.wrap ((A : Int) + 2) = (A : Int) + 2 := IntWalk.i64_in _ (by omega)
  have k6 : ((A : Int) + 2).toNat = A + 2 := by omega
  go_region_with ((go_at_call 34; refine (H4.out _).mono ?_; rintro e w1 ⟨rfl, h1⟩))
  go_wp2
  go_ret2
  exact ⟨rfl, hbd.trans (((Below.refl _ w0).drew.trans h1).mono hbd.size)⟩

theorem rfill_c (ahead s : ByteArray) (a : Int) (w : World) (ha : ahead.size ≤ 140737488351232) (hs : s.size ≤ 140737488351232) :
    Calls Tryz.prog 17 #[.string ahead, .string s, .int .i64 a] w fun e w' => e = .returned (.tuple #[.string (fillSpec ahead s a).1, .int .i64 (fillSpec ahead s a).2]) ∧ Below w.heap.size w w' := by
  by_cases h : fillBad ahead s a
  · have hv : fillSpec ahead s a = (⟨#[]⟩, 1) := by unfold fillSpec; rw [if_pos h]
    rw [hv]
    exact rfill_no ahead s a w hs h
  · obtain ⟨A, rfl⟩ := Int.eq_ofNat_of_zero_le (show 0 ≤ a by unfold fillBad at h; omega)
    have hv : fillSpec ahead s A = (filled ahead s A, 0) := by unfold fillSpec; rw [if_neg h, Int.toNat_natCast]
    rw [hv]
    exact rfill_yes ahead s A w ha hs h

end Go.Proofs.YtniahpbjfpmmhaaGreat
