/-
  Reading records, the document's answer: siphonref08.group, sources, Records.
-/
import Derived.Test.YtnfngmclomjimaaGreatIgD
import Derived.Test.YtnfngmclomjimaaGreatRAt
import Derived.Test.YtnfngmclomjimaaGreatEthDR
import Derived.RegionTactic
namespace Go.Proofs.YtnfngmclomjimaaGreat
open Go.RowKit
set_option linter.unusedVariables false

set_option maxHeartbeats 400000 in
theorem rgroup_c (a : ByteArray) (size : Int) (w : World) :
    Calls Tryz.prog 42 #[.string a, .int .i64 size] w fun e w' => e = .returned (.bool (grpB a size)) ∧ w = w' := by
  have HG : ∀ U, Calls Tryz.prog 45 #[.string a] U fun e w' => e = .returned (.bool (isGrp a)) ∧ U = w' := fun U => by
    unfold isGrp
    by_cases h : (a.size = 4 ∧ 224 ≤ (byteAt a 0).toNat ∧ (byteAt a 0).toNat ≤ 239) ∨ (a.size = 16 ∧ (byteAt a 0).toNat = 255)
    · rw [decide_eq_true h]; exact isgrp_yes a U h
    · rw [decide_eq_false h]; exact isgrp_no a U (fun k => h (.inl k)) (fun k => h (.inr k))
  have HG := Lib.hid HG
  by_cases h : (a.size : Int) = size
  · obtain ⟨p1, p2⟩ := eq_t h
    have V := Lib.hid (show grpB a size = isGrp a by unfold grpB; rw [decide_eq_true h]; rfl)
    clear h
    go_enter Tryz.func42, Tryz.ntmps42
    go_wp2_with fail
    refine (HG.out _).mono ?_
    rintro e w1 ⟨rfl, rfl⟩
    go_wp2_with fail
    go_ret
    exact ⟨by rw [V.out]; rfl, rfl⟩
  · obtain ⟨p1, p2⟩ := ne_t h
    have V := Lib.hid (show grpB a size = false by unfold grpB; rw [decide_eq_false h]; rfl)
    clear h
    go_enter Tryz.func42, Tryz.ntmps42
    go_wp2_with fail
    go_ret
    exact ⟨by rw [V.out]; rfl, rfl⟩

set_option maxHeartbeats 1000000 in
set_option maxRecDepth 100000 in
theorem rsrc_no (s : ByteArray) (a n size : Nat) (w : World) (hs : s.size ≤ 281474976710000) (ha : a ≤ s.size) (hn : n ≤ 65535) (hz : size ≤ 16) (h : s.size < a + n * size) :
    Calls Tryz.prog 43 #[.string s, .int .i64 a, .int .i64 n, .int .i64 size] w fun e w' => e = .returned (.tuple #[.slice none 0 0, .bool false]) ∧ w = w' := by
  have hP : n * size ≤ 1048560 := Nat.le_trans (Nat.mul_le_mul hn hz) (by omega)
  have hm : ((n * size : Nat) : Int) = (n : Int) * (size : Int) := by push_cast; rfl
  have p0 : 0 ≤ (n : Int) * (size : Int) := by rw [← hm]; omega
  have p1 : (n : Int) * (size : Int) ≤ 1048560 := by rw [← hm]; omega
  have hd : (s.size : Int) - (a : Int) < (n : Int) * (size : Int) := by rw [← hm]; omega
  clear h hm hP
  go_enter Tryz.func43, Tryz.ntmps43
  go_wp2_with fail
  go_ret2
  exact ⟨rfl, rfl⟩

set_option maxHeartbeats 1000000 in
set_option maxRecDepth 100000 in
theorem rsrc_c (s : ByteArray) (a n size : Nat) (w : World) (hs : s.size ≤ 281474976710000) (hn : n ≤ 65535) (hz : size ≤ 16) (h : a + n * size ≤ s.size) :
    Calls Tryz.prog 43 #[.string s, .int .i64 a, .int .i64 n, .int .i64 size] w fun e w' => ∃ v, e = .returned (.tuple #[v, .bool true]) ∧ AddrsG w.heap.size true w' v (addrsL s a n size) ∧ Below w.heap.size w w' := by
  obtain ⟨i0, hi, hz0, hz1, hz2⟩ := info_parts info_addr
  have hP : n * size ≤ 1048560 := Nat.le_trans (Nat.mul_le_mul hn hz) (by omega)
  have hm : ((n * size : Nat) : Int) = (n : Int) * (size : Int) := by push_cast; rfl
  have p0 : 0 ≤ (n : Int) * (size : Int) := by rw [← hm]; omega
  have p1 : (n : Int) * (size : Int) ≤ 1048560 := by rw [← hm]; omega
  have hd : (n : Int) * (size : Int) ≤ (s.size : Int) - (a : Int) := by rw [← hm]; omega
  have HN := Lib.hid fun (k : Nat) (hk : k < n) => show k * size + size ≤ n * size from by have : (k + 1) * size ≤ n * size := Nat.mul_le_mul_right _ hk; rw [Nat.add_mul] at this; omega
  have ha : (a : Int) ≤ 281474976710000 := by omega
  have hz' : (size : Int) ≤ 16 := by omega
  have HH := Lib.hid h
  clear h hm
  go_enter Tryz.func43, Tryz.ntmps43
  go_wp2_with fail
  go_loopw [10, 11] (fun v i wr => ∃ k : Nat, k ≤ n ∧ i = .int .i64 k ∧ wr.ownsRow w.heap.size 22 1 v k ((addrsL s a k size).map Value.string) ∧ Below w.heap.size w wr) (fun _ i _ => n - (intOf i).toNat)
  case atStart => exact ⟨0, Nat.zero_le _, rfl, World.ownsRow_nil _ _ _ _, Below.refl _ _⟩
  case round =>
    obtain ⟨k, hk, rfl, hown, hb⟩ := hrel
    by_cases hlt : k < n
    · have hlt' : (k : Int) < (n : Int) := by omega
      have hk2 := HN.out k hlt
      have hm0 : 0 ≤ (k : Int) * (size : Int) := by rw [← Int.natCast_mul]; omega
      have hm1 : (k : Int) * (size : Int) + (size : Int) ≤ (n : Int) * (size : Int) := by rw [← Int.natCast_mul, ← Int.natCast_mul]; omega
      have u1 : (a : Int) + (k : Int) * (size : Int) + (size : Int) ≤ (s.size : Int) := by omega
      have HO := Lib.hid hown
      have HB1 := Lib.hid hb
      have HS := Lib.hid (addrsL_succ s a k size)
      have t1 : ((a : Int) + (k : Int) * (size : Int)).toNat = a + k * size := by rw [← Int.natCast_mul]; omega
      have t2 : ((a : Int) + (k : Int) * (size : Int) + (size : Int)).toNat = a + k * size + size := by rw [← Int.natCast_mul]; omega
      clear hown hb hk2
      go_wp2_with (at_builtin; refine wpList_append_own _ rfl _ _ 26 rfl w.heap.size 22 i0 (.string ⟨#[]⟩) 1 16 Tryz.underlying26 hi hz0 hz1 hz2 rfl (by decide) _ _ _ rfl (HO.out.alloc _) ⟨wr.heap.size, 0, none⟩ 1 1 [.string (s.extract (a + k * size) (a + k * size + size))] rfl rfl ?c1 ?c2 ?c3 ?c4 ?c5 ?_)
      case c1 =>
        intro j u hj
        obtain ⟨rfl, rfl⟩ := one_at hj
        exact cell_of_block (heap_new _ _) rfl
      case c2 => intro u hu; rw [List.mem_singleton.1 hu]; rfl
      case c3 => unfold maxLen; omega
      case c4 => omega
      case c5 => have := HB1.out.size; simp; omega
      intro v' w2 hown' hgrow _
      have HO2 := Lib.hid hown'
      have HB2 := Lib.hid ((HB1.out.alloc HB1.out.size _).grown hgrow (by have := HB1.out.size; simp; omega) (fun j hj => (HO.out.lt j hj).1))
      clear hown'
      go_wp2_with fail
      go_roundw
      case rel => exact ⟨k + 1, by omega, by go_num, by rw [HS.out, List.map_append]; exact HO2.out, HB2.out⟩
      case measure => simp [intOf]; omega
    · obtain rfl : k = n := by omega
      go_wp2_with fail
      go_ret2
      exact ⟨_, rfl, AddrsG.of_owns hown, hb⟩

end Go.Proofs.YtnfngmclomjimaaGreat
