/-
  Reading group messages: numbers, addresses, groups, lists of addresses. Contracts over the translated program.
-/
import Derived.Test.YtniahpbjfpmmhaaGreatIgS
import Derived.Test.YtniahpbjfpmmhaaGreatOctCut
import Derived.Test.YtniahpbjfpmmhaaGreatEthD
import Derived.Laws.AppendOwn
namespace Go.Proofs.YtniahpbjfpmmhaaGreat
open Go.RowKit
set_option linter.unusedVariables false

set_option maxHeartbeats 400000 in
theorem gnum_c (s : ByteArray) (a width : Int) (w : World) (hs : s.size ≤ 9223372036854775807) (ha : -9223372036854775808 ≤ a) (h2 : a ≤ 9223372036854775807) :
    Calls Tryz.prog 97 #[.string s, .int .i64 a, .int .i64 width] w fun e w' => e = .returned (.int .i64 (numv s a width)) ∧ Below w.heap.size w w' := by
  have H1 := Lib.hid fun U => get_c s a width U hs ha h2
  go_enter Tryz.func97, Tryz.ntmps97
  go_wp2_with fail
  refine (H1.out _).mono ?_
  rintro e w1 ⟨rfl, h1⟩
  go_wp2_with fail
  go_ret
  exact ⟨rfl, h1⟩

set_option maxHeartbeats 400000 in
theorem gaddr_c (s : ByteArray) (A N : Nat) (w : World) (hs : s.size ≤ 281474976710000) (h : A + N ≤ s.size) :
    Calls Tryz.prog 98 #[.string s, .int .i64 A, .int .i64 N] w fun e w' => e = .returned (.string (s.extract A (A + N))) ∧ Below w.heap.size w w' := by
  have H1 := Lib.hid fun U => cut_c s A N U hs (by omega) (by omega)
  rw [cut_okv s A N h] at H1
  clear h
  go_enter Tryz.func98, Tryz.ntmps98
  go_wp2_with fail
  refine (H1.out _).mono ?_
  rintro e w1 ⟨rfl, h1⟩
  go_wp2_with fail
  go_ret
  exact ⟨rfl, h1⟩

theorem grp_err (a : ByteArray) : ((grpSpec a).2 == 0) = isGrp a := by
  unfold grpSpec isGrp
  split
  · next h => simp [h]
  · next h4 =>
    split
    · next h => simp [h]
    · next h16 => simp [h4, h16]

set_option maxHeartbeats 400000 in
theorem isgroup_c (a : ByteArray) (size : Int) (w : World) :
    Calls Tryz.prog 99 #[.string a, .int .i64 size] w fun e w' => e = .returned (.bool (grpB a size)) ∧ Below w.heap.size w w' := by
  have H1 := Lib.hid fun U => grp_c a U
  have E := Lib.hid (grp_err a)
  by_cases h : (a.size : Int) = size
  · obtain ⟨p1, p2⟩ := eq_t h
    have V := Lib.hid (show grpB a size = isGrp a by unfold grpB; rw [decide_eq_true h]; rfl)
    clear h
    go_enter Tryz.func99, Tryz.ntmps99
    go_wp2_with fail
    refine (H1.out _).mono ?_
    rintro e w1 ⟨rfl, h1⟩
    go_wp2_with fail
    all_goals
      go_ret
      exact ⟨by rw [V.out, ← E.out]; simp_all, h1⟩
  · obtain ⟨p1, p2⟩ := ne_t h
    have V := Lib.hid (show grpB a size = false by unfold grpB; rw [decide_eq_false h]; rfl)
    clear h
    go_enter Tryz.func99, Tryz.ntmps99
    go_wp2_with fail
    refine (H1.out _).mono ?_
    rintro e w1 ⟨rfl, h1⟩
    go_wp2_with fail
    go_ret
    exact ⟨by rw [V.out]; rfl, h1⟩

theorem info_addr : (Tryz.prog.info? 22).map (fun i => (i.zero, i.size, i.bytes)) = some (some (.string ⟨#[]⟩), 1, 16) := by kernel_rfl

set_option maxHeartbeats 1000000 in
set_option maxRecDepth 100000 in
theorem gaddrs_c (s : ByteArray) (a n size : Nat) (w : World) (hs : s.size ≤ 281474976710000) (hn : n ≤ 65535) (hz : size ≤ 16) (h : a + n * size ≤ s.size) :
    Calls Tryz.prog 100 #[.string s, .int .i64 a, .int .i64 n, .int .i64 size] w fun e w' => ∃ v, e = .returned v ∧ AddrsIn w.heap.size w' v (addrsL s a n size) ∧ Below w.heap.size w w' := by
  obtain ⟨i0, hi, hz0, hz1, hz2⟩ := info_parts info_addr
  have HA := Lib.hid fun (k : Nat) (hk : k < n) U => gaddr_c s (a + k * size) size U hs (by have : (k + 1) * size ≤ n * size := Nat.mul_le_mul_right _ hk; rw [Nat.add_mul] at this; omega)
  have HN := Lib.hid fun (k : Nat) (hk : k < n) => show k * size ≤ 1048560 from Nat.le_trans (Nat.mul_le_mul (show k ≤ 65535 by omega) hz) (by omega)
  have ha : (a : Int) ≤ 281474976710000 := by omega
  clear h
  go_enter Tryz.func100, Tryz.ntmps100
  go_wp2_with fail
  go_loopw [9, 10, 12] (fun v _ i wr => ∃ k : Nat, k ≤ n ∧ i = .int .i64 k ∧ wr.ownsRow w.heap.size 22 1 v k ((addrsL s a k size).map Value.string) ∧ Below w.heap.size w wr) (fun _ _ i _ => n - (intOf i).toNat)
  case atStart => exact ⟨0, Nat.zero_le _, rfl, World.ownsRow_nil _ _ _ _, Below.refl _ _⟩
  case round =>
    obtain ⟨k, hk, rfl, hown, hb⟩ := hrel
    by_cases hlt : k < n
    · have hlt' : (k : Int) < (n : Int) := by omega
      have H := Lib.hid (HA.out k hlt)
      have hm := HN.out k hlt
      have hm' : (k : Int) * (size : Int) ≤ 1048560 := by rw [← Int.natCast_mul]; omega
      have hm0 : 0 ≤ (k : Int) * (size : Int) := by rw [← Int.natCast_mul]; omega
      have HX := Lib.hid hown
      have HB := Lib.hid hb
      rw [show ((a + k * size : Nat) : Int) = (a : Int) + (k : Int) * (size : Int) from by push_cast; rfl] at H
      have HS := Lib.hid (addrsL_succ s a k size)
      clear hown hb
      obtain ⟨x, hx⟩ : ∃ x, x = s.extract (a + k * size) (a + k * size + size) := ⟨_, rfl⟩
      rw [← hx] at H HS
      clear hx
      go_wp2_with fail
      refine (H.out _).mono ?_
      rintro e w1 ⟨rfl, h1⟩
      have HO := Lib.hid (owns_below HX.out h1)
      have HB1 := Lib.hid (HB.out.trans (h1.mono HB.out.size))
      clear h1
      go_wp2_with (at_builtin; refine wpList_append_own _ rfl _ _ 25 rfl w.heap.size 22 i0 (.string ⟨#[]⟩) 1 16 Tryz.underlying25 hi hz0 hz1 hz2 rfl (by decide) _ _ _ rfl (HO.out.alloc _) ⟨w1.heap.size, 0, none⟩ 1 1 [.string x] rfl rfl ?c1 ?c2 ?c3 ?c4 ?c5 ?_)
      case c1 =>
        intro j u hj
        obtain ⟨rfl, rfl⟩ := one_at hj
        exact cell_of_block (heap_new _ _) rfl
      case c2 => intro u hu; rw [List.mem_singleton.1 hu]; rfl
      case c3 => unfold maxLen; omega
      case c4 => omega
      case c5 => have := HB1.out.size; simp; omega
      intro v' w2 hown' hgrow _
      have HO2 := Lib.hid hown'
      have HB2 := Lib.hid ((HB1.out.alloc HB1.out.size _).grown hgrow (by have := HB1.out.size; simp; omega) (fun j hj => (HO.out.lt j hj).1))
      clear hown'
      go_wp2_with fail
      go_roundw
      case rel => exact ⟨k + 1, by omega, by go_num, by rw [HS.out, List.map_append]; exact HO2.out, HB2.out⟩
      case measure => simp [intOf]; omega
    · obtain rfl : k = n := by omega
      go_wp2_with fail
      go_ret
      exact ⟨_, rfl, AddrsG.of_owns hown, hb⟩

end Go.Proofs.YtniahpbjfpmmhaaGreat
