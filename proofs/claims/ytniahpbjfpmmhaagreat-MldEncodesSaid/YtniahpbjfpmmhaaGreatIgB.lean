/-
  Reading one record: igmp.recordAt. A contract over the translated program.
-/
import Derived.Test.YtniahpbjfpmmhaaGreatIgA
import Derived.Outline
namespace Go.Proofs.YtniahpbjfpmmhaaGreat
open Go.RowKit
set_option linter.unusedVariables false

theorem get_ok2 (s : ByteArray) (a : Nat) (h : a + 2 ≤ s.size) : getSpec s a 2 = (numv s a 2, 0) := by
  unfold numv getSpec
  rw [if_neg (by omega), if_neg (by omega)]
theorem get_cut2 (s : ByteArray) (a : Nat) (h : s.size < a + 2) : getSpec s a 2 = (0, 2) := by
  unfold getSpec
  rw [if_neg (by omega), if_pos (by omega)]

/-- What recordAt answers. -/
def RecPost (s : ByteArray) (a Z : Nat) (w : World) (e : Ending) (w' : World) : Prop :=
  ∃ vs, e = .returned (.tuple #[.agg #[.int .i64 (recOf s a Z).2.1.kind, .string (recOf s a Z).2.1.group, vs], .int .i64 (recOf s a Z).2.2, .int .i64 (recOf s a Z).1]) ∧ AddrsIn w.heap.size w' vs (recOf s a Z).2.1.srcs ∧ Below w.heap.size w w'

theorem RecPost.bad {s : ByteArray} {a Z : Nat} {w w' : World} {e : Ending} (c : Int) (h : recOf s a Z = (c, ⟨0, ⟨#[]⟩, []⟩, 0)) (he : e = .returned (.tuple #[.agg #[.int .i64 0, .string ⟨#[]⟩, .slice none 0 0], .int .i64 0, .int .i64 c])) (hb : Below w.heap.size w w') : RecPost s a Z w e w' := by
  unfold RecPost
  rw [h]
  exact ⟨_, he, AddrsG.nil _ _ _, hb⟩

set_option maxHeartbeats 1000000 in
set_option maxRecDepth 100000 in
theorem recat_cut0 (s : ByteArray) (a Z : Nat) (w : World) (hs : s.size ≤ 281474976710000) (ha : a ≤ s.size) (h : s.size < a + 4) :
    Calls Tryz.prog 89 #[.string s, .int .i64 a, .int .i64 Z] w (RecPost s a Z w) := by
  have HV := Lib.hid (show recOf s a Z = (2, ⟨0, ⟨#[]⟩, []⟩, 0) by unfold recOf; rw [if_pos (by omega)])
  have H1 := Lib.hid fun U => get_c s (a + 2 : Nat) 2 U (by omega) (by omega) (by omega)
  rw [get_cut2 s (a + 2) (by omega), show ((a + 2 : Nat) : Int) = (a : Int) + 2 from rfl] at H1
  have ha' : (a : Int) ≤ 281474976710000 := by omega
  clear h ha
  go_enter Tryz.func89, Tryz.ntmps89
  go_wp2_with fail
  refine (H1.out _).mono ?_
  rintro e w1 ⟨rfl, h1⟩
  have B := Lib.hid ((Box.start w _ _).below h1)
  clear h1
  have c0 := B.out.cell 0 rfl
  have c1 := B.out.cell 1 rfl
  have c2 := B.out.cell 2 rfl
  have f0 := B.out.free 0
  have f1 := B.out.free 1
  have f2 := B.out.free 2
  go_wp2_with fail
  refine bodyPost_ret (v := .tuple #[.agg #[.int .i64 0, .string ⟨#[]⟩, .slice none 0 0], .int .i64 0, .int .i64 2]) (by simp [results, Tryz.results89, go_sem, c0, c1, c2]) rfl (RecPost.bad 2 HV.out rfl ?_)
  exact ((B.out.2.setCell (p := ⟨w.heap.size, 0, none⟩) (Nat.le_refl _) _).setCell (p := ⟨w.heap.size, 1, none⟩) (Nat.le_refl _) _).setCell (p := ⟨w.heap.size, 2, none⟩) (Nat.le_refl _) _

set_option maxHeartbeats 1000000 in
set_option maxRecDepth 100000 in
theorem recat_cut1 (s : ByteArray) (a Z C N : Nat) (w : World) (hs : s.size ≤ 281474976710000) (hZ : Z ≤ 16) (h4 : a + 4 ≤ s.size) (hC : numv s (a + 2 : Nat) 2 = C) (hN : numv s (a + 1 : Nat) 1 = N) (h : s.size < a + (4 + Z + C * Z + 4 * N)) :
    Calls Tryz.prog 89 #[.string s, .int .i64 a, .int .i64 Z] w (RecPost s a Z w) := by
  have HV := Lib.hid (show recOf s a Z = (2, ⟨0, ⟨#[]⟩, []⟩, 0) by
    unfold recOf
    split
    · rfl
    · simp only [hC, hN, Int.toNat_natCast]
      rw [if_pos h])
  have bC := numv_le2 s (a + 2 : Nat)
  have bN := numv_le1 s (a + 1 : Nat)
  rw [hC] at bC
  rw [hN] at bN
  have H1 := Lib.hid fun U => get_c s (a + 2 : Nat) 2 U (by omega) (by omega) (by omega)
  rw [get_ok2 s (a + 2) (by omega), hC, show ((a + 2 : Nat) : Int) = (a : Int) + 2 from rfl] at H1
  have H2 := Lib.hid fun U => gnum_c s (a + 1 : Nat) 1 U (by omega) (by omega) (by omega)
  rw [hN, show ((a + 1 : Nat) : Int) = (a : Int) + 1 from rfl] at H2
  have ha' : (a : Int) ≤ 281474976710000 := by omega
  have hZ' : (Z : Int) ≤ 16 := by omega
  have hP : C * Z ≤ 1048560 := Nat.le_trans (Nat.mul_le_mul (show C ≤ 65535 by omega) hZ) (by omega)
  have hP0 : 0 ≤ (C : Int) * (Z : Int) := by rw [← Int.natCast_mul]; omega
  have hP1 : (C : Int) * (Z : Int) ≤ 1048560 := by rw [← Int.natCast_mul]; omega
  have hm : ((C * Z : Nat) : Int) = (C : Int) * (Z : Int) := by push_cast; rfl
  have hd : (s.size : Int) < (a : Int) + 4 + (Z : Int) + (C : Int) * (Z : Int) + 4 * (N : Int) := by rw [← hm]; omega
  clear h h4 hm hC hN hP
  go_enter Tryz.func89, Tryz.ntmps89
  go_wp2_with fail
  refine (H1.out _).mono ?_
  rintro e w1 ⟨rfl, h1⟩
  have B := Lib.hid ((Box.start w _ _).below h1)
  clear h1
  go_wp2_with fail
  refine (H2.out _).mono ?_
  rintro e w2 ⟨rfl, h2⟩
  replace B := Lib.hid (B.out.below h2)
  clear h2
  have c0 := B.out.cell 0 rfl
  have c1 := B.out.cell 1 rfl
  have c2 := B.out.cell 2 rfl
  have f0 := B.out.free 0
  have f1 := B.out.free 1
  have f2 := B.out.free 2
  go_wp2_with fail
  refine bodyPost_ret (v := .tuple #[.agg #[.int .i64 0, .string ⟨#[]⟩, .slice none 0 0], .int .i64 0, .int .i64 2]) (by simp [results, Tryz.results89, go_sem, c0, c1, c2]) rfl (RecPost.bad 2 HV.out rfl ?_)
  exact ((B.out.2.setCell (p := ⟨w.heap.size, 0, none⟩) (Nat.le_refl _) _).setCell (p := ⟨w.heap.size, 1, none⟩) (Nat.le_refl _) _).setCell (p := ⟨w.heap.size, 2, none⟩) (Nat.le_refl _) _

set_option maxHeartbeats 1000000 in
set_option maxRecDepth 100000 in
theorem recat_many (s : ByteArray) (a Z C N : Nat) (w : World) (hs : s.size ≤ 281474976710000) (hZ : Z ≤ 16) (h4 : a + 4 ≤ s.size) (hC : numv s (a + 2 : Nat) 2 = C) (hN : numv s (a + 1 : Nat) 1 = N) (h : a + (4 + Z + C * Z + 4 * N) ≤ s.size) (h60 : 60 < C) :
    Calls Tryz.prog 89 #[.string s, .int .i64 a, .int .i64 Z] w (RecPost s a Z w) := by
  have HV := Lib.hid (show recOf s a Z = (3, ⟨0, ⟨#[]⟩, []⟩, 0) by
    unfold recOf
    rw [if_neg (by omega)]
    simp only [hC, hN, Int.toNat_natCast]
    rw [if_neg (by omega), if_pos (.inl h60)])
  have bC := numv_le2 s (a + 2 : Nat)
  have bN := numv_le1 s (a + 1 : Nat)
  rw [hC] at bC
  rw [hN] at bN
  have H1 := Lib.hid fun U => get_c s (a + 2 : Nat) 2 U (by omega) (by omega) (by omega)
  rw [get_ok2 s (a + 2) (by omega), hC, show ((a + 2 : Nat) : Int) = (a : Int) + 2 from rfl] at H1
  have H2 := Lib.hid fun U => gnum_c s (a + 1 : Nat) 1 U (by omega) (by omega) (by omega)
  rw [hN, show ((a + 1 : Nat) : Int) = (a : Int) + 1 from rfl] at H2
  have ha' : (a : Int) ≤ 281474976710000 := by omega
  have hZ' : (Z : Int) ≤ 16 := by omega
  have hP : C * Z ≤ 1048560 := Nat.le_trans (Nat.mul_le_mul (show C ≤ 65535 by omega) hZ) (by omega)
  have hP0 : 0 ≤ (C : Int) * (Z : Int) := by rw [← Int.natCast_mul]; omega
  have hP1 : (C : Int) * (Z : Int) ≤ 1048560 := by rw [← Int.natCast_mul]; omega
  have hm : ((C * Z : Nat) : Int) = (C : Int) * (Z : Int) := by push_cast; rfl
  have hd : (a : Int) + 4 + (Z : Int) + (C : Int) * (Z : Int) + 4 * (N : Int) ≤ (s.size : Int) := by rw [← hm]; omega
  have H3 := Lib.hid fun U => gaddr_c s (a + 4) Z U hs (by omega)
  rw [show ((a + 4 : Nat) : Int) = (a : Int) + 4 from rfl] at H3
  have h60' : (60 : Int) < (C : Int) := by omega
  clear h h4 hm hC hN hP h60
  go_enter Tryz.func89, Tryz.ntmps89
  go_wp2_with fail
  refine (H1.out _).mono ?_
  rintro e w1 ⟨rfl, h1⟩
  have B := Lib.hid ((Box.start w _ _).below h1)
  clear h1
  go_wp2_with fail
  refine (H2.out _).mono ?_
  rintro e w2 ⟨rfl, h2⟩
  replace B := Lib.hid (B.out.below h2)
  clear h2
  go_wp2_with fail
  refine (H3.out _).mono ?_
  rintro e w3 ⟨rfl, h3⟩
  replace B := Lib.hid (B.out.below h3)
  clear h3
  have c0 := B.out.cell 0 rfl
  have c1 := B.out.cell 1 rfl
  have c2 := B.out.cell 2 rfl
  have f0 := B.out.free 0
  have f1 := B.out.free 1
  have f2 := B.out.free 2
  go_wp2_with fail
  refine bodyPost_ret (v := .tuple #[.agg #[.int .i64 0, .string ⟨#[]⟩, .slice none 0 0], .int .i64 0, .int .i64 3]) (by simp [results, Tryz.results89, go_sem, c0, c1, c2]) rfl (RecPost.bad 3 HV.out rfl ?_)
  exact ((B.out.2.setCell (p := ⟨w.heap.size, 0, none⟩) (Nat.le_refl _) _).setCell (p := ⟨w.heap.size, 1, none⟩) (Nat.le_refl _) _).setCell (p := ⟨w.heap.size, 2, none⟩) (Nat.le_refl _) _

set_option maxHeartbeats 1000000 in
set_option maxRecDepth 100000 in
theorem recat_form (s : ByteArray) (a Z C N : Nat) (w : World) (hs : s.size ≤ 281474976710000) (hZ : Z ≤ 16) (h4 : a + 4 ≤ s.size) (hC : numv s (a + 2 : Nat) 2 = C) (hN : numv s (a + 1 : Nat) 1 = N) (h : a + (4 + Z + C * Z + 4 * N) ≤ s.size) (h60 : C ≤ 60) (hg : grpB (s.extract (a + 4) (a + 4 + Z)) Z = false) :
    Calls Tryz.prog 89 #[.string s, .int .i64 a, .int .i64 Z] w (RecPost s a Z w) := by
  have HV := Lib.hid (show recOf s a Z = (3, ⟨0, ⟨#[]⟩, []⟩, 0) by
    unfold recOf
    rw [if_neg (by omega)]
    simp only [hC, hN, Int.toNat_natCast]
    rw [if_neg (by omega), if_pos (.inr hg)])
  have bC := numv_le2 s (a + 2 : Nat)
  have bN := numv_le1 s (a + 1 : Nat)
  rw [hC] at bC
  rw [hN] at bN
  have H1 := Lib.hid fun U => get_c s (a + 2 : Nat) 2 U (by omega) (by omega) (by omega)
  rw [get_ok2 s (a + 2) (by omega), hC, show ((a + 2 : Nat) : Int) = (a : Int) + 2 from rfl] at H1
  have H2 := Lib.hid fun U => gnum_c s (a + 1 : Nat) 1 U (by omega) (by omega) (by omega)
  rw [hN, show ((a + 1 : Nat) : Int) = (a : Int) + 1 from rfl] at H2
  have ha' : (a : Int) ≤ 281474976710000 := by omega
  have hZ' : (Z : Int) ≤ 16 := by omega
  have hP : C * Z ≤ 1048560 := Nat.le_trans (Nat.mul_le_mul (show C ≤ 65535 by omega) hZ) (by omega)
  have hP0 : 0 ≤ (C : Int) * (Z : Int) := by rw [← Int.natCast_mul]; omega
  have hP1 : (C : Int) * (Z : Int) ≤ 1048560 := by rw [← Int.natCast_mul]; omega
  have hm : ((C * Z : Nat) : Int) = (C : Int) * (Z : Int) := by push_cast; rfl
  have hd : (a : Int) + 4 + (Z : Int) + (C : Int) * (Z : Int) + 4 * (N : Int) ≤ (s.size : Int) := by rw [← hm]; omega
  have H3 := Lib.hid fun U => gaddr_c s (a + 4) Z U hs (by omega)
  rw [show ((a + 4 : Nat) : Int) = (a : Int) + 4 from rfl] at H3
  have h60' : (C : Int) ≤ 60 := by omega
  have H4 := Lib.hid fun U => isgroup_c (s.extract (a + 4) (a + 4 + Z)) Z U
  rw [hg] at H4
  generalize s.extract (a + 4) (a + 4 + Z) = g at H3 H4
  clear h h4 hm hC hN hP h60 hg
  go_enter Tryz.func89, Tryz.ntmps89
  go_wp2_with fail
  refine (H1.out _).mono ?_
  rintro e w1 ⟨rfl, h1⟩
  have B := Lib.hid ((Box.start w _ _).below h1)
  clear h1
  go_wp2_with fail
  refine (H2.out _).mono ?_
  rintro e w2 ⟨rfl, h2⟩
  replace B := Lib.hid (B.out.below h2)
  clear h2
  go_wp2_with fail
  refine (H3.out _).mono ?_
  rintro e w3 ⟨rfl, h3⟩
  replace B := Lib.hid (B.out.below h3)
  clear h3
  go_wp2_with fail
  refine (H4.out _).mono ?_
  rintro e w4 ⟨rfl, h4⟩
  replace B := Lib.hid (B.out.below h4)
  clear h4
  have c0 := B.out.cell 0 rfl
  have c1 := B.out.cell 1 rfl
  have c2 := B.out.cell 2 rfl
  have f0 := B.out.free 0
  have f1 := B.out.free 1
  have f2 := B.out.free 2
  go_wp2_with fail
  refine bodyPost_ret (v := .tuple #[.agg #[.int .i64 0, .string ⟨#[]⟩, .slice none 0 0], .int .i64 0, .int .i64 3]) (by simp [results, Tryz.results89, go_sem, c0, c1, c2]) rfl (RecPost.bad 3 HV.out rfl ?_)
  exact ((B.out.2.setCell (p := ⟨w.heap.size, 0, none⟩) (Nat.le_refl _) _).setCell (p := ⟨w.heap.size, 1, none⟩) (Nat.le_refl _) _).setCell (p := ⟨w.heap.size, 2, none⟩) (Nat.le_refl _) _

set_option maxHeartbeats 2000000 in
set_option maxRecDepth 100000 in
theorem recat_ok (s : ByteArray) (a Z C N : Nat) (w : World) (hs : s.size ≤ 281474976710000) (hZ : Z ≤ 16) (h4 : a + 4 ≤ s.size) (hC : numv s (a + 2 : Nat) 2 = C) (hN : numv s (a + 1 : Nat) 1 = N) (h : a + (4 + Z + C * Z + 4 * N) ≤ s.size) (h60 : C ≤ 60) (hg : grpB (s.extract (a + 4) (a + 4 + Z)) Z = true) :
    Calls Tryz.prog 89 #[.string s, .int .i64 a, .int .i64 Z] w (RecPost s a Z w) := by
  have HV := Lib.hid (show recOf s a Z = (0, ⟨numv s a 1, s.extract (a + 4) (a + 4 + Z), addrsL s (a + 4 + Z) C Z⟩, 4 + Z + C * Z + 4 * N) by
    unfold recOf
    rw [if_neg (by omega)]
    simp only [hC, hN, Int.toNat_natCast]
    rw [if_neg (by omega), if_neg (by rw [hg]; simp; omega)])
  have bC := numv_le2 s (a + 2 : Nat)
  have bN := numv_le1 s (a + 1 : Nat)
  rw [hC] at bC
  rw [hN] at bN
  have H1 := Lib.hid fun U => get_c s (a + 2 : Nat) 2 U (by omega) (by omega) (by omega)
  rw [get_ok2 s (a + 2) (by omega), hC, show ((a + 2 : Nat) : Int) = (a : Int) + 2 from rfl] at H1
  have H2 := Lib.hid fun U => gnum_c s (a + 1 : Nat) 1 U (by omega) (by omega) (by omega)
  rw [hN, show ((a + 1 : Nat) : Int) = (a : Int) + 1 from rfl] at H2
  have ha' : (a : Int) ≤ 281474976710000 := by omega
  have hZ' : (Z : Int) ≤ 16 := by omega
  have hP : C * Z ≤ 1048560 := Nat.le_trans (Nat.mul_le_mul (show C ≤ 65535 by omega) hZ) (by omega)
  have hP0 : 0 ≤ (C : Int) * (Z : Int) := by rw [← Int.natCast_mul]; omega
  have hP1 : (C : Int) * (Z : Int) ≤ 1048560 := by rw [← Int.natCast_mul]; omega
  have hm : ((C * Z : Nat) : Int) = (C : Int) * (Z : Int) := by push_cast; rfl
  have hd : (a : Int) + 4 + (Z : Int) + (C : Int) * (Z : Int) + 4 * (N : Int) ≤ (s.size : Int) := by rw [← hm]; omega
  have H3 := Lib.hid fun U => gaddr_c s (a + 4) Z U hs (by omega)
  rw [show ((a + 4 : Nat) : Int) = (a : Int) + 4 from rfl] at H3
  have h60' : (C : Int) ≤ 60 := by omega
  have H4 := Lib.hid fun U => isgroup_c (s.extract (a + 4) (a + 4 + Z)) Z U
  rw [hg] at H4
  have H5 := Lib.hid fun U => gnum_c s a 1 U (by omega) (by omega) (by omega)
  have H6 := Lib.hid fun U => gaddrs_c s (a + 4 + Z) C Z U hs (by omega) hZ (by omega)
  rw [show ((a + 4 + Z : Nat) : Int) = (a : Int) + 4 + (Z : Int) from rfl] at H6
  have HW := Lib.hid (show ((4 + Z + C * Z + 4 * N : Nat) : Int) = (a : Int) + 4 + (Z : Int) + (C : Int) * (Z : Int) + 4 * (N : Int) - (a : Int) by rw [← hm]; omega)
  generalize s.extract (a + 4) (a + 4 + Z) = g at H3 H4 HV
  generalize numv s a 1 = kd at H5 HV
  have d60 : decide ((60 : Int) < (C : Int)) = false := decide_eq_false (by omega)
  clear h h4 hm hC hN hP h60 hg
  go_enter Tryz.func89, Tryz.ntmps89
  go_wp2_with fail
  refine (H1.out _).mono ?_
  rintro e w1 ⟨rfl, h1⟩
  have B := Lib.hid ((Box.start w _ _).below h1)
  clear h1
  go_wp2_with fail
  refine (H2.out _).mono ?_
  rintro e w2 ⟨rfl, h2⟩
  replace B := Lib.hid (B.out.below h2)
  clear h2
  go_wp2_with fail
  refine (H3.out _).mono ?_
  rintro e w3 ⟨rfl, h3⟩
  replace B := Lib.hid (B.out.below h3)
  clear h3
  go_wp2_with fail
  refine (H4.out _).mono ?_
  rintro e w4 ⟨rfl, h4⟩
  replace B := Lib.hid (B.out.below h4)
  clear h4
  go_wp2_with fail
  refine (H5.out _).mono ?_
  rintro e w5 ⟨rfl, h5⟩
  replace B := Lib.hid (B.out.below h5)
  clear h5
  have B5 : w.heap.size + 1 ≤ w5.heap.size := B.out.lt
  go_wp2_with fail
  refine (H6.out _).mono ?_
  rintro e w6 ⟨vs, rfl, ha6, h6⟩
  replace B := Lib.hid (B.out.below h6)
  obtain ⟨p6, cp6, rfl⟩ := ha6.slice
  have HA := Lib.hid ha6
  have HB := Lib.hid (show w.heap.size + 1 ≤ w5.heap.size from B5)
  generalize (addrsL s (a + 4 + Z) C Z) = al at HA HV
  generalize al.length = aln at HA
  clear h6 ha6
  have c0 := B.out.cell 0 rfl
  have c1 := B.out.cell 1 rfl
  have c2 := B.out.cell 2 rfl
  have f0 := B.out.free 0
  have f1 := B.out.free 1
  have f2 := B.out.free 2
  have hz := B.out.lt
  go_wp2_with fail
  refine bodyPost_ret (v := .tuple #[.agg #[.int .i64 kd, .string g, .slice p6 aln cp6], .int .i64 ((a : Int) + 4 + (Z : Int) + (C : Int) * (Z : Int) + 4 * (N : Int) - (a : Int)), .int .i64 0]) (by simp [results, Tryz.results89, go_sem, c0, c1, c2, hz]) rfl ?_
  unfold RecPost
  rw [HV.out]
  refine ⟨_, by rw [HW.out], ?_, ?_⟩
  · exact (((((HA.out.mono HB.out id).store (Nat.lt_succ_self _)).store (Nat.lt_succ_self _)).store (Nat.lt_succ_self _)).below ((Below.refl _ _).alloc (Nat.le_refl _) _)).mono (Nat.le_succ _) id
  · exact (((B.out.2.setCell (p := ⟨w.heap.size, 0, none⟩) (Nat.le_refl _) _).setCell (p := ⟨w.heap.size, 1, none⟩) (Nat.le_refl _) _).setCell (p := ⟨w.heap.size, 2, none⟩) (Nat.le_refl _) _).alloc (by simp; omega) _

theorem recat_c (s : ByteArray) (a Z : Nat) (w : World) (hs : s.size ≤ 281474976710000) (hZ : Z ≤ 16) (ha : a ≤ s.size) :
    Calls Tryz.prog 89 #[.string s, .int .i64 a, .int .i64 Z] w (RecPost s a Z w) := by
  by_cases h0 : s.size < a + 4
  · exact recat_cut0 s a Z w hs ha h0
  · have h4 : a + 4 ≤ s.size := by omega
    obtain ⟨C, hC⟩ := Int.eq_ofNat_of_zero_le (numv_le2 s (a + 2 : Nat)).1
    obtain ⟨N, hN⟩ := Int.eq_ofNat_of_zero_le (numv_le1 s (a + 1 : Nat)).1
    by_cases h1 : s.size < a + (4 + Z + C * Z + 4 * N)
    · exact recat_cut1 s a Z C N w hs hZ h4 hC hN h1
    · have h : a + (4 + Z + C * Z + 4 * N) ≤ s.size := by omega
      by_cases h2 : 60 < C
      · exact recat_many s a Z C N w hs hZ h4 hC hN h h2
      · rcases hg : grpB (s.extract (a + 4) (a + 4 + Z)) Z with _ | _
        · exact recat_form s a Z C N w hs hZ h4 hC hN h (by omega) hg
        · exact recat_ok s a Z C N w hs hZ h4 hC hN h (by omega) hg

end Go.Proofs.YtniahpbjfpmmhaaGreat
