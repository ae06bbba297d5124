/-
  Reading queries: igmp.groupMayBe and readDetails. Contracts over the translated program.
-/
import Derived.Test.YtgbjfdjjokjhcaaIgD
import Derived.Test.YtgbjfdjjokjhcaaBits
namespace Go.Proofs.Ytgbjfdjjokjhcaa
open Go.RowKit
set_option linter.unusedVariables false

theorem toList_ne (g : ByteArray) (h : ¬ g.size = 0) : g.toList.isEmpty = false := by
  rw [ByteArray.toList_eq, List.isEmpty_eq_false_iff]
  intro h'
  exact h (by have := congrArg List.length h'; simpa using this)
theorem bytes_empty {g : ByteArray} (h : g.size = 0) : g = ⟨#[]⟩ := ByteArray.ext (Array.eq_empty_of_size_eq_zero h)

set_option maxHeartbeats 1000000 in
set_option maxRecDepth 100000 in
theorem gmay_c (k ver : Int) (g : ByteArray) (mx : Int) (q : Bool) (rob ev : Int) (p : Option Addr) (n cap : Nat) (vr : Value) (w : World) :
    Calls Try.prog 29 #[.agg #[.int .i64 k, .int .i64 ver, .string g, .int .i64 mx, .bool q, .int .i64 rob, .int .i64 ev, .slice p n cap, vr]] w fun e w' => e = .returned (.bool (qGrpB g n)) ∧ Below w.heap.size w w' := by
  by_cases h : g.size = 0
  · obtain rfl := bytes_empty h
    have V := Lib.hid (show qGrpB ⟨#[]⟩ n = decide (n = 0) from rfl)
    clear h
    go_enter Try.func29, Try.ntmps29
    go_wp2_with fail
    go_ret
    refine ⟨?_, (Below.refl _ w).alloc (Nat.le_refl _) _⟩
    rw [V.out]
    by_cases hn : n = 0
    · subst hn; rfl
    · obtain ⟨a1, a2⟩ := ne_t (show (n : Int) ≠ 0 by omega)
      simp [hn]
  · have V := Lib.hid (show qGrpB g n = grpB g 4 by unfold qGrpB; rw [if_neg h])
    have H1 := Lib.hid fun U => isgroup_c g 4 U
    have e1 : g.toList.isEmpty = false := toList_ne g h
    clear h
    go_enter Try.func29, Try.ntmps29
    go_wp2_with fail
    refine (H1.out _).mono ?_
    rintro e w1 ⟨rfl, h1⟩
    go_wp2_with fail
    go_ret
    exact ⟨by rw [V.out]; rfl, vboxed h1⟩

/-- Block P holds xs; what lies below it is as in w0. -/
def LB (P : Nat) (w0 : World) (xs : Array Value) (w : World) : Prop := w.heap[P]? = some (.cells xs 26 (0, 0)) ∧ Below P w0 w
theorem LB.below {P : Nat} {w0 w w' : World} {xs : Array Value} (h : LB P w0 xs w) (k : Below w.heap.size w w') : LB P w0 xs w' :=
  ⟨below_block k (lt_of_block h.1) h.1, h.2.trans (k.mono (Nat.le_of_lt (lt_of_block h.1)))⟩
theorem LB.store {P : Nat} {w0 w : World} {xs : Array Value} (h : LB P w0 xs w) (j : Nat) (v : Value) : LB P w0 (xs.setIfInBounds j v) (w.setCell ⟨P, j, none⟩ v) :=
  ⟨heap_store h.1, h.2.setCell (p := ⟨P, j, none⟩) (Nat.le_refl _) _⟩
theorem LB.cell {P : Nat} {w0 w : World} {xs : Array Value} (h : LB P w0 xs w) (j : Nat) {v : Value} (hj : xs[j]? = some v) : w.cell? ⟨P, j, none⟩ = some v := cell_of_block h.1 hj
theorem LB.free {P : Nat} {w0 w : World} {xs : Array Value} (h : LB P w0 xs w) (j : Nat) : w.frozen? ⟨P, j, none⟩ = false := free_of_block h.1
theorem LB.lt {P : Nat} {w0 w : World} {xs : Array Value} (h : LB P w0 xs w) : P < w.heap.size := lt_of_block h.1

/-- The details' error; what they say. -/
def detE (s : ByteArray) : Int :=
  if s.size < 12 then 3 else if 60 < (numv s 10 2).toNat then 3 else if s.size < 12 + (numv s 10 2).toNat * 4 then 2 else 0
def DetPost (s : ByteArray) (P : Nat) (k0 : Int) (g : ByteArray) (w0 : World) (e : Ending) (w' : World) : Prop :=
  e = .returned (.int .i64 (detE s)) ∧ Below P w0 w' ∧ (detE s = 0 → ∃ p cap, LB P w0 #[.int .i64 k0, .int .i64 3, .string g, .int .i64 (decI 4 (byt s 1)).1, .bool (decide (byt s 8 / 8 % 2 = 1)), .int .i64 ((byt s 8 % 8 : Nat) : Int), .int .i64 (decI 4 (byt s 9)).1, .slice p (numv s 10 2).toNat cap, .slice none 0 0] w' ∧ AddrsG (P + 1) true w' (.slice p (numv s 10 2).toNat cap) (addrsL s 12 (numv s 10 2).toNat 4))
theorem DetPost.bad {s : ByteArray} {P : Nat} {k0 : Int} {g : ByteArray} {w0 w' : World} {e : Ending} {c : Int} (h : detE s = c) (hc : c ≠ 0) (he : e = .returned (.int .i64 c)) (hb : Below P w0 w') : DetPost s P k0 g w0 e w' :=
  ⟨by rw [h]; exact he, hb, fun h0 => absurd (h.symm.trans h0) hc⟩

theorem dec8_b (c : Int) (w : World) :
    Calls Try.prog 71 #[.int .i64 c] w fun e w' => e = .returned (.tuple #[.int .i64 (decI 4 c).1, .int .i64 (decI 4 c).2]) ∧ Below w.heap.size w w' :=
  (dec8_c c w).mono fun _ _ ⟨h, n, hn⟩ => ⟨h, by rw [hn]; exact below_drewN (Below.refl _ _) _⟩

theorem gnum1_c (s : ByteArray) (A : Nat) (w : World) (hs : s.size ≤ 281474976710000) (h : A < s.size) :
    Calls Try.prog 50 #[.string s, .int .i64 A, .int .i64 1] w fun e w' => e = .returned (.int .i64 (byt s A)) ∧ Below w.heap.size w w' := by
  have := gnum_c s A 1 w (by omega) (by omega) (by omega)
  rw [numv_byte s A h, byt_get s A h] at this
  exact this

set_option maxHeartbeats 2000000 in
set_option maxRecDepth 100000 in
theorem det_short (s : ByteArray) (P : Nat) (k0 v0 : Int) (g : ByteArray) (mx : Int) (w0 w : World) (hs : s.size ≤ 281474976710000) (h9 : 8 < s.size) (hL : LB P w0 #[.int .i64 k0, .int .i64 v0, .string g, .int .i64 mx, .bool false, .int .i64 0, .int .i64 0, .slice none 0 0, .slice none 0 0] w) (h : s.size < 12) :
    Calls Try.prog 52 #[.pointer (some ⟨P, 0, none⟩), .string s] w (DetPost s P k0 g w0) := by
  have HV := Lib.hid (show detE s = 3 by unfold detE; rw [if_pos h])
  have HL := Lib.hid hL
  have h' : (s.size : Int) < 12 := by omega
  clear hL h
  go_enter Try.func52, Try.ntmps52
  go_wp2_with fail
  go_ret
  exact DetPost.bad HV.out (by decide) rfl HL.out.2

set_option maxHeartbeats 2000000 in
set_option maxRecDepth 100000 in
theorem det_many (s : ByteArray) (P : Nat) (k0 v0 : Int) (g : ByteArray) (mx : Int) (w0 w : World) (hs : s.size ≤ 281474976710000) (h9 : 8 < s.size) (hL : LB P w0 #[.int .i64 k0, .int .i64 v0, .string g, .int .i64 mx, .bool false, .int .i64 0, .int .i64 0, .slice none 0 0, .slice none 0 0] w) (h : 12 ≤ s.size) (h60 : 60 < (numv s 10 2).toNat) :
    Calls Try.prog 52 #[.pointer (some ⟨P, 0, none⟩), .string s] w (DetPost s P k0 g w0) := by
  have HV := Lib.hid (show detE s = 3 by unfold detE; rw [if_neg (by omega), if_pos h60])
  have bC := numv_le2 s 10
  have H1 := Lib.hid fun U => gnum_c s 10 2 U (by omega) (by omega) (by omega)
  obtain ⟨C, hC⟩ := Int.eq_ofNat_of_zero_le bC.1
  rw [hC] at H1 bC
  have HL := Lib.hid hL
  have h' : (12 : Int) ≤ (s.size : Int) := by omega
  have h6 : (60 : Int) < (C : Int) := by omega
  clear hL h h60 hC
  go_enter Try.func52, Try.ntmps52
  go_wp2_with fail
  refine (H1.out _).mono ?_
  rintro e w1 ⟨rfl, h1⟩
  have L1 := Lib.hid (HL.out.below h1)
  clear h1
  go_wp2_with fail
  go_ret
  exact DetPost.bad HV.out (by decide) rfl L1.out.2

set_option maxHeartbeats 2000000 in
set_option maxRecDepth 100000 in
theorem det_cut (s : ByteArray) (P : Nat) (k0 v0 : Int) (g : ByteArray) (mx : Int) (w0 w : World) (hs : s.size ≤ 281474976710000) (h9 : 8 < s.size) (hL : LB P w0 #[.int .i64 k0, .int .i64 v0, .string g, .int .i64 mx, .bool false, .int .i64 0, .int .i64 0, .slice none 0 0, .slice none 0 0] w) (h : 12 ≤ s.size) (h60 : (numv s 10 2).toNat ≤ 60) (hc : s.size < 12 + (numv s 10 2).toNat * 4) :
    Calls Try.prog 52 #[.pointer (some ⟨P, 0, none⟩), .string s] w (DetPost s P k0 g w0) := by
  have HV := Lib.hid (show detE s = 2 by unfold detE; rw [if_neg (by omega), if_neg (by omega), if_pos hc])
  have bC := numv_le2 s 10
  have H1 := Lib.hid fun U => gnum_c s 10 2 U (by omega) (by omega) (by omega)
  obtain ⟨C, hC⟩ := Int.eq_ofNat_of_zero_le bC.1
  rw [hC] at H1 bC
  have HL := Lib.hid hL
  have h' : (12 : Int) ≤ (s.size : Int) := by omega
  have h6 : (C : Int) ≤ 60 := by omega
  have hc' : (s.size : Int) < 12 + (C : Int) * 4 := by omega
  clear hL h h60 hC hc
  go_enter Try.func52, Try.ntmps52
  go_wp2_with fail
  refine (H1.out _).mono ?_
  rintro e w1 ⟨rfl, h1⟩
  have L1 := Lib.hid (HL.out.below h1)
  clear h1
  go_wp2_with fail
  go_ret
  exact DetPost.bad HV.out (by decide) rfl L1.out.2

set_option maxHeartbeats 2000000 in
set_option maxRecDepth 100000 in
theorem det_ok (s : ByteArray) (P : Nat) (k0 v0 : Int) (g : ByteArray) (mx : Int) (w0 w : World) (hs : s.size ≤ 281474976710000) (h9 : 8 < s.size) (hL : LB P w0 #[.int .i64 k0, .int .i64 v0, .string g, .int .i64 mx, .bool false, .int .i64 0, .int .i64 0, .slice none 0 0, .slice none 0 0] w) (h : 12 ≤ s.size) (h60 : (numv s 10 2).toNat ≤ 60) (hc : 12 + (numv s 10 2).toNat * 4 ≤ s.size) :
    Calls Try.prog 52 #[.pointer (some ⟨P, 0, none⟩), .string s] w (DetPost s P k0 g w0) := by
  have HV := Lib.hid (show detE s = 0 by unfold detE; rw [if_neg (by omega), if_neg (by omega), if_neg (by omega)])
  have H8 := Lib.hid fun U => gnum1_c s 8 U hs (by omega)
  have HM := Lib.hid fun U => gnum1_c s 1 U hs (by omega)
  have H9 := Lib.hid fun U => gnum1_c s 9 U hs (by omega)
  have HD1 := Lib.hid fun U => dec8_b (byt s 1) U
  have HD9 := Lib.hid fun U => dec8_b (byt s 9) U
  have HA := Lib.hid fun U => gaddrs_c s 12 (numv s 10 2).toNat 4 U hs (by omega) (by omega) (by omega)
  have bC := numv_le2 s 10
  have H1 := Lib.hid fun U => gnum_c s 10 2 U (by omega) (by omega) (by omega)
  obtain ⟨C, hC⟩ := Int.eq_ofNat_of_zero_le bC.1
  rw [hC] at H1 bC
  have HL := Lib.hid hL
  have h' : (12 : Int) ≤ (s.size : Int) := by omega
  have h6 : (C : Int) ≤ 60 := by omega
  have hc' : 12 + (C : Int) * 4 ≤ (s.size : Int) := by omega
  have hCn : (numv s 10 2).toNat = C := by omega
  rw [hCn] at HA
  unfold DetPost
  rw [hCn]
  have b8 : byt s 8 < 256 := by unfold byt; exact UInt8.toNat_lt _
  have e7 : bits .and .i64 (byt s 8 : Int) 7 = ((byt s 8 % 8 : Nat) : Int) := by
    have := i64_mask (byt s 8 : Int) 3 (by omega) (by omega) (by omega)
    simpa using this
  have e8 : bits .and .i64 (byt s 8 : Int) 8 = ((byt s 8 / 8 % 2 : Nat) : Int) * 8 := by
    have := i64_bit (byt s 8 : Int) 3 (by omega) (by omega) (by omega)
    simpa using this
  have hal := Lib.hid (addrsL_length s 12 C 4)
  generalize addrsL s 12 C 4 = al at HA hal ⊢
  generalize (decI 4 (byt s 1)).1 = d1 at HD1 ⊢
  generalize (decI 4 (byt s 1)).2 = d1' at HD1
  generalize (decI 4 (byt s 9)).1 = d9 at HD9 ⊢
  generalize (decI 4 (byt s 9)).2 = d9' at HD9
  generalize byt s 8 = B8 at H8 b8 e7 e8 ⊢
  generalize byt s 1 = B1 at HM HD1
  generalize byt s 9 = B9 at H9 HD9
  have b8' : (B8 : Int) < 256 := by omega
  clear hL h h60 hC hc hCn
  go_enter Try.func52, Try.ntmps52
  go_wp2_with fail
  refine (H1.out _).mono ?_
  rintro e w1 ⟨rfl, h1⟩
  replace HL := Lib.hid (HL.out.below h1)
  clear h1
  go_wp2_with fail
  refine (H8.out _).mono ?_
  rintro e w2 ⟨rfl, h2⟩
  replace HL := Lib.hid (HL.out.below h2)
  clear h2
  have c1 := HL.out.cell 1 rfl
  have f1 := HL.out.free 1
  go_wp2_with fail
  refine (HM.out _).mono ?_
  rintro e w3 ⟨rfl, h3⟩
  replace HL := Lib.hid ((HL.out.store 1 _).below h3)
  clear h3 c1 f1
  go_wp2_with fail
  refine (HD1.out _).mono ?_
  rintro e w4 ⟨rfl, h4⟩
  replace HL := Lib.hid (HL.out.below h4)
  clear h4
  have c1 := HL.out.cell 3 rfl
  have f1 := HL.out.free 3
  have c2 := HL.out.cell 4 rfl
  have f2 := HL.out.free 4
  have c3 := HL.out.cell 5 rfl
  have f3 := HL.out.free 5
  go_wp2_with fail
  refine (H9.out _).mono ?_
  rintro e w5 ⟨rfl, h5⟩
  replace HL := Lib.hid ((((HL.out.store 3 _).store 4 _).store 5 _).below h5)
  clear h5 c1 f1 c2 f2 c3 f3
  go_wp2_with fail
  refine (HD9.out _).mono ?_
  rintro e w6 ⟨rfl, h6'⟩
  replace HL := Lib.hid (HL.out.below h6')
  clear h6'
  have c1 := HL.out.cell 6 rfl
  have f1 := HL.out.free 6
  go_wp2_with fail
  refine (HA.out _).mono ?_
  rintro e w7 ⟨vs, rfl, hvs, h7⟩
  have hlt := (HL.out.store 6 (.int .i64 d9)).lt
  replace HL := Lib.hid ((HL.out.store 6 _).below h7)
  obtain ⟨p, cp, rfl⟩ := hvs.slice
  have HS := Lib.hid (hvs.mono hlt id)
  clear h7 c1 f1 hvs hlt
  have c1 := HL.out.cell 7 rfl
  have f1 := HL.out.free 7
  go_wp2_with fail
  go_ret
  rw [HV.out]
  have HL2 := HL.out.store 7 (.slice p al.length cp)
  refine ⟨rfl, HL2.2, fun _ => ⟨p, cp, ?_, ?_⟩⟩
  · rw [hal.out] at HL2 ⊢
    have eb : ((B8 : Int) / 8 % 2 * 8 != 0) = decide (B8 / 8 % 2 = 1) := by
      rw [Bool.eq_iff_iff, bne_iff_ne, decide_eq_true_iff]
      omega
    rw [← eb]
    exact HL2
  · rw [hal.out] at HS ⊢
    exact HS.out.store (Nat.lt_succ_self _)

theorem det_c (s : ByteArray) (P : Nat) (k0 v0 : Int) (g : ByteArray) (mx : Int) (w0 w : World) (hs : s.size ≤ 281474976710000) (h9 : 8 < s.size) (hL : LB P w0 #[.int .i64 k0, .int .i64 v0, .string g, .int .i64 mx, .bool false, .int .i64 0, .int .i64 0, .slice none 0 0, .slice none 0 0] w) :
    Calls Try.prog 52 #[.pointer (some ⟨P, 0, none⟩), .string s] w (DetPost s P k0 g w0) := by
  by_cases h : s.size < 12
  · exact det_short s P k0 v0 g mx w0 w hs h9 hL h
  · by_cases h60 : 60 < (numv s 10 2).toNat
    · exact det_many s P k0 v0 g mx w0 w hs h9 hL (by omega) h60
    · by_cases hc : s.size < 12 + (numv s 10 2).toNat * 4
      · exact det_cut s P k0 v0 g mx w0 w hs h9 hL (by omega) (by omega) hc
      · exact det_ok s P k0 v0 g mx w0 w hs h9 hL (by omega) (by omega) (by omega)

end Go.Proofs.Ytgbjfdjjokjhcaa
