/-
  Reading messages: igmp.readOne, readRecords. Contracts over the translated program.
-/
import Derived.Test.YtgbjfdjjokjhcaaIgC
import Derived.Deep.RegionWith
namespace Go.Proofs.Ytgbjfdjjokjhcaa
open Go.RowKit
set_option linter.unusedVariables false

theorem recs_c (s : ByteArray) (n Z : Int) (w : World) (hs : s.size ≤ 281474976710000) (n1 : -9223372036854775808 ≤ n) :
    Calls Try.prog 54 #[.string s, .int .i64 n, .int .i64 Z] w (RecsPost (recsI s n Z) w) := by
  have HZ := Lib.hid fun U => issize_c Z U
  by_cases h0 : n < 0
  · have V := Lib.hid (show recsI s n Z = (1, []) by unfold recsI; rw [if_pos (.inl h0)])
    go_enter Try.func54, Try.ntmps54
    go_wp2_with fail
    go_ret2
    unfold RecsPost
    rw [V.out]
    exact ⟨_, rfl, RecsG.nil _ _ _, Below.refl _ _⟩
  · have h0' : 0 ≤ n := by omega
    rcases hz : sizeB Z with _ | _
    · have V := Lib.hid (show recsI s n Z = (1, []) by unfold recsI; rw [if_pos (.inr (by have := of_decide_eq_false hz; omega))])
      rw [hz] at HZ
      clear h0 hz
      go_enter Try.func54, Try.ntmps54
      go_wp2_with fail
      refine (HZ.out _).mono ?_
      rintro e w1 ⟨rfl, rfl⟩
      go_wp2_with fail
      go_ret2
      unfold RecsPost
      rw [V.out]
      exact ⟨_, rfl, RecsG.nil _ _ _, Below.refl _ _⟩
    · have hZ : Z = 4 ∨ Z = 16 := of_decide_eq_true hz
      by_cases h3 : 30 < n
      · have V := Lib.hid (show recsI s n Z = (3, []) by unfold recsI; rw [if_neg (by omega), if_pos h3])
        rw [hz] at HZ
        clear h0 hz hZ
        go_enter Try.func54, Try.ntmps54
        go_wp2_with fail
        refine (HZ.out _).mono ?_
        rintro e w1 ⟨rfl, rfl⟩
        go_wp2_with fail
        go_ret2
        unfold RecsPost
        rw [V.out]
        exact ⟨_, rfl, RecsG.nil _ _ _, Below.refl _ _⟩
      · obtain ⟨N, rfl⟩ := Int.eq_ofNat_of_zero_le h0'
        obtain ⟨K, rfl⟩ := Int.eq_ofNat_of_zero_le (show 0 ≤ Z by omega)
        have V : recsI s N K = recsGo s K N 0 := by unfold recsI; rw [if_neg (by omega), if_neg h3]; rfl
        rw [V]
        exact recs_go s N K w hs (by omega) (by omega)

/-- What Decode and its parts answer, given as an error and a message. -/
def MsgPost (t : Int × Msg) (w : World) (e : Ending) (w' : World) : Prop :=
  ∃ vs vr, e = .returned (.tuple #[t.2.val vs vr, .int .i64 t.1]) ∧ AddrsG w.heap.size true w' vs t.2.srcs ∧ RecsG w.heap.size true w' vr t.2.recs ∧ Below w.heap.size w w'
theorem RecsG.storeN9 {c : Nat} {ty : Bool} {w : World} {v : Value} {L : List Rec} (h : RecsG (c + 1) ty w v L) (c' : Nat) (hc : c' < c + 1) {u0 u1 u2 u3 u4 u5 u6 u7 u8 : Value} :
    RecsG c ty (((((((((w.setCell ⟨c', 0, none⟩ u0).setCell ⟨c', 1, none⟩ u1).setCell ⟨c', 2, none⟩ u2).setCell ⟨c', 3, none⟩ u3).setCell ⟨c', 4, none⟩ u4).setCell ⟨c', 5, none⟩ u5).setCell ⟨c', 6, none⟩ u6).setCell ⟨c', 7, none⟩ u7).setCell ⟨c', 8, none⟩ u8) v L :=
  (((((((((h.store hc).store hc).store hc).store hc).store hc).store hc).store hc).store hc).store hc).mono (Nat.le_succ _) id
theorem AddrsG.storeN9 {c : Nat} {ty : Bool} {w : World} {v : Value} {L : List ByteArray} (h : AddrsG (c + 1) ty w v L) (c' : Nat) (hc : c' < c + 1) {u0 u1 u2 u3 u4 u5 u6 u7 u8 : Value} :
    AddrsG c ty (((((((((w.setCell ⟨c', 0, none⟩ u0).setCell ⟨c', 1, none⟩ u1).setCell ⟨c', 2, none⟩ u2).setCell ⟨c', 3, none⟩ u3).setCell ⟨c', 4, none⟩ u4).setCell ⟨c', 5, none⟩ u5).setCell ⟨c', 6, none⟩ u6).setCell ⟨c', 7, none⟩ u7).setCell ⟨c', 8, none⟩ u8) v L :=
  (((((((((h.store hc).store hc).store hc).store hc).store hc).store hc).store hc).store hc).store hc).mono (Nat.le_succ _) id
theorem MsgPost.bad {t : Int × Msg} {w w' : World} {e : Ending} {c : Int} (h : t = (c, zeroM)) (he : e = .returned (.tuple #[.agg #[.int .i64 0, .int .i64 0, .string ⟨#[]⟩, .int .i64 0, .bool false, .int .i64 0, .int .i64 0, .slice none 0 0, .slice none 0 0], .int .i64 c])) (hb : Below w.heap.size w w') : MsgPost t w e w' := by
  subst h
  exact ⟨_, _, he, AddrsG.nil _ _ _, RecsG.nil _ _ _, hb⟩

set_option maxHeartbeats 2000000 in
set_option maxRecDepth 100000 in
theorem one_no (s : ByteArray) (k v : Int) (w : World) (hs : s.size ≤ 281474976710000) (h8 : 8 ≤ s.size) (hg : grpB (s.extract 4 8) 4 = false) :
    Calls Try.prog 26 #[.string s, .int .i64 k, .int .i64 v] w (MsgPost (oneI s k v) w) := by
  have HV := Lib.hid (show oneI s k v = (3, zeroM) by unfold oneI; rw [hg]; rfl)
  have H1 := Lib.hid fun U => gaddr_c s 4 4 U hs (by omega)
  have H2 := Lib.hid fun U => isgroup_c (s.extract 4 8) 4 U
  rw [hg] at H2
  rw [show ((4 : Nat) : Int) = 4 from rfl, show 4 + 4 = 8 from rfl] at H1
  generalize s.extract 4 8 = g at H1 H2
  clear hg
  go_enter Try.func26, Try.ntmps26
  go_wp2_with fail
  refine (H1.out _).mono ?_
  rintro e w1 ⟨rfl, h1⟩
  have B := Lib.hid ((Box.start w _ _).below h1)
  clear h1
  go_wp2_with fail
  refine (H2.out _).mono ?_
  rintro e w2 ⟨rfl, h2⟩
  replace B := Lib.hid (B.out.below h2)
  clear h2
  have c0 := B.out.cell 0 rfl
  have c1 := B.out.cell 1 rfl
  have c2 := B.out.cell 2 rfl
  have c3 := B.out.cell 3 rfl
  have c4 := B.out.cell 4 rfl
  have c5 := B.out.cell 5 rfl
  have c6 := B.out.cell 6 rfl
  have c7 := B.out.cell 7 rfl
  have c8 := B.out.cell 8 rfl
  have f0 := B.out.free 0
  have f1 := B.out.free 1
  have f2 := B.out.free 2
  have f3 := B.out.free 3
  have f4 := B.out.free 4
  have f5 := B.out.free 5
  have f6 := B.out.free 6
  have f7 := B.out.free 7
  have f8 := B.out.free 8
  go_wp2_with fail
  refine bodyPost_ret (v := .tuple #[.agg #[.int .i64 0, .int .i64 0, .string ⟨#[]⟩, .int .i64 0, .bool false, .int .i64 0, .int .i64 0, .slice none 0 0, .slice none 0 0], .int .i64 3]) (by simp [results, Try.results26, go_sem, c0, c1, c2, c3, c4, c5, c6, c7, c8]) rfl (MsgPost.bad HV.out rfl ?_)
  exact (((((((((B.out.2.setCell (p := ⟨w.heap.size, 0, none⟩) (Nat.le_refl _) _).setCell (p := ⟨w.heap.size, 1, none⟩) (Nat.le_refl _) _).setCell (p := ⟨w.heap.size, 2, none⟩) (Nat.le_refl _) _).setCell (p := ⟨w.heap.size, 3, none⟩) (Nat.le_refl _) _).setCell (p := ⟨w.heap.size, 4, none⟩) (Nat.le_refl _) _).setCell (p := ⟨w.heap.size, 5, none⟩) (Nat.le_refl _) _).setCell (p := ⟨w.heap.size, 6, none⟩) (Nat.le_refl _) _).setCell (p := ⟨w.heap.size, 7, none⟩) (Nat.le_refl _) _).setCell (p := ⟨w.heap.size, 8, none⟩) (Nat.le_refl _) _)

set_option maxHeartbeats 2000000 in
set_option maxRecDepth 100000 in
theorem one_yes (s : ByteArray) (k v : Int) (w : World) (hs : s.size ≤ 281474976710000) (h8 : 8 ≤ s.size) (hg : grpB (s.extract 4 8) 4 = true) :
    Calls Try.prog 26 #[.string s, .int .i64 k, .int .i64 v] w (MsgPost (oneI s k v) w) := by
  have HV := Lib.hid (show oneI s k v = (0, ⟨k, v, s.extract 4 8, 0, false, 0, 0, [], []⟩) by unfold oneI; rw [hg]; rfl)
  have H1 := Lib.hid fun U => gaddr_c s 4 4 U hs (by omega)
  have H2 := Lib.hid fun U => isgroup_c (s.extract 4 8) 4 U
  rw [hg] at H2
  rw [show ((4 : Nat) : Int) = 4 from rfl, show 4 + 4 = 8 from rfl] at H1
  generalize s.extract 4 8 = g at H1 H2 HV
  clear hg
  go_enter Try.func26, Try.ntmps26
  go_wp2_with fail
  refine (H1.out _).mono ?_
  rintro e w1 ⟨rfl, h1⟩
  have B := Lib.hid ((Box.start w _ _).below h1)
  clear h1
  go_wp2_with fail
  refine (H2.out _).mono ?_
  rintro e w2 ⟨rfl, h2⟩
  replace B := Lib.hid (B.out.below h2)
  clear h2
  have c0 := B.out.cell 0 rfl
  have c1 := B.out.cell 1 rfl
  have c2 := B.out.cell 2 rfl
  have c3 := B.out.cell 3 rfl
  have c4 := B.out.cell 4 rfl
  have c5 := B.out.cell 5 rfl
  have c6 := B.out.cell 6 rfl
  have c7 := B.out.cell 7 rfl
  have c8 := B.out.cell 8 rfl
  have f0 := B.out.free 0
  have f1 := B.out.free 1
  have f2 := B.out.free 2
  have f3 := B.out.free 3
  have f4 := B.out.free 4
  have f5 := B.out.free 5
  have f6 := B.out.free 6
  have f7 := B.out.free 7
  have f8 := B.out.free 8
  go_wp2_with fail
  refine bodyPost_ret (v := .tuple #[.agg #[.int .i64 k, .int .i64 v, .string g, .int .i64 0, .bool false, .int .i64 0, .int .i64 0, .slice none 0 0, .slice none 0 0], .int .i64 0]) (by simp [results, Try.results26, go_sem, c0, c1, c2, c3, c4, c5, c6, c7, c8]) rfl ?_
  unfold MsgPost
  rw [HV.out]
  exact ⟨_, _, rfl, AddrsG.nil _ _ _, RecsG.nil _ _ _, (((((((((B.out.2.setCell (p := ⟨w.heap.size, 0, none⟩) (Nat.le_refl _) _).setCell (p := ⟨w.heap.size, 1, none⟩) (Nat.le_refl _) _).setCell (p := ⟨w.heap.size, 2, none⟩) (Nat.le_refl _) _).setCell (p := ⟨w.heap.size, 3, none⟩) (Nat.le_refl _) _).setCell (p := ⟨w.heap.size, 4, none⟩) (Nat.le_refl _) _).setCell (p := ⟨w.heap.size, 5, none⟩) (Nat.le_refl _) _).setCell (p := ⟨w.heap.size, 6, none⟩) (Nat.le_refl _) _).setCell (p := ⟨w.heap.size, 7, none⟩) (Nat.le_refl _) _).setCell (p := ⟨w.heap.size, 8, none⟩) (Nat.le_refl _) _)⟩

theorem one_c (s : ByteArray) (k v : Int) (w : World) (hs : s.size ≤ 281474976710000) (h8 : 8 ≤ s.size) :
    Calls Try.prog 26 #[.string s, .int .i64 k, .int .i64 v] w (MsgPost (oneI s k v) w) := by
  rcases hg : grpB (s.extract 4 8) 4 with _ | _
  · exact one_no s k v w hs h8 hg
  · exact one_yes s k v w hs h8 hg

set_option maxHeartbeats 2000000 in
set_option maxRecDepth 100000 in
theorem rep_c (s : ByteArray) (w : World) (hs : s.size ≤ 281474976710000) (h8 : 8 ≤ s.size) :
    Calls Try.prog 27 #[.string s] w (MsgPost (repI s) w) := by
  have bn := numv_le2 s 6
  have H1 := Lib.hid fun U => gnum_c s 6 2 U (by omega) (by omega) (by omega)
  have H2 := Lib.hid fun U => recs_c (s.extract 8 s.size) (numv s 6 2) 4 U (by simp; omega) (by omega)
  have HV := Lib.hid (show repI s = repJ (recsI (s.extract 8 s.size) (numv s 6 2) 4) from rfl)
  generalize recsI (s.extract 8 s.size) (numv s 6 2) 4 = t at H2 HV
  generalize numv s 6 2 = n at H1 H2 bn
  obtain ⟨E, L⟩ := t
  have u8 : (8 : Int) ≤ (s.size : Int) := by omega
  unfold RecsPost at H2
  simp only at H2 HV
  go_enter Try.func27, Try.ntmps27
  go_wp2_with fail
  have B := Lib.hid (Box.start w #[.int .i64 0, .int .i64 0, .string ⟨#[]⟩, .int .i64 0, .bool false, .int .i64 0, .int .i64 0, .slice none 0 0, .slice none 0 0] 26)
  generalize w.alloc _ = W at B ⊢
  go_region_with ((first | (go_at_call 50; refine (H1.out _).mono ?_; rintro e w1 ⟨rfl, h1⟩) | (go_at_call 54; refine (H2.out _).mono ?_; rintro e w2 ⟨vr, rfl, hvr, h2⟩)))
  obtain ⟨p, cp, rfl⟩ := hvr.slice
  have B1 : Box w W.drew #[.int .i64 0, .int .i64 0, .string ⟨#[]⟩, .int .i64 0, .bool false, .int .i64 0, .int .i64 0, .slice none 0 0, .slice none 0 0] 26 := ⟨B.out.1, B.out.2.drew⟩
  have hlt := (B1.below h1).lt
  replace B := Lib.hid ((B1.below h1).below h2)
  have HX := Lib.hid hvr
  have HL := Lib.hid hlt
  generalize L.length = ln at HX
  clear h1 h2 hvr B1 hlt
  by_cases hE : E = 0
  · subst hE
    replace HV := Lib.hid (show repI s = (0, ⟨2, 3, ⟨#[]⟩, 0, false, 0, 0, [], L⟩) from HV.out)
    have c0 := B.out.cell 0 rfl
    have c1 := B.out.cell 1 rfl
    have c2 := B.out.cell 2 rfl
    have c3 := B.out.cell 3 rfl
    have c4 := B.out.cell 4 rfl
    have c5 := B.out.cell 5 rfl
    have c6 := B.out.cell 6 rfl
    have c7 := B.out.cell 7 rfl
    have c8 := B.out.cell 8 rfl
    have f0 := B.out.free 0
    have f1 := B.out.free 1
    have f2 := B.out.free 2
    have f3 := B.out.free 3
    have f4 := B.out.free 4
    have f5 := B.out.free 5
    have f6 := B.out.free 6
    have f7 := B.out.free 7
    have f8 := B.out.free 8
    go_wp2
    refine bodyPost_ret (v := .tuple #[.agg #[.int .i64 2, .int .i64 3, .string ⟨#[]⟩, .int .i64 0, .bool false, .int .i64 0, .int .i64 0, .slice none 0 0, .slice p ln cp], .int .i64 0]) (by simp [results, Try.results27, go_sem, c0, c1, c2, c3, c4, c5, c6, c7, c8]) rfl ?_
    unfold MsgPost
    rw [HV.out]
    refine ⟨_, _, rfl, AddrsG.nil _ _ _, ?_, (((((((((B.out.2.setCell (p := ⟨w.heap.size, 0, none⟩) (Nat.le_refl _) _).setCell (p := ⟨w.heap.size, 1, none⟩) (Nat.le_refl _) _).setCell (p := ⟨w.heap.size, 2, none⟩) (Nat.le_refl _) _).setCell (p := ⟨w.heap.size, 3, none⟩) (Nat.le_refl _) _).setCell (p := ⟨w.heap.size, 4, none⟩) (Nat.le_refl _) _).setCell (p := ⟨w.heap.size, 5, none⟩) (Nat.le_refl _) _).setCell (p := ⟨w.heap.size, 6, none⟩) (Nat.le_refl _) _).setCell (p := ⟨w.heap.size, 7, none⟩) (Nat.le_refl _) _).setCell (p := ⟨w.heap.size, 8, none⟩) (Nat.le_refl _) _)⟩
    exact (HX.out.mono HL.out id).storeN9 w.heap.size (Nat.lt_succ_self _)
  · replace HV := Lib.hid (show repI s = (E, zeroM) by rw [HV.out]; unfold repJ; rw [if_pos hE])
    obtain ⟨q1, q2⟩ := ne_t hE
    clear hE
    have c0 := B.out.cell 0 rfl
    have c1 := B.out.cell 1 rfl
    have c2 := B.out.cell 2 rfl
    have c3 := B.out.cell 3 rfl
    have c4 := B.out.cell 4 rfl
    have c5 := B.out.cell 5 rfl
    have c6 := B.out.cell 6 rfl
    have c7 := B.out.cell 7 rfl
    have c8 := B.out.cell 8 rfl
    have f0 := B.out.free 0
    have f1 := B.out.free 1
    have f2 := B.out.free 2
    have f3 := B.out.free 3
    have f4 := B.out.free 4
    have f5 := B.out.free 5
    have f6 := B.out.free 6
    have f7 := B.out.free 7
    have f8 := B.out.free 8
    go_wp2
    refine bodyPost_ret (v := .tuple #[.agg #[.int .i64 0, .int .i64 0, .string ⟨#[]⟩, .int .i64 0, .bool false, .int .i64 0, .int .i64 0, .slice none 0 0, .slice none 0 0], .int .i64 E]) (by simp [results, Try.results27, go_sem, c0, c1, c2, c3, c4, c5, c6, c7, c8]) rfl (MsgPost.bad HV.out rfl ?_)
    exact (((((((((B.out.2.setCell (p := ⟨w.heap.size, 0, none⟩) (Nat.le_refl _) _).setCell (p := ⟨w.heap.size, 1, none⟩) (Nat.le_refl _) _).setCell (p := ⟨w.heap.size, 2, none⟩) (Nat.le_refl _) _).setCell (p := ⟨w.heap.size, 3, none⟩) (Nat.le_refl _) _).setCell (p := ⟨w.heap.size, 4, none⟩) (Nat.le_refl _) _).setCell (p := ⟨w.heap.size, 5, none⟩) (Nat.le_refl _) _).setCell (p := ⟨w.heap.size, 6, none⟩) (Nat.le_refl _) _).setCell (p := ⟨w.heap.size, 7, none⟩) (Nat.le_refl _) _).setCell (p := ⟨w.heap.size, 8, none⟩) (Nat.le_refl _) _)

end Go.Proofs.Ytgbjfdjjokjhcaa
