/-
  Reading messages: igmp.readOne, readRecords. Contracts over the translated program.
  Reading queries: igmp.groupMayBe and readDetails. Contracts over the translated program.
-/
import Derived.Test.YtfdiaaggmjlkbaaIgC
import Derived.Deep.RegionWith
import Derived.Test.YtfdiaaggmjlkbaaBits
namespace Go.Proofs.Ytfdiaaggmjlkbaa
open Go.RowKit
set_option linter.unusedVariables false

theorem recs_c (s : ByteArray) (n Z : Int) (w : World) (hs : s.size ≤ 281474976710000) (n1 : -9223372036854775808 ≤ n) :
    Calls Try.prog 52 #[.string s, .int .i64 n, .int .i64 Z] w (RecsPost (recsI s n Z) w) := by
  have HZ := Lib.hid fun U => issize_c Z U
  by_cases h0 : n < 0
  · have V := Lib.hid (show recsI s n Z = (1, []) by unfold recsI; rw [if_pos (.inl h0)])
    go_enter Try.func52, Try.ntmps52
    go_wp2_with fail
    go_ret2
    unfold RecsPost
    rw [V.out]
    exact ⟨_, rfl, RecsG.nil _ _ _, Below.refl _ _⟩
  · have h0' : 0 ≤ n := by omega
    rcases hz : sizeB Z with _ | _
    · have V := Lib.hid (show recsI s n Z = (1, []) by unfold recsI; rw [if_pos (.inr (by have := of_decide_eq_false hz; omega))])
      rw [hz] at HZ
      clear h0 hz
      go_enter Try.func52, Try.ntmps52
      go_wp2_with fail
      refine (HZ.out _).mono ?_
      rintro e w1 ⟨rfl, rfl⟩
      go_wp2_with fail
      go_ret2
      unfold RecsPost
      rw [V.out]
      exact ⟨_, rfl, RecsG.nil _ _ _, Below.refl _ _⟩
    · have hZ : Z = 4 ∨ Z = 16 := of_decide_eq_true hz
      by_cases h3 : 30 < n
      · have V := Lib.hid (show recsI s n Z = (3, []) by unfold recsI; rw [if_neg (by omega), if_pos h3])
        rw [hz] at HZ
        clear h0 hz hZ
        go_enter Try.func52, Try.ntmps52
        go_wp2_with fail
        refine (HZ.out _).mono ?_
        rintro e w1 ⟨rfl, rfl⟩
        go_wp2_with fail
        go_ret2
        unfold RecsPost
        rw [V.out]
        exact ⟨_, rfl, RecsG.nil _ _ _, Below.refl _ _⟩
      · obtain ⟨N, rfl⟩ := Int.eq_ofNat_of_zero_le h0'
        obtain ⟨K, rfl⟩ := Int.eq_ofNat_of_zero_le (show 0 ≤ Z by omega)
        have V : recsI s N K = recsGo s K N 0 := by unfold recsI; rw [if_neg (by omega), if_neg h3]; rfl
        rw [V]
        exact recs_go s N K w hs (by omega) (by omega)

/-- What Decode and its parts answer, given as an error and a message. -/
def MsgPost (t : Int × Msg) (w : World) (e : Ending) (w' : World) : Prop :=
  ∃ vs vr, e = .returned (.tuple #[t.2.val vs vr, .int .i64 t.1]) ∧ AddrsG w.heap.size true w' vs t.2.srcs ∧ RecsG w.heap.size true w' vr t.2.recs ∧ Below w.heap.size w w'
theorem RecsG.storeN9 {c : Nat} {ty : Bool} {w : World} {v : Value} {L : List Rec} (h : RecsG (c + 1) ty w v L) (c' : Nat) (hc : c' < c + 1) {u0 u1 u2 u3 u4 u5 u6 u7 u8 : Value} :
    RecsG c ty (((((((((w.setCell ⟨c', 0, none⟩ u0).setCell ⟨c', 1, none⟩ u1).setCell ⟨c', 2, none⟩ u2).setCell ⟨c', 3, none⟩ u3).setCell ⟨c', 4, none⟩ u4).setCell ⟨c', 5, none⟩ u5).setCell ⟨c', 6, none⟩ u6).setCell ⟨c', 7, none⟩ u7).setCell ⟨c', 8, none⟩ u8) v L :=
  (((((((((h.store hc).store hc).store hc).store hc).store hc).store hc).store hc).store hc).store hc).mono (Nat.le_succ _) id
theorem AddrsG.storeN9 {c : Nat} {ty : Bool} {w : World} {v : Value} {L : List ByteArray} (h : AddrsG (c + 1) ty w v L) (c' : Nat) (hc : c' < c + 1) {u0 u1 u2 u3 u4 u5 u6 u7 u8 : Value} :
    AddrsG c ty (((((((((w.setCell ⟨c', 0, none⟩ u0).setCell ⟨c', 1, none⟩ u1).setCell ⟨c', 2, none⟩ u2).setCell ⟨c', 3, none⟩ u3).setCell ⟨c', 4, none⟩ u4).setCell ⟨c', 5, none⟩ u5).setCell ⟨c', 6, none⟩ u6).setCell ⟨c', 7, none⟩ u7).setCell ⟨c', 8, none⟩ u8) v L :=
  (((((((((h.store hc).store hc).store hc).store hc).store hc).store hc).store hc).store hc).store hc).mono (Nat.le_succ _) id
theorem MsgPost.bad {t : Int × Msg} {w w' : World} {e : Ending} {c : Int} (h : t = (c, zeroM)) (he : e = .returned (.tuple #[.agg #[.int .i64 0, .int .i64 0, .string ⟨#[]⟩, .int .i64 0, .bool false, .int .i64 0, .int .i64 0, .slice none 0 0, .slice none 0 0], .int .i64 c])) (hb : Below w.heap.size w w') : MsgPost t w e w' := by
  subst h
  exact ⟨_, _, he, AddrsG.nil _ _ _, RecsG.nil _ _ _, hb⟩

set_option maxHeartbeats 2000000 in
set_option maxRecDepth 100000 in
theorem one_no (s : ByteArray) (k v : Int) (w : World) (hs : s.size ≤ 281474976710000) (h8 : 8 ≤ s.size) (hg : grpB (s.extract 4 8) 4 = false) :
    Calls Try.prog 24 #[.string s, .int .i64 k, .int .i64 v] w (MsgPost (oneI s k v) w) := by
  have HV := Lib.hid (show oneI s k v = (3, zeroM) by unfold oneI; rw [hg]; rfl)
  have H1 := Lib.hid fun U => gaddr_c s 4 4 U hs (by omega)
  have H2 := Lib.hid fun U => isgroup_c (s.extract 4 8) 4 U
  rw [hg] at H2
  rw [show ((4 : Nat) : Int) = 4 from rfl, show 4 + 4 = 8 from rfl] at H1
  generalize s.extract 4 8 = g at H1 H2
  clear hg
  go_enter Try.func24, Try.ntmps24
  go_wp2_with fail
  refine (H1.out _).mono ?_
  rintro e w1 ⟨rfl, h1⟩
  have B := Lib.hid ((Box.start w _ _).below h1)
  clear h1
  go_wp2_with fail
  refine (H2.out _).mono ?_
  rintro e w2 ⟨rfl, h2⟩
  replace B := Lib.hid (B.out.below h2)
  clear h2
  have c0 := B.out.cell 0 rfl
  have c1 := B.out.cell 1 rfl
  have c2 := B.out.cell 2 rfl
  have c3 := B.out.cell 3 rfl
  have c4 := B.out.cell 4 rfl
  have c5 := B.out.cell 5 rfl
  have c6 := B.out.cell 6 rfl
  have c7 := B.out.cell 7 rfl
  have c8 := B.out.cell 8 rfl
  have f0 := B.out.free 0
  have f1 := B.out.free 1
  have f2 := B.out.free 2
  have f3 := B.out.free 3
  have f4 := B.out.free 4
  have f5 := B.out.free 5
  have f6 := B.out.free 6
  have f7 := B.out.free 7
  have f8 := B.out.free 8
  go_wp2_with fail
  refine bodyPost_ret (v := .tuple #[.agg #[.int .i64 0, .int .i64 0, .string ⟨#[]⟩, .int .i64 0, .bool false, .int .i64 0, .int .i64 0, .slice none 0 0, .slice none 0 0], .int .i64 3]) (by simp [results, Try.results24, go_sem, c0, c1, c2, c3, c4, c5, c6, c7, c8]) rfl (MsgPost.bad HV.out rfl ?_)
  exact (((((((((B.out.2.setCell (p := ⟨w.heap.size, 0, none⟩) (Nat.le_refl _) _).setCell (p := ⟨w.heap.size, 1, none⟩) (Nat.le_refl _) _).setCell (p := ⟨w.heap.size, 2, none⟩) (Nat.le_refl _) _).setCell (p := ⟨w.heap.size, 3, none⟩) (Nat.le_refl _) _).setCell (p := ⟨w.heap.size, 4, none⟩) (Nat.le_refl _) _).setCell (p := ⟨w.heap.size, 5, none⟩) (Nat.le_refl _) _).setCell (p := ⟨w.heap.size, 6, none⟩) (Nat.le_refl _) _).setCell (p := ⟨w.heap.size, 7, none⟩) (Nat.le_refl _) _).setCell (p := ⟨w.heap.size, 8, none⟩) (Nat.le_refl _) _)

set_option maxHeartbeats 2000000 in
set_option maxRecDepth 100000 in
theorem one_yes (s : ByteArray) (k v : Int) (w : World) (hs : s.size ≤ 281474976710000) (h8 : 8 ≤ s.size) (hg : grpB (s.extract 4 8) 4 = true) :
    Calls Try.prog 24 #[.string s, .int .i64 k, .int .i64 v] w (MsgPost (oneI s k v) w) := by
  have HV := Lib.hid (show oneI s k v = (0, ⟨k, v, s.extract 4 8, 0, false, 0, 0, [], []⟩) by unfold oneI; rw [hg]; rfl)
  have H1 := Lib.hid fun U => gaddr_c s 4 4 U hs (by omega)
  have H2 := Lib.hid fun U => isgroup_c (s.extract 4 8) 4 U
  rw [hg] at H2
  rw [show ((4 : Nat) : Int) = 4 from rfl, show 4 + 4 = 8 from rfl] at H1
  generalize s.extract 4 8 = g at H1 H2 HV
  clear hg
  go_enter Try.func24, Try.ntmps24
  go_wp2_with fail
  refine (H1.out _).mono ?_
  rintro e w1 ⟨rfl, h1⟩
  have B := Lib.hid ((Box.start w _ _).below h1)
  clear h1
  go_wp2_with fail
  refine (H2.out _).mono ?_
  rintro e w2 ⟨rfl, h2⟩
  replace B := Lib.hid (B.out.below h2)
  clear h2
  have c0 := B.out.cell 0 rfl
  have c1 := B.out.cell 1 rfl
  have c2 := B.out.cell 2 rfl
  have c3 := B.out.cell 3 rfl
  have c4 := B.out.cell 4 rfl
  have c5 := B.out.cell 5 rfl
  have c6 := B.out.cell 6 rfl
  have c7 := B.out.cell 7 rfl
  have c8 := B.out.cell 8 rfl
  have f0 := B.out.free 0
  have f1 := B.out.free 1
  have f2 := B.out.free 2
  have f3 := B.out.free 3
  have f4 := B.out.free 4
  have f5 := B.out.free 5
  have f6 := B.out.free 6
  have f7 := B.out.free 7
  have f8 := B.out.free 8
  go_wp2_with fail
  refine bodyPost_ret (v := .tuple #[.agg #[.int .i64 k, .int .i64 v, .string g, .int .i64 0, .bool false, .int .i64 0, .int .i64 0, .slice none 0 0, .slice none 0 0], .int .i64 0]) (by simp [results, Try.results24, go_sem, c0, c1, c2, c3, c4, c5, c6, c7, c8]) rfl ?_
  unfold MsgPost
  rw [HV.out]
  exact ⟨_, _, rfl, AddrsG.nil _ _ _, RecsG.nil _ _ _, (((((((((B.out.2.setCell (p := ⟨w.heap.size, 0, none⟩) (Nat.le_refl _) _).setCell (p := ⟨w.heap.size, 1, none⟩) (Nat.le_refl _) _).setCell (p := ⟨w.heap.size, 2, none⟩) (Nat.le_refl _) _).setCell (p := ⟨w.heap.size, 3, none⟩) (Nat.le_refl _) _).setCell (p := ⟨w.heap.size, 4, none⟩) (Nat.le_refl _) _).setCell (p := ⟨w.heap.size, 5, none⟩) (Nat.le_refl _) _).setCell (p := ⟨w.heap.size, 6, none⟩) (Nat.le_refl _) _).setCell (p := ⟨w.heap.size, 7, none⟩) (Nat.le_refl _) _).setCell (p := ⟨w.heap.size, 8, none⟩) (Nat.le_refl _) _)⟩

theorem one_c (s : ByteArray) (k v : Int) (w : World) (hs : s.size ≤ 281474976710000) (h8 : 8 ≤ s.size) :
    Calls Try.prog 24 #[.string s, .int .i64 k, .int .i64 v] w (MsgPost (oneI s k v) w) := by
  rcases hg : grpB (s.extract 4 8) 4 with _ | _
  · exact one_no s k v w hs h8 hg
  · exact one_yes s k v w hs h8 hg

set_option maxHeartbeats 2000000 in
set_option maxRecDepth 100000 in
theorem rep_c (s : ByteArray) (w : World) (hs : s.size ≤ 281474976710000) (h8 : 8 ≤ s.size) :
    Calls Try.prog 25 #[.string s] w (MsgPost (repI s) w) := by
  have bn := numv_le2 s 6
  have H1 := Lib.hid fun U => gnum_c s 6 2 U (by omega) (by omega) (by omega)
  have H2 := Lib.hid fun U => recs_c (s.extract 8 s.size) (numv s 6 2) 4 U (by simp; omega) (by omega)
  have HV := Lib.hid (show repI s = repJ (recsI (s.extract 8 s.size) (numv s 6 2) 4) from rfl)
  generalize recsI (s.extract 8 s.size) (numv s 6 2) 4 = t at H2 HV
  generalize numv s 6 2 = n at H1 H2 bn
  obtain ⟨E, L⟩ := t
  have u8 : (8 : Int) ≤ (s.size : Int) := by omega
  unfold RecsPost at H2
  simp only at H2 HV
  go_enter Try.func25, Try.ntmps25
  go_wp2_with fail
  have B := Lib.hid (Box.start w #[.int .i64 0, .int .i64 0, .string ⟨#[]⟩, .int .i64 0, .bool false, .int .i64 0, .int .i64 0, .slice none 0 0, .slice none 0 0] 26)
  generalize w.alloc _ = W at B ⊢
  go_region_with ((first | (go_at_call 48; refine (H1.out _).mono ?_; rintro e w1 ⟨rfl, h1⟩) | (go_at_call 52; refine (H2.out _).mono ?_; rintro e w2 ⟨vr, rfl, hvr, h2⟩)))
  obtain ⟨p, cp, rfl⟩ := hvr.slice
  have B1 : Box w W.drew #[.int .i64 0, .int .i64 0, .string ⟨#[]⟩, .int .i64 0, .bool false, .int .i64 0, .int .i64 0, .slice none 0 0, .slice none 0 0] 26 := ⟨B.out.1, B.out.2.drew⟩
  have hlt := (B1.below h1).lt
  replace B := Lib.hid ((B1.below h1).below h2)
  have HX := Lib.hid hvr
  have HL := Lib.hid hlt
  generalize L.length = ln at HX
  clear h1 h2 hvr B1 hlt
  by_cases hE : E = 0
  · subst hE
    replace HV := Lib.hid (show repI s = (0, ⟨2, 3, ⟨#[]⟩, 0, false, 0, 0, [], L⟩) from HV.out)
    have c0 := B.out.cell 0 rfl
    have c1 := B.out.cell 1 rfl
    have c2 := B.out.cell 2 rfl
    have c3 := B.out.cell 3 rfl
    have c4 := B.out.cell 4 rfl
    have c5 := B.out.cell 5 rfl
    have c6 := B.out.cell 6 rfl
    have c7 := B.out.cell 7 rfl
    have c8 := B.out.cell 8 rfl
    have f0 := B.out.free 0
    have f1 := B.out.free 1
    have f2 := B.out.free 2
    have f3 := B.out.free 3
    have f4 := B.out.free 4
    have f5 := B.out.free 5
    have f6 := B.out.free 6
    have f7 := B.out.free 7
    have f8 := B.out.free 8
    go_wp2
    refine bodyPost_ret (v := .tuple #[.agg #[.int .i64 2, .int .i64 3, .string ⟨#[]⟩, .int .i64 0, .bool false, .int .i64 0, .int .i64 0, .slice none 0 0, .slice p ln cp], .int .i64 0]) (by simp [results, Try.results25, go_sem, c0, c1, c2, c3, c4, c5, c6, c7, c8]) rfl ?_
    unfold MsgPost
    rw [HV.out]
    refine ⟨_, _, rfl, AddrsG.nil _ _ _, ?_, (((((((((B.out.2.setCell (p := ⟨w.heap.size, 0, none⟩) (Nat.le_refl _) _).setCell (p := ⟨w.heap.size, 1, none⟩) (Nat.le_refl _) _).setCell (p := ⟨w.heap.size, 2, none⟩) (Nat.le_refl _) _).setCell (p := ⟨w.heap.size, 3, none⟩) (Nat.le_refl _) _).setCell (p := ⟨w.heap.size, 4, none⟩) (Nat.le_refl _) _).setCell (p := ⟨w.heap.size, 5, none⟩) (Nat.le_refl _) _).setCell (p := ⟨w.heap.size, 6, none⟩) (Nat.le_refl _) _).setCell (p := ⟨w.heap.size, 7, none⟩) (Nat.le_refl _) _).setCell (p := ⟨w.heap.size, 8, none⟩) (Nat.le_refl _) _)⟩
    exact (HX.out.mono HL.out id).storeN9 w.heap.size (Nat.lt_succ_self _)
  · replace HV := Lib.hid (show repI s = (E, zeroM) by rw [HV.out]; unfold repJ; rw [if_pos hE])
    obtain ⟨q1, q2⟩ := ne_t hE
    clear hE
    have c0 := B.out.cell 0 rfl
    have c1 := B.out.cell 1 rfl
    have c2 := B.out.cell 2 rfl
    have c3 := B.out.cell 3 rfl
    have c4 := B.out.cell 4 rfl
    have c5 := B.out.cell 5 rfl
    have c6 := B.out.cell 6 rfl
    have c7 := B.out.cell 7 rfl
    have c8 := B.out.cell 8 rfl
    have f0 := B.out.free 0
    have f1 := B.out.free 1
    have f2 := B.out.free 2
    have f3 := B.out.free 3
    have f4 := B.out.free 4
    have f5 := B.out.free 5
    have f6 := B.out.free 6
    have f7 := B.out.free 7
    have f8 := B.out.free 8
    go_wp2
    refine bodyPost_ret (v := .tuple #[.agg #[.int .i64 0, .int .i64 0, .string ⟨#[]⟩, .int .i64 0, .bool false, .int .i64 0, .int .i64 0, .slice none 0 0, .slice none 0 0], .int .i64 E]) (by simp [results, Try.results25, go_sem, c0, c1, c2, c3, c4, c5, c6, c7, c8]) rfl (MsgPost.bad HV.out rfl ?_)
    exact (((((((((B.out.2.setCell (p := ⟨w.heap.size, 0, none⟩) (Nat.le_refl _) _).setCell (p := ⟨w.heap.size, 1, none⟩) (Nat.le_refl _) _).setCell (p := ⟨w.heap.size, 2, none⟩) (Nat.le_refl _) _).setCell (p := ⟨w.heap.size, 3, none⟩) (Nat.le_refl _) _).setCell (p := ⟨w.heap.size, 4, none⟩) (Nat.le_refl _) _).setCell (p := ⟨w.heap.size, 5, none⟩) (Nat.le_refl _) _).setCell (p := ⟨w.heap.size, 6, none⟩) (Nat.le_refl _) _).setCell (p := ⟨w.heap.size, 7, none⟩) (Nat.le_refl _) _).setCell (p := ⟨w.heap.size, 8, none⟩) (Nat.le_refl _) _)

theorem toList_ne (g : ByteArray) (h : ¬ g.size = 0) : g.toList.isEmpty = false := by
  rw [ByteArray.toList_eq, List.isEmpty_eq_false_iff]
  intro h'
  exact h (by have := congrArg List.length h'; simpa using this)
theorem bytes_empty {g : ByteArray} (h : g.size = 0) : g = ⟨#[]⟩ := ByteArray.ext (Array.eq_empty_of_size_eq_zero h)

set_option maxHeartbeats 1000000 in
set_option maxRecDepth 100000 in
theorem gmay_c (k ver : Int) (g : ByteArray) (mx : Int) (q : Bool) (rob ev : Int) (p : Option Addr) (n cap : Nat) (vr : Value) (w : World) :
    Calls Try.prog 26 #[.agg #[.int .i64 k, .int .i64 ver, .string g, .int .i64 mx, .bool q, .int .i64 rob, .int .i64 ev, .slice p n cap, vr]] w fun e w' => e = .returned (.bool (qGrpB g n)) ∧ Below w.heap.size w w' := by
  by_cases h : g.size = 0
  · obtain rfl := bytes_empty h
    have V := Lib.hid (show qGrpB ⟨#[]⟩ n = decide (n = 0) from rfl)
    clear h
    go_enter Try.func26, Try.ntmps26
    go_wp2_with fail
    go_ret
    refine ⟨?_, (Below.refl _ w).alloc (Nat.le_refl _) _⟩
    rw [V.out]
    by_cases hn : n = 0
    · subst hn; rfl
    · obtain ⟨a1, a2⟩ := ne_t (show (n : Int) ≠ 0 by omega)
      simp [hn]
  · have V := Lib.hid (show qGrpB g n = grpB g 4 by unfold qGrpB; rw [if_neg h])
    have H1 := Lib.hid fun U => isgroup_c g 4 U
    have e1 : g.toList.isEmpty = false := toList_ne g h
    clear h
    go_enter Try.func26, Try.ntmps26
    go_wp2_with fail
    refine (H1.out _).mono ?_
    rintro e w1 ⟨rfl, h1⟩
    go_wp2_with fail
    go_ret
    exact ⟨by rw [V.out]; rfl, vboxed h1⟩

/-- Block P holds xs; what lies below it is as in w0. -/
def LB (P : Nat) (w0 : World) (xs : Array Value) (w : World) : Prop := w.heap[P]? = some (.cells xs 26 (0, 0)) ∧ Below P w0 w
theorem LB.below {P : Nat} {w0 w w' : World} {xs : Array Value} (h : LB P w0 xs w) (k : Below w.heap.size w w') : LB P w0 xs w' :=
  ⟨below_block k (lt_of_block h.1) h.1, h.2.trans (k.mono (Nat.le_of_lt (lt_of_block h.1)))⟩
theorem LB.store {P : Nat} {w0 w : World} {xs : Array Value} (h : LB P w0 xs w) (j : Nat) (v : Value) : LB P w0 (xs.setIfInBounds j v) (w.setCell ⟨P, j, none⟩ v) :=
  ⟨heap_store h.1, h.2.setCell (p := ⟨P, j, none⟩) (Nat.le_refl _) _⟩
theorem LB.cell {P : Nat} {w0 w : World} {xs : Array Value} (h : LB P w0 xs w) (j : Nat) {v : Value} (hj : xs[j]? = some v) : w.cell? ⟨P, j, none⟩ = some v := cell_of_block h.1 hj
theorem LB.free {P : Nat} {w0 w : World} {xs : Array Value} (h : LB P w0 xs w) (j : Nat) : w.frozen? ⟨P, j, none⟩ = false := free_of_block h.1
theorem LB.lt {P : Nat} {w0 w : World} {xs : Array Value} (h : LB P w0 xs w) : P < w.heap.size := lt_of_block h.1

/-- The details' error; what they say. -/
def detE (s : ByteArray) : Int :=
  if s.size < 12 then 3 else if 60 < (numv s 10 2).toNat then 3 else if s.size < 12 + (numv s 10 2).toNat * 4 then 2 else 0
def DetPost (s : ByteArray) (P : Nat) (k0 : Int) (g : ByteArray) (w0 : World) (e : Ending) (w' : World) : Prop :=
  e = .returned (.int .i64 (detE s)) ∧ Below P w0 w' ∧ (detE s = 0 → ∃ p cap, LB P w0 #[.int .i64 k0, .int .i64 3, .string g, .int .i64 (decI 4 (byt s 1)).1, .bool (decide (byt s 8 / 8 % 2 = 1)), .int .i64 ((byt s 8 % 8 : Nat) : Int), .int .i64 (decI 4 (byt s 9)).1, .slice p (numv s 10 2).toNat cap, .slice none 0 0] w' ∧ AddrsG (P + 1) true w' (.slice p (numv s 10 2).toNat cap) (addrsL s 12 (numv s 10 2).toNat 4))
theorem DetPost.bad {s : ByteArray} {P : Nat} {k0 : Int} {g : ByteArray} {w0 w' : World} {e : Ending} {c : Int} (h : detE s = c) (hc : c ≠ 0) (he : e = .returned (.int .i64 c)) (hb : Below P w0 w') : DetPost s P k0 g w0 e w' :=
  ⟨by rw [h]; exact he, hb, fun h0 => absurd (h.symm.trans h0) hc⟩

theorem dec8_b (c : Int) (w : World) :
    Calls Try.prog 69 #[.int .i64 c] w fun e w' => e = .returned (.tuple #[.int .i64 (decI 4 c).1, .int .i64 (decI 4 c).2]) ∧ Below w.heap.size w w' :=
  (dec8_c c w).mono fun _ _ ⟨h, n, hn⟩ => ⟨h, by rw [hn]; exact below_drewN (Below.refl _ _) _⟩

theorem gnum1_c (s : ByteArray) (A : Nat) (w : World) (hs : s.size ≤ 281474976710000) (h : A < s.size) :
    Calls Try.prog 48 #[.string s, .int .i64 A, .int .i64 1] w fun e w' => e = .returned (.int .i64 (byt s A)) ∧ Below w.heap.size w w' := by
  have := gnum_c s A 1 w (by omega) (by omega) (by omega)
  rw [numv_byte s A h, byt_get s A h] at this
  exact this

set_option maxHeartbeats 2000000 in
set_option maxRecDepth 100000 in
theorem det_short (s : ByteArray) (P : Nat) (k0 v0 : Int) (g : ByteArray) (mx : Int) (w0 w : World) (hs : s.size ≤ 281474976710000) (h9 : 8 < s.size) (hL : LB P w0 #[.int .i64 k0, .int .i64 v0, .string g, .int .i64 mx, .bool false, .int .i64 0, .int .i64 0, .slice none 0 0, .slice none 0 0] w) (h : s.size < 12) :
    Calls Try.prog 50 #[.pointer (some ⟨P, 0, none⟩), .string s] w (DetPost s P k0 g w0) := by
  have HV := Lib.hid (show detE s = 3 by unfold detE; rw [if_pos h])
  have HL := Lib.hid hL
  have h' : (s.size : Int) < 12 := by omega
  clear hL h
  go_enter Try.func50, Try.ntmps50
  go_wp2_with fail
  go_ret
  exact DetPost.bad HV.out (by decide) rfl HL.out.2

set_option maxHeartbeats 2000000 in
set_option maxRecDepth 100000 in
theorem det_many (s : ByteArray) (P : Nat) (k0 v0 : Int) (g : ByteArray) (mx : Int) (w0 w : World) (hs : s.size ≤ 281474976710000) (h9 : 8 < s.size) (hL : LB P w0 #[.int .i64 k0, .int .i64 v0, .string g, .int .i64 mx, .bool false, .int .i64 0, .int .i64 0, .slice none 0 0, .slice none 0 0] w) (h : 12 ≤ s.size) (h60 : 60 < (numv s 10 2).toNat) :
    Calls Try.prog 50 #[.pointer (some ⟨P, 0, none⟩), .string s] w (DetPost s P k0 g w0) := by
  have HV := Lib.hid (show detE s = 3 by unfold detE; rw [if_neg (by omega), if_pos h60])
  have bC := numv_le2 s 10
  have H1 := Lib.hid fun U => gnum_c s 10 2 U (by omega) (by omega) (by omega)
  obtain ⟨C, hC⟩ := Int.eq_ofNat_of_zero_le bC.1
  rw [hC] at H1 bC
  have HL := Lib.hid hL
  have h' : (12 : Int) ≤ (s.size : Int) := by omega
  have h6 : (60 : Int) < (C : Int) := by omega
  clear hL h h60 hC
  go_enter Try.func50, Try.ntmps50
  go_wp2_with fail
  refine (H1.out _).mono ?_
  rintro e w1 ⟨rfl, h1⟩
  have L1 := Lib.hid (HL.out.below h1)
  clear h1
  go_wp2_with fail
  go_ret
  exact DetPost.bad HV.out (by decide) rfl L1.out.2

set_option maxHeartbeats 2000000 in
set_option maxRecDepth 100000 in
theorem det_cut (s : ByteArray) (P : Nat) (k0 v0 : Int) (g : ByteArray) (mx : Int) (w0 w : World) (hs : s.size ≤ 281474976710000) (h9 : 8 < s.size) (hL : LB P w0 #[.int .i64 k0, .int .i64 v0, .string g, .int .i64 mx, .bool false, .int .i64 0, .int .i64 0, .slice none 0 0, .slice none 0 0] w) (h : 12 ≤ s.size) (h60 : (numv s 10 2).toNat ≤ 60) (hc : s.size < 12 + (numv s 10 2).toNat * 4) :
    Calls Try.prog 50 #[.pointer (some ⟨P, 0, none⟩), .string s] w (DetPost s P k0 g w0) := by
  have HV := Lib.hid (show detE s = 2 by unfold detE; rw [if_neg (by omega), if_neg (by omega), if_pos hc])
  have bC := numv_le2 s 10
  have H1 := Lib.hid fun U => gnum_c s 10 2 U (by omega) (by omega) (by omega)
  obtain ⟨C, hC⟩ := Int.eq_ofNat_of_zero_le bC.1
  rw [hC] at H1 bC
  have HL := Lib.hid hL
  have h' : (12 : Int) ≤ (s.size : Int) := by omega
  have h6 : (C : Int) ≤ 60 := by omega
  have hc' : (s.size : Int) < 12 + (C : Int) * 4 := by omega
  clear hL h h60 hC hc
  go_enter Try.func50, Try.ntmps50
  go_wp2_with fail
  refine (H1.out _).mono ?_
  rintro e w1 ⟨rfl, h1⟩
  have L1 := Lib.hid (HL.out.below h1)
  clear h1
  go_wp2_with fail
  go_ret
  exact DetPost.bad HV.out (by decide) rfl L1.out.2

set_option maxHeartbeats 2000000 in
set_option maxRecDepth 100000 in
theorem det_ok (s : ByteArray) (P : Nat) (k0 v0 : Int) (g : ByteArray) (mx : Int) (w0 w : World) (hs : s.size ≤ 281474976710000) (h9 : 8 < s.size) (hL : LB P w0 #[.int .i64 k0, .int .i64 v0, .string g, .int .i64 mx, .bool false, .int .i64 0, .int .i64 0, .slice none 0 0, .slice none 0 0] w) (h : 12 ≤ s.size) (h60 : (numv s 10 2).toNat ≤ 60) (hc : 12 + (numv s 10 2).toNat * 4 ≤ s.size) :
    Calls Try.prog 50 #[.pointer (some ⟨P, 0, none⟩), .string s] w (DetPost s P k0 g w0) := by
  have HV := Lib.hid (show detE s = 0 by unfold detE; rw [if_neg (by omega), if_neg (by omega), if_neg (by omega)])
  have H8 := Lib.hid fun U => gnum1_c s 8 U hs (by omega)
  have HM := Lib.hid fun U => gnum1_c s 1 U hs (by omega)
  have H9 := Lib.hid fun U => gnum1_c s 9 U hs (by omega)
  have HD1 := Lib.hid fun U => dec8_b (byt s 1) U
  have HD9 := Lib.hid fun U => dec8_b (byt s 9) U
  have HA := Lib.hid fun U => gaddrs_c s 12 (numv s 10 2).toNat 4 U hs (by omega) (by omega) (by omega)
  have bC := numv_le2 s 10
  have H1 := Lib.hid fun U => gnum_c s 10 2 U (by omega) (by omega) (by omega)
  obtain ⟨C, hC⟩ := Int.eq_ofNat_of_zero_le bC.1
  rw [hC] at H1 bC
  have HL := Lib.hid hL
  have h' : (12 : Int) ≤ (s.size : Int) := by omega
  have h6 : (C : Int) ≤ 60 := by omega
  have hc' : 12 + (C : Int) * 4 ≤ (s.size : Int) := by omega
  have hCn : (numv s 10 2).toNat = C := by omega
  rw [hCn] at HA
  unfold DetPost
  rw [hCn]
  have b8 : byt s 8 < 256 := by unfold byt; exact UInt8.toNat_lt _
  have e7 : bits .and .i64 (byt s 8 : Int) 7 = ((byt s 8 % 8 : Nat) : Int) := by
    have := i64_mask (byt s 8 : Int) 3 (by omega) (by omega) (by omega)
    simpa using this
  have e8 : bits .and .i64 (byt s 8 : Int) 8 = ((byt s 8 / 8 % 2 : Nat) : Int) * 8 := by
    have := i64_bit (byt s 8 : Int) 3 (by omega) (by omega) (by omega)
    simpa using this
  have hal := Lib.hid (addrsL_length s 12 C 4)
  generalize addrsL s 12 C 4 = al at HA hal ⊢
  generalize (decI 4 (byt s 1)).1 = d1 at HD1 ⊢
  generalize (decI 4 (byt s 1)).2 = d1' at HD1
  generalize (decI 4 (byt s 9)).1 = d9 at HD9 ⊢
  generalize (decI 4 (byt s 9)).2 = d9' at HD9
  generalize byt s 8 = B8 at H8 b8 e7 e8 ⊢
  generalize byt s 1 = B1 at HM HD1
  generalize byt s 9 = B9 at H9 HD9
  have b8' : (B8 : Int) < 256 := by omega
  clear hL h h60 hC hc hCn
  go_enter Try.func50, Try.ntmps50
  go_wp2_with fail
  refine (H1.out _).mono ?_
  rintro e w1 ⟨rfl, h1⟩
  replace HL := Lib.hid (HL.out.below h1)
  clear h1
  go_wp2_with fail
  refine (H8.out _).mono ?_
  rintro e w2 ⟨rfl, h2⟩
  replace HL := Lib.hid (HL.out.below h2)
  clear h2
  have c1 := HL.out.cell 1 rfl
  have f1 := HL.out.free 1
  go_wp2_with fail
  refine (HM.out _).mono ?_
  rintro e w3 ⟨rfl, h3⟩
  replace HL := Lib.hid ((HL.out.store 1 _).below h3)
  clear h3 c1 f1
  go_wp2_with fail
  refine (HD1.out _).mono ?_
  rintro e w4 ⟨rfl, h4⟩
  replace HL := Lib.hid (HL.out.below h4)
  clear h4
  have c1 := HL.out.cell 3 rfl
  have f1 := HL.out.free 3
  have c2 := HL.out.cell 4 rfl
  have f2 := HL.out.free 4
  have c3 := HL.out.cell 5 rfl
  have f3 := HL.out.free 5
  go_wp2_with fail
  refine (H9.out _).mono ?_
  rintro e w5 ⟨rfl, h5⟩
  replace HL := Lib.hid ((((HL.out.store 3 _).store 4 _).store 5 _).below h5)
  clear h5 c1 f1 c2 f2 c3 f3
  go_wp2_with fail
  refine (HD9.out _).mono ?_
  rintro e w6 ⟨rfl, h6'⟩
  replace HL := Lib.hid (HL.out.below h6')
  clear h6'
  have c1 := HL.out.cell 6 rfl
  have f1 := HL.out.free 6
  go_wp2_with fail
  refine (HA.out _).mono ?_
  rintro e w7 ⟨vs, rfl, hvs, h7⟩
  have hlt := (HL.out.store 6 (.int .i64 d9)).lt
  replace HL := Lib.hid ((HL.out.store 6 _).below h7)
  obtain ⟨p, cp, rfl⟩ := hvs.slice
  have HS := Lib.hid (hvs.mono hlt id)
  clear h7 c1 f1 hvs hlt
  have c1 := HL.out.cell 7 rfl
  have f1 := HL.out.free 7
  go_wp2_with fail
  go_ret
  rw [HV.out]
  have HL2 := HL.out.store 7 (.slice p al.length cp)
  refine ⟨rfl, HL2.2, fun _ => ⟨p, cp, ?_, ?_⟩⟩
  · rw [hal.out] at HL2 ⊢
    have eb : ((B8 : Int) / 8 % 2 * 8 != 0) = decide (B8 / 8 % 2 = 1) := by
      rw [Bool.eq_iff_iff, bne_iff_ne, decide_eq_true_iff]
      omega
    rw [← eb]
    exact HL2
  · rw [hal.out] at HS ⊢
    exact HS.out.store (Nat.lt_succ_self _)

theorem det_c (s : ByteArray) (P : Nat) (k0 v0 : Int) (g : ByteArray) (mx : Int) (w0 w : World) (hs : s.size ≤ 281474976710000) (h9 : 8 < s.size) (hL : LB P w0 #[.int .i64 k0, .int .i64 v0, .string g, .int .i64 mx, .bool false, .int .i64 0, .int .i64 0, .slice none 0 0, .slice none 0 0] w) :
    Calls Try.prog 50 #[.pointer (some ⟨P, 0, none⟩), .string s] w (DetPost s P k0 g w0) := by
  by_cases h : s.size < 12
  · exact det_short s P k0 v0 g mx w0 w hs h9 hL h
  · by_cases h60 : 60 < (numv s 10 2).toNat
    · exact det_many s P k0 v0 g mx w0 w hs h9 hL (by omega) h60
    · by_cases hc : s.size < 12 + (numv s 10 2).toNat * 4
      · exact det_cut s P k0 v0 g mx w0 w hs h9 hL (by omega) (by omega) hc
      · exact det_ok s P k0 v0 g mx w0 w hs h9 hL (by omega) (by omega) (by omega)

end Go.Proofs.Ytfdiaaggmjlkbaa
