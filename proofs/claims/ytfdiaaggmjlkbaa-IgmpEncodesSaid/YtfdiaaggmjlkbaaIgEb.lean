/-
  Which queries may be, the document's answer: siphonref08.May. Contracts over the translated program.
-/
import Derived.Test.YtfdiaaggmjlkbaaIgEa
import Derived.Test.YtfdiaaggmjlkbaaIgBq
import Derived.Test.YtfdiaaggmjlkbaaIgZ
namespace Go.Proofs.Ytfdiaaggmjlkbaa
open Go.RowKit
set_option linter.unusedVariables false

set_option maxHeartbeats 1000000 in
set_option maxRecDepth 100000 in
theorem rmay_q3e (mx : Int) (q : Bool) (rob ev : Int) (ps : Option Addr) (cs : Nat) (ss : List ByteArray) (pr : Option Addr) (cr : Nat) (w : World) (hl : ss.length ≤ 9223372036854775807) (ha : AddrsAt w (.slice ps ss.length cs) ss) :
    Calls Try.prog 17 #[.agg #[.int .i64 1, .int .i64 3, .string ⟨#[]⟩, .int .i64 mx, .bool q, .int .i64 rob, .int .i64 ev, .slice ps ss.length cs, .slice pr 0 cr]] w fun e w' => e = .returned (.bool (mayQB 3 ⟨#[]⟩ mx q rob ev ss 0)) ∧ Below w.heap.size w w' := by
  have V := Lib.hid (show mayQB 3 ⟨#[]⟩ mx q rob ev ss 0 = (codedB mx && codedB ev && decide (0 ≤ rob) && decide (rob ≤ 7) && srcsB ss 4 && decide (ss.length = 0)) by unfold mayQB qmayB qGrpB; rw [if_pos (show (⟨#[]⟩ : ByteArray).size = 0 from rfl)]; simp [Bool.and_comm, Bool.and_left_comm, Bool.and_assoc])
  have HX := Lib.hid fun U => rexact_c mx U
  have HY := Lib.hid fun U => rexact_c ev U
  have HS := Lib.hid fun U (h : AddrsAt U (.slice ps ss.length cs) ss) => rsized_c (.slice ps ss.length cs) ss 4 U hl h
  have B0 := Lib.hid (Box.start w #[.int .i64 1, .int .i64 3, .string ⟨#[]⟩, .int .i64 mx, .bool q, .int .i64 rob, .int .i64 ev, .slice ps ss.length cs, .slice pr 0 cr] 26)
  have A1 := Lib.hid (ha.below B0.out.2)
  generalize codedB mx = xb at *
  generalize codedB ev = yb at *
  cases xb
  · go_enter Try.func17, Try.ntmps17
    go_wp2_with fail
    ((with_reducible refine (HX.out _).mono ?_); rintro e w1 ⟨rfl, rfl⟩)
    go_wp2_with fail
    go_ret
    exact ⟨by rw [V.out]; rfl, B0.out.2⟩
  · cases yb
    · go_enter Try.func17, Try.ntmps17
      go_wp2_with fail
      ((with_reducible refine (HX.out _).mono ?_); rintro e w1 ⟨rfl, rfl⟩)
      go_wp2_with fail
      ((with_reducible refine (HY.out _).mono ?_); rintro e w2 ⟨rfl, rfl⟩)
      go_wp2_with fail
      go_ret
      exact ⟨by rw [V.out]; rfl, B0.out.2⟩
    · by_cases r0 : 0 ≤ rob
      · by_cases r7 : rob ≤ 7
        · rw [decide_eq_true r0, decide_eq_true r7] at V
          generalize srcsB ss 4 = sb at *
          cases sb
          · go_enter Try.func17, Try.ntmps17
            go_wp2_with fail
            ((with_reducible refine (HX.out _).mono ?_); rintro e w1 ⟨rfl, rfl⟩)
            go_wp2_with fail
            ((with_reducible refine (HY.out _).mono ?_); rintro e w2 ⟨rfl, rfl⟩)
            go_wp2_with fail
            ((with_reducible refine (HS.out _ ?_).mono ?_); exact A1.out; rintro e w3 ⟨rfl, rfl⟩)
            go_wp2_with fail
            go_ret
            exact ⟨by rw [V.out]; rfl, B0.out.2⟩
          · by_cases n0 : ss.length = 0
            · obtain ⟨n1, n2⟩ := eq_t (show (ss.length : Int) = 0 by omega)
              replace V := Lib.hid (show mayQB 3 ⟨#[]⟩ mx q rob ev ss 0 = true by rw [V.out]; simp [n0])
              clear n0
              go_enter Try.func17, Try.ntmps17
              go_wp2_with fail
              ((with_reducible refine (HX.out _).mono ?_); rintro e w1 ⟨rfl, rfl⟩)
              go_wp2_with fail
              ((with_reducible refine (HY.out _).mono ?_); rintro e w2 ⟨rfl, rfl⟩)
              go_wp2_with fail
              ((with_reducible refine (HS.out _ ?_).mono ?_); exact A1.out; rintro e w3 ⟨rfl, rfl⟩)
              go_wp2_with fail
              go_ret
              exact ⟨by rw [V.out]; rfl, B0.out.2⟩
            · obtain ⟨n1, n2⟩ := ne_t (show (ss.length : Int) ≠ 0 by omega)
              replace V := Lib.hid (show mayQB 3 ⟨#[]⟩ mx q rob ev ss 0 = false by rw [V.out]; simp [n0])
              clear n0
              go_enter Try.func17, Try.ntmps17
              go_wp2_with fail
              ((with_reducible refine (HX.out _).mono ?_); rintro e w1 ⟨rfl, rfl⟩)
              go_wp2_with fail
              ((with_reducible refine (HY.out _).mono ?_); rintro e w2 ⟨rfl, rfl⟩)
              go_wp2_with fail
              ((with_reducible refine (HS.out _ ?_).mono ?_); exact A1.out; rintro e w3 ⟨rfl, rfl⟩)
              go_wp2_with fail
              go_ret
              exact ⟨by rw [V.out]; rfl, B0.out.2⟩
        · replace V := Lib.hid (show mayQB 3 ⟨#[]⟩ mx q rob ev ss 0 = false by rw [V.out, decide_eq_false r7]; simp)
          have r8 : ¬ rob ≤ 7 := r7
          go_enter Try.func17, Try.ntmps17
          go_wp2_with fail
          ((with_reducible refine (HX.out _).mono ?_); rintro e w1 ⟨rfl, rfl⟩)
          go_wp2_with fail
          ((with_reducible refine (HY.out _).mono ?_); rintro e w2 ⟨rfl, rfl⟩)
          go_wp2_with fail
          go_ret
          exact ⟨by rw [V.out]; rfl, B0.out.2⟩
      · replace V := Lib.hid (show mayQB 3 ⟨#[]⟩ mx q rob ev ss 0 = false by rw [V.out, decide_eq_false r0]; simp)
        go_enter Try.func17, Try.ntmps17
        go_wp2_with fail
        ((with_reducible refine (HX.out _).mono ?_); rintro e w1 ⟨rfl, rfl⟩)
        go_wp2_with fail
        ((with_reducible refine (HY.out _).mono ?_); rintro e w2 ⟨rfl, rfl⟩)
        go_wp2_with fail
        go_ret
        exact ⟨by rw [V.out]; rfl, B0.out.2⟩

set_option maxHeartbeats 1000000 in
set_option maxRecDepth 100000 in
theorem rmay_q3 (g : ByteArray) (mx : Int) (q : Bool) (rob ev : Int) (ps : Option Addr) (cs : Nat) (ss : List ByteArray) (pr : Option Addr) (cr : Nat) (w : World) (hg : g.size ≠ 0) (hgg : grpB g 4 = true) (hl : ss.length ≤ 9223372036854775807) (ha : AddrsAt w (.slice ps ss.length cs) ss) :
    Calls Try.prog 17 #[.agg #[.int .i64 1, .int .i64 3, .string g, .int .i64 mx, .bool q, .int .i64 rob, .int .i64 ev, .slice ps ss.length cs, .slice pr 0 cr]] w fun e w' => e = .returned (.bool (mayQB 3 g mx q rob ev ss 0)) ∧ Below w.heap.size w w' := by
  have V := Lib.hid (show mayQB 3 g mx q rob ev ss 0 = (codedB mx && codedB ev && decide (0 ≤ rob) && decide (rob ≤ 7) && srcsB ss 4 && true) by unfold mayQB qmayB qGrpB; rw [if_neg hg, hgg]; simp)
  have t2 : g.toList.isEmpty = false := toList_ne _ hg
  have HG := Lib.hid fun U => rgroup_c g 4 U
  rw [hgg] at HG
  have HX := Lib.hid fun U => rexact_c mx U
  have HY := Lib.hid fun U => rexact_c ev U
  have HS := Lib.hid fun U (h : AddrsAt U (.slice ps ss.length cs) ss) => rsized_c (.slice ps ss.length cs) ss 4 U hl h
  have B0 := Lib.hid (Box.start w #[.int .i64 1, .int .i64 3, .string g, .int .i64 mx, .bool q, .int .i64 rob, .int .i64 ev, .slice ps ss.length cs, .slice pr 0 cr] 26)
  have A1 := Lib.hid (ha.below B0.out.2)
  generalize codedB mx = xb at *
  generalize codedB ev = yb at *
  clear hg hgg
  cases xb
  · go_enter Try.func17, Try.ntmps17
    go_wp2_with fail
    ((with_reducible refine (HG.out _).mono ?_); rintro e w0 ⟨rfl, rfl⟩)
    go_wp2_with fail
    ((with_reducible refine (HX.out _).mono ?_); rintro e w1 ⟨rfl, rfl⟩)
    go_wp2_with fail
    go_ret
    exact ⟨by rw [V.out]; rfl, B0.out.2⟩
  · cases yb
    · go_enter Try.func17, Try.ntmps17
      go_wp2_with fail
      ((with_reducible refine (HG.out _).mono ?_); rintro e w0 ⟨rfl, rfl⟩)
      go_wp2_with fail
      ((with_reducible refine (HX.out _).mono ?_); rintro e w1 ⟨rfl, rfl⟩)
      go_wp2_with fail
      ((with_reducible refine (HY.out _).mono ?_); rintro e w2 ⟨rfl, rfl⟩)
      go_wp2_with fail
      go_ret
      exact ⟨by rw [V.out]; rfl, B0.out.2⟩
    · by_cases r0 : 0 ≤ rob
      · by_cases r7 : rob ≤ 7
        · rw [decide_eq_true r0, decide_eq_true r7] at V
          generalize srcsB ss 4 = sb at *
          cases sb
          · go_enter Try.func17, Try.ntmps17
            go_wp2_with fail
            ((with_reducible refine (HG.out _).mono ?_); rintro e w0 ⟨rfl, rfl⟩)
            go_wp2_with fail
            ((with_reducible refine (HX.out _).mono ?_); rintro e w1 ⟨rfl, rfl⟩)
            go_wp2_with fail
            ((with_reducible refine (HY.out _).mono ?_); rintro e w2 ⟨rfl, rfl⟩)
            go_wp2_with fail
            ((with_reducible refine (HS.out _ ?_).mono ?_); exact A1.out; rintro e w3 ⟨rfl, rfl⟩)
            go_wp2_with fail
            go_ret
            exact ⟨by rw [V.out]; rfl, B0.out.2⟩
          · go_enter Try.func17, Try.ntmps17
            go_wp2_with fail
            ((with_reducible refine (HG.out _).mono ?_); rintro e w0 ⟨rfl, rfl⟩)
            go_wp2_with fail
            ((with_reducible refine (HX.out _).mono ?_); rintro e w1 ⟨rfl, rfl⟩)
            go_wp2_with fail
            ((with_reducible refine (HY.out _).mono ?_); rintro e w2 ⟨rfl, rfl⟩)
            go_wp2_with fail
            ((with_reducible refine (HS.out _ ?_).mono ?_); exact A1.out; rintro e w3 ⟨rfl, rfl⟩)
            go_wp2_with fail
            go_ret
            exact ⟨by rw [V.out]; rfl, B0.out.2⟩
        · replace V := Lib.hid (show mayQB 3 g mx q rob ev ss 0 = false by rw [V.out, decide_eq_false r7]; simp)
          have r8 : ¬ rob ≤ 7 := r7
          go_enter Try.func17, Try.ntmps17
          go_wp2_with fail
          ((with_reducible refine (HG.out _).mono ?_); rintro e w0 ⟨rfl, rfl⟩)
          go_wp2_with fail
          ((with_reducible refine (HX.out _).mono ?_); rintro e w1 ⟨rfl, rfl⟩)
          go_wp2_with fail
          ((with_reducible refine (HY.out _).mono ?_); rintro e w2 ⟨rfl, rfl⟩)
          go_wp2_with fail
          go_ret
          exact ⟨by rw [V.out]; rfl, B0.out.2⟩
      · replace V := Lib.hid (show mayQB 3 g mx q rob ev ss 0 = false by rw [V.out, decide_eq_false r0]; simp)
        go_enter Try.func17, Try.ntmps17
        go_wp2_with fail
        ((with_reducible refine (HG.out _).mono ?_); rintro e w0 ⟨rfl, rfl⟩)
        go_wp2_with fail
        ((with_reducible refine (HX.out _).mono ?_); rintro e w1 ⟨rfl, rfl⟩)
        go_wp2_with fail
        ((with_reducible refine (HY.out _).mono ?_); rintro e w2 ⟨rfl, rfl⟩)
        go_wp2_with fail
        go_ret
        exact ⟨by rw [V.out]; rfl, B0.out.2⟩

set_option maxHeartbeats 1000000 in
set_option maxRecDepth 100000 in
theorem rmay_qse (v : Int) (mx : Int) (q : Bool) (rob ev : Int) (ps : Option Addr) (cs : Nat) (ss : List ByteArray) (pr : Option Addr) (cr : Nat) (w : World) (h3 : v ≠ 3) :
    Calls Try.prog 17 #[.agg #[.int .i64 1, .int .i64 v, .string ⟨#[]⟩, .int .i64 mx, .bool q, .int .i64 rob, .int .i64 ev, .slice ps ss.length cs, .slice pr 0 cr]] w fun e w' => e = .returned (.bool (mayQB v ⟨#[]⟩ mx q rob ev ss 0)) ∧ Below w.heap.size w w' := by
  have V := Lib.hid (show mayQB v ⟨#[]⟩ mx q rob ev ss 0 = (bareB 0 q rob ev ss.length 0 && ((decide (v = 1) && decide (mx = 0)) || (decide (v = 2) && decide (1 ≤ mx) && decide (mx ≤ 255)))) by
    unfold mayQB qmayB qGrpB bareB
    rw [if_pos (show (⟨#[]⟩ : ByteArray).size = 0 from rfl)]
    by_cases v1 : v = 1
    · subst v1
      cases hd : detB q rob ev ss.length
      · simp [(det_parts hd).2.2.2]
      · simp
    · by_cases v2 : v = 2
      · subst v2
        cases hd : detB q rob ev ss.length
        · simp [(det_parts hd).2.2.2]
        · simp
      · simp [v1, v2, h3])
  have HR := Lib.hid fun U => rbare_c 1 v ⟨#[]⟩ 0 q rob ev ps ss.length cs pr 0 cr U
  have B0 := Lib.hid (Box.start w #[.int .i64 1, .int .i64 v, .string ⟨#[]⟩, .int .i64 mx, .bool q, .int .i64 rob, .int .i64 ev, .slice ps ss.length cs, .slice pr 0 cr] 26)
  obtain ⟨a3, b3⟩ := ne_t h3
  generalize bareB 0 q rob ev ss.length 0 = bb at *
  cases bb
  · go_enter Try.func17, Try.ntmps17
    go_upto_region 16 with fail
    generalize (w.alloc _) = W at B0 ⊢
    have c3 := B0.out.cell 3 rfl
    have f3 := B0.out.free 3
    go_upto_region 17 with fail
    have B := Lib.hid (show Box w (W.setCell ⟨w.heap.size, 3, none⟩ (.int .i64 0)) #[.int .i64 1, .int .i64 _, .string ⟨#[]⟩, .int .i64 0, .bool q, .int .i64 rob, .int .i64 ev, .slice ps ss.length cs, .slice pr 0 cr] 26 from B0.out.set 3 (.int .i64 0))
    clear c3 f3
    generalize W.setCell _ _ = W2 at B ⊢
    have c0 := B.out.cell 0 rfl
    have c1 := B.out.cell 1 rfl
    have c2 := B.out.cell 2 rfl
    have c3 := B.out.cell 3 rfl
    have c4 := B.out.cell 4 rfl
    have c5 := B.out.cell 5 rfl
    have c6 := B.out.cell 6 rfl
    have c7 := B.out.cell 7 rfl
    have c8 := B.out.cell 8 rfl
    go_wp2_with fail
    ((with_reducible refine (HR.out _).mono ?_); rintro e w2 ⟨rfl, h2⟩)
    replace B := Lib.hid (B.out.below h2)
    clear h2 c0 c1 c2 c3 c4 c5 c6 c7 c8
    have c1 := B.out.cell 1 rfl
    go_wp2_with fail
    go_ret
    exact ⟨by rw [V.out]; rfl, B.out.2⟩
  · by_cases v1 : v = 1
    · subst v1
      by_cases m0 : mx = 0
      · subst m0
        go_enter Try.func17, Try.ntmps17
        go_upto_region 16 with fail
        generalize (w.alloc _) = W at B0 ⊢
        have c3 := B0.out.cell 3 rfl
        have f3 := B0.out.free 3
        go_upto_region 17 with fail
        have B := Lib.hid (show Box w (W.setCell ⟨w.heap.size, 3, none⟩ (.int .i64 0)) #[.int .i64 1, .int .i64 _, .string ⟨#[]⟩, .int .i64 0, .bool q, .int .i64 rob, .int .i64 ev, .slice ps ss.length cs, .slice pr 0 cr] 26 from B0.out.set 3 (.int .i64 0))
        clear c3 f3
        generalize W.setCell _ _ = W2 at B ⊢
        have c0 := B.out.cell 0 rfl
        have c1 := B.out.cell 1 rfl
        have c2 := B.out.cell 2 rfl
        have c3 := B.out.cell 3 rfl
        have c4 := B.out.cell 4 rfl
        have c5 := B.out.cell 5 rfl
        have c6 := B.out.cell 6 rfl
        have c7 := B.out.cell 7 rfl
        have c8 := B.out.cell 8 rfl
        go_wp2_with fail
        ((with_reducible refine (HR.out _).mono ?_); rintro e w2 ⟨rfl, h2⟩)
        replace B := Lib.hid (B.out.below h2)
        clear h2 c0 c1 c2 c3 c4 c5 c6 c7 c8
        have c1 := B.out.cell 1 rfl
        go_wp2_with fail
        go_ret
        exact ⟨by rw [V.out]; rfl, B.out.2⟩
      · obtain ⟨d1, d2⟩ := ne_t m0
        go_enter Try.func17, Try.ntmps17
        go_upto_region 16 with fail
        generalize (w.alloc _) = W at B0 ⊢
        have c3 := B0.out.cell 3 rfl
        have f3 := B0.out.free 3
        go_upto_region 17 with fail
        have B := Lib.hid (show Box w (W.setCell ⟨w.heap.size, 3, none⟩ (.int .i64 0)) #[.int .i64 1, .int .i64 _, .string ⟨#[]⟩, .int .i64 0, .bool q, .int .i64 rob, .int .i64 ev, .slice ps ss.length cs, .slice pr 0 cr] 26 from B0.out.set 3 (.int .i64 0))
        clear c3 f3
        generalize W.setCell _ _ = W2 at B ⊢
        have c0 := B.out.cell 0 rfl
        have c1 := B.out.cell 1 rfl
        have c2 := B.out.cell 2 rfl
        have c3 := B.out.cell 3 rfl
        have c4 := B.out.cell 4 rfl
        have c5 := B.out.cell 5 rfl
        have c6 := B.out.cell 6 rfl
        have c7 := B.out.cell 7 rfl
        have c8 := B.out.cell 8 rfl
        go_wp2_with fail
        ((with_reducible refine (HR.out _).mono ?_); rintro e w2 ⟨rfl, h2⟩)
        replace B := Lib.hid (B.out.below h2)
        clear h2 c0 c1 c2 c3 c4 c5 c6 c7 c8
        have c1 := B.out.cell 1 rfl
        go_wp2_with fail
        go_ret
        exact ⟨by rw [V.out]; simp [m0], B.out.2⟩
    · obtain ⟨a1, b1⟩ := ne_t v1
      by_cases v2 : v = 2
      · subst v2
        by_cases m1 : 1 ≤ mx
        · by_cases m2 : mx ≤ 255
          · go_enter Try.func17, Try.ntmps17
            go_upto_region 16 with fail
            generalize (w.alloc _) = W at B0 ⊢
            have c3 := B0.out.cell 3 rfl
            have f3 := B0.out.free 3
            go_upto_region 17 with fail
            have B := Lib.hid (show Box w (W.setCell ⟨w.heap.size, 3, none⟩ (.int .i64 0)) #[.int .i64 1, .int .i64 _, .string ⟨#[]⟩, .int .i64 0, .bool q, .int .i64 rob, .int .i64 ev, .slice ps ss.length cs, .slice pr 0 cr] 26 from B0.out.set 3 (.int .i64 0))
            clear c3 f3
            generalize W.setCell _ _ = W2 at B ⊢
            have c0 := B.out.cell 0 rfl
            have c1 := B.out.cell 1 rfl
            have c2 := B.out.cell 2 rfl
            have c3 := B.out.cell 3 rfl
            have c4 := B.out.cell 4 rfl
            have c5 := B.out.cell 5 rfl
            have c6 := B.out.cell 6 rfl
            have c7 := B.out.cell 7 rfl
            have c8 := B.out.cell 8 rfl
            go_wp2_with fail
            ((with_reducible refine (HR.out _).mono ?_); rintro e w2 ⟨rfl, h2⟩)
            replace B := Lib.hid (B.out.below h2)
            clear h2 c0 c1 c2 c3 c4 c5 c6 c7 c8
            have c1 := B.out.cell 1 rfl
            go_wp2_with fail
            go_ret
            exact ⟨by rw [V.out]; first | rfl | (simp; done) | (simp; omega), B.out.2⟩
          · go_enter Try.func17, Try.ntmps17
            go_upto_region 16 with fail
            generalize (w.alloc _) = W at B0 ⊢
            have c3 := B0.out.cell 3 rfl
            have f3 := B0.out.free 3
            go_upto_region 17 with fail
            have B := Lib.hid (show Box w (W.setCell ⟨w.heap.size, 3, none⟩ (.int .i64 0)) #[.int .i64 1, .int .i64 _, .string ⟨#[]⟩, .int .i64 0, .bool q, .int .i64 rob, .int .i64 ev, .slice ps ss.length cs, .slice pr 0 cr] 26 from B0.out.set 3 (.int .i64 0))
            clear c3 f3
            generalize W.setCell _ _ = W2 at B ⊢
            have c0 := B.out.cell 0 rfl
            have c1 := B.out.cell 1 rfl
            have c2 := B.out.cell 2 rfl
            have c3 := B.out.cell 3 rfl
            have c4 := B.out.cell 4 rfl
            have c5 := B.out.cell 5 rfl
            have c6 := B.out.cell 6 rfl
            have c7 := B.out.cell 7 rfl
            have c8 := B.out.cell 8 rfl
            go_wp2_with fail
            ((with_reducible refine (HR.out _).mono ?_); rintro e w2 ⟨rfl, h2⟩)
            replace B := Lib.hid (B.out.below h2)
            clear h2 c0 c1 c2 c3 c4 c5 c6 c7 c8
            have c1 := B.out.cell 1 rfl
            go_wp2_with fail
            go_ret
            exact ⟨by rw [V.out]; first | rfl | (simp; done) | (simp; omega), B.out.2⟩
        · go_enter Try.func17, Try.ntmps17
          go_upto_region 16 with fail
          generalize (w.alloc _) = W at B0 ⊢
          have c3 := B0.out.cell 3 rfl
          have f3 := B0.out.free 3
          go_upto_region 17 with fail
          have B := Lib.hid (show Box w (W.setCell ⟨w.heap.size, 3, none⟩ (.int .i64 0)) #[.int .i64 1, .int .i64 _, .string ⟨#[]⟩, .int .i64 0, .bool q, .int .i64 rob, .int .i64 ev, .slice ps ss.length cs, .slice pr 0 cr] 26 from B0.out.set 3 (.int .i64 0))
          clear c3 f3
          generalize W.setCell _ _ = W2 at B ⊢
          have c0 := B.out.cell 0 rfl
          have c1 := B.out.cell 1 rfl
          have c2 := B.out.cell 2 rfl
          have c3 := B.out.cell 3 rfl
          have c4 := B.out.cell 4 rfl
          have c5 := B.out.cell 5 rfl
          have c6 := B.out.cell 6 rfl
          have c7 := B.out.cell 7 rfl
          have c8 := B.out.cell 8 rfl
          go_wp2_with fail
          ((with_reducible refine (HR.out _).mono ?_); rintro e w2 ⟨rfl, h2⟩)
          replace B := Lib.hid (B.out.below h2)
          clear h2 c0 c1 c2 c3 c4 c5 c6 c7 c8
          have c1 := B.out.cell 1 rfl
          go_wp2_with fail
          go_ret
          exact ⟨by rw [V.out]; first | rfl | (simp; done) | (simp; omega), B.out.2⟩
      · obtain ⟨a2, b2⟩ := ne_t v2
        go_enter Try.func17, Try.ntmps17
        go_upto_region 16 with fail
        generalize (w.alloc _) = W at B0 ⊢
        have c3 := B0.out.cell 3 rfl
        have f3 := B0.out.free 3
        go_upto_region 17 with fail
        have B := Lib.hid (show Box w (W.setCell ⟨w.heap.size, 3, none⟩ (.int .i64 0)) #[.int .i64 1, .int .i64 _, .string ⟨#[]⟩, .int .i64 0, .bool q, .int .i64 rob, .int .i64 ev, .slice ps ss.length cs, .slice pr 0 cr] 26 from B0.out.set 3 (.int .i64 0))
        clear c3 f3
        generalize W.setCell _ _ = W2 at B ⊢
        have c0 := B.out.cell 0 rfl
        have c1 := B.out.cell 1 rfl
        have c2 := B.out.cell 2 rfl
        have c3 := B.out.cell 3 rfl
        have c4 := B.out.cell 4 rfl
        have c5 := B.out.cell 5 rfl
        have c6 := B.out.cell 6 rfl
        have c7 := B.out.cell 7 rfl
        have c8 := B.out.cell 8 rfl
        go_wp2_with fail
        ((with_reducible refine (HR.out _).mono ?_); rintro e w2 ⟨rfl, h2⟩)
        replace B := Lib.hid (B.out.below h2)
        clear h2 c0 c1 c2 c3 c4 c5 c6 c7 c8
        have c1 := B.out.cell 1 rfl
        go_wp2_with fail
        go_ret
        exact ⟨by rw [V.out]; simp [v1, v2], B.out.2⟩

set_option maxHeartbeats 1000000 in
set_option maxRecDepth 100000 in
theorem rmay_qs (v : Int) (g : ByteArray) (mx : Int) (q : Bool) (rob ev : Int) (ps : Option Addr) (cs : Nat) (ss : List ByteArray) (pr : Option Addr) (cr : Nat) (w : World) (hg : g.size ≠ 0) (hgg : grpB g 4 = true) (h3 : v ≠ 3) :
    Calls Try.prog 17 #[.agg #[.int .i64 1, .int .i64 v, .string g, .int .i64 mx, .bool q, .int .i64 rob, .int .i64 ev, .slice ps ss.length cs, .slice pr 0 cr]] w fun e w' => e = .returned (.bool (mayQB v g mx q rob ev ss 0)) ∧ Below w.heap.size w w' := by
  have V := Lib.hid (show mayQB v g mx q rob ev ss 0 = (bareB 0 q rob ev ss.length 0 && ((decide (v = 1) && decide (mx = 0)) || (decide (v = 2) && decide (1 ≤ mx) && decide (mx ≤ 255)))) by
    unfold mayQB qmayB qGrpB bareB
    rw [if_neg hg, hgg]
    by_cases v1 : v = 1
    · subst v1; cases hd : detB q rob ev ss.length <;> simp
    · by_cases v2 : v = 2
      · subst v2; cases hd : detB q rob ev ss.length <;> simp
      · simp [v1, v2, h3])
  have t2 : g.toList.isEmpty = false := toList_ne _ hg
  have HG := Lib.hid fun U => rgroup_c g 4 U
  rw [hgg] at HG
  have HR := Lib.hid fun U => rbare_c 1 v g 0 q rob ev ps ss.length cs pr 0 cr U
  have B0 := Lib.hid (Box.start w #[.int .i64 1, .int .i64 v, .string g, .int .i64 mx, .bool q, .int .i64 rob, .int .i64 ev, .slice ps ss.length cs, .slice pr 0 cr] 26)
  obtain ⟨a3, b3⟩ := ne_t h3
  generalize bareB 0 q rob ev ss.length 0 = bb at *
  clear hg hgg
  cases bb
  · go_enter Try.func17, Try.ntmps17
    go_wp2_with fail
    ((with_reducible refine (HG.out _).mono ?_); rintro e w0 ⟨rfl, rfl⟩)
    go_upto_region 16 with fail
    generalize (w.alloc _) = W at B0 ⊢
    have c3 := B0.out.cell 3 rfl
    have f3 := B0.out.free 3
    go_upto_region 17 with fail
    have B := Lib.hid (show Box w (W.setCell ⟨w.heap.size, 3, none⟩ (.int .i64 0)) #[.int .i64 1, .int .i64 _, .string g, .int .i64 0, .bool q, .int .i64 rob, .int .i64 ev, .slice ps ss.length cs, .slice pr 0 cr] 26 from B0.out.set 3 (.int .i64 0))
    clear c3 f3
    generalize W.setCell _ _ = W2 at B ⊢
    have c0 := B.out.cell 0 rfl
    have c1 := B.out.cell 1 rfl
    have c2 := B.out.cell 2 rfl
    have c3 := B.out.cell 3 rfl
    have c4 := B.out.cell 4 rfl
    have c5 := B.out.cell 5 rfl
    have c6 := B.out.cell 6 rfl
    have c7 := B.out.cell 7 rfl
    have c8 := B.out.cell 8 rfl
    go_wp2_with fail
    ((with_reducible refine (HR.out _).mono ?_); rintro e w2 ⟨rfl, h2⟩)
    replace B := Lib.hid (B.out.below h2)
    clear h2 c0 c1 c2 c3 c4 c5 c6 c7 c8
    have c1 := B.out.cell 1 rfl
    go_wp2_with fail
    go_ret
    exact ⟨by rw [V.out]; rfl, B.out.2⟩
  · by_cases v1 : v = 1
    · subst v1
      by_cases m0 : mx = 0
      · subst m0
        go_enter Try.func17, Try.ntmps17
        go_wp2_with fail
        ((with_reducible refine (HG.out _).mono ?_); rintro e w0 ⟨rfl, rfl⟩)
        go_upto_region 16 with fail
        generalize (w.alloc _) = W at B0 ⊢
        have c3 := B0.out.cell 3 rfl
        have f3 := B0.out.free 3
        go_upto_region 17 with fail
        have B := Lib.hid (show Box w (W.setCell ⟨w.heap.size, 3, none⟩ (.int .i64 0)) #[.int .i64 1, .int .i64 _, .string g, .int .i64 0, .bool q, .int .i64 rob, .int .i64 ev, .slice ps ss.length cs, .slice pr 0 cr] 26 from B0.out.set 3 (.int .i64 0))
        clear c3 f3
        generalize W.setCell _ _ = W2 at B ⊢
        have c0 := B.out.cell 0 rfl
        have c1 := B.out.cell 1 rfl
        have c2 := B.out.cell 2 rfl
        have c3 := B.out.cell 3 rfl
        have c4 := B.out.cell 4 rfl
        have c5 := B.out.cell 5 rfl
        have c6 := B.out.cell 6 rfl
        have c7 := B.out.cell 7 rfl
        have c8 := B.out.cell 8 rfl
        go_wp2_with fail
        ((with_reducible refine (HR.out _).mono ?_); rintro e w2 ⟨rfl, h2⟩)
        replace B := Lib.hid (B.out.below h2)
        clear h2 c0 c1 c2 c3 c4 c5 c6 c7 c8
        have c1 := B.out.cell 1 rfl
        go_wp2_with fail
        go_ret
        exact ⟨by rw [V.out]; rfl, B.out.2⟩
      · obtain ⟨d1, d2⟩ := ne_t m0
        go_enter Try.func17, Try.ntmps17
        go_wp2_with fail
        ((with_reducible refine (HG.out _).mono ?_); rintro e w0 ⟨rfl, rfl⟩)
        go_upto_region 16 with fail
        generalize (w.alloc _) = W at B0 ⊢
        have c3 := B0.out.cell 3 rfl
        have f3 := B0.out.free 3
        go_upto_region 17 with fail
        have B := Lib.hid (show Box w (W.setCell ⟨w.heap.size, 3, none⟩ (.int .i64 0)) #[.int .i64 1, .int .i64 _, .string g, .int .i64 0, .bool q, .int .i64 rob, .int .i64 ev, .slice ps ss.length cs, .slice pr 0 cr] 26 from B0.out.set 3 (.int .i64 0))
        clear c3 f3
        generalize W.setCell _ _ = W2 at B ⊢
        have c0 := B.out.cell 0 rfl
        have c1 := B.out.cell 1 rfl
        have c2 := B.out.cell 2 rfl
        have c3 := B.out.cell 3 rfl
        have c4 := B.out.cell 4 rfl
        have c5 := B.out.cell 5 rfl
        have c6 := B.out.cell 6 rfl
        have c7 := B.out.cell 7 rfl
        have c8 := B.out.cell 8 rfl
        go_wp2_with fail
        ((with_reducible refine (HR.out _).mono ?_); rintro e w2 ⟨rfl, h2⟩)
        replace B := Lib.hid (B.out.below h2)
        clear h2 c0 c1 c2 c3 c4 c5 c6 c7 c8
        have c1 := B.out.cell 1 rfl
        go_wp2_with fail
        go_ret
        exact ⟨by rw [V.out]; simp [m0], B.out.2⟩
    · obtain ⟨a1, b1⟩ := ne_t v1
      by_cases v2 : v = 2
      · subst v2
        by_cases m1 : 1 ≤ mx
        · by_cases m2 : mx ≤ 255
          · go_enter Try.func17, Try.ntmps17
            go_wp2_with fail
            ((with_reducible refine (HG.out _).mono ?_); rintro e w0 ⟨rfl, rfl⟩)
            go_upto_region 16 with fail
            generalize (w.alloc _) = W at B0 ⊢
            have c3 := B0.out.cell 3 rfl
            have f3 := B0.out.free 3
            go_upto_region 17 with fail
            have B := Lib.hid (show Box w (W.setCell ⟨w.heap.size, 3, none⟩ (.int .i64 0)) #[.int .i64 1, .int .i64 _, .string g, .int .i64 0, .bool q, .int .i64 rob, .int .i64 ev, .slice ps ss.length cs, .slice pr 0 cr] 26 from B0.out.set 3 (.int .i64 0))
            clear c3 f3
            generalize W.setCell _ _ = W2 at B ⊢
            have c0 := B.out.cell 0 rfl
            have c1 := B.out.cell 1 rfl
            have c2 := B.out.cell 2 rfl
            have c3 := B.out.cell 3 rfl
            have c4 := B.out.cell 4 rfl
            have c5 := B.out.cell 5 rfl
            have c6 := B.out.cell 6 rfl
            have c7 := B.out.cell 7 rfl
            have c8 := B.out.cell 8 rfl
            go_wp2_with fail
            ((with_reducible refine (HR.out _).mono ?_); rintro e w2 ⟨rfl, h2⟩)
            replace B := Lib.hid (B.out.below h2)
            clear h2 c0 c1 c2 c3 c4 c5 c6 c7 c8
            have c1 := B.out.cell 1 rfl
            go_wp2_with fail
            go_ret
            exact ⟨by rw [V.out]; first | rfl | (simp; done) | (simp; omega), B.out.2⟩
          · go_enter Try.func17, Try.ntmps17
            go_wp2_with fail
            ((with_reducible refine (HG.out _).mono ?_); rintro e w0 ⟨rfl, rfl⟩)
            go_upto_region 16 with fail
            generalize (w.alloc _) = W at B0 ⊢
            have c3 := B0.out.cell 3 rfl
            have f3 := B0.out.free 3
            go_upto_region 17 with fail
            have B := Lib.hid (show Box w (W.setCell ⟨w.heap.size, 3, none⟩ (.int .i64 0)) #[.int .i64 1, .int .i64 _, .string g, .int .i64 0, .bool q, .int .i64 rob, .int .i64 ev, .slice ps ss.length cs, .slice pr 0 cr] 26 from B0.out.set 3 (.int .i64 0))
            clear c3 f3
            generalize W.setCell _ _ = W2 at B ⊢
            have c0 := B.out.cell 0 rfl
            have c1 := B.out.cell 1 rfl
            have c2 := B.out.cell 2 rfl
            have c3 := B.out.cell 3 rfl
            have c4 := B.out.cell 4 rfl
            have c5 := B.out.cell 5 rfl
            have c6 := B.out.cell 6 rfl
            have c7 := B.out.cell 7 rfl
            have c8 := B.out.cell 8 rfl
            go_wp2_with fail
            ((with_reducible refine (HR.out _).mono ?_); rintro e w2 ⟨rfl, h2⟩)
            replace B := Lib.hid (B.out.below h2)
            clear h2 c0 c1 c2 c3 c4 c5 c6 c7 c8
            have c1 := B.out.cell 1 rfl
            go_wp2_with fail
            go_ret
            exact ⟨by rw [V.out]; first | rfl | (simp; done) | (simp; omega), B.out.2⟩
        · go_enter Try.func17, Try.ntmps17
          go_wp2_with fail
          ((with_reducible refine (HG.out _).mono ?_); rintro e w0 ⟨rfl, rfl⟩)
          go_upto_region 16 with fail
          generalize (w.alloc _) = W at B0 ⊢
          have c3 := B0.out.cell 3 rfl
          have f3 := B0.out.free 3
          go_upto_region 17 with fail
          have B := Lib.hid (show Box w (W.setCell ⟨w.heap.size, 3, none⟩ (.int .i64 0)) #[.int .i64 1, .int .i64 _, .string g, .int .i64 0, .bool q, .int .i64 rob, .int .i64 ev, .slice ps ss.length cs, .slice pr 0 cr] 26 from B0.out.set 3 (.int .i64 0))
          clear c3 f3
          generalize W.setCell _ _ = W2 at B ⊢
          have c0 := B.out.cell 0 rfl
          have c1 := B.out.cell 1 rfl
          have c2 := B.out.cell 2 rfl
          have c3 := B.out.cell 3 rfl
          have c4 := B.out.cell 4 rfl
          have c5 := B.out.cell 5 rfl
          have c6 := B.out.cell 6 rfl
          have c7 := B.out.cell 7 rfl
          have c8 := B.out.cell 8 rfl
          go_wp2_with fail
          ((with_reducible refine (HR.out _).mono ?_); rintro e w2 ⟨rfl, h2⟩)
          replace B := Lib.hid (B.out.below h2)
          clear h2 c0 c1 c2 c3 c4 c5 c6 c7 c8
          have c1 := B.out.cell 1 rfl
          go_wp2_with fail
          go_ret
          exact ⟨by rw [V.out]; first | rfl | (simp; done) | (simp; omega), B.out.2⟩
      · obtain ⟨a2, b2⟩ := ne_t v2
        go_enter Try.func17, Try.ntmps17
        go_wp2_with fail
        ((with_reducible refine (HG.out _).mono ?_); rintro e w0 ⟨rfl, rfl⟩)
        go_upto_region 16 with fail
        generalize (w.alloc _) = W at B0 ⊢
        have c3 := B0.out.cell 3 rfl
        have f3 := B0.out.free 3
        go_upto_region 17 with fail
        have B := Lib.hid (show Box w (W.setCell ⟨w.heap.size, 3, none⟩ (.int .i64 0)) #[.int .i64 1, .int .i64 _, .string g, .int .i64 0, .bool q, .int .i64 rob, .int .i64 ev, .slice ps ss.length cs, .slice pr 0 cr] 26 from B0.out.set 3 (.int .i64 0))
        clear c3 f3
        generalize W.setCell _ _ = W2 at B ⊢
        have c0 := B.out.cell 0 rfl
        have c1 := B.out.cell 1 rfl
        have c2 := B.out.cell 2 rfl
        have c3 := B.out.cell 3 rfl
        have c4 := B.out.cell 4 rfl
        have c5 := B.out.cell 5 rfl
        have c6 := B.out.cell 6 rfl
        have c7 := B.out.cell 7 rfl
        have c8 := B.out.cell 8 rfl
        go_wp2_with fail
        ((with_reducible refine (HR.out _).mono ?_); rintro e w2 ⟨rfl, h2⟩)
        replace B := Lib.hid (B.out.below h2)
        clear h2 c0 c1 c2 c3 c4 c5 c6 c7 c8
        have c1 := B.out.cell 1 rfl
        go_wp2_with fail
        go_ret
        exact ⟨by rw [V.out]; simp [v1, v2], B.out.2⟩

theorem bare_one (mx : Int) (q : Bool) (rob ev : Int) (ns nr : Nat) (g : ByteArray) (k v : Int) (h : (oneB k v).2 = true) : mayOneB k v g mx q rob ev ns nr = (grpB g 4 && bareB mx q rob ev ns nr) := by
  unfold mayOneB tellB bareB
  rw [h]
  cases grpB g 4 <;> cases detB q rob ev ns <;> simp

/-- May, at every message. -/
theorem rmay_c (m : Msg) (vs vr : Value) (w : World) (hl : m.srcs.length ≤ 9223372036854775807) (hr : m.recs.length ≤ 9223372036854775807) (hs : ∀ r ∈ m.recs, r.srcs.length ≤ 9223372036854775807) (ha : AddrsAt w vs m.srcs) (hb : RecsAt w vr m.recs) :
    Calls Try.prog 17 #[m.val vs vr] w fun e w' => e = .returned (.bool (mayM m)) ∧ Below w.heap.size w w' := by
  obtain ⟨k, v, g, mx, q, rob, ev, ss, L⟩ := m
  simp only [Msg.val] at *
  obtain ⟨p7, c7, rfl⟩ := ha.slice
  obtain ⟨p8, c8, rfl⟩ := hb.slice
  unfold mayM
  simp only
  by_cases h1 : k = 1
  · subst h1
    rw [if_pos rfl]
    by_cases hn : L.length = 0
    · rw [hn]
      by_cases hg : g.size = 0
      · obtain rfl := bytes_empty hg
        by_cases h3 : v = 3
        · subst h3
          exact rmay_q3e mx q rob ev p7 c7 ss p8 c8 w hl ha
        · exact rmay_qse v mx q rob ev p7 c7 ss p8 c8 w h3
      · rcases hgg : grpB g 4 with _ | _
        · have : mayQB v g mx q rob ev ss 0 = false := by unfold mayQB qGrpB; rw [if_neg hg, hgg]; simp
          rw [this]
          exact rmay_qno v g mx q rob ev p7 c7 ss p8 0 c8 w (.inl ⟨hg, hgg⟩)
        · by_cases h3 : v = 3
          · subst h3
            exact rmay_q3 g mx q rob ev p7 c7 ss p8 c8 w hg hgg hl ha
          · exact rmay_qs v g mx q rob ev p7 c7 ss p8 c8 w hg hgg h3
    · have : mayQB v g mx q rob ev ss L.length = false := by unfold mayQB; rw [decide_eq_false hn]; rfl
      rw [this]
      refine rmay_qno v g mx q rob ev p7 c7 ss p8 L.length c8 w ?_
      by_cases hg : g.size = 0
      · exact .inr ⟨.inl hg, hn⟩
      · rcases hgg : grpB g 4 with _ | _
        · exact .inl ⟨hg, rfl⟩
        · exact .inr ⟨.inr rfl, hn⟩
  · rw [if_neg h1]
    by_cases h2 : k = 2 ∧ v = 3
    · rw [if_pos h2]
      obtain ⟨rfl, rfl⟩ := h2
      exact rmay_rep g mx q rob ev p7 ss.length c7 p8 c8 L w hr hs hb
    · rw [if_neg h2]
      by_cases h4 : (k = 2 ∧ (v = 1 ∨ v = 2)) ∨ (k = 3 ∧ v = 2)
      · rw [if_pos (by omega)]
        have ho : (oneB k v).2 = true := by
          rcases h4 with ⟨rfl, rfl | rfl⟩ | ⟨rfl, rfl⟩ <;> rfl
        rw [bare_one mx q rob ev ss.length L.length g k v ho]
        exact rmay_one k v g mx q rob ev p7 ss.length c7 p8 L.length c8 w h4
      · have h0 : (if k = 2 ∨ k = 3 then mayOneB k v g mx q rob ev ss.length L.length else false) = false := by
          split
          · unfold mayOneB tellB oneB
            rw [if_neg (by omega), if_neg (by omega), if_neg (by omega)]
            simp
          · rfl
        rw [h0]
        exact rmay_no k v g mx q rob ev p7 ss.length c7 p8 L.length c8 w (by omega)

end Go.Proofs.Ytfdiaaggmjlkbaa
