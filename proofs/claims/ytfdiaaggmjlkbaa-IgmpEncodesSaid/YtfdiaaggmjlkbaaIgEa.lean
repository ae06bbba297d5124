/-
  Which messages may be, the document's answer: siphonref08.Bare, May, siphonref07.Exact8. Contracts over the translated program.
-/
import Derived.Test.YtfdiaaggmjlkbaaIgQ
import Derived.Test.YtfdiaaggmjlkbaaIgBq
import Derived.Test.YtfdiaaggmjlkbaaCodeE
import Derived.Test.YtfdiaaggmjlkbaaIgRd
import Derived.Deep.Cut
import Derived.Test.YtfdiaaggmjlkbaaIgCa
namespace Go.Proofs.Ytfdiaaggmjlkbaa
open Go.RowKit
set_option linter.unusedVariables false

def bareB (mx : Int) (q : Bool) (rob ev : Int) (ns nr : Nat) : Bool := decide (mx = 0) && !detB q rob ev ns && decide (nr = 0)

set_option maxHeartbeats 1000000 in
set_option maxRecDepth 100000 in
theorem rbare_c (k v : Int) (g : ByteArray) (mx : Int) (q : Bool) (rob ev : Int) (ps : Option Addr) (ns cs : Nat) (pr : Option Addr) (nr cr : Nat) (w : World) :
    Calls Try.prog 40 #[.agg #[.int .i64 k, .int .i64 v, .string g, .int .i64 mx, .bool q, .int .i64 rob, .int .i64 ev, .slice ps ns cs, .slice pr nr cr]] w fun e w' => e = .returned (.bool (bareB mx q rob ev ns nr)) ∧ Below w.heap.size w w' := by
  have HB := Lib.hid fun o => (Below.refl w.heap.size w).alloc (Nat.le_refl _) o
  by_cases h1 : mx = 0
  · obtain ⟨ah1, bh1⟩ := eq_t (show (mx : Int) = 0 by omega)
    cases q
    · by_cases h2 : rob = 0
      · obtain ⟨ah2, bh2⟩ := eq_t (show (rob : Int) = 0 by omega)
        by_cases h3 : ev = 0
        · obtain ⟨ah3, bh3⟩ := eq_t (show (ev : Int) = 0 by omega)
          by_cases h4 : ns = 0
          · obtain ⟨ah4, bh4⟩ := eq_t (show (ns : Int) = 0 by omega)
            by_cases h5 : nr = 0
            · obtain ⟨ah5, bh5⟩ := eq_t (show (nr : Int) = 0 by omega)
              have V := Lib.hid (show bareB mx false rob ev ns nr = true by simp [bareB, detB, h1, h2, h3, h4, h5])
              clear h1 h2 h3 h4 h5
              go_enter Try.func40, Try.ntmps40
              go_wp2_with fail
              go_ret
              exact ⟨by rw [V.out]; rfl, HB.out _⟩
            · obtain ⟨ah5, bh5⟩ := ne_t (show (nr : Int) ≠ 0 by omega)
              have V := Lib.hid (show bareB mx false rob ev ns nr = false by simp [bareB, detB, h1, h2, h3, h4, h5])
              clear h1 h2 h3 h4 h5
              go_enter Try.func40, Try.ntmps40
              go_wp2_with fail
              go_ret
              exact ⟨by rw [V.out]; rfl, HB.out _⟩
          · obtain ⟨ah4, bh4⟩ := ne_t (show (ns : Int) ≠ 0 by omega)
            have V := Lib.hid (show bareB mx false rob ev ns nr = false by simp [bareB, detB, h1, h2, h3, h4])
            clear h1 h2 h3 h4
            go_enter Try.func40, Try.ntmps40
            go_wp2_with fail
            go_ret
            exact ⟨by rw [V.out]; rfl, HB.out _⟩
        · obtain ⟨ah3, bh3⟩ := ne_t (show (ev : Int) ≠ 0 by omega)
          have V := Lib.hid (show bareB mx false rob ev ns nr = false by simp [bareB, detB, h1, h2, h3])
          clear h1 h2 h3
          go_enter Try.func40, Try.ntmps40
          go_wp2_with fail
          go_ret
          exact ⟨by rw [V.out]; rfl, HB.out _⟩
      · obtain ⟨ah2, bh2⟩ := ne_t (show (rob : Int) ≠ 0 by omega)
        have V := Lib.hid (show bareB mx false rob ev ns nr = false by simp [bareB, detB, h1, h2])
        clear h1 h2
        go_enter Try.func40, Try.ntmps40
        go_wp2_with fail
        go_ret
        exact ⟨by rw [V.out]; rfl, HB.out _⟩
    · have V := Lib.hid (show bareB mx true rob ev ns nr = false by simp [bareB, detB, h1])
      clear h1
      go_enter Try.func40, Try.ntmps40
      go_wp2_with fail
      go_ret
      exact ⟨by rw [V.out]; rfl, HB.out _⟩
  · obtain ⟨ah1, bh1⟩ := ne_t (show (mx : Int) ≠ 0 by omega)
    have V := Lib.hid (show bareB mx q rob ev ns nr = false by simp [bareB, detB, h1])
    clear h1
    go_enter Try.func40, Try.ntmps40
    go_wp2_with fail
    go_ret
    exact ⟨by rw [V.out]; rfl, HB.out _⟩

set_option maxHeartbeats 1000000 in
set_option maxRecDepth 100000 in
theorem rexact_c (n : Int) (w : World) :
    Calls Try.prog 42 #[.int .i64 n] w fun e w' => e = .returned (.bool (codedB n)) ∧ w = w' := by
  have H1 := Lib.hid fun U => renc8_c n U
  by_cases h0 : n < 0
  · have he : encI 4 n = (0, 1) := by unfold encI; rw [if_pos h0]
    have V := Lib.hid (show codedB n = false by unfold codedB; rw [he]; rfl)
    rw [he] at H1
    clear h0 he
    go_enter Try.func42, Try.ntmps42
    go_wp2_with fail
    refine (H1.out _).mono ?_
    rintro e w1 ⟨rfl, rfl⟩
    go_wp2_with fail
    go_ret
    exact ⟨by rw [V.out]; rfl, rfl⟩
  · have he : encI 4 n = ((encN 4 n.toNat : Int), 0) := by unfold encI; rw [if_neg h0]
    obtain ⟨c, hc⟩ : ∃ c, c = encN 4 n.toNat := ⟨_, rfl⟩
    have hc2 : c < 256 := by have := (enc_is 4 n.toNat).1; omega
    have H2 := Lib.hid fun U => rdec_c c 4 U (by omega) (by omega) (by omega)
    have hd : decI 4 (c : Int) = ((decN 4 c : Int), 0) := by unfold decI; rw [if_neg (by omega), Int.toNat_natCast]
    have V0 : codedB n = decide ((decN 4 c : Int) = n) := by unfold codedB; rw [he, ← hc, hd]; simp
    rw [he, ← hc] at H1
    simp only [Int.toNat_natCast] at H2
    generalize decN 4 c = dv at *
    by_cases h : (dv : Int) = n
    · obtain ⟨a1, a2⟩ := eq_t h
      have V := Lib.hid (show codedB n = true by rw [V0]; exact decide_eq_true h)
      clear h0 he hd V0 hc h
      go_enter Try.func42, Try.ntmps42
      go_wp2_with fail
      refine (H1.out _).mono ?_
      rintro e w1 ⟨rfl, rfl⟩
      go_wp2_with fail
      refine (H2.out _).mono ?_
      rintro e w2 ⟨rfl, rfl⟩
      go_wp2_with fail
      go_ret
      exact ⟨by rw [V.out]; rfl, rfl⟩
    · obtain ⟨a1, a2⟩ := ne_t h
      have V := Lib.hid (show codedB n = false by rw [V0]; exact decide_eq_false h)
      clear h0 he hd V0 hc h
      go_enter Try.func42, Try.ntmps42
      go_wp2_with fail
      refine (H1.out _).mono ?_
      rintro e w1 ⟨rfl, rfl⟩
      go_wp2_with fail
      refine (H2.out _).mono ?_
      rintro e w2 ⟨rfl, rfl⟩
      go_wp2_with fail
      go_ret
      exact ⟨by rw [V.out]; rfl, rfl⟩

set_option maxHeartbeats 1000000 in
set_option maxRecDepth 100000 in
theorem rmay_no (k v : Int) (g : ByteArray) (mx : Int) (q : Bool) (rob ev : Int) (ps : Option Addr) (ns cs : Nat) (pr : Option Addr) (nr cr : Nat) (w : World) (h : (k = 2 ∧ v ≠ 1 ∧ v ≠ 2 ∧ v ≠ 3) ∨ (k = 3 ∧ v ≠ 2) ∨ (k ≠ 1 ∧ k ≠ 2 ∧ k ≠ 3)) :
    Calls Try.prog 17 #[.agg #[.int .i64 k, .int .i64 v, .string g, .int .i64 mx, .bool q, .int .i64 rob, .int .i64 ev, .slice ps ns cs, .slice pr nr cr]] w fun e w' => e = .returned (.bool (false)) ∧ Below w.heap.size w w' := by
  have HB := Lib.hid fun o => (Below.refl w.heap.size w).alloc (Nat.le_refl _) o
  rcases h with ⟨rfl, h1, h2, h3⟩ | ⟨rfl, h2⟩ | ⟨h1, h2, h3⟩
  · obtain ⟨a1, b1⟩ := ne_t h1
    obtain ⟨a2, b2⟩ := ne_t h2
    obtain ⟨a3, b3⟩ := ne_t h3
    clear h1 h2 h3
    go_enter Try.func17, Try.ntmps17
    go_wp2_with fail
    go_ret
    exact ⟨rfl, HB.out _⟩
  · obtain ⟨a2, b2⟩ := ne_t h2
    clear h2
    go_enter Try.func17, Try.ntmps17
    go_wp2_with fail
    go_ret
    exact ⟨rfl, HB.out _⟩
  · obtain ⟨a1, b1⟩ := ne_t h1
    obtain ⟨a2, b2⟩ := ne_t h2
    obtain ⟨a3, b3⟩ := ne_t h3
    clear h1 h2 h3
    go_enter Try.func17, Try.ntmps17
    go_wp2_with fail
    go_ret
    exact ⟨rfl, HB.out _⟩

set_option maxHeartbeats 1000000 in
set_option maxRecDepth 100000 in
theorem rmay_one (k v : Int) (g : ByteArray) (mx : Int) (q : Bool) (rob ev : Int) (ps : Option Addr) (ns cs : Nat) (pr : Option Addr) (nr cr : Nat) (w : World) (h : (k = 2 ∧ (v = 1 ∨ v = 2)) ∨ (k = 3 ∧ v = 2)) :
    Calls Try.prog 17 #[.agg #[.int .i64 k, .int .i64 v, .string g, .int .i64 mx, .bool q, .int .i64 rob, .int .i64 ev, .slice ps ns cs, .slice pr nr cr]] w fun e w' => e = .returned (.bool (grpB g 4 && bareB mx q rob ev ns nr)) ∧ Below w.heap.size w w' := by
  have HG := Lib.hid fun U => rgroup_c g 4 U
  have HR := Lib.hid fun U => rbare_c k v g mx q rob ev ps ns cs pr nr cr U
  generalize grpB g 4 = gb at *
  generalize bareB mx q rob ev ns nr = bb at *
  have B0 := Lib.hid (Box.start w #[.int .i64 k, .int .i64 v, .string g, .int .i64 mx, .bool q, .int .i64 rob, .int .i64 ev, .slice ps ns cs, .slice pr nr cr] 26)
  rcases h with ⟨rfl, rfl | rfl⟩ | ⟨rfl, rfl⟩
  all_goals
    cases gb
    · go_enter Try.func17, Try.ntmps17
      go_wp2_with fail
      ((with_reducible refine (HG.out _).mono ?_); rintro e w1 ⟨rfl, rfl⟩)
      go_wp2_with fail
      go_ret
      exact ⟨rfl, B0.out.2⟩
    · go_enter Try.func17, Try.ntmps17
      go_wp2_with fail
      ((with_reducible refine (HG.out _).mono ?_); rintro e w1 ⟨rfl, rfl⟩)
      go_wp2_with fail
      ((with_reducible refine (HR.out _).mono ?_); rintro e w2 ⟨rfl, h2⟩)
      have B := Lib.hid (B0.out.below h2)
      clear h2
      go_wp2_with fail
      go_ret
      exact ⟨by simp, B.out.2⟩

set_option maxHeartbeats 1000000 in
set_option maxRecDepth 100000 in
theorem rmay_rep (g : ByteArray) (mx : Int) (q : Bool) (rob ev : Int) (ps : Option Addr) (ns cs : Nat) (pr : Option Addr) (cr : Nat) (L : List Rec) (w : World) (hl : L.length ≤ 9223372036854775807) (hs : ∀ r ∈ L, r.srcs.length ≤ 9223372036854775807) (ha : RecsAt w (.slice pr L.length cr) L) :
    Calls Try.prog 17 #[.agg #[.int .i64 2, .int .i64 3, .string g, .int .i64 mx, .bool q, .int .i64 rob, .int .i64 ev, .slice ps ns cs, .slice pr L.length cr]] w fun e w' => e = .returned (.bool (mayRepB g mx q rob ev ns L)) ∧ Below w.heap.size w w' := by
  have V := Lib.hid (show mayRepB g mx q rob ev ns L = (decide (g.size = 0) && decide ((bodyI L 4).1 = 0) && bareB mx q rob ev ns 0) by unfold mayRepB tellRB bareB; cases detB q rob ev ns <;> cases decide (mx = 0) <;> cases decide (g.size = 0) <;> simp)
  have B0 := Lib.hid (Box.start w #[.int .i64 2, .int .i64 3, .string g, .int .i64 mx, .bool q, .int .i64 rob, .int .i64 ev, .slice ps ns cs, .slice pr L.length cr] 26)
  have A1 := ha.below B0.out.2
  have HY := Lib.hid fun U (h : RecsAt U (.slice pr L.length cr) L) => rbody_c (.slice pr L.length cr) L 4 U hl hs h
  have HR := Lib.hid fun U => rbare_c 2 3 g mx q rob ev ps ns cs none 0 0 U
  generalize bareB mx q rob ev ns 0 = bb at *
  unfold BodyPost at HY
  generalize (bodyI L 4).2 = by2 at *
  generalize (bodyI L 4).1 = by1 at *
  by_cases hg : g.size = 0
  · obtain rfl := bytes_empty hg
    by_cases hy : by1 = 0
    · subst hy
      go_enter Try.func17, Try.ntmps17
      go_wp2_with fail
      ((with_reducible refine (HY.out _ A1).mono ?_); rintro e w1 ⟨rfl, h1⟩)
      have B := Lib.hid (B0.out.below h1)
      clear h1 A1
      have c8 := B.out.cell 8 rfl
      have f8 := B.out.free 8
      go_upto_region 5 with fail
      replace B := Lib.hid (show Box w (w1.setCell ⟨w.heap.size, 8, none⟩ (.slice none 0 0)) #[.int .i64 2, .int .i64 3, .string ⟨#[]⟩, .int .i64 mx, .bool q, .int .i64 rob, .int .i64 ev, .slice ps ns cs, .slice none 0 0] 26 from B.out.set 8 (.slice none 0 0))
      clear c8 f8
      generalize w1.setCell _ _ = w2 at B ⊢
      have c0 := B.out.cell 0 rfl
      have c1 := B.out.cell 1 rfl
      have c2 := B.out.cell 2 rfl
      have c3 := B.out.cell 3 rfl
      have c4 := B.out.cell 4 rfl
      have c5 := B.out.cell 5 rfl
      have c6 := B.out.cell 6 rfl
      have c7 := B.out.cell 7 rfl
      have c8 := B.out.cell 8 rfl
      go_wp2_with fail
      ((with_reducible refine (HR.out _).mono ?_); rintro e w3 ⟨rfl, h3⟩)
      have B2 := Lib.hid (B.out.below h3)
      clear h3
      go_wp2_with fail
      go_ret
      exact ⟨by rw [V.out]; cases bb <;> first | rfl | simp [hg], B2.out.2⟩
    · obtain ⟨y1, y2⟩ := ne_t hy
      replace V := Lib.hid (show mayRepB ⟨#[]⟩ mx q rob ev ns L = false by rw [V.out, decide_eq_false hy]; simp)
      clear hy
      go_enter Try.func17, Try.ntmps17
      go_wp2_with fail
      ((with_reducible refine (HY.out _ A1).mono ?_); rintro e w1 ⟨rfl, h1⟩)
      have B := Lib.hid (B0.out.below h1)
      clear h1 A1
      have c8 := B.out.cell 8 rfl
      have f8 := B.out.free 8
      go_upto_region 5 with fail
      replace B := Lib.hid (show Box w (w1.setCell ⟨w.heap.size, 8, none⟩ (.slice none 0 0)) #[.int .i64 2, .int .i64 3, .string ⟨#[]⟩, .int .i64 mx, .bool q, .int .i64 rob, .int .i64 ev, .slice ps ns cs, .slice none 0 0] 26 from B.out.set 8 (.slice none 0 0))
      clear c8 f8
      generalize w1.setCell _ _ = w2 at B ⊢
      have c0 := B.out.cell 0 rfl
      have c1 := B.out.cell 1 rfl
      have c2 := B.out.cell 2 rfl
      have c3 := B.out.cell 3 rfl
      have c4 := B.out.cell 4 rfl
      have c5 := B.out.cell 5 rfl
      have c6 := B.out.cell 6 rfl
      have c7 := B.out.cell 7 rfl
      have c8 := B.out.cell 8 rfl
      go_wp2_with fail
      go_ret
      exact ⟨by rw [V.out]; rfl, B.out.2⟩
  · replace V := Lib.hid (show mayRepB g mx q rob ev ns L = false by rw [V.out, decide_eq_false hg]; simp)
    have t2 : g.toList.isEmpty = false := toList_ne _ (by omega)
    clear hg
    go_enter Try.func17, Try.ntmps17
    go_wp2_with fail
    ((with_reducible refine (HY.out _ A1).mono ?_); rintro e w1 ⟨rfl, h1⟩)
    have B := Lib.hid (B0.out.below h1)
    clear h1 A1
    have c8 := B.out.cell 8 rfl
    have f8 := B.out.free 8
    go_upto_region 5 with fail
    replace B := Lib.hid (show Box w (w1.setCell ⟨w.heap.size, 8, none⟩ (.slice none 0 0)) #[.int .i64 2, .int .i64 3, .string g, .int .i64 mx, .bool q, .int .i64 rob, .int .i64 ev, .slice ps ns cs, .slice none 0 0] 26 from B.out.set 8 (.slice none 0 0))
    clear c8 f8
    generalize w1.setCell _ _ = w2 at B ⊢
    have c0 := B.out.cell 0 rfl
    have c1 := B.out.cell 1 rfl
    have c2 := B.out.cell 2 rfl
    have c3 := B.out.cell 3 rfl
    have c4 := B.out.cell 4 rfl
    have c5 := B.out.cell 5 rfl
    have c6 := B.out.cell 6 rfl
    have c7 := B.out.cell 7 rfl
    have c8 := B.out.cell 8 rfl
    go_wp2_with fail
    go_ret
    exact ⟨by rw [V.out]; rfl, B.out.2⟩

set_option maxHeartbeats 1000000 in
set_option maxRecDepth 100000 in
theorem rmay_qno (v : Int) (g : ByteArray) (mx : Int) (q : Bool) (rob ev : Int) (ps : Option Addr) (cs : Nat) (ss : List ByteArray) (pr : Option Addr) (nr cr : Nat) (w : World) (h : (g.size ≠ 0 ∧ grpB g 4 = false) ∨ ((g.size = 0 ∨ grpB g 4 = true) ∧ nr ≠ 0)) :
    Calls Try.prog 17 #[.agg #[.int .i64 1, .int .i64 v, .string g, .int .i64 mx, .bool q, .int .i64 rob, .int .i64 ev, .slice ps ss.length cs, .slice pr nr cr]] w fun e w' => e = .returned (.bool (false)) ∧ Below w.heap.size w w' := by
  have HG := Lib.hid fun U => rgroup_c g 4 U
  have B0 := Lib.hid (Box.start w #[.int .i64 1, .int .i64 v, .string g, .int .i64 mx, .bool q, .int .i64 rob, .int .i64 ev, .slice ps ss.length cs, .slice pr nr cr] 26)
  by_cases hg : g.size = 0
  · obtain rfl := bytes_empty hg
    have hn : nr ≠ 0 := by rcases h with ⟨h, -⟩ | ⟨-, h⟩; exact absurd hg h; exact h
    have n1 : (0 : Int) < (nr : Int) := by omega
    clear h hg hn
    go_enter Try.func17, Try.ntmps17
    go_wp2_with fail
    go_ret
    exact ⟨rfl, B0.out.2⟩
  · have t2 : g.toList.isEmpty = false := toList_ne _ (by omega)
    rcases h with ⟨-, h⟩ | ⟨h, hn⟩
    · rw [h] at HG
      clear hg h
      go_enter Try.func17, Try.ntmps17
      go_wp2_with fail
      ((with_reducible refine (HG.out _).mono ?_); rintro e w1 ⟨rfl, rfl⟩)
      go_wp2_with fail
      go_ret
      exact ⟨rfl, B0.out.2⟩
    · rw [h.resolve_left hg] at HG
      have n1 : (0 : Int) < (nr : Int) := by omega
      clear hg h hn
      go_enter Try.func17, Try.ntmps17
      go_wp2_with fail
      ((with_reducible refine (HG.out _).mono ?_); rintro e w1 ⟨rfl, rfl⟩)
      go_wp2_with fail
      go_ret
      exact ⟨rfl, B0.out.2⟩

end Go.Proofs.Ytfdiaaggmjlkbaa
