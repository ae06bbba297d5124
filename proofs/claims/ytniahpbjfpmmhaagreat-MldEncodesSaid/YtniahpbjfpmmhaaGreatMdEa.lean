/-
  Which group messages of IPv6 may be, the document's answer: siphonref08.Bare, siphonref07.Exact8, Exact16, siphonref09.May. Contracts over the translated program.
-/
import Derived.Test.YtniahpbjfpmmhaaGreatMdG
import Derived.Test.YtniahpbjfpmmhaaGreatMdM
import Derived.Test.YtniahpbjfpmmhaaGreatCodeE
import Derived.Test.YtniahpbjfpmmhaaGreatCodeR
import Derived.Test.YtniahpbjfpmmhaaGreatIgBq
import Derived.Deep.Cut
namespace Go.Proofs.YtniahpbjfpmmhaaGreat
open Go.RowKit
set_option linter.unusedVariables false
set_option linter.unusedSimpArgs false

def bare6B (mx : Int) (q : Bool) (rob ev : Int) (ns nr : Nat) : Bool := decide (mx = 0) && !detB6 q rob ev ns && decide (nr = 0)

set_option maxHeartbeats 1000000 in
set_option maxRecDepth 100000 in
theorem rbare9_c (k v : Int) (g : ByteArray) (mx : Int) (q : Bool) (rob ev : Int) (ps : Option Addr) (ns cs : Nat) (pr : Option Addr) (nr cr : Nat) (w : World) :
    Calls Tryz.prog 29 #[.agg #[.int .i64 k, .int .i64 v, .string g, .int .i64 mx, .bool q, .int .i64 rob, .int .i64 ev, .slice ps ns cs, .slice pr nr cr]] w fun e w' => e = .returned (.bool (bare6B mx q rob ev ns nr)) ∧ Below w.heap.size w w' := by
  have HB := Lib.hid fun o => (Below.refl w.heap.size w).alloc (Nat.le_refl _) o
  by_cases h1 : mx = 0
  · obtain ⟨ah1, bh1⟩ := eq_t (show (mx : Int) = 0 by omega)
    cases q
    · by_cases h2 : rob = 0
      · obtain ⟨ah2, bh2⟩ := eq_t (show (rob : Int) = 0 by omega)
        by_cases h3 : ev = 0
        · obtain ⟨ah3, bh3⟩ := eq_t (show (ev : Int) = 0 by omega)
          by_cases h4 : ns = 0
          · obtain ⟨ah4, bh4⟩ := eq_t (show (ns : Int) = 0 by omega)
            by_cases h5 : nr = 0
            · obtain ⟨ah5, bh5⟩ := eq_t (show (nr : Int) = 0 by omega)
              have V := Lib.hid (show bare6B mx false rob ev ns nr = true by simp [bare6B, detB6, h1, h2, h3, h4, h5])
              clear h1 h2 h3 h4 h5
              go_enter Tryz.func29, Tryz.ntmps29
              go_wp2_with fail
              go_ret
              exact ⟨by rw [V.out]; rfl, HB.out _⟩
            · obtain ⟨ah5, bh5⟩ := ne_t (show (nr : Int) ≠ 0 by omega)
              have V := Lib.hid (show bare6B mx false rob ev ns nr = false by simp [bare6B, detB6, h1, h2, h3, h4, h5])
              clear h1 h2 h3 h4 h5
              go_enter Tryz.func29, Tryz.ntmps29
              go_wp2_with fail
              go_ret
              exact ⟨by rw [V.out]; rfl, HB.out _⟩
          · obtain ⟨ah4, bh4⟩ := ne_t (show (ns : Int) ≠ 0 by omega)
            have V := Lib.hid (show bare6B mx false rob ev ns nr = false by simp [bare6B, detB6, h1, h2, h3, h4])
            clear h1 h2 h3 h4
            go_enter Tryz.func29, Tryz.ntmps29
            go_wp2_with fail
            go_ret
            exact ⟨by rw [V.out]; rfl, HB.out _⟩
        · obtain ⟨ah3, bh3⟩ := ne_t (show (ev : Int) ≠ 0 by omega)
          have V := Lib.hid (show bare6B mx false rob ev ns nr = false by simp [bare6B, detB6, h1, h2, h3])
          clear h1 h2 h3
          go_enter Tryz.func29, Tryz.ntmps29
          go_wp2_with fail
          go_ret
          exact ⟨by rw [V.out]; rfl, HB.out _⟩
      · obtain ⟨ah2, bh2⟩ := ne_t (show (rob : Int) ≠ 0 by omega)
        have V := Lib.hid (show bare6B mx false rob ev ns nr = false by simp [bare6B, detB6, h1, h2])
        clear h1 h2
        go_enter Tryz.func29, Tryz.ntmps29
        go_wp2_with fail
        go_ret
        exact ⟨by rw [V.out]; rfl, HB.out _⟩
    · have V := Lib.hid (show bare6B mx true rob ev ns nr = false by simp [bare6B, detB6, h1])
      clear h1
      go_enter Tryz.func29, Tryz.ntmps29
      go_wp2_with fail
      go_ret
      exact ⟨by rw [V.out]; rfl, HB.out _⟩
  · obtain ⟨ah1, bh1⟩ := ne_t (show (mx : Int) ≠ 0 by omega)
    have V := Lib.hid (show bare6B mx q rob ev ns nr = false by simp [bare6B, detB6, h1])
    clear h1
    go_enter Tryz.func29, Tryz.ntmps29
    go_wp2_with fail
    go_ret
    exact ⟨by rw [V.out]; rfl, HB.out _⟩

set_option maxHeartbeats 1000000 in
set_option maxRecDepth 100000 in
theorem rexact8_c (n : Int) (w : World) :
    Calls Tryz.prog 32 #[.int .i64 n] w fun e w' => e = .returned (.bool (codedW 4 n)) ∧ w = w' := by
  have H1 := Lib.hid fun U => renc8_c n U
  by_cases h0 : n < 0
  · have he : encI 4 n = (0, 1) := by unfold encI; rw [if_pos h0]
    have V := Lib.hid (show codedW 4 n = false by unfold codedW; rw [he]; rfl)
    rw [he] at H1
    clear h0 he
    go_enter Tryz.func32, Tryz.ntmps32
    go_wp2_with fail
    refine (H1.out _).mono ?_
    rintro e w1 ⟨rfl, rfl⟩
    go_wp2_with fail
    go_ret
    exact ⟨by rw [V.out]; rfl, rfl⟩
  · have he : encI 4 n = ((encN 4 n.toNat : Int), 0) := by unfold encI; rw [if_neg h0]
    obtain ⟨c, hc⟩ : ∃ c, c = encN 4 n.toNat := ⟨_, rfl⟩
    have hc2 : c < 256 := by have := (enc_is 4 n.toNat).1; omega
    have H2 := Lib.hid fun U => rdec_c c 4 U (by omega) (by omega) (by omega)
    have hd : decI 4 (c : Int) = ((decN 4 c : Int), 0) := by unfold decI; rw [if_neg (by omega), Int.toNat_natCast]
    have V0 : codedW 4 n = decide ((decN 4 c : Int) = n) := by unfold codedW; rw [he, ← hc, hd]; simp
    rw [he, ← hc] at H1
    simp only [Int.toNat_natCast] at H2
    generalize decN 4 c = dv at *
    by_cases h : (dv : Int) = n
    · obtain ⟨a1, a2⟩ := eq_t h
      have V := Lib.hid (show codedW 4 n = true by rw [V0]; exact decide_eq_true h)
      clear h0 he hd V0 hc h
      go_enter Tryz.func32, Tryz.ntmps32
      go_wp2_with fail
      refine (H1.out _).mono ?_
      rintro e w1 ⟨rfl, rfl⟩
      go_wp2_with fail
      refine (H2.out _).mono ?_
      rintro e w2 ⟨rfl, rfl⟩
      go_wp2_with fail
      go_ret
      exact ⟨by rw [V.out]; rfl, rfl⟩
    · obtain ⟨a1, a2⟩ := ne_t h
      have V := Lib.hid (show codedW 4 n = false by rw [V0]; exact decide_eq_false h)
      clear h0 he hd V0 hc h
      go_enter Tryz.func32, Tryz.ntmps32
      go_wp2_with fail
      refine (H1.out _).mono ?_
      rintro e w1 ⟨rfl, rfl⟩
      go_wp2_with fail
      refine (H2.out _).mono ?_
      rintro e w2 ⟨rfl, rfl⟩
      go_wp2_with fail
      go_ret
      exact ⟨by rw [V.out]; rfl, rfl⟩

set_option maxHeartbeats 1000000 in
set_option maxRecDepth 100000 in
theorem rexact16_c (n : Int) (w : World) :
    Calls Tryz.prog 31 #[.int .i64 n] w fun e w' => e = .returned (.bool (codedW 12 n)) ∧ w = w' := by
  have H1 := Lib.hid fun U => renc16_c n U
  by_cases h0 : n < 0
  · have he : encI 12 n = (0, 1) := by unfold encI; rw [if_pos h0]
    have V := Lib.hid (show codedW 12 n = false by unfold codedW; rw [he]; rfl)
    rw [he] at H1
    clear h0 he
    go_enter Tryz.func31, Tryz.ntmps31
    go_wp2_with fail
    refine (H1.out _).mono ?_
    rintro e w1 ⟨rfl, rfl⟩
    go_wp2_with fail
    go_ret
    exact ⟨by rw [V.out]; rfl, rfl⟩
  · have he : encI 12 n = ((encN 12 n.toNat : Int), 0) := by unfold encI; rw [if_neg h0]
    obtain ⟨c, hc⟩ : ∃ c, c = encN 12 n.toNat := ⟨_, rfl⟩
    have hc2 : c < 65536 := by have := (enc_is 12 n.toNat).1; omega
    have H2 := Lib.hid fun U => rdec_c c 12 U (by omega) (by omega) (by omega)
    have hd : decI 12 (c : Int) = ((decN 12 c : Int), 0) := by unfold decI; rw [if_neg (by omega), Int.toNat_natCast]
    have V0 : codedW 12 n = decide ((decN 12 c : Int) = n) := by unfold codedW; rw [he, ← hc, hd]; simp
    rw [he, ← hc] at H1
    simp only [Int.toNat_natCast] at H2
    generalize decN 12 c = dv at *
    by_cases h : (dv : Int) = n
    · obtain ⟨a1, a2⟩ := eq_t h
      have V := Lib.hid (show codedW 12 n = true by rw [V0]; exact decide_eq_true h)
      clear h0 he hd V0 hc h
      go_enter Tryz.func31, Tryz.ntmps31
      go_wp2_with fail
      refine (H1.out _).mono ?_
      rintro e w1 ⟨rfl, rfl⟩
      go_wp2_with fail
      refine (H2.out _).mono ?_
      rintro e w2 ⟨rfl, rfl⟩
      go_wp2_with fail
      go_ret
      exact ⟨by rw [V.out]; rfl, rfl⟩
    · obtain ⟨a1, a2⟩ := ne_t h
      have V := Lib.hid (show codedW 12 n = false by rw [V0]; exact decide_eq_false h)
      clear h0 he hd V0 hc h
      go_enter Tryz.func31, Tryz.ntmps31
      go_wp2_with fail
      refine (H1.out _).mono ?_
      rintro e w1 ⟨rfl, rfl⟩
      go_wp2_with fail
      refine (H2.out _).mono ?_
      rintro e w2 ⟨rfl, rfl⟩
      go_wp2_with fail
      go_ret
      exact ⟨by rw [V.out]; rfl, rfl⟩

theorem boxSet {w0 w : World} {xs : Array Value} {t : TypeId} (h : Box w0 w xs t) (j : Nat) (v : Value) : Box w0 (w.setCell ⟨w0.heap.size, j, none⟩ v) (xs.setIfInBounds j v) t :=
  ⟨heap_store h.1, h.2.setCell (p := ⟨w0.heap.size, j, none⟩) (Nat.le_refl _) _⟩
theorem putB2 (mx : Int) : putB mx 2 = (decide (0 ≤ mx) && decide (mx ≤ 65535)) := by
  unfold putB putSpec
  by_cases h0 : 0 ≤ mx
  · by_cases h1 : mx ≤ 65535
    · have e : (256 ^ (2 : Int).toNat : Nat) = 65536 := rfl
      rw [if_neg (by rw [e]; omega), decide_eq_true h0, decide_eq_true h1]; rfl
    · have e : (256 ^ (2 : Int).toNat : Nat) = 65536 := rfl
      rw [if_pos (by rw [e]; omega), decide_eq_false h1]; simp
  · rw [if_pos (by omega), decide_eq_false h0]; simp

set_option maxHeartbeats 2000000 in
set_option maxRecDepth 100000 in
theorem rmay9_no (k v : Int) (g : ByteArray) (mx : Int) (q : Bool) (rob ev : Int) (ps : Option Addr) (ns cs : Nat) (pr : Option Addr) (nr cr : Nat) (w : World) (h : (k = 2 ∧ v ≠ 1 ∧ v ≠ 2) ∨ (k = 3 ∧ v ≠ 1) ∨ (k ≠ 1 ∧ k ≠ 2 ∧ k ≠ 3)) :
    Calls Tryz.prog 14 #[.agg #[.int .i64 k, .int .i64 v, .string g, .int .i64 mx, .bool q, .int .i64 rob, .int .i64 ev, .slice ps ns cs, .slice pr nr cr]] w fun e w' => e = .returned (.bool (false)) ∧ Below w.heap.size w w' := by
  have HB := Lib.hid fun o => (Below.refl w.heap.size w).alloc (Nat.le_refl _) o
  rcases h with ⟨rfl, h1, h2⟩ | ⟨rfl, h2⟩ | ⟨h1, h2, h3⟩
  · obtain ⟨a1, b1⟩ := ne_t h1
    obtain ⟨a2, b2⟩ := ne_t h2
    clear h1 h2
    go_enter Tryz.func14, Tryz.ntmps14
    go_wp2_with fail
    go_ret
    exact ⟨rfl, HB.out _⟩
  · obtain ⟨a2, b2⟩ := ne_t h2
    clear h2
    go_enter Tryz.func14, Tryz.ntmps14
    go_wp2_with fail
    go_ret
    exact ⟨rfl, HB.out _⟩
  · obtain ⟨a1, b1⟩ := ne_t h1
    obtain ⟨a2, b2⟩ := ne_t h2
    obtain ⟨a3, b3⟩ := ne_t h3
    clear h1 h2 h3
    go_enter Tryz.func14, Tryz.ntmps14
    go_wp2_with fail
    go_ret
    exact ⟨rfl, HB.out _⟩

set_option maxHeartbeats 2000000 in
set_option maxRecDepth 100000 in
theorem rmay9_one (k v : Int) (g : ByteArray) (mx : Int) (q : Bool) (rob ev : Int) (ps : Option Addr) (ns cs : Nat) (pr : Option Addr) (nr cr : Nat) (w : World) (h : (k = 2 ∧ v = 1) ∨ (k = 3 ∧ v = 1)) :
    Calls Tryz.prog 14 #[.agg #[.int .i64 k, .int .i64 v, .string g, .int .i64 mx, .bool q, .int .i64 rob, .int .i64 ev, .slice ps ns cs, .slice pr nr cr]] w fun e w' => e = .returned (.bool (grpB g 16 && bare6B mx q rob ev ns nr)) ∧ Below w.heap.size w w' := by
  have HG := Lib.hid fun U => rgroup9_c g U
  have HR := Lib.hid fun U => rbare9_c k v g mx q rob ev ps ns cs pr nr cr U
  generalize grpB g 16 = gb at *
  generalize bare6B mx q rob ev ns nr = bb at *
  have B0 := Lib.hid (Box.start w #[.int .i64 k, .int .i64 v, .string g, .int .i64 mx, .bool q, .int .i64 rob, .int .i64 ev, .slice ps ns cs, .slice pr nr cr] 28)
  rcases h with ⟨rfl, rfl⟩ | ⟨rfl, rfl⟩
  all_goals
    cases gb
    · go_enter Tryz.func14, Tryz.ntmps14
      go_wp2_with fail
      ((with_reducible refine (HG.out _).mono ?_); rintro e w1 ⟨rfl, rfl⟩)
      go_wp2_with fail
      go_ret
      exact ⟨rfl, B0.out.2⟩
    · go_enter Tryz.func14, Tryz.ntmps14
      go_wp2_with fail
      ((with_reducible refine (HG.out _).mono ?_); rintro e w1 ⟨rfl, rfl⟩)
      go_wp2_with fail
      ((with_reducible refine (HR.out _).mono ?_); rintro e w2 ⟨rfl, h2⟩)
      have B := Lib.hid (B0.out.below h2)
      clear h2
      go_wp2_with fail
      go_ret
      exact ⟨by simp, B.out.2⟩

set_option maxHeartbeats 2000000 in
set_option maxRecDepth 100000 in
theorem rmay9_rep (g : ByteArray) (mx : Int) (q : Bool) (rob ev : Int) (ps : Option Addr) (ns cs : Nat) (pr : Option Addr) (cr : Nat) (L : List Rec) (w : World) (hl : L.length ≤ 9223372036854775807) (hs : ∀ r ∈ L, r.srcs.length ≤ 9223372036854775807) (ha : RecsAt w (.slice pr L.length cr) L) :
    Calls Tryz.prog 14 #[.agg #[.int .i64 2, .int .i64 2, .string g, .int .i64 mx, .bool q, .int .i64 rob, .int .i64 ev, .slice ps ns cs, .slice pr L.length cr]] w fun e w' => e = .returned (.bool (decide (g.size = 0) && decide ((bodyI L 16).1 = 0) && bare6B mx q rob ev ns 0)) ∧ Below w.heap.size w w' := by
  have B0 := Lib.hid (Box.start w #[.int .i64 2, .int .i64 2, .string g, .int .i64 mx, .bool q, .int .i64 rob, .int .i64 ev, .slice ps ns cs, .slice pr L.length cr] 28)
  have A1 := ha.below B0.out.2
  have HY := Lib.hid fun U (h : RecsAt U (.slice pr L.length cr) L) => rbody_c (.slice pr L.length cr) L 16 U hl hs h
  have HR := Lib.hid fun U => rbare9_c 2 2 g mx q rob ev ps ns cs none 0 0 U
  generalize bare6B mx q rob ev ns 0 = bb at *
  unfold BodyPost at HY
  generalize (bodyI L 16).2 = by2 at *
  generalize (bodyI L 16).1 = by1 at *
  by_cases hg : g.size = 0
  · rw [decide_eq_true hg]
    obtain rfl := bytes_empty hg
    clear hg
    by_cases hy : by1 = 0
    · subst hy
      go_enter Tryz.func14, Tryz.ntmps14
      go_wp2_with fail
      ((with_reducible refine (HY.out _ A1).mono ?_); rintro e w1 ⟨rfl, h1⟩)
      have B := Lib.hid (B0.out.below h1)
      clear h1 A1
      have c8 := B.out.cell 8 rfl
      have f8 := B.out.free 8
      go_upto_region 5 with fail
      replace B := Lib.hid (show Box w (w1.setCell ⟨w.heap.size, 8, none⟩ (.slice none 0 0)) #[.int .i64 2, .int .i64 2, .string ⟨#[]⟩, .int .i64 mx, .bool q, .int .i64 rob, .int .i64 ev, .slice ps ns cs, .slice none 0 0] 28 from boxSet B.out 8 (.slice none 0 0))
      clear c8 f8
      generalize w1.setCell _ _ = w2 at B ⊢
      have c0 := B.out.cell 0 rfl
      have c1 := B.out.cell 1 rfl
      have c2 := B.out.cell 2 rfl
      have c3 := B.out.cell 3 rfl
      have c4 := B.out.cell 4 rfl
      have c5 := B.out.cell 5 rfl
      have c6 := B.out.cell 6 rfl
      have c7 := B.out.cell 7 rfl
      have c8 := B.out.cell 8 rfl
      go_wp2_with fail
      ((with_reducible refine (HR.out _).mono ?_); rintro e w3 ⟨rfl, h3⟩)
      have B2 := Lib.hid (B.out.below h3)
      clear h3
      go_wp2_with fail
      go_ret
      exact ⟨by simp, B2.out.2⟩
    · obtain ⟨y1, y2⟩ := ne_t hy
      rw [decide_eq_false hy]
      clear hy
      go_enter Tryz.func14, Tryz.ntmps14
      go_wp2_with fail
      ((with_reducible refine (HY.out _ A1).mono ?_); rintro e w1 ⟨rfl, h1⟩)
      have B := Lib.hid (B0.out.below h1)
      clear h1 A1
      have c8 := B.out.cell 8 rfl
      have f8 := B.out.free 8
      go_upto_region 5 with fail
      replace B := Lib.hid (show Box w (w1.setCell ⟨w.heap.size, 8, none⟩ (.slice none 0 0)) #[.int .i64 2, .int .i64 2, .string ⟨#[]⟩, .int .i64 mx, .bool q, .int .i64 rob, .int .i64 ev, .slice ps ns cs, .slice none 0 0] 28 from boxSet B.out 8 (.slice none 0 0))
      clear c8 f8
      generalize w1.setCell _ _ = w2 at B ⊢
      have c0 := B.out.cell 0 rfl
      have c1 := B.out.cell 1 rfl
      have c2 := B.out.cell 2 rfl
      have c3 := B.out.cell 3 rfl
      have c4 := B.out.cell 4 rfl
      have c5 := B.out.cell 5 rfl
      have c6 := B.out.cell 6 rfl
      have c7 := B.out.cell 7 rfl
      have c8 := B.out.cell 8 rfl
      go_wp2_with fail
      go_ret
      exact ⟨by simp, B.out.2⟩
  · rw [decide_eq_false hg]
    have t2 : g.toList.isEmpty = false := toList_ne _ (by omega)
    clear hg
    go_enter Tryz.func14, Tryz.ntmps14
    go_wp2_with fail
    ((with_reducible refine (HY.out _ A1).mono ?_); rintro e w1 ⟨rfl, h1⟩)
    have B := Lib.hid (B0.out.below h1)
    clear h1 A1
    have c8 := B.out.cell 8 rfl
    have f8 := B.out.free 8
    go_upto_region 5 with fail
    replace B := Lib.hid (show Box w (w1.setCell ⟨w.heap.size, 8, none⟩ (.slice none 0 0)) #[.int .i64 2, .int .i64 2, .string g, .int .i64 mx, .bool q, .int .i64 rob, .int .i64 ev, .slice ps ns cs, .slice none 0 0] 28 from boxSet B.out 8 (.slice none 0 0))
    clear c8 f8
    generalize w1.setCell _ _ = w2 at B ⊢
    have c0 := B.out.cell 0 rfl
    have c1 := B.out.cell 1 rfl
    have c2 := B.out.cell 2 rfl
    have c3 := B.out.cell 3 rfl
    have c4 := B.out.cell 4 rfl
    have c5 := B.out.cell 5 rfl
    have c6 := B.out.cell 6 rfl
    have c7 := B.out.cell 7 rfl
    have c8 := B.out.cell 8 rfl
    go_wp2_with fail
    go_ret
    exact ⟨by simp, B.out.2⟩

set_option maxHeartbeats 2000000 in
set_option maxRecDepth 100000 in
theorem rmay9_qno (k v : Int) (g : ByteArray) (mx : Int) (q : Bool) (rob ev : Int) (ps : Option Addr) (ns cs : Nat) (pr : Option Addr) (nr cr : Nat) (w : World) (hk : k = 1) (h : (g.size ≠ 0 ∧ grpB g 16 = false) ∨ ((g.size = 0 ∨ grpB g 16 = true) ∧ nr ≠ 0)) :
    Calls Tryz.prog 14 #[.agg #[.int .i64 k, .int .i64 v, .string g, .int .i64 mx, .bool q, .int .i64 rob, .int .i64 ev, .slice ps ns cs, .slice pr nr cr]] w fun e w' => e = .returned (.bool (false)) ∧ Below w.heap.size w w' := by
  subst hk
  have HG := Lib.hid fun U => rgroup9_c g U
  have B0 := Lib.hid (Box.start w #[.int .i64 1, .int .i64 v, .string g, .int .i64 mx, .bool q, .int .i64 rob, .int .i64 ev, .slice ps ns cs, .slice pr nr cr] 28)
  rcases h with ⟨h1, h2⟩ | ⟨h1, h2⟩
  · have t2 : g.toList.isEmpty = false := toList_ne _ h1
    rw [h2] at HG
    clear h1 h2
    go_enter Tryz.func14, Tryz.ntmps14
    go_wp2_with fail
    ((with_reducible refine (HG.out _).mono ?_); rintro e w1 ⟨rfl, rfl⟩)
    go_wp2_with fail
    go_ret
    exact ⟨rfl, B0.out.2⟩
  · have d1 : decide ((0 : Int) < (nr : Int)) = true := decide_eq_true (by omega)
    have d2 : (0 : Int) < (nr : Int) := by omega
    by_cases hz : g.size = 0
    · obtain rfl := bytes_empty hz
      clear h1 h2 hz
      go_enter Tryz.func14, Tryz.ntmps14
      go_wp2_with fail
      go_ret
      exact ⟨rfl, B0.out.2⟩
    · have t2 : g.toList.isEmpty = false := toList_ne _ hz
      rw [h1.resolve_left hz] at HG
      clear h1 h2 hz
      go_enter Tryz.func14, Tryz.ntmps14
      go_wp2_with fail
      ((with_reducible refine (HG.out _).mono ?_); rintro e w1 ⟨rfl, rfl⟩)
      go_wp2_with fail
      go_ret
      exact ⟨rfl, B0.out.2⟩

set_option maxHeartbeats 2000000 in
set_option maxRecDepth 100000 in
theorem rmay9_q2e (mx : Int) (q : Bool) (rob ev : Int) (ps : Option Addr) (cs : Nat) (ss : List ByteArray) (pr : Option Addr) (cr : Nat) (w : World) (hl : ss.length ≤ 9223372036854775807) (ha : AddrsAt w (.slice ps ss.length cs) ss) :
    Calls Tryz.prog 14 #[.agg #[.int .i64 1, .int .i64 2, .string ⟨#[]⟩, .int .i64 mx, .bool q, .int .i64 rob, .int .i64 ev, .slice ps ss.length cs, .slice pr 0 cr]] w fun e w' => e = .returned (.bool (q2OK ⟨#[]⟩ mx rob ev ss)) ∧ Below w.heap.size w w' := by
  have V := Lib.hid (show q2OK ⟨#[]⟩ mx rob ev ss = (codedW 12 mx && codedW 4 ev && decide (0 ≤ rob) && decide (rob ≤ 7) && srcsB ss 16 && decide (ss.length = 0)) by
    have e : srcsB ss 16 = (all16 ss && decide (ss.length ≤ 60)) := rfl
    unfold q2OK qGrp6 detOK
    rw [e, if_pos (show (⟨#[]⟩ : ByteArray).size = 0 from rfl)]
    cases codedW 12 mx <;> cases codedW 4 ev <;> cases decide (0 ≤ rob) <;> cases decide (rob ≤ 7) <;> cases all16 ss <;> cases decide (ss.length ≤ 60) <;> simp)
  have HX := Lib.hid fun U => rexact16_c mx U
  have HY := Lib.hid fun U => rexact8_c ev U
  have HS := Lib.hid fun U (h : AddrsAt U (.slice ps ss.length cs) ss) => rSized_c (.slice ps ss.length cs) ss U hl h
  have B0 := Lib.hid (Box.start w #[.int .i64 1, .int .i64 2, .string ⟨#[]⟩, .int .i64 mx, .bool q, .int .i64 rob, .int .i64 ev, .slice ps ss.length cs, .slice pr 0 cr] 28)
  have A1 := Lib.hid (ha.below B0.out.2)
  rw [V.out]
  clear V
  generalize codedW 12 mx = xb at *
  generalize codedW 4 ev = yb at *
  generalize srcsB ss 16 = sb at *
  cases xb
  · go_enter Tryz.func14, Tryz.ntmps14
    go_wp2_with fail
    ((with_reducible refine (HX.out _).mono ?_); rintro e w1 ⟨rfl, rfl⟩)
    go_wp2_with fail
    go_ret
    exact ⟨by simp, B0.out.2⟩
  · cases yb
    · go_enter Tryz.func14, Tryz.ntmps14
      go_wp2_with fail
      ((with_reducible refine (HX.out _).mono ?_); rintro e w1 ⟨rfl, rfl⟩)
      go_wp2_with fail
      ((with_reducible refine (HY.out _).mono ?_); rintro e w2 ⟨rfl, rfl⟩)
      go_wp2_with fail
      go_ret
      exact ⟨by simp, B0.out.2⟩
    · by_cases r0 : 0 ≤ rob
      · by_cases r7 : rob ≤ 7
        · rw [decide_eq_true r0, decide_eq_true r7]
          cases sb
          · go_enter Tryz.func14, Tryz.ntmps14
            go_wp2_with fail
            ((with_reducible refine (HX.out _).mono ?_); rintro e w1 ⟨rfl, rfl⟩)
            go_wp2_with fail
            ((with_reducible refine (HY.out _).mono ?_); rintro e w2 ⟨rfl, rfl⟩)
            go_wp2_with fail
            ((with_reducible refine (HS.out _ ?_).mono ?_); exact A1.out; rintro e w3 ⟨rfl, rfl⟩)
            go_wp2_with fail
            go_ret
            exact ⟨by simp, B0.out.2⟩
          · by_cases n0 : ss.length = 0
            · obtain ⟨n1, n2⟩ := eq_t (show (ss.length : Int) = 0 by omega)
              rw [decide_eq_true n0]
              clear n0
              go_enter Tryz.func14, Tryz.ntmps14
              go_wp2_with fail
              ((with_reducible refine (HX.out _).mono ?_); rintro e w1 ⟨rfl, rfl⟩)
              go_wp2_with fail
              ((with_reducible refine (HY.out _).mono ?_); rintro e w2 ⟨rfl, rfl⟩)
              go_wp2_with fail
              ((with_reducible refine (HS.out _ ?_).mono ?_); exact A1.out; rintro e w3 ⟨rfl, rfl⟩)
              go_wp2_with fail
              go_ret
              exact ⟨by simp, B0.out.2⟩
            · obtain ⟨n1, n2⟩ := ne_t (show (ss.length : Int) ≠ 0 by omega)
              rw [decide_eq_false n0]
              clear n0
              go_enter Tryz.func14, Tryz.ntmps14
              go_wp2_with fail
              ((with_reducible refine (HX.out _).mono ?_); rintro e w1 ⟨rfl, rfl⟩)
              go_wp2_with fail
              ((with_reducible refine (HY.out _).mono ?_); rintro e w2 ⟨rfl, rfl⟩)
              go_wp2_with fail
              ((with_reducible refine (HS.out _ ?_).mono ?_); exact A1.out; rintro e w3 ⟨rfl, rfl⟩)
              go_wp2_with fail
              go_ret
              exact ⟨by simp, B0.out.2⟩
        · rw [decide_eq_false r7]
          have r8 : ¬ rob ≤ 7 := r7
          go_enter Tryz.func14, Tryz.ntmps14
          go_wp2_with fail
          ((with_reducible refine (HX.out _).mono ?_); rintro e w1 ⟨rfl, rfl⟩)
          go_wp2_with fail
          ((with_reducible refine (HY.out _).mono ?_); rintro e w2 ⟨rfl, rfl⟩)
          go_wp2_with fail
          go_ret
          exact ⟨by simp, B0.out.2⟩
      · rw [decide_eq_false r0]
        go_enter Tryz.func14, Tryz.ntmps14
        go_wp2_with fail
        ((with_reducible refine (HX.out _).mono ?_); rintro e w1 ⟨rfl, rfl⟩)
        go_wp2_with fail
        ((with_reducible refine (HY.out _).mono ?_); rintro e w2 ⟨rfl, rfl⟩)
        go_wp2_with fail
        go_ret
        exact ⟨by simp, B0.out.2⟩

set_option maxHeartbeats 2000000 in
set_option maxRecDepth 100000 in
theorem rmay9_q2 (g : ByteArray) (mx : Int) (q : Bool) (rob ev : Int) (ps : Option Addr) (cs : Nat) (ss : List ByteArray) (pr : Option Addr) (cr : Nat) (w : World) (hg : g.size ≠ 0) (hgg : grpB g 16 = true) (hl : ss.length ≤ 9223372036854775807) (ha : AddrsAt w (.slice ps ss.length cs) ss) :
    Calls Tryz.prog 14 #[.agg #[.int .i64 1, .int .i64 2, .string g, .int .i64 mx, .bool q, .int .i64 rob, .int .i64 ev, .slice ps ss.length cs, .slice pr 0 cr]] w fun e w' => e = .returned (.bool (q2OK g mx rob ev ss)) ∧ Below w.heap.size w w' := by
  have V := Lib.hid (show q2OK g mx rob ev ss = (codedW 12 mx && codedW 4 ev && decide (0 ≤ rob) && decide (rob ≤ 7) && srcsB ss 16 && true) by
    have e : srcsB ss 16 = (all16 ss && decide (ss.length ≤ 60)) := rfl
    unfold q2OK qGrp6 detOK
    rw [e, if_neg hg, hgg]
    cases codedW 12 mx <;> cases codedW 4 ev <;> cases decide (0 ≤ rob) <;> cases decide (rob ≤ 7) <;> cases all16 ss <;> cases decide (ss.length ≤ 60) <;> simp)
  have t2 : g.toList.isEmpty = false := toList_ne _ hg
  have HG := Lib.hid fun U => rgroup9_c g U
  rw [hgg] at HG
  have HX := Lib.hid fun U => rexact16_c mx U
  have HY := Lib.hid fun U => rexact8_c ev U
  have HS := Lib.hid fun U (h : AddrsAt U (.slice ps ss.length cs) ss) => rSized_c (.slice ps ss.length cs) ss U hl h
  have B0 := Lib.hid (Box.start w #[.int .i64 1, .int .i64 2, .string g, .int .i64 mx, .bool q, .int .i64 rob, .int .i64 ev, .slice ps ss.length cs, .slice pr 0 cr] 28)
  have A1 := Lib.hid (ha.below B0.out.2)
  rw [V.out]
  clear V
  generalize codedW 12 mx = xb at *
  generalize codedW 4 ev = yb at *
  generalize srcsB ss 16 = sb at *
  clear hg hgg
  cases xb
  · go_enter Tryz.func14, Tryz.ntmps14
    go_wp2_with fail
    ((with_reducible refine (HG.out _).mono ?_); rintro e w0 ⟨rfl, rfl⟩)
    go_wp2_with fail
    ((with_reducible refine (HX.out _).mono ?_); rintro e w1 ⟨rfl, rfl⟩)
    go_wp2_with fail
    go_ret
    exact ⟨by simp, B0.out.2⟩
  · cases yb
    · go_enter Tryz.func14, Tryz.ntmps14
      go_wp2_with fail
      ((with_reducible refine (HG.out _).mono ?_); rintro e w0 ⟨rfl, rfl⟩)
      go_wp2_with fail
      ((with_reducible refine (HX.out _).mono ?_); rintro e w1 ⟨rfl, rfl⟩)
      go_wp2_with fail
      ((with_reducible refine (HY.out _).mono ?_); rintro e w2 ⟨rfl, rfl⟩)
      go_wp2_with fail
      go_ret
      exact ⟨by simp, B0.out.2⟩
    · by_cases r0 : 0 ≤ rob
      · by_cases r7 : rob ≤ 7
        · rw [decide_eq_true r0, decide_eq_true r7]
          cases sb
          · go_enter Tryz.func14, Tryz.ntmps14
            go_wp2_with fail
            ((with_reducible refine (HG.out _).mono ?_); rintro e w0 ⟨rfl, rfl⟩)
            go_wp2_with fail
            ((with_reducible refine (HX.out _).mono ?_); rintro e w1 ⟨rfl, rfl⟩)
            go_wp2_with fail
            ((with_reducible refine (HY.out _).mono ?_); rintro e w2 ⟨rfl, rfl⟩)
            go_wp2_with fail
            ((with_reducible refine (HS.out _ ?_).mono ?_); exact A1.out; rintro e w3 ⟨rfl, rfl⟩)
            go_wp2_with fail
            go_ret
            exact ⟨by simp, B0.out.2⟩
          · go_enter Tryz.func14, Tryz.ntmps14
            go_wp2_with fail
            ((with_reducible refine (HG.out _).mono ?_); rintro e w0 ⟨rfl, rfl⟩)
            go_wp2_with fail
            ((with_reducible refine (HX.out _).mono ?_); rintro e w1 ⟨rfl, rfl⟩)
            go_wp2_with fail
            ((with_reducible refine (HY.out _).mono ?_); rintro e w2 ⟨rfl, rfl⟩)
            go_wp2_with fail
            ((with_reducible refine (HS.out _ ?_).mono ?_); exact A1.out; rintro e w3 ⟨rfl, rfl⟩)
            go_wp2_with fail
            go_ret
            exact ⟨by simp, B0.out.2⟩
        · rw [decide_eq_false r7]
          have r8 : ¬ rob ≤ 7 := r7
          go_enter Tryz.func14, Tryz.ntmps14
          go_wp2_with fail
          ((with_reducible refine (HG.out _).mono ?_); rintro e w0 ⟨rfl, rfl⟩)
          go_wp2_with fail
          ((with_reducible refine (HX.out _).mono ?_); rintro e w1 ⟨rfl, rfl⟩)
          go_wp2_with fail
          ((with_reducible refine (HY.out _).mono ?_); rintro e w2 ⟨rfl, rfl⟩)
          go_wp2_with fail
          go_ret
          exact ⟨by simp, B0.out.2⟩
      · rw [decide_eq_false r0]
        go_enter Tryz.func14, Tryz.ntmps14
        go_wp2_with fail
        ((with_reducible refine (HG.out _).mono ?_); rintro e w0 ⟨rfl, rfl⟩)
        go_wp2_with fail
        ((with_reducible refine (HX.out _).mono ?_); rintro e w1 ⟨rfl, rfl⟩)
        go_wp2_with fail
        ((with_reducible refine (HY.out _).mono ?_); rintro e w2 ⟨rfl, rfl⟩)
        go_wp2_with fail
        go_ret
        exact ⟨by simp, B0.out.2⟩

set_option maxHeartbeats 2000000 in
set_option maxRecDepth 100000 in
theorem rmay9_q1e (v : Int) (mx : Int) (q : Bool) (rob ev : Int) (ps : Option Addr) (cs : Nat) (ss : List ByteArray) (pr : Option Addr) (cr : Nat) (w : World) (h2 : v ≠ 2) :
    Calls Tryz.prog 14 #[.agg #[.int .i64 1, .int .i64 v, .string ⟨#[]⟩, .int .i64 mx, .bool q, .int .i64 rob, .int .i64 ev, .slice ps ss.length cs, .slice pr 0 cr]] w fun e w' => e = .returned (.bool (q1OK v ⟨#[]⟩ mx q rob ev ss.length)) ∧ Below w.heap.size w w' := by
  have V := Lib.hid (show q1OK v ⟨#[]⟩ mx q rob ev ss.length = (decide (v = 1) && bare6B 0 q rob ev ss.length 0 && decide (0 ≤ mx) && decide (mx ≤ 65535)) by
    unfold q1OK qGrp6 bare6B
    rw [putB2, if_pos (show (⟨#[]⟩ : ByteArray).size = 0 from rfl)]
    cases hd : detB6 q rob ev ss.length
    · rw [(mdet_parts hd).2.2.2]; cases decide (v = 1) <;> cases decide (0 ≤ mx) <;> cases decide (mx ≤ 65535) <;> simp
    · simp)
  have HR := Lib.hid fun U => rbare9_c 1 v ⟨#[]⟩ 0 q rob ev ps ss.length cs pr 0 cr U
  have B0 := Lib.hid (Box.start w #[.int .i64 1, .int .i64 v, .string ⟨#[]⟩, .int .i64 mx, .bool q, .int .i64 rob, .int .i64 ev, .slice ps ss.length cs, .slice pr 0 cr] 28)
  obtain ⟨a2, b2⟩ := ne_t h2
  rw [V.out]
  clear V h2
  generalize bare6B 0 q rob ev ss.length 0 = bb at *
  by_cases v1 : v = 1
  · subst v1
    cases bb
    · go_enter Tryz.func14, Tryz.ntmps14
      go_upto_region 11 with fail
      generalize (w.alloc _) = W at B0 ⊢
      have c3 := B0.out.cell 3 rfl
      have f3 := B0.out.free 3
      go_upto_region 13 with fail
      have B := Lib.hid (show Box w (W.setCell ⟨w.heap.size, 3, none⟩ (.int .i64 0)) #[.int .i64 1, .int .i64 1, .string ⟨#[]⟩, .int .i64 0, .bool q, .int .i64 rob, .int .i64 ev, .slice ps ss.length cs, .slice pr 0 cr] 28 from boxSet B0.out 3 (.int .i64 0))
      clear c3 f3
      generalize W.setCell _ _ = W2 at B ⊢
      have c0 := B.out.cell 0 rfl
      have c1 := B.out.cell 1 rfl
      have c2 := B.out.cell 2 rfl
      have c3 := B.out.cell 3 rfl
      have c4 := B.out.cell 4 rfl
      have c5 := B.out.cell 5 rfl
      have c6 := B.out.cell 6 rfl
      have c7 := B.out.cell 7 rfl
      have c8 := B.out.cell 8 rfl
      go_wp2_with fail
      ((with_reducible refine (HR.out _).mono ?_); rintro e w2 ⟨rfl, h2⟩)
      replace B := Lib.hid (B.out.below h2)
      clear h2 c0 c1 c2 c3 c4 c5 c6 c7 c8
      go_wp2_with fail
      all_goals (go_ret; exact ⟨by first | (simp; done) | (simp; omega), B.out.2⟩)
    · by_cases m0 : 0 ≤ mx
      · by_cases m1 : mx ≤ 65535
        · rw [decide_eq_true m0, decide_eq_true m1]
          go_enter Tryz.func14, Tryz.ntmps14
          go_upto_region 11 with fail
          generalize (w.alloc _) = W at B0 ⊢
          have c3 := B0.out.cell 3 rfl
          have f3 := B0.out.free 3
          go_upto_region 13 with fail
          have B := Lib.hid (show Box w (W.setCell ⟨w.heap.size, 3, none⟩ (.int .i64 0)) #[.int .i64 1, .int .i64 1, .string ⟨#[]⟩, .int .i64 0, .bool q, .int .i64 rob, .int .i64 ev, .slice ps ss.length cs, .slice pr 0 cr] 28 from boxSet B0.out 3 (.int .i64 0))
          clear c3 f3
          generalize W.setCell _ _ = W2 at B ⊢
          have c0 := B.out.cell 0 rfl
          have c1 := B.out.cell 1 rfl
          have c2 := B.out.cell 2 rfl
          have c3 := B.out.cell 3 rfl
          have c4 := B.out.cell 4 rfl
          have c5 := B.out.cell 5 rfl
          have c6 := B.out.cell 6 rfl
          have c7 := B.out.cell 7 rfl
          have c8 := B.out.cell 8 rfl
          go_wp2_with fail
          ((with_reducible refine (HR.out _).mono ?_); rintro e w2 ⟨rfl, h2⟩)
          replace B := Lib.hid (B.out.below h2)
          clear h2 c0 c1 c2 c3 c4 c5 c6 c7 c8
          go_wp2_with fail
          all_goals (go_ret; exact ⟨by first | (simp; done) | (simp; omega), B.out.2⟩)
        · rw [decide_eq_false m1]
          go_enter Tryz.func14, Tryz.ntmps14
          go_upto_region 11 with fail
          generalize (w.alloc _) = W at B0 ⊢
          have c3 := B0.out.cell 3 rfl
          have f3 := B0.out.free 3
          go_upto_region 13 with fail
          have B := Lib.hid (show Box w (W.setCell ⟨w.heap.size, 3, none⟩ (.int .i64 0)) #[.int .i64 1, .int .i64 1, .string ⟨#[]⟩, .int .i64 0, .bool q, .int .i64 rob, .int .i64 ev, .slice ps ss.length cs, .slice pr 0 cr] 28 from boxSet B0.out 3 (.int .i64 0))
          clear c3 f3
          generalize W.setCell _ _ = W2 at B ⊢
          have c0 := B.out.cell 0 rfl
          have c1 := B.out.cell 1 rfl
          have c2 := B.out.cell 2 rfl
          have c3 := B.out.cell 3 rfl
          have c4 := B.out.cell 4 rfl
          have c5 := B.out.cell 5 rfl
          have c6 := B.out.cell 6 rfl
          have c7 := B.out.cell 7 rfl
          have c8 := B.out.cell 8 rfl
          go_wp2_with fail
          ((with_reducible refine (HR.out _).mono ?_); rintro e w2 ⟨rfl, h2⟩)
          replace B := Lib.hid (B.out.below h2)
          clear h2 c0 c1 c2 c3 c4 c5 c6 c7 c8
          go_wp2_with fail
          all_goals (go_ret; exact ⟨by first | (simp; done) | (simp; omega), B.out.2⟩)
      · rw [decide_eq_false m0]
        go_enter Tryz.func14, Tryz.ntmps14
        go_upto_region 11 with fail
        generalize (w.alloc _) = W at B0 ⊢
        have c3 := B0.out.cell 3 rfl
        have f3 := B0.out.free 3
        go_upto_region 13 with fail
        have B := Lib.hid (show Box w (W.setCell ⟨w.heap.size, 3, none⟩ (.int .i64 0)) #[.int .i64 1, .int .i64 1, .string ⟨#[]⟩, .int .i64 0, .bool q, .int .i64 rob, .int .i64 ev, .slice ps ss.length cs, .slice pr 0 cr] 28 from boxSet B0.out 3 (.int .i64 0))
        clear c3 f3
        generalize W.setCell _ _ = W2 at B ⊢
        have c0 := B.out.cell 0 rfl
        have c1 := B.out.cell 1 rfl
        have c2 := B.out.cell 2 rfl
        have c3 := B.out.cell 3 rfl
        have c4 := B.out.cell 4 rfl
        have c5 := B.out.cell 5 rfl
        have c6 := B.out.cell 6 rfl
        have c7 := B.out.cell 7 rfl
        have c8 := B.out.cell 8 rfl
        go_wp2_with fail
        ((with_reducible refine (HR.out _).mono ?_); rintro e w2 ⟨rfl, h2⟩)
        replace B := Lib.hid (B.out.below h2)
        clear h2 c0 c1 c2 c3 c4 c5 c6 c7 c8
        go_wp2_with fail
        all_goals (go_ret; exact ⟨by first | (simp; done) | (simp; omega), B.out.2⟩)
  · obtain ⟨a1, b1⟩ := ne_t v1
    rw [decide_eq_false v1]
    clear v1
    go_enter Tryz.func14, Tryz.ntmps14
    go_upto_region 11 with fail
    generalize (w.alloc _) = W at B0 ⊢
    have c3 := B0.out.cell 3 rfl
    have f3 := B0.out.free 3
    go_upto_region 13 with fail
    have B := Lib.hid (show Box w (W.setCell ⟨w.heap.size, 3, none⟩ (.int .i64 0)) #[.int .i64 1, .int .i64 v, .string ⟨#[]⟩, .int .i64 0, .bool q, .int .i64 rob, .int .i64 ev, .slice ps ss.length cs, .slice pr 0 cr] 28 from boxSet B0.out 3 (.int .i64 0))
    clear c3 f3
    generalize W.setCell _ _ = W2 at B ⊢
    have c0 := B.out.cell 0 rfl
    have c1 := B.out.cell 1 rfl
    have c2 := B.out.cell 2 rfl
    have c3 := B.out.cell 3 rfl
    have c4 := B.out.cell 4 rfl
    have c5 := B.out.cell 5 rfl
    have c6 := B.out.cell 6 rfl
    have c7 := B.out.cell 7 rfl
    have c8 := B.out.cell 8 rfl
    go_wp2_with fail
    all_goals (go_ret; exact ⟨by first | (simp; done) | (simp; omega), B.out.2⟩)

set_option maxHeartbeats 2000000 in
set_option maxRecDepth 100000 in
theorem rmay9_q1 (v : Int) (g : ByteArray) (mx : Int) (q : Bool) (rob ev : Int) (ps : Option Addr) (cs : Nat) (ss : List ByteArray) (pr : Option Addr) (cr : Nat) (w : World) (hg : g.size ≠ 0) (hgg : grpB g 16 = true) (h2 : v ≠ 2) :
    Calls Tryz.prog 14 #[.agg #[.int .i64 1, .int .i64 v, .string g, .int .i64 mx, .bool q, .int .i64 rob, .int .i64 ev, .slice ps ss.length cs, .slice pr 0 cr]] w fun e w' => e = .returned (.bool (q1OK v g mx q rob ev ss.length)) ∧ Below w.heap.size w w' := by
  have V := Lib.hid (show q1OK v g mx q rob ev ss.length = (decide (v = 1) && bare6B 0 q rob ev ss.length 0 && decide (0 ≤ mx) && decide (mx ≤ 65535)) by
    unfold q1OK qGrp6 bare6B
    rw [putB2, if_neg hg, hgg]
    cases detB6 q rob ev ss.length <;> cases decide (v = 1) <;> cases decide (0 ≤ mx) <;> cases decide (mx ≤ 65535) <;> simp)
  have t2 : g.toList.isEmpty = false := toList_ne _ hg
  have HG := Lib.hid fun U => rgroup9_c g U
  rw [hgg] at HG
  have HR := Lib.hid fun U => rbare9_c 1 v g 0 q rob ev ps ss.length cs pr 0 cr U
  have B0 := Lib.hid (Box.start w #[.int .i64 1, .int .i64 v, .string g, .int .i64 mx, .bool q, .int .i64 rob, .int .i64 ev, .slice ps ss.length cs, .slice pr 0 cr] 28)
  obtain ⟨a2, b2⟩ := ne_t h2
  rw [V.out]
  clear V h2
  generalize bare6B 0 q rob ev ss.length 0 = bb at *
  clear hg hgg
  by_cases v1 : v = 1
  · subst v1
    cases bb
    · go_enter Tryz.func14, Tryz.ntmps14
      go_wp2_with fail
      ((with_reducible refine (HG.out _).mono ?_); rintro e w0 ⟨rfl, rfl⟩)
      go_upto_region 11 with fail
      generalize (w.alloc _) = W at B0 ⊢
      have c3 := B0.out.cell 3 rfl
      have f3 := B0.out.free 3
      go_upto_region 13 with fail
      have B := Lib.hid (show Box w (W.setCell ⟨w.heap.size, 3, none⟩ (.int .i64 0)) #[.int .i64 1, .int .i64 1, .string g, .int .i64 0, .bool q, .int .i64 rob, .int .i64 ev, .slice ps ss.length cs, .slice pr 0 cr] 28 from boxSet B0.out 3 (.int .i64 0))
      clear c3 f3
      generalize W.setCell _ _ = W2 at B ⊢
      have c0 := B.out.cell 0 rfl
      have c1 := B.out.cell 1 rfl
      have c2 := B.out.cell 2 rfl
      have c3 := B.out.cell 3 rfl
      have c4 := B.out.cell 4 rfl
      have c5 := B.out.cell 5 rfl
      have c6 := B.out.cell 6 rfl
      have c7 := B.out.cell 7 rfl
      have c8 := B.out.cell 8 rfl
      go_wp2_with fail
      ((with_reducible refine (HR.out _).mono ?_); rintro e w2 ⟨rfl, h2⟩)
      replace B := Lib.hid (B.out.below h2)
      clear h2 c0 c1 c2 c3 c4 c5 c6 c7 c8
      go_wp2_with fail
      all_goals (go_ret; exact ⟨by first | (simp; done) | (simp; omega), B.out.2⟩)
    · by_cases m0 : 0 ≤ mx
      · by_cases m1 : mx ≤ 65535
        · rw [decide_eq_true m0, decide_eq_true m1]
          go_enter Tryz.func14, Tryz.ntmps14
          go_wp2_with fail
          ((with_reducible refine (HG.out _).mono ?_); rintro e w0 ⟨rfl, rfl⟩)
          go_upto_region 11 with fail
          generalize (w.alloc _) = W at B0 ⊢
          have c3 := B0.out.cell 3 rfl
          have f3 := B0.out.free 3
          go_upto_region 13 with fail
          have B := Lib.hid (show Box w (W.setCell ⟨w.heap.size, 3, none⟩ (.int .i64 0)) #[.int .i64 1, .int .i64 1, .string g, .int .i64 0, .bool q, .int .i64 rob, .int .i64 ev, .slice ps ss.length cs, .slice pr 0 cr] 28 from boxSet B0.out 3 (.int .i64 0))
          clear c3 f3
          generalize W.setCell _ _ = W2 at B ⊢
          have c0 := B.out.cell 0 rfl
          have c1 := B.out.cell 1 rfl
          have c2 := B.out.cell 2 rfl
          have c3 := B.out.cell 3 rfl
          have c4 := B.out.cell 4 rfl
          have c5 := B.out.cell 5 rfl
          have c6 := B.out.cell 6 rfl
          have c7 := B.out.cell 7 rfl
          have c8 := B.out.cell 8 rfl
          go_wp2_with fail
          ((with_reducible refine (HR.out _).mono ?_); rintro e w2 ⟨rfl, h2⟩)
          replace B := Lib.hid (B.out.below h2)
          clear h2 c0 c1 c2 c3 c4 c5 c6 c7 c8
          go_wp2_with fail
          all_goals (go_ret; exact ⟨by first | (simp; done) | (simp; omega), B.out.2⟩)
        · rw [decide_eq_false m1]
          go_enter Tryz.func14, Tryz.ntmps14
          go_wp2_with fail
          ((with_reducible refine (HG.out _).mono ?_); rintro e w0 ⟨rfl, rfl⟩)
          go_upto_region 11 with fail
          generalize (w.alloc _) = W at B0 ⊢
          have c3 := B0.out.cell 3 rfl
          have f3 := B0.out.free 3
          go_upto_region 13 with fail
          have B := Lib.hid (show Box w (W.setCell ⟨w.heap.size, 3, none⟩ (.int .i64 0)) #[.int .i64 1, .int .i64 1, .string g, .int .i64 0, .bool q, .int .i64 rob, .int .i64 ev, .slice ps ss.length cs, .slice pr 0 cr] 28 from boxSet B0.out 3 (.int .i64 0))
          clear c3 f3
          generalize W.setCell _ _ = W2 at B ⊢
          have c0 := B.out.cell 0 rfl
          have c1 := B.out.cell 1 rfl
          have c2 := B.out.cell 2 rfl
          have c3 := B.out.cell 3 rfl
          have c4 := B.out.cell 4 rfl
          have c5 := B.out.cell 5 rfl
          have c6 := B.out.cell 6 rfl
          have c7 := B.out.cell 7 rfl
          have c8 := B.out.cell 8 rfl
          go_wp2_with fail
          ((with_reducible refine (HR.out _).mono ?_); rintro e w2 ⟨rfl, h2⟩)
          replace B := Lib.hid (B.out.below h2)
          clear h2 c0 c1 c2 c3 c4 c5 c6 c7 c8
          go_wp2_with fail
          all_goals (go_ret; exact ⟨by first | (simp; done) | (simp; omega), B.out.2⟩)
      · rw [decide_eq_false m0]
        go_enter Tryz.func14, Tryz.ntmps14
        go_wp2_with fail
        ((with_reducible refine (HG.out _).mono ?_); rintro e w0 ⟨rfl, rfl⟩)
        go_upto_region 11 with fail
        generalize (w.alloc _) = W at B0 ⊢
        have c3 := B0.out.cell 3 rfl
        have f3 := B0.out.free 3
        go_upto_region 13 with fail
        have B := Lib.hid (show Box w (W.setCell ⟨w.heap.size, 3, none⟩ (.int .i64 0)) #[.int .i64 1, .int .i64 1, .string g, .int .i64 0, .bool q, .int .i64 rob, .int .i64 ev, .slice ps ss.length cs, .slice pr 0 cr] 28 from boxSet B0.out 3 (.int .i64 0))
        clear c3 f3
        generalize W.setCell _ _ = W2 at B ⊢
        have c0 := B.out.cell 0 rfl
        have c1 := B.out.cell 1 rfl
        have c2 := B.out.cell 2 rfl
        have c3 := B.out.cell 3 rfl
        have c4 := B.out.cell 4 rfl
        have c5 := B.out.cell 5 rfl
        have c6 := B.out.cell 6 rfl
        have c7 := B.out.cell 7 rfl
        have c8 := B.out.cell 8 rfl
        go_wp2_with fail
        ((with_reducible refine (HR.out _).mono ?_); rintro e w2 ⟨rfl, h2⟩)
        replace B := Lib.hid (B.out.below h2)
        clear h2 c0 c1 c2 c3 c4 c5 c6 c7 c8
        go_wp2_with fail
        all_goals (go_ret; exact ⟨by first | (simp; done) | (simp; omega), B.out.2⟩)
  · obtain ⟨a1, b1⟩ := ne_t v1
    rw [decide_eq_false v1]
    clear v1
    go_enter Tryz.func14, Tryz.ntmps14
    go_wp2_with fail
    ((with_reducible refine (HG.out _).mono ?_); rintro e w0 ⟨rfl, rfl⟩)
    go_upto_region 11 with fail
    generalize (w.alloc _) = W at B0 ⊢
    have c3 := B0.out.cell 3 rfl
    have f3 := B0.out.free 3
    go_upto_region 13 with fail
    have B := Lib.hid (show Box w (W.setCell ⟨w.heap.size, 3, none⟩ (.int .i64 0)) #[.int .i64 1, .int .i64 v, .string g, .int .i64 0, .bool q, .int .i64 rob, .int .i64 ev, .slice ps ss.length cs, .slice pr 0 cr] 28 from boxSet B0.out 3 (.int .i64 0))
    clear c3 f3
    generalize W.setCell _ _ = W2 at B ⊢
    have c0 := B.out.cell 0 rfl
    have c1 := B.out.cell 1 rfl
    have c2 := B.out.cell 2 rfl
    have c3 := B.out.cell 3 rfl
    have c4 := B.out.cell 4 rfl
    have c5 := B.out.cell 5 rfl
    have c6 := B.out.cell 6 rfl
    have c7 := B.out.cell 7 rfl
    have c8 := B.out.cell 8 rfl
    go_wp2_with fail
    all_goals (go_ret; exact ⟨by first | (simp; done) | (simp; omega), B.out.2⟩)

/-- May, at every message. -/
theorem rmay9_c (m : Msg) (vs vr : Value) (w : World) (hl : m.srcs.length ≤ 9223372036854775807) (hr : m.recs.length ≤ 9223372036854775807) (hs : ∀ r ∈ m.recs, r.srcs.length ≤ 9223372036854775807) (ha : AddrsAt w vs m.srcs) (hb : RecsAt w vr m.recs) :
    Calls Tryz.prog 14 #[m.val vs vr] w fun e w' => e = .returned (.bool (mayD m)) ∧ Below w.heap.size w w' := by
  obtain ⟨k, v, g, mx, q, rob, ev, ss, L⟩ := m
  simp only [Msg.val] at *
  obtain ⟨p7, c7, rfl⟩ := ha.slice
  obtain ⟨p8, c8, rfl⟩ := hb.slice
  unfold mayD
  simp only
  by_cases h1 : k = 1
  · subst h1
    rw [if_pos rfl]
    by_cases hn : L.length = 0
    · rw [hn, decide_eq_true rfl, Bool.true_and]
      by_cases hg : g.size = 0
      · obtain rfl := bytes_empty hg
        by_cases h2 : v = 2
        · subst h2
          rw [if_pos rfl]
          exact rmay9_q2e mx q rob ev p7 c7 ss p8 c8 w hl ha
        · rw [if_neg h2]
          exact rmay9_q1e v mx q rob ev p7 c7 ss p8 c8 w h2
      · rcases hgg : grpB g 16 with _ | _
        · have e2 : q2OK g mx rob ev ss = false := by unfold q2OK qGrp6; rw [if_neg hg, hgg]; simp
          have e1 : q1OK v g mx q rob ev ss.length = false := by unfold q1OK qGrp6; rw [if_neg hg, hgg]; simp
          rw [e1, e2, ite_self]
          exact rmay9_qno 1 v g mx q rob ev p7 ss.length c7 p8 0 c8 w rfl (.inl ⟨hg, hgg⟩)
        · by_cases h2 : v = 2
          · subst h2
            rw [if_pos rfl]
            exact rmay9_q2 g mx q rob ev p7 c7 ss p8 c8 w hg hgg hl ha
          · rw [if_neg h2]
            exact rmay9_q1 v g mx q rob ev p7 c7 ss p8 c8 w hg hgg h2
    · rw [decide_eq_false hn, Bool.false_and]
      refine rmay9_qno 1 v g mx q rob ev p7 ss.length c7 p8 L.length c8 w rfl ?_
      by_cases hg : g.size = 0
      · exact .inr ⟨.inl hg, hn⟩
      · rcases hgg : grpB g 16 with _ | _
        · exact .inl ⟨hg, rfl⟩
        · exact .inr ⟨.inr rfl, hn⟩
  · rw [if_neg h1]
    by_cases h2 : k = 2 ∧ v = 2
    · obtain ⟨rfl, rfl⟩ := h2
      rw [if_pos (.inl rfl)]
      have e : (decide (mx = 0) && !detB6 q rob ev ss.length && tellOK 2 2 g L) = (decide (g.size = 0) && decide ((bodyI L 16).1 = 0) && bare6B mx q rob ev ss.length 0) := by
        unfold tellOK rec6OK bare6B
        rw [if_pos ⟨rfl, rfl⟩]
        cases decide (mx = 0) <;> cases detB6 q rob ev ss.length <;> cases decide (g.size = 0) <;> cases decide ((bodyI L 16).1 = 0) <;> simp
      rw [e]
      exact rmay9_rep g mx q rob ev p7 ss.length c7 p8 c8 L w hr hs hb
    · by_cases h3 : k = 2 ∨ k = 3
      · rw [if_pos h3]
        have et : tellOK k v g L = oneOK v g L.length := by unfold tellOK; rw [if_neg h2]
        rw [et]
        by_cases hv : v = 1
        · subst hv
          have e : (decide (mx = 0) && !detB6 q rob ev ss.length && oneOK 1 g L.length) = (grpB g 16 && bare6B mx q rob ev ss.length L.length) := by
            unfold oneOK bare6B
            cases decide (mx = 0) <;> cases detB6 q rob ev ss.length <;> cases grpB g 16 <;> cases decide (L.length = 0) <;> simp
          rw [e]
          exact rmay9_one k 1 g mx q rob ev p7 ss.length c7 p8 L.length c8 w (h3.imp (fun h => ⟨h, rfl⟩) (fun h => ⟨h, rfl⟩))
        · have e : (decide (mx = 0) && !detB6 q rob ev ss.length && oneOK v g L.length) = false := by unfold oneOK; rw [decide_eq_false hv]; simp
          rw [e]
          refine rmay9_no k v g mx q rob ev p7 ss.length c7 p8 L.length c8 w ?_
          rcases h3 with rfl | rfl
          · exact .inl ⟨rfl, hv, fun h => h2 ⟨rfl, h⟩⟩
          · exact .inr (.inl ⟨rfl, hv⟩)
      · rw [if_neg h3]
        exact rmay9_no k v g mx q rob ev p7 ss.length c7 p8 L.length c8 w (.inr (.inr ⟨h1, fun h => h3 (.inl h), fun h => h3 (.inr h)⟩))

end Go.Proofs.YtniahpbjfpmmhaaGreat
