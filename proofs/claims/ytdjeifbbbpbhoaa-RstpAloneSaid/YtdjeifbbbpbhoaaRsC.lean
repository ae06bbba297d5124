/-
  rstp: takes, play. Contracts over the translated program.
-/
import Derived.Test.YtdjeifbbbpbhoaaRsB
namespace Go.Proofs.Ytdjeifbbbpbhoaa
open Go.RowKit
set_option linter.unusedVariables false
set_option linter.unusedSimpArgs false

set_option maxHeartbeats 2000000 in
set_option maxRecDepth 100000 in
theorem takes_c {w : World} {a : Nat} {p : Prt} (h : PrtAt w a p) (r c g q : Int) : Calls Try.prog 33 #[.pointer (some ⟨a, 0, none⟩), .agg #[.int .u64 r, .int .i64 c, .int .u64 g, .int .i64 q]] w fun e w' => e = .returned (.bool (p.takes (r, c, g, q))) ∧ Below w.heap.size w w' := by
  obtain ⟨kv, hb, hk⟩ := h
  have hlt : a < w.heap.size := (Array.getElem?_eq_some_iff.1 hb).1
  have hne : a ≠ w.heap.size := by omega
  have x2 := prt_c2 hb
  have B0 := Lib.hid (Bx.start w #[.int .u64 r, .int .i64 c, .int .u64 g, .int .i64 q] 36)
  have hB := Lib.hid hb
  clear hb
  unfold Prt.takes
  cases hkk : p.kept with
  | none =>
    rw [hkk] at hk
    obtain rfl : kv = .pointer none := hk
    replace hkk := Lib.hid hkk
    go_enter Try.func33, Try.ntmps33
    go_wp2
    go_ret
    exact ⟨rfl, B0.out.bel⟩
  | some m =>
    rw [hkk] at hk
    obtain ⟨mb, rfl, hm⟩ := hk
    have hltm : mb < w.heap.size := (Array.getElem?_eq_some_iff.1 hm).1
    have hnem : mb ≠ w.heap.size := by omega
    obtain ⟨y0, y1, y2, y3, -, -⟩ := msg_c0 hm
    replace hkk := Lib.hid hkk
    clear hm
    obtain ⟨⟨r2, c2, g2, q2⟩, age, on⟩ := m
    simp only at y0 y1 y2 y3
    have HC := Lib.hid fun U => pcmp_c r c g q r2 c2 g2 q2 U
    simp only
    generalize cmpV (r, c, g, q) (r2, c2, g2, q2) = cc at HC ⊢
    go_enter Try.func33, Try.ntmps33
    go_upto_region 3 with fail
    have x2' := gcell_below B0.out.bel x2
    have y0' := gcell_below B0.out.bel y0
    have y1' := gcell_below B0.out.bel y1
    have y2' := gcell_below B0.out.bel y2
    have y3' := gcell_below B0.out.bel y3
    clear x2 y0 y1 y2 y3 hlt hltm hne hnem
    generalize w.alloc (.cells #[.int .u64 r, .int .i64 c, .int .u64 g, .int .i64 q] 36) = W at B0 x2' y0' y1' y2' y3' ⊢
    have hlt : a < W.heap.size := gcell_lt x2'
    have hne : a ≠ W.heap.size := by omega
    have hltm : mb < W.heap.size := gcell_lt y0'
    have hnem : mb ≠ W.heap.size := by omega
    have B1 := Lib.hid (Bx.mk' B0.out.bel #[.int .u64 r2, .int .i64 c2, .int .u64 g2, .int .i64 q2] 36)
    replace B0 := Lib.hid (B0.out.alloc (.cells #[.int .u64 r2, .int .i64 c2, .int .u64 g2, .int .i64 q2] 36))
    go_upto_region 4 with fail
    generalize W.alloc (.cells #[.int .u64 r2, .int .i64 c2, .int .u64 g2, .int .i64 q2] 36) = W1 at B0 B1 ⊢
    clear x2' y0' y1' y2' y3' hlt hne hltm hnem
    generalize W.heap.size = vb at B1 ⊢
    have z0 : W1.cell? ⟨w.heap.size, 0, none⟩ = some (.int .u64 r) := B0.out.cell 0 rfl
    have z1 : W1.cell? ⟨w.heap.size, 1, none⟩ = some (.int .i64 c) := B0.out.cell 1 rfl
    have z2 : W1.cell? ⟨w.heap.size, 2, none⟩ = some (.int .u64 g) := B0.out.cell 2 rfl
    have z3 : W1.cell? ⟨w.heap.size, 3, none⟩ = some (.int .i64 q) := B0.out.cell 3 rfl
    have u0 : W1.cell? ⟨vb, 0, none⟩ = some (.int .u64 r2) := B1.out.cell 0 rfl
    have u1 : W1.cell? ⟨vb, 1, none⟩ = some (.int .i64 c2) := B1.out.cell 1 rfl
    have u2 : W1.cell? ⟨vb, 2, none⟩ = some (.int .u64 g2) := B1.out.cell 2 rfl
    have u3 : W1.cell? ⟨vb, 3, none⟩ = some (.int .i64 q2) := B1.out.cell 3 rfl
    go_wp2_with fail
    ((with_reducible refine (HC.out _).mono ?_); rintro e w1 ⟨rfl, h1⟩)
    replace B0 := Lib.hid (B0.out.below h1)
    replace B1 := Lib.hid (B1.out.below h1)
    clear h1 z0 z1 z2 z3 u0 u1 u2 u3
    have z2 : w1.cell? ⟨w.heap.size, 2, none⟩ = some (.int .u64 g) := B0.out.cell 2 rfl
    have z3 : w1.cell? ⟨w.heap.size, 3, none⟩ = some (.int .i64 q) := B0.out.cell 3 rfl
    have u2 : w1.cell? ⟨vb, 2, none⟩ = some (.int .u64 g2) := B1.out.cell 2 rfl
    have u3 : w1.cell? ⟨vb, 3, none⟩ = some (.int .i64 q2) := B1.out.cell 3 rfl
    cases k1 : decide (cc ≤ 0) with
    | true =>
      go_wp2_with fail
      go_ret
      exact ⟨by rw [k1]; rfl, B0.out.bel⟩
    | false =>
      cases k2 : (g == g2) with
      | true =>
        go_wp2_with fail
        go_ret
        exact ⟨by rw [k1, k2]; rfl, B0.out.bel⟩
      | false =>
        go_wp2_with fail
        go_ret
        exact ⟨by rw [k1, k2]; rfl, B0.out.bel⟩

theorem kept_of {w w' : World} {a : Nat} {kv : Value} {k : Option Msg} (h : KeptAt w kv k) (x : Only a w w') {p : Prt} {kv0 : Value} (hb : w.heap[a]? = some (.cells (prtC p kv0) 64 (0, 0))) : KeptAt w' kv k := h.only x hb

set_option maxHeartbeats 2000000 in
set_option maxRecDepth 100000 in
theorem play_c {w : World} {a : Nat} {p : Prt} (h : PrtAt w a p) (hg : p.Good) (role t : Int) (t0 : 0 ≤ t) (t1 : t ≤ 1099511627776) : Calls Try.prog 45 #[.pointer (some ⟨a, 0, none⟩), .int .i64 role, .int .i64 t] w fun e w' => e = .returned (.tuple #[]) ∧ PrtAt w' a (p.play t role) ∧ Only a w w' := by
  obtain ⟨kv, hb, hk⟩ := h
  have s0 := hg.s0
  have s1 := hg.s1
  have HA := Lib.hid fun r U => active_c r U
  have x1 := prt_c1 hb
  have x3 := prt_c3 hb
  have x4 := prt_c4 hb
  have x5 := prt_c5 hb
  have x6 := prt_c6 hb
  have f3 := free_of_block (j := 3) hb
  have f4 := free_of_block (j := 4) hb
  have f5 := free_of_block (j := 5) hb
  have f6 := free_of_block (j := 6) hb
  have HB := Lib.hid hb
  have HK := Lib.hid hk
  clear hb hk hg
  cases hu : p.up with
  | false =>
    rw [hu] at x1
    have HP := Lib.hid (show p.play t role = { p with role := 0, learns := false, fwd := false } by unfold Prt.play; rw [hu]; rfl)
    replace hu := Lib.hid hu
    have h3 := heap_store (j := 3) (v := .int .i64 0) HB.out
    have h5 := heap_store (j := 5) (v := .bool false) h3
    have h6 := Lib.hid (heap_store (j := 6) (v := .bool false) h5)
    have hx := Lib.hid (((Only.setCell w a 3 (.int .i64 0)).set 5 (.bool false)).set 6 (.bool false))
    clear h3 h5
    go_enter Try.func45, Try.ntmps45
    go_wp2_with fail
    repeat' ((with_reducible refine (HA.out _ _).mono ?_); rintro e w1 ⟨rfl, rfl⟩; rw [show actv 0 = false from rfl]; go_wp2_with fail)
    go_end0
    rw [HP.out]
    exact ⟨rfl, ⟨kv, h6.out, kept_of HK.out hx.out HB.out⟩, hx.out⟩
  | true =>
    rw [hu] at x1
    cases h1 : actv role with
    | false =>
      have HP := Lib.hid (show p.play t role = { p with role := role, learns := false, fwd := false } by unfold Prt.play; simp [hu, h1])
      replace hu := Lib.hid hu
      have h3 := heap_store (j := 3) (v := .int .i64 role) HB.out
      have h5 := heap_store (j := 5) (v := .bool false) h3
      have h6 := Lib.hid (heap_store (j := 6) (v := .bool false) h5)
      have hx := Lib.hid (((Only.setCell w a 3 (.int .i64 role)).set 5 (.bool false)).set 6 (.bool false))
      clear h3 h5
      replace h1 := Lib.hid h1
      go_enter Try.func45, Try.ntmps45
      go_wp2_with fail
      repeat' ((with_reducible refine (HA.out _ _).mono ?_); rintro e w1 ⟨rfl, rfl⟩; rw [h1.out]; go_wp2_with fail)
      go_end0
      rw [HP.out]
      exact ⟨rfl, ⟨kv, h6.out, kept_of HK.out hx.out HB.out⟩, hx.out⟩
    | true =>
      cases h2 : actv p.role with
      | false =>
        have HP := Lib.hid (show p.play t role = { p with role := role, since := t, learns := false, fwd := false } by unfold Prt.play; simp [hu, h1, h2])
        replace hu := Lib.hid hu
        have h4 := heap_store (j := 4) (v := .int .i64 t) HB.out
        have h3 := heap_store (j := 3) (v := .int .i64 role) h4
        have h5 := heap_store (j := 5) (v := .bool false) h3
        have h6 := Lib.hid (heap_store (j := 6) (v := .bool false) h5)
        have hx := Lib.hid ((((Only.setCell w a 4 (.int .i64 t)).set 3 (.int .i64 role)).set 5 (.bool false)).set 6 (.bool false))
        clear h3 h4 h5
        replace h1 := Lib.hid h1
        replace h2 := Lib.hid h2
        go_enter Try.func45, Try.ntmps45
        go_wp2_with fail
        repeat' ((with_reducible refine (HA.out _ _).mono ?_); rintro e w1 ⟨rfl, rfl⟩; (first | rw [h1.out] | rw [h2.out]); go_wp2_with fail)
        go_end0
        rw [HP.out]
        exact ⟨rfl, ⟨kv, h6.out, kept_of HK.out hx.out HB.out⟩, hx.out⟩
      | true =>
        have HP := Lib.hid (show p.play t role = { p with role := role, learns := decide (15 ≤ t - p.since), fwd := decide (30 ≤ t - p.since) } by unfold Prt.play; simp [hu, h1, h2])
        replace hu := Lib.hid hu
        have h3 := heap_store (j := 3) (v := .int .i64 role) HB.out
        have h5 := heap_store (j := 5) (v := .bool (decide (15 ≤ t - p.since))) h3
        have h6 := Lib.hid (heap_store (j := 6) (v := .bool (decide (30 ≤ t - p.since))) h5)
        have hx := Lib.hid (((Only.setCell w a 3 (.int .i64 role)).set 5 (.bool (decide (15 ≤ t - p.since)))).set 6 (.bool (decide (30 ≤ t - p.since))))
        clear h3 h5
        replace h1 := Lib.hid h1
        replace h2 := Lib.hid h2
        go_enter Try.func45, Try.ntmps45
        go_wp2_with fail
        repeat' ((with_reducible refine (HA.out _ _).mono ?_); rintro e w1 ⟨rfl, rfl⟩; (first | rw [h1.out] | rw [h2.out]); go_wp2_with fail)
        go_end0
        rw [HP.out]
        exact ⟨rfl, ⟨kv, h6.out, kept_of HK.out hx.out HB.out⟩, hx.out⟩

end Go.Proofs.Ytdjeifbbbpbhoaa
