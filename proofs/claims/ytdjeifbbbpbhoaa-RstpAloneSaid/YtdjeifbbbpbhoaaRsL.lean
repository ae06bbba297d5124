/-
  rstp in a law: its state; calls of none; live. Contracts over the translated program.
-/
import Derived.Test.YtdjeifbbbpbhoaaRsK
namespace Go.Proofs.Ytdjeifbbbpbhoaa
open Go.RowKit
set_option linter.unusedVariables false
set_option linter.unusedSimpArgs false

/-- A PART OF A LAW, in a world made since w0. -/
structure SSt (w0 W : World) (t rb cap : Nat) (A : List Nat) (T : Part) : Prop where
  has : HasS W w0.heap.size t rb cap A T
  bel : Below w0.heap.size w0 W

section
variable {w0 W W' : World} {t rb cap : Nat} {A : List Nat} {T T' : Part}
theorem SSt.below (h : SSt w0 W t rb cap A T) (k : Below W.heap.size W W') : SSt w0 W' t rb cap A T := ⟨h.has.below k, h.bel.trans (k.mono h.bel.size)⟩
theorem SSt.drewN (h : SSt w0 W t rb cap A T) (n : Nat) : SSt w0 (W.drewN n) t rb cap A T := ⟨h.has.drewN n, below_drewN h.bel n⟩
theorem SSt.tt (h : SSt w0 W t rb cap A T) (hs : HasS W' w0.heap.size t rb cap A T') (k : Tt isS w0.heap.size W W') : SSt w0 W' t rb cap A T' := ⟨hs, h.bel.trans (k.below (Nat.le_refl _) h.bel.size)⟩
theorem link_s (h : SSt w0 W t rb cap A T) (n : Int) (up : Bool) (now : Int) : Calls Try.prog 14 #[.pointer (some ⟨t, 0, none⟩), .int .i64 n, .bool up, .int .i64 now] W fun e w' => e = .returned (.tuple #[]) ∧ SSt w0 w' t rb cap A (T.link n up now) ∧ Tt isS w0.heap.size W w' :=
  (link_c h.has n up now).mono fun _ _ ⟨h1, h2, h3⟩ => ⟨h1, h.tt h2 h3, h3⟩
theorem hear_s (h : SSt w0 W t rb cap A T) (n : Int) (r c g q age : Int) (ch le fw : Bool) (now : Int) (ha0 : -9223372036854775808 ≤ age) : Calls Try.prog 15 #[.pointer (some ⟨t, 0, none⟩), .int .i64 n, .agg #[.int .u64 r, .int .i64 c, .int .u64 g, .int .i64 q, .int .i64 age, .bool ch, .bool le, .bool fw], .int .i64 now] W fun e w' => e = .returned (.tuple #[]) ∧ SSt w0 w' t rb cap A (T.hear n ⟨(r, c, g, q), age, ch, le, fw⟩ now) ∧ Tt isS w0.heap.size W w' :=
  (hear_c h.has n r c g q age ch le fw now ha0).mono fun _ _ ⟨h1, h2, h3⟩ => ⟨h1, h.tt h2 h3, h3⟩
theorem tick_s (h : SSt w0 W t rb cap A T) (now : Int) : Calls Try.prog 16 #[.pointer (some ⟨t, 0, none⟩), .int .i64 now] W fun e w' => ∃ u, e = .returned u ∧ w'.ownsRow W.heap.size 54 9 u (T.told now).length ((T.told now).flatMap cellsO) ∧ SSt w0 w' t rb cap A (T.tick now) ∧ Tt isS w0.heap.size W w' :=
  (tick_c h.has now).mono fun _ _ ⟨u, h1, h2, h3, h4⟩ => ⟨u, h1, h2, h.tt h3 h4, h4⟩
end

theorem new_c (b : Int) (v : Value) (cs : List Int) (w : World) (h : IntsAt w v cs) (hl : cs.length ≤ 9223372036854775807) : Calls Try.prog 8 #[.int .u64 b, v] w (NewPost w b cs) := by
  by_cases hc : cs.length < 1 ∨ 16 < cs.length
  · refine (new_len b v cs w h hl hc).mono ?_
    rintro e w' ⟨rfl, rfl⟩
    have E : mayCs cs = false := Bool.eq_false_iff.2 fun h => by have := mayCs_all h; omega
    unfold NewPost
    rw [E]
    exact ⟨rfl, Below.refl _ _⟩
  · exact new_go b v cs w h (by omega) (by omega)
theorem new_no (b : Int) (v : Value) (cs : List Int) (w : World) (h : IntsAt w v cs) (hl : cs.length ≤ 9223372036854775807) (hm : mayCs cs = false) : Calls Try.prog 8 #[.int .u64 b, v] w fun e w' => e = .returned (.tuple #[.pointer none, .int .i64 1]) ∧ Below w.heap.size w w' :=
  (new_c b v cs w h hl).mono fun e w' k => by unfold NewPost at k; rw [hm] at k; exact k
theorem new_yes {w0 : World} (b : Int) (v : Value) (cs : List Int) (w : World) (h : IntsAt w v cs) (hm : mayCs cs = true) (hb : Below w0.heap.size w0 w) : Calls Try.prog 8 #[.int .u64 b, v] w fun e w' => ∃ t rb cap A, e = .returned (.tuple #[.pointer (some ⟨t, 0, none⟩), .int .i64 0]) ∧ A.length = cs.length ∧ SSt w0 w' t rb cap A (newPart b cs) ∧ Below w.heap.size w w' :=
  (new_c b v cs w h (by have := (mayCs_all hm).2.1; omega)).mono fun e w' k => by
    unfold NewPost at k
    rw [hm] at k
    obtain ⟨t, rb, cap, A, h1, h2, h3, h4⟩ := k
    refine ⟨t, rb, cap, A, h1, h2, ⟨⟨h3.tree, h3.row, h3.len, h3.nodup, h3.ports, Nat.le_trans hb.size h3.geT, fun a ha => Nat.le_trans hb.size (h3.geA a ha), h3.n1, h3.n16, h3.good⟩, hb.trans (h4.mono hb.size)⟩, h4⟩

set_option maxRecDepth 100000 in
theorem link_nil (n : Int) (up : Bool) (now : Int) (w : World) : Calls Try.prog 14 #[.pointer none, .int .i64 n, .bool up, .int .i64 now] w fun e w' => e = .returned (.tuple #[]) ∧ w = w' := by
  have HP := Lib.hid fun U => port_nil n U
  go_enter Try.func14, Try.ntmps14
  go_wp2_with fail
  ((with_reducible refine (HP.out _).mono ?_); rintro e w1 ⟨rfl, rfl⟩)
  go_wp2_with fail
  exact bodyPost_ret (v := .tuple #[]) (by simp [results, Try.results14, go_sem]) rfl ⟨rfl, rfl⟩
set_option maxRecDepth 100000 in
theorem hear_nil (n : Int) (v : Array Value) (hv : v.size = 8) (now : Int) (w : World) : Calls Try.prog 15 #[.pointer none, .int .i64 n, .agg v, .int .i64 now] w fun e w' => e = .returned (.tuple #[]) ∧ Below w.heap.size w w' := by
  have HP := Lib.hid fun U => port_nil n U
  have HB := Lib.hid ((Below.refl w.heap.size w).alloc (Nat.le_refl _) (.cells v 38))
  go_enter Try.func15, Try.ntmps15
  go_upto_region 1 with fail
  generalize w.alloc (.cells v 38) = W at HB ⊢
  go_wp2_with fail
  ((with_reducible refine (HP.out _).mono ?_); rintro e w1 ⟨rfl, rfl⟩)
  go_wp2_with fail
  exact bodyPost_ret (v := .tuple #[]) (by simp [results, Try.results15, go_sem]) rfl ⟨rfl, HB.out⟩

def TL : Part := (newPart 7 [10]).link 0 true 0
theorem TL_told : TL.told 0 = [(0, ⟨(7, 0, 7, 0), 0, false, false, false⟩)] := by kernel_rfl
theorem TL_29 : ((TL.tick 0).tick 29).ps = [⟨10, true, none, 2, 0, true, false⟩] := by kernel_rfl
theorem TL_30 : (((TL.tick 0).tick 29).tick 30).ps = [⟨10, true, none, 2, 0, true, true⟩] := by kernel_rfl
theorem TL_chg : (((TL.tick 0).tick 29).tick 30).chg = 31 := by kernel_rfl

theorem ints_lit (w : World) (x : Int) (t : TypeId) : IntsAt (w.alloc (.cells #[.int .i64 x] t)) (.slice (some ⟨w.heap.size, 0, none⟩) 1 1) [x] := by
  refine ⟨_, 1, w.heap.size, 0, rfl, fun _ => rfl, fun j y hj => ?_⟩
  match j, hj with
  | 0, hj =>
    obtain rfl : x = y := by simpa using hj
    exact cell_of_block (heap_new w _) rfl
  | j + 1, hj => simp at hj

set_option maxHeartbeats 4000000 in
set_option maxRecDepth 100000 in
theorem live15_c (w : World) : Calls Try.prog 10 #[] w fun e w' => e = .returned (.bool true) ∧ Below w.heap.size w w' := by
  have hB := (Below.refl w.heap.size w).alloc (Nat.le_refl _) (.cells #[.int .i64 10] 3)
  have HY := Lib.hid (new_yes (w0 := w) 7 _ [10] _ (ints_lit w 10 3) (by decide) hB)
  have HN := Lib.hid fun U => new_no 7 (.slice none 0 0) [] U (IntsAt.nil U) (by decide) (by decide)
  clear hB
  go_enter Try.func10, Try.ntmps10
  go_wp2_with fail
  ((with_reducible refine HY.out.mono ?_); rintro e w1 ⟨t, rb, cap, A, rfl, hA, h1, -⟩)
  have H := Lib.hid h1
  have HA := Lib.hid hA
  clear h1 hA HY
  go_wp2_with fail
  ((with_reducible refine (HN.out _).mono ?_); rintro e w2 ⟨rfl, h2⟩)
  have H2 := Lib.hid (link_s (H.out.below h2) 0 true 0)
  clear h2 H HN
  go_wp2_with fail
  ((with_reducible refine H2.out.mono ?_); rintro e w3 ⟨rfl, h3, -⟩)
  have H3 := Lib.hid (tick_s h3 0)
  clear h3 H2
  go_wp2_with fail
  ((with_reducible refine H3.out.mono ?_); rintro e w4 ⟨u, rfl, hu, h4, -⟩)
  have H4 := Lib.hid (tick_s h4 29)
  have HU := Lib.hid (show w4.ownsRow w3.heap.size 54 9 u 1 [.int .i64 0, .int .u64 7, .int .i64 0, .int .u64 7, .int .i64 0, .int .i64 0, .bool false, .bool false, .bool false] from by
    have e := TL_told
    unfold TL at e
    rw [e] at hu
    exact hu)
  clear h4 H3 hu
  go_wp2_with fail
  ((with_reducible refine H4.out.mono ?_); rintro e w5 ⟨u5, rfl, -, h5, k5⟩)
  have HU5 := Lib.hid (owns_tt HU.out k5 (by decide))
  obtain ⟨a, ha⟩ : ∃ a, A[0]? = some a := by
    have := HA.out
    match A, this with
    | [a], _ => exact ⟨a, rfl⟩
  have H5 := Lib.hid h5
  have HF := Lib.hid (forwards_yes h5.has ha (p := ⟨10, true, none, 2, 0, true, false⟩) (by
    have e := TL_29
    unfold TL at e
    rw [e]; rfl))
  replace HF := Lib.hid (by have h := HF.out; rw [show ((0 : Nat) : Int) = 0 from rfl] at h; exact h)
  clear h5 k5 HU H4
  go_wp2_with fail
  ((with_reducible refine HF.out.mono ?_); rintro e w6 ⟨rfl, rfl⟩)
  have H6 := Lib.hid (tick_s H5.out 30)
  clear H5 HF
  go_wp2_with fail
  ((with_reducible refine H6.out.mono ?_); rintro e w7 ⟨u7, rfl, -, h7, k7⟩)
  have HU7 := Lib.hid (owns_tt HU5.out k7 (by decide))
  have e30 : ((((newPart 7 [10]).link 0 true 0).tick 0).tick 29 |>.tick 30).ps[0]? = some ⟨10, true, none, 2, 0, true, true⟩ := by
    have e := TL_30
    unfold TL at e
    rw [e]; rfl
  have G1 := Lib.hid (forwards_yes h7.has ha e30)
  have G2 := Lib.hid (learns_yes h7.has ha e30)
  have G3 := Lib.hid (role_yes h7.has ha e30)
  have G4 := Lib.hid (changed_c h7.has)
  have e31 := TL_chg
  unfold TL at e31
  rw [e31] at G4
  have HB := Lib.hid h7.bel
  replace G1 := Lib.hid (by have h := G1.out; rw [show ((0 : Nat) : Int) = 0 from rfl] at h; exact h)
  replace G2 := Lib.hid (by have h := G2.out; rw [show ((0 : Nat) : Int) = 0 from rfl] at h; exact h)
  replace G3 := Lib.hid (by have h := G3.out; rw [show ((0 : Nat) : Int) = 0 from rfl] at h; exact h)
  clear h7 k7 HU5 H6 e30 e31 ha
  obtain ⟨g, gc, rfl⟩ : ∃ g gc, u = .slice (some ⟨g, 0, none⟩) 1 gc := by
    rcases HU7.out.2 with ⟨_, h0⟩ | ⟨g, cap, cur, e1, _⟩
    · cases h0
    · exact ⟨g, cap, e1⟩
  have z1 : w7.cell? ⟨g, 1, none⟩ = some (.int .u64 7) := HU7.out.cells (g := g) rfl 1 _ rfl
  have z2 : w7.cell? ⟨g, 2, none⟩ = some (.int .i64 0) := HU7.out.cells (g := g) rfl 2 _ rfl
  have z3 : w7.cell? ⟨g, 3, none⟩ = some (.int .u64 7) := HU7.out.cells (g := g) rfl 3 _ rfl
  have z4 : w7.cell? ⟨g, 4, none⟩ = some (.int .i64 0) := HU7.out.cells (g := g) rfl 4 _ rfl
  have E1 := fun U => eql_V 7 0 7 0 7 0 7 0 U
  have E2 := fun U => equalIn_V 7 0 7 0 7 0 7 0 U
  rw [show eqV 7 0 7 0 7 0 7 0 = true from by decide] at E1 E2
  have E3 := guard_V
  go_wp2_with (first
    | (go_at_call 19; (with_reducible refine G1.out.mono ?_); rintro e w8 ⟨rfl, rfl⟩)
    | (go_at_call 18; (with_reducible refine G2.out.mono ?_); rintro e w8 ⟨rfl, rfl⟩)
    | (go_at_call 17; (with_reducible refine G3.out.mono ?_); rintro e w8 ⟨rfl, rfl⟩)
    | (go_at_call 21; (with_reducible refine G4.out.mono ?_); rintro e w8 ⟨rfl, rfl⟩))
  go_ret
  exact ⟨by simp, HB.out⟩

end Go.Proofs.Ytdjeifbbbpbhoaa
