/-
  The program's table in a law: its state; live. Contracts over the translated program.
-/
import Derived.Test.YtodddahjibccoaaFdI
namespace Go.Proofs.Ytodddahjibccoaa
open Go Go.Maps Go.WideMaps
open Go.RowKit
set_option linter.unusedVariables false
set_option linter.unusedSimpArgs false

/-- A TABLE OF A LAW, in a world made since w0. -/
structure FSt (w0 W : World) (p mb : Nat) (room age : Int) (R : List E4) : Prop where
  has : HasF W p mb room age (mF R)
  bel : Below w0.heap.size w0 W
  np : w0.heap.size ≤ p
  nm : w0.heap.size ≤ mb
  good : GoodF R
  len : (R.length : Int) ≤ room
  r1 : 1 ≤ room
  r2 : room ≤ 1024
  a1 : 1 ≤ age
  a2 : age ≤ 1000000

variable {w0 W W' : World} {p mb : Nat} {room age : Int} {R : List E4}
theorem FSt.below (h : FSt w0 W p mb room age R) (k : Below W.heap.size W W') : FSt w0 W' p mb room age R :=
  ⟨h.has.below k, h.bel.trans (k.mono h.bel.size), h.np, h.nm, h.good, h.len, h.r1, h.r2, h.a1, h.a2⟩
theorem FSt.drewN (h : FSt w0 W p mb room age R) (n : Nat) : FSt w0 (W.drewN n) p mb room age R := ⟨h.has, below_drewN h.bel n, h.np, h.nm, h.good, h.len, h.r1, h.r2, h.a1, h.a2⟩
theorem FSt.tw (h : FSt w0 W p mb room age R) {R' : List E4} (hs : HasF W' p mb room age (mF R')) (k : Tw W W' p mb) (hg : GoodF R') (hl : (R'.length : Int) ≤ room) : FSt w0 W' p mb room age R' :=
  ⟨hs, h.bel.trans (k.below h.np h.nm h.bel.size), h.np, h.nm, hg, hl, h.r1, h.r2, h.a1, h.a2⟩
theorem FSt.l (h : FSt w0 W p mb room age R) : R.length ≤ 1000000 := by have := h.len; have := h.r2; omega

theorem lrn_s (h : FSt w0 W p mb room age R) (v : Int) (m : ByteArray) (q now : Int) :
    Calls Try.prog 14 #[.pointer (some ⟨p, 0, none⟩), .int .i64 v, .string m, .int .i64 q, .int .i64 now] W fun e w' => e = .returned (.bool (mayL v m q && timeB now)) ∧ FSt w0 w' p mb room age (lrnF room R v m q now) ∧ Tw W w' p mb := by
  cases hm : mayL v m q with
  | false =>
    refine (learn_no h.has h.r1 v m q now (Or.inl hm)).mono ?_
    rintro e w' ⟨rfl, rfl⟩
    rw [lrn_no (Or.inl hm)]
    exact ⟨rfl, h, Tw.refl _ _ _⟩
  | true =>
    cases ht : timeB now with
    | false =>
      refine (learn_no h.has h.r1 v m q now (Or.inr ht)).mono ?_
      rintro e w' ⟨rfl, rfl⟩
      rw [lrn_no (Or.inr ht)]
      exact ⟨rfl, h, Tw.refl _ _ _⟩
    | true =>
      refine (learn_ok h.has h.good h.r1 h.r2 h.len v m q now hm ht).mono ?_
      rintro e w' ⟨rfl, h1, h2⟩
      exact ⟨rfl, h.tw h1 h2 (lrn_good h.good v m q now) (lrn_len h.r1 h.len v m q now), h2⟩
theorem look_s (h : FSt w0 W p mb room age R) (v : Int) (m : ByteArray) (now : Int) (hk : WfK v m) :
    Calls Try.prog 13 #[.pointer (some ⟨p, 0, none⟩), .int .i64 v, .string m, .int .i64 now] W fun e w' => e = .returned (.tuple #[.int .i64 (lookF R age v m now).1, .bool (lookF R age v m now).2]) ∧ FSt w0 w' p mb room age R ∧ Below W.heap.size W w' := by
  refine (look_c h.has h.good (by have := h.a1; omega) h.a2 v m now hk).mono ?_
  rintro e w' ⟨rfl, k⟩
  exact ⟨rfl, h.below k, k⟩
theorem exp_good (hg : GoodF R) (age now : Int) : GoodF (expF R age now) := by
  unfold expF
  split
  · exact hg.sub List.filter_sublist
  · exact hg
theorem exp_len (R : List E4) (age now : Int) : (expF R age now).length ≤ R.length := by
  unfold expF
  split
  · exact List.length_filter_le _ _
  · exact Nat.le_refl _
theorem exp_s (h : FSt w0 W p mb room age R) (now : Int) :
    Calls Try.prog 15 #[.pointer (some ⟨p, 0, none⟩), .int .i64 now] W fun e w' => e = .returned (.int .i64 ((R.length - (expF R age now).length : Nat))) ∧ FSt w0 w' p mb room age (expF R age now) ∧ Tw W w' p mb := by
  refine (expire_c h.has h.good h.l (by have := h.a1; omega) h.a2 now).mono ?_
  rintro e w' ⟨rfl, h1, h2⟩
  exact ⟨rfl, h.tw h1 h2 (exp_good h.good age now) (by have := exp_len R age now; have := h.len; omega), h2⟩
theorem flu_s (h : FSt w0 W p mb room age R) (port : Int) :
    Calls Try.prog 16 #[.pointer (some ⟨p, 0, none⟩), .int .i64 port] W fun e w' => e = .returned (.int .i64 ((R.length - (fluF R port).length : Nat))) ∧ FSt w0 w' p mb room age (fluF R port) ∧ Tw W w' p mb := by
  refine (flush_c h.has h.good h.l port).mono ?_
  rintro e w' ⟨rfl, h1, h2⟩
  exact ⟨rfl, h.tw h1 h2 (h.good.sub List.filter_sublist) (by have : (fluF R port).length ≤ R.length := List.length_filter_le _ _; have := h.len; omega), h2⟩
theorem ent_s (h : FSt w0 W p mb room age R) :
    Calls Try.prog 11 #[.pointer (some ⟨p, 0, none⟩)] W fun e w' => ∃ v, e = .returned v ∧ EntF w' W.heap.size v R ∧ Below W.heap.size W w' := entries_c h.has h.good h.l
theorem new_s (hr1 : 1 ≤ room) (hr2 : room ≤ 1024) (ha1 : 1 ≤ age) (ha2 : age ≤ 1000000) (k : Below w0.heap.size w0 W) : Calls Try.prog 8 #[.int .i64 room, .int .i64 age] W fun e w' => e = .returned (.tuple #[.pointer (some ⟨W.heap.size + 1, 0, none⟩), .int .i64 0]) ∧ FSt w0 w' (W.heap.size + 1) W.heap.size room age [] := by
  refine (new_ok room age hr1 hr2 ha1 ha2 W).mono ?_
  rintro e w' ⟨rfl, h1, h2⟩
  exact ⟨rfl, h1, k.trans (h2.mono k.size), by have := k.size; omega, k.size, good_nil, by simp; omega, hr1, hr2, ha1, ha2⟩
/-- A box stands, whatever the table does. -/
theorem box_tw {b : Nat} {xs : Array Value} (hx : W.heap[b]? = some (.cells xs 35 (0, 0))) (h : FSt w0 W p mb room age R) (k : Tw W W' p mb) : W'.heap[b]? = some (.cells xs 35 (0, 0)) := by
  refine (k.block b (lt_of_block hx) ?_ ?_).trans hx
  · rintro rfl
    have e := h.has.1.symm.trans hx
    simp at e
  · rintro rfl
    obtain ⟨_, l, _, es, clock, h2, _⟩ := h.has
    have e := h2.symm.trans hx
    simp at e
theorem EntF.len {w : World} {b : Nat} {v : Value} (h : EntF w b v R) : ∃ q cap, v = .slice q R.length cap := by
  rcases h with ⟨rfl, rfl⟩ | ⟨g, cap, rfl, _⟩
  · exact ⟨none, 0, rfl⟩
  · exact ⟨_, cap, rfl⟩

set_option maxHeartbeats 8000000 in
set_option maxRecDepth 100000 in
theorem live13_c (w : World) : Calls Try.prog 9 #[] w fun e w' => e = .returned (.bool true) ∧ Below w.heap.size w w' := by
  have N1 := Lib.hid (new_s (w0 := w) (W := w) (room := 1) (age := 10) (by decide) (by decide) (by decide) (by decide) (Below.refl _ _))
  have N2 := Lib.hid fun U => new_no 0 10 (by decide) U
  have wa : WfK 1 ⟨#[2, 97, 97, 97, 97, 97]⟩ := ⟨by decide, by decide⟩
  have wb : WfK 1 ⟨#[2, 98, 98, 98, 98, 98]⟩ := ⟨by decide, by decide⟩
  go_enter Try.func9, Try.ntmps9
  go_wp2_with fail
  ((with_reducible refine N1.out.mono ?_); rintro e w1 ⟨rfl, s1⟩)
  have S1 := Lib.hid s1
  clear s1 N1
  generalize w.heap.size + 1 = p at S1 ⊢
  go_wp2_with fail
  ((with_reducible refine (N2.out _).mono ?_); rintro e w2 ⟨rfl, rfl⟩)
  have L1 := Lib.hid (lrn_s S1.out 1 ⟨#[2, 97, 97, 97, 97, 97]⟩ 0 5)
  rw [show lrnF 1 [] 1 ⟨#[2, 97, 97, 97, 97, 97]⟩ 0 5 = [(1, ⟨#[2, 97, 97, 97, 97, 97]⟩, 0, 5)] from by kernel_rfl, show (mayL 1 ⟨#[2, 97, 97, 97, 97, 97]⟩ 0 && timeB 5) = true from by kernel_rfl] at L1
  go_wp2_with fail
  ((with_reducible refine L1.out.mono ?_); rintro e w3 ⟨rfl, s3, -⟩)
  have S3 := Lib.hid s3
  clear s3 L1 S1
  have L2 := Lib.hid (lrn_s S3.out 1 ⟨#[2, 98, 98, 98, 98, 98]⟩ 1 6)
  rw [show lrnF 1 [(1, ⟨#[2, 97, 97, 97, 97, 97]⟩, 0, 5)] 1 ⟨#[2, 98, 98, 98, 98, 98]⟩ 1 6 = [(1, ⟨#[2, 98, 98, 98, 98, 98]⟩, 1, 6)] from by kernel_rfl, show (mayL 1 ⟨#[2, 98, 98, 98, 98, 98]⟩ 1 && timeB 6) = true from by kernel_rfl] at L2
  go_wp2_with fail
  ((with_reducible refine L2.out.mono ?_); rintro e w4 ⟨rfl, s4, -⟩)
  have S4 := Lib.hid s4
  clear s4 L2 S3
  have K1 := Lib.hid (look_s S4.out 1 ⟨#[2, 97, 97, 97, 97, 97]⟩ 7 wa)
  rw [show lookF [(1, ⟨#[2, 98, 98, 98, 98, 98]⟩, 1, 6)] 10 1 ⟨#[2, 97, 97, 97, 97, 97]⟩ 7 = (0, false) from by kernel_rfl] at K1
  go_wp2_with fail
  ((with_reducible refine K1.out.mono ?_); rintro e w5 ⟨rfl, s5, -⟩)
  have S5 := Lib.hid s5
  clear s5 K1 S4
  have K2 := Lib.hid (look_s S5.out 1 ⟨#[2, 98, 98, 98, 98, 98]⟩ 7 wb)
  rw [show lookF [(1, ⟨#[2, 98, 98, 98, 98, 98]⟩, 1, 6)] 10 1 ⟨#[2, 98, 98, 98, 98, 98]⟩ 7 = (1, true) from by kernel_rfl] at K2
  go_wp2_with fail
  ((with_reducible refine K2.out.mono ?_); rintro e w6 ⟨rfl, s6, -⟩)
  have S6 := Lib.hid s6
  clear s6 K2 S5
  have K3 := Lib.hid (look_s S6.out 1 ⟨#[2, 98, 98, 98, 98, 98]⟩ 16 wb)
  rw [show lookF [(1, ⟨#[2, 98, 98, 98, 98, 98]⟩, 1, 6)] 10 1 ⟨#[2, 98, 98, 98, 98, 98]⟩ 16 = (0, false) from by kernel_rfl] at K3
  go_wp2_with fail
  ((with_reducible refine K3.out.mono ?_); rintro e w7 ⟨rfl, s7, -⟩)
  have S7 := Lib.hid s7
  clear s7 K3 S6
  have K4 := Lib.hid (exp_s S7.out 16)
  rw [show expF [(1, ⟨#[2, 98, 98, 98, 98, 98]⟩, 1, 6)] 10 16 = [] from by kernel_rfl] at K4
  go_wp2_with fail
  ((with_reducible refine K4.out.mono ?_); rintro e w8 ⟨rfl, s8, -⟩)
  have S8 := Lib.hid s8
  clear s8 K4 S7
  go_wp2_with fail
  go_ret
  exact ⟨rfl, S8.out.bel⟩

end Go.Proofs.Ytodddahjibccoaa
