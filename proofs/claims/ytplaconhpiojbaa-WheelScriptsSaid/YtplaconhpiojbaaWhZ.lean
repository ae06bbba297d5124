/-
  One call on both wheels: siphonlaw10.step.
-/
import Derived.Test.YtplaconhpiojbaaWhY
import Derived.Deep.RegionHeld3
namespace Go.Proofs.Ytplaconhpiojbaa
open Go Go.Maps Go.WideMaps
open Go.RowKit
set_option linter.unusedVariables false
set_option linter.unusedSimpArgs false

/-- BOTH WHEELS. -/
structure Two (w0 W : World) (p mb : Nat) (room armed : Int) (q : Nat) (T : List E3) (lv : Value) : Prop where
  hs : HasS W p mb room armed (mOf T)
  hr : HasR W w0.heap.size q room T lv
  bel : Below w0.heap.size w0 W
  np : w0.heap.size ≤ p
  nm : w0.heap.size ≤ mb
  nq : w0.heap.size ≤ q

theorem Two.mid {w0 W : World} {p mb : Nat} {room armed : Int} {q : Nat} {T : List E3} {lv : Value} (h : Two w0 W p mb room armed q T lv) (xs : Array Value) : Mid w0 (W.alloc (.cells xs 34)) p mb room armed (mOf T) q T lv W.heap.size xs :=
  have k : Below W.heap.size W (W.alloc (.cells xs 34)) := (Below.refl _ W).alloc (Nat.le_refl _) _
  ⟨h.hs.below k, h.hr.below k, heap_new _ _, h.bel.trans (k.mono h.bel.size), h.np, h.nm, h.nq⟩
theorem Mid.two {w0 W : World} {p mb : Nat} {room armed : Int} {q : Nat} {T : List E3} {lv : Value} {b0 : Nat} {xs : Array Value} (h : Mid w0 W p mb room armed (mOf T) q T lv b0 xs) : Two w0 W p mb room armed q T lv :=
  ⟨h.hs, h.hr, h.bel, h.np, h.nm, h.nq⟩
theorem Two.below {w0 W W' : World} {p mb : Nat} {room armed : Int} {q : Nat} {T : List E3} {lv : Value} (h : Two w0 W p mb room armed q T lv) (k : Below W.heap.size W W') : Two w0 W' p mb room armed q T lv :=
  ⟨h.hs.below k, h.hr.below k, h.bel.trans (k.mono h.bel.size), h.np, h.nm, h.nq⟩

/-- WHAT A STEP LEAVES. -/
def StepPost (w0 : World) (p : Nat) (room armed : Int) (q : Nat) (n : Nat) (e : Ending) (w' : World) : Prop :=
  ∃ mb' armed' T' lv', e = .returned (.bool true) ∧ Hid (Two w0 w' p mb' room armed' q T' lv') ∧ Hid (GoodE T' armed' ∧ 0 ≤ armed' ∧ armed' ≤ armed + 1 ∧ T'.length ≤ n + 1)

set_option maxHeartbeats 8000000 in
set_option maxRecDepth 100000 in
theorem step_0 {w0 W : World} {p mb : Nat} {room armed : Int} {q : Nat} {T : List E3} {lv : Value} (h : Two w0 W p mb room armed q T lv) (hg : GoodE T armed) (ha : 0 ≤ armed) (hb : armed < 1000) (hl : T.length < 1000) (s : ByteArray) (hs : s.size ≤ maxLen) (t : Int) :
    Calls Try.prog 11 #[.pointer (some ⟨p, 0, none⟩), .pointer (some ⟨q, 0, none⟩), .agg #[.int .i64 0, .string s, .int .i64 t]] W (StepPost w0 p room armed q T.length) := by
  have K := Lib.hid (h.mid #[.int .i64 0, .string s, .int .i64 t])
  have HG := Lib.hid hg
  have HL := Lib.hid (show T.length < 1000000000 by omega)
  have A1 := Lib.hid (armS_u K.out.drew.hs s hs t ha (by omega) (by omega))
  have G' := Lib.hid (arm_good (room := room) hg s t)
  have B' := Lib.hid (arm_a room armed T s t)
  have C' := Lib.hid (arm_len room armed T s t)
  have HA := Lib.hid ha
  have KF := Lib.hid fun (U : World) (L : List T3) (ar : Int) (T' : List E3) (lv' : Value) (k : Mid w0 U p mb room ar L q T' lv' W.heap.size #[.int .i64 0, .string s, .int .i64 t]) => (⟨k.cell 1 rfl, k.cell 2 rfl⟩ : U.cell? ⟨W.heap.size, 1, none⟩ = some (.string s) ∧ U.cell? ⟨W.heap.size, 2, none⟩ = some (.int .i64 t))
  have R2 := Lib.hid fun (U : World) (k : Mid w0 U p mb room (armA room armed T s t) (mOf (armT room armed T s t)) q T lv W.heap.size #[.int .i64 0, .string s, .int .i64 t]) => rarm_u (room := room) (armed := armed) k.hr s HL.out HG.out t k.bel.size
  clear h hg ha hb hl hs
  go_enter Try.func11, Try.ntmps11
  go_upto_region 3 with fail
  have k0 := K.out
  have k0d := K.out.drew
  clear K
  generalize W.alloc (.cells #[.int .i64 0, .string s, .int .i64 t] 34) = W1 at k0 k0d A1 ⊢
  obtain ⟨f1, f2⟩ := KF.out _ _ _ _ _ k0
  go_region_held3 (fun U => U.cell? ⟨W.heap.size, 1, none⟩ = some (.string s) ∧ U.cell? ⟨W.heap.size, 2, none⟩ = some (.int .i64 t))
    (first
      | with_reducible exact KF.out _ _ _ _ _ k4
      | with_reducible exact KF.out _ _ _ _ _ k3
      | with_reducible exact KF.out _ _ _ _ _ k0
      | with_reducible exact KF.out _ _ _ _ _ k0d)
    (first
      | (go_at_call 15; (with_reducible refine A1.out.mono ?_); rintro e u3 ⟨rfl, h3, t3⟩; have k3 := k0d.tw h3 t3 (Or.inl rfl); have A2 := Lib.hid (R2.out _ k3); clear h3 t3)
      | (go_at_call 26; (with_reducible refine A2.out.mono ?_); rintro e u4 ⟨rfl, lv4, h4, t4⟩; have k4 := k3.tq h4 t4; clear h4 t4))
  all_goals
    clear f1 f2
    go_wp2_with fail
    go_ret
    exact ⟨mb, _, _, lv4, rfl, Lib.hid k4.two, Lib.hid ⟨G'.out, by have := HA.out; have := B'.out.1; omega, B'.out.2, C'.out⟩⟩

set_option maxHeartbeats 8000000 in
set_option maxRecDepth 100000 in
theorem step_1 {w0 W : World} {p mb : Nat} {room armed : Int} {q : Nat} {T : List E3} {lv : Value} (h : Two w0 W p mb room armed q T lv) (hg : GoodE T armed) (ha : 0 ≤ armed) (hb : armed < 1000) (hl : T.length < 1000) (s : ByteArray) (hs : s.size ≤ maxLen) (t : Int) :
    Calls Try.prog 11 #[.pointer (some ⟨p, 0, none⟩), .pointer (some ⟨q, 0, none⟩), .agg #[.int .i64 1, .string s, .int .i64 t]] W (StepPost w0 p room armed q T.length) := by
  have K := Lib.hid (h.mid #[.int .i64 1, .string s, .int .i64 t])
  have HG := Lib.hid hg
  have HL := Lib.hid (show T.length < 1000000000 by omega)
  have HA := Lib.hid ha
  have KF := Lib.hid fun (U : World) (L : List T3) (mb' : Nat) (T' : List E3) (lv' : Value) (k : Mid w0 U p mb' room armed L q T' lv' W.heap.size #[.int .i64 1, .string s, .int .i64 t]) => (⟨k.cell 1 rfl, k.cell 2 rfl⟩ : U.cell? ⟨W.heap.size, 1, none⟩ = some (.string s) ∧ U.cell? ⟨W.heap.size, 2, none⟩ = some (.int .i64 t))
  have A1 := Lib.hid (cancelS_u K.out.drew.hs s hs)
  have C' := Lib.hid (show (delE T s).length ≤ T.length from List.length_filter_le _ _)
  have G' := Lib.hid (hg.del s)
  have R2 := Lib.hid fun (U : World) (k : Mid w0 U p mb room armed (mOf (delE T s)) q T lv W.heap.size #[.int .i64 1, .string s, .int .i64 t]) => rcancel_c (room := room) k.hr s HL.out HG.out
  clear h hg ha hb hl hs
  go_enter Try.func11, Try.ntmps11
  go_upto_region 5 with fail
  have k0 := K.out
  have k0d := K.out.drew
  clear K
  generalize W.alloc (.cells #[.int .i64 1, .string s, .int .i64 t] 34) = W1 at k0 k0d A1 ⊢
  obtain ⟨f1, f2⟩ := KF.out _ _ _ _ _ k0
  go_region_held3 (fun U => U.cell? ⟨W.heap.size, 1, none⟩ = some (.string s) ∧ U.cell? ⟨W.heap.size, 2, none⟩ = some (.int .i64 t))
    (first
      | with_reducible exact KF.out _ _ _ _ _ k4
      | with_reducible exact KF.out _ _ _ _ _ k3
      | with_reducible exact KF.out _ _ _ _ _ k0
      | with_reducible exact KF.out _ _ _ _ _ k0d)
    (first
      | (go_at_call 16; (with_reducible refine A1.out.mono ?_); rintro e u3 ⟨rfl, h3, t3⟩; have k3 := k0d.tw h3 t3 (Or.inl rfl); have A2 := Lib.hid (R2.out _ k3); clear h3 t3)
      | (go_at_call 27; (with_reducible refine A2.out.mono ?_); rintro e u4 ⟨rfl, lv4, h4, t4⟩; have k4 := k3.tq h4 t4; clear h4 t4))
  all_goals
    clear f1 f2
    go_wp2_with fail
    go_ret
    exact ⟨mb, _, _, lv4, rfl, Lib.hid k4.two, Lib.hid ⟨G'.out, HA.out, by omega, by have := C'.out; omega⟩⟩

set_option maxHeartbeats 8000000 in
set_option maxRecDepth 100000 in
theorem step_2 {w0 W : World} {p mb : Nat} {room armed : Int} {q : Nat} {T : List E3} {lv : Value} (h : Two w0 W p mb room armed q T lv) (hg : GoodE T armed) (ha : 0 ≤ armed) (hb : armed < 1000) (hl : T.length < 1000) (s : ByteArray) (hs : s.size ≤ maxLen) (t : Int) :
    Calls Try.prog 11 #[.pointer (some ⟨p, 0, none⟩), .pointer (some ⟨q, 0, none⟩), .agg #[.int .i64 2, .string s, .int .i64 t]] W (StepPost w0 p room armed q T.length) := by
  have K := Lib.hid (h.mid #[.int .i64 2, .string s, .int .i64 t])
  have HG := Lib.hid hg
  have HL := Lib.hid (show T.length < 1000000000 by omega)
  have HA := Lib.hid ha
  have KF := Lib.hid fun (U : World) (L : List T3) (mb' : Nat) (T' : List E3) (lv' : Value) (k : Mid w0 U p mb' room armed L q T' lv' W.heap.size #[.int .i64 2, .string s, .int .i64 t]) => (⟨k.cell 1 rfl, k.cell 2 rfl⟩ : U.cell? ⟨W.heap.size, 1, none⟩ = some (.string s) ∧ U.cell? ⟨W.heap.size, 2, none⟩ = some (.int .i64 t))
  have A1 := Lib.hid (atS_u K.out.hs s hs)
  clear h hg ha hb hl hs
  go_enter Try.func11, Try.ntmps11
  go_upto_region 7 with fail
  have k0 := K.out
  have k0d := K.out.drew
  clear K
  generalize W.alloc (.cells #[.int .i64 2, .string s, .int .i64 t] 34) = W1 at k0 k0d A1 ⊢
  obtain ⟨f1, f2⟩ := KF.out _ _ _ _ _ k0
  go_upto_region 8 with (go_at_call 13; refine A1.out.mono ?_; rintro e u3 ⟨rfl, h3⟩)
  have k3 := k0.below h3
  have A2 := Lib.hid (rat_c k3.hr s HL.out)
  clear f1 f2 h3
  obtain ⟨f1, f2⟩ := KF.out _ _ _ _ _ k3
  go_wp2_with (go_at_call 28; refine A2.out.mono ?_; rintro e u4 ⟨rfl, rfl⟩)
  go_ret
  exact ⟨mb, armed, T, lv, rfl, Lib.hid k3.two, Lib.hid ⟨HG.out, HA.out, by omega, by omega⟩⟩

set_option maxHeartbeats 8000000 in
set_option maxRecDepth 100000 in
theorem step_3 {w0 W : World} {p mb : Nat} {room armed : Int} {q : Nat} {T : List E3} {lv : Value} (h : Two w0 W p mb room armed q T lv) (hg : GoodE T armed) (ha : 0 ≤ armed) (hb : armed < 1000) (hl : T.length < 1000) (s : ByteArray) (hs : s.size ≤ maxLen) (t : Int) :
    Calls Try.prog 11 #[.pointer (some ⟨p, 0, none⟩), .pointer (some ⟨q, 0, none⟩), .agg #[.int .i64 3, .string s, .int .i64 t]] W (StepPost w0 p room armed q T.length) := by
  have K := Lib.hid (h.mid #[.int .i64 3, .string s, .int .i64 t])
  have HG := Lib.hid hg
  have HL := Lib.hid (show T.length < 1000000000 by omega)
  have HA := Lib.hid ha
  have KF := Lib.hid fun (U : World) (L : List T3) (mb' : Nat) (T' : List E3) (lv' : Value) (k : Mid w0 U p mb' room armed L q T' lv' W.heap.size #[.int .i64 3, .string s, .int .i64 t]) => (⟨k.cell 1 rfl, k.cell 2 rfl⟩ : U.cell? ⟨W.heap.size, 1, none⟩ = some (.string s) ∧ U.cell? ⟨W.heap.size, 2, none⟩ = some (.int .i64 t))
  have A1 := Lib.hid (nextS_c K.out.hs)
  clear h hg ha hb hl hs
  go_enter Try.func11, Try.ntmps11
  go_upto_region 11 with fail
  have k0 := K.out
  have k0d := K.out.drew
  clear K
  generalize W.alloc (.cells #[.int .i64 3, .string s, .int .i64 t] 34) = W1 at k0 k0d A1 ⊢
  go_upto_region 12 with (go_at_call 14; refine A1.out.mono ?_; rintro e u3 ⟨f, hb, rfl, hB, h3⟩)
  have k3 := k0.below h3
  have HB := Lib.hid hB
  have A2 := Lib.hid (rnext_c k3.hr HL.out)
  clear h3 hB
  go_upto_region 13 with (go_at_call 29; refine A2.out.mono ?_; rintro e u4 ⟨f', hb', n, rfl, hB', rfl⟩)
  obtain ⟨rfl, rfl⟩ := best_one HB.out hB'.out
  have k4 := k3.drewN n
  clear hB' HB A2 A1
  go_wp2_with fail
  go_ret
  exact ⟨mb, armed, T, lv, rfl, Lib.hid k4.two, Lib.hid ⟨HG.out, HA.out, by omega, by omega⟩⟩

set_option maxHeartbeats 8000000 in
set_option maxRecDepth 100000 in
theorem step_4 {w0 W : World} {p mb : Nat} {room armed : Int} {q : Nat} {T : List E3} {lv : Value} (h : Two w0 W p mb room armed q T lv) (hg : GoodE T armed) (ha : 0 ≤ armed) (hb : armed < 1000) (hl : T.length < 1000) (s : ByteArray) (hs : s.size ≤ maxLen) (t : Int) :
    Calls Try.prog 11 #[.pointer (some ⟨p, 0, none⟩), .pointer (some ⟨q, 0, none⟩), .agg #[.int .i64 4, .string s, .int .i64 t]] W (StepPost w0 p room armed q T.length) := by
  have K := Lib.hid (h.mid #[.int .i64 4, .string s, .int .i64 t])
  have HG := Lib.hid hg
  have HL := Lib.hid (show T.length < 1000000000 by omega)
  have HA := Lib.hid ha
  have KF := Lib.hid fun (U : World) (L : List T3) (mb' : Nat) (T' : List E3) (lv' : Value) (k : Mid w0 U p mb' room armed L q T' lv' W.heap.size #[.int .i64 4, .string s, .int .i64 t]) => (⟨k.cell 1 rfl, k.cell 2 rfl⟩ : U.cell? ⟨W.heap.size, 1, none⟩ = some (.string s) ∧ U.cell? ⟨W.heap.size, 2, none⟩ = some (.int .i64 t))
  have A1 := Lib.hid (dueS_u K.out.hs t HL.out)
  clear h hg ha hb hl hs
  go_enter Try.func11, Try.ntmps11
  go_upto_region 15 with fail
  have k0 := K.out
  have k0d := K.out.drew
  clear K
  generalize W.alloc (.cells #[.int .i64 4, .string s, .int .i64 t] 34) = W1 at k0 k0d A1 ⊢
  obtain ⟨f1, f2⟩ := KF.out _ _ _ _ _ k0
  go_upto_region 16 with (go_at_call 17; refine A1.out.mono ?_; rintro e u3 ⟨v, D, mb', rfl, hp, hso, ho, hh, ht, hm⟩)
  have k3 := k0.tw hh ht hm
  have HO := Lib.hid ho
  have HQ := Lib.hid (show q < W1.heap.size from k0.hr.lt)
  have HDl := Lib.hid (show D.length < 1000000000 by have := hp.length_eq; have := List.length_filter_le (fun x : E3 => decide (x.2.1 ≤ t)) T; have := HL.out; unfold dueE at *; omega)
  have A2 := Lib.hid (rdue_c k3.hr t HL.out HG.out hp hso)
  clear hp hso ho hh ht hm f1 f2 A1
  obtain ⟨f1, f2⟩ := KF.out _ _ _ _ _ k3
  have SM := Lib.hid fun (U : World) (v' : Value) (h1 : U.ownsRow W1.heap.size 9 1 v D.length (D.map (fun x => Value.string x.1))) (h2 : U.ownsRow u3.heap.size 9 1 v' D.length (D.map (fun x => Value.string x.1))) =>
    same_c v v' (D.map (fun x => x.1)) U (by rw [List.length_map]; have := HDl.out; omega) (strAt_own (l := D.map (fun x => x.1)) (by rw [List.map_map]; exact h1) (by rw [List.length_map])) (strAt_own (l := D.map (fun x => x.1)) (by rw [List.map_map]; exact h2) (by rw [List.length_map]))
  have tok : True := trivial
  go_wp2_with (first
    | (go_at_call 30; refine A2.out.mono ?_; rintro e u4 ⟨v', lv4, rfl, ho', h4, t4⟩; have k4 := k3.tq h4 t4; have O4 := Lib.hid (t4.row HO.out (by decide) (fun g e => by have := (HO.out.lt g e).1; have := HQ.out; omega)); have S4 := Lib.hid (SM.out _ _ O4.out ho'); clear ho' h4 t4 f1 f2)
    | (go_at_call 25; refine S4.out.mono ?_; rintro e u5 ⟨rfl, n, rfl⟩))
  go_ret
  exact ⟨mb', armed, _, lv4, rfl, Lib.hid (k4.drewN n).two, Lib.hid ⟨HG.out.lat t, HA.out, by omega, by have : (latE t T).length ≤ T.length := List.length_filter_le _ _; omega⟩⟩

set_option maxHeartbeats 8000000 in
set_option maxRecDepth 100000 in
theorem step_5 {w0 W : World} {p mb : Nat} {room armed : Int} {q : Nat} {T : List E3} {lv : Value} (h : Two w0 W p mb room armed q T lv) (hg : GoodE T armed) (ha : 0 ≤ armed) (hb : armed < 1000) (hl : T.length < 1000) (s : ByteArray) (hs : s.size ≤ maxLen) (t : Int) (d : Int) (hd : (d == 0) = false ∧ (d == 1) = false ∧ (d == 2) = false ∧ (d == 3) = false ∧ (d == 4) = false) :
    Calls Try.prog 11 #[.pointer (some ⟨p, 0, none⟩), .pointer (some ⟨q, 0, none⟩), .agg #[.int .i64 d, .string s, .int .i64 t]] W (StepPost w0 p room armed q T.length) := by
  have K := Lib.hid (h.mid #[.int .i64 d, .string s, .int .i64 t])
  have HG := Lib.hid hg
  have HL := Lib.hid (show T.length < 1000000000 by omega)
  have HA := Lib.hid ha
  have KF := Lib.hid fun (U : World) (L : List T3) (mb' : Nat) (T' : List E3) (lv' : Value) (k : Mid w0 U p mb' room armed L q T' lv' W.heap.size #[.int .i64 d, .string s, .int .i64 t]) => (⟨k.cell 1 rfl, k.cell 2 rfl⟩ : U.cell? ⟨W.heap.size, 1, none⟩ = some (.string s) ∧ U.cell? ⟨W.heap.size, 2, none⟩ = some (.int .i64 t))
  have L1 := Lib.hid fun (n : Nat) => lenS_c (K.out.drewN n).hs
  obtain ⟨d0, d1, d2, d3, d4⟩ := hd
  have hln := len_m T
  rw [hln] at L1
  clear hln
  obtain ⟨p2, off2, cap2, e2, -⟩ := K.out.hr.rows
  clear h hg ha hb hl hs
  go_enter Try.func11, Try.ntmps11
  go_upto_region 17 with fail
  have k0 := K.out
  have k0d := K.out.drew
  clear K
  generalize W.alloc (.cells #[.int .i64 d, .string s, .int .i64 t] 34) = W1 at k0 k0d L1 ⊢
  have c1 := k0.hr.c1
  rw [e2] at c1
  go_quiet ((go_at_call 12; exact Calls.quiet_of_same (L1.out _)))
  clear c1
  go_wp2_with fail
  go_ret
  exact ⟨mb, armed, T, lv, rfl, Lib.hid (k0.drewN _).two, Lib.hid ⟨HG.out, HA.out, by omega, by omega⟩⟩

theorem step_c {w0 W : World} {p mb : Nat} {room armed : Int} {q : Nat} {T : List E3} {lv : Value} (h : Two w0 W p mb room armed q T lv) (hg : GoodE T armed) (ha : 0 ≤ armed) (hb : armed < 1000) (hl : T.length < 1000) (s : ByteArray) (hs : s.size ≤ maxLen) (t d : Int) :
    Calls Try.prog 11 #[.pointer (some ⟨p, 0, none⟩), .pointer (some ⟨q, 0, none⟩), .agg #[.int .i64 d, .string s, .int .i64 t]] W (StepPost w0 p room armed q T.length) := by
  by_cases d0 : d = 0
  · subst d0; exact step_0 h hg ha hb hl s hs t
  by_cases d1 : d = 1
  · subst d1; exact step_1 h hg ha hb hl s hs t
  by_cases d2 : d = 2
  · subst d2; exact step_2 h hg ha hb hl s hs t
  by_cases d3 : d = 3
  · subst d3; exact step_3 h hg ha hb hl s hs t
  by_cases d4 : d = 4
  · subst d4; exact step_4 h hg ha hb hl s hs t
  exact step_5 h hg ha hb hl s hs t d ⟨by simpa using d0, by simpa using d1, by simpa using d2, by simpa using d3, by simpa using d4⟩

end Go.Proofs.Ytplaconhpiojbaa
