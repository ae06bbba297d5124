/-
  Both tables side by side; one call on both: siphonlaw13.step.
-/
import Derived.Test.YtodddahjibccoaaFdV
import Derived.Test.YtodddahjibccoaaFdW
import Derived.Deep.RegionHeld3
namespace Go.Proofs.Ytodddahjibccoaa
open Go Go.Maps Go.WideMaps
open Go.RowKit
set_option linter.unusedVariables false
set_option linter.unusedSimpArgs false

/-- BOTH TABLES, and the box of the call. -/
structure Mid (w0 W : World) (p mb : Nat) (room age : Int) (R1 : List E4) (q : Nat) (R2 : List E4) (lv : Value) (b0 : Nat) (xs : Array Value) : Prop where
  fs : FSt w0 W p mb room age R1
  hr : HasR W w0.heap.size q room age R2 lv
  hx : W.heap[b0]? = some (.cells xs 35 (0, 0))
  nq : w0.heap.size ≤ q
/-- BOTH TABLES. -/
structure Two (w0 W : World) (p mb : Nat) (room age : Int) (q : Nat) (R : List E4) (lv : Value) : Prop where
  fs : FSt w0 W p mb room age R
  hr : HasR W w0.heap.size q room age R lv
  nq : w0.heap.size ≤ q

variable {w0 W W' : World} {p mb : Nat} {room age : Int} {R R1 R2 : List E4} {q : Nat} {lv : Value} {b0 : Nat} {xs : Array Value}
theorem Mid.tw (h : Mid w0 W p mb room age R1 q R2 lv b0 xs) {R1' : List E4} (hs : FSt w0 W' p mb room age R1') (k : Tw W W' p mb) : Mid w0 W' p mb room age R1' q R2 lv b0 xs := ⟨hs, h.hr.tw h.fs.has k, box_tw h.hx h.fs k, h.nq⟩
theorem Mid.tq (h : Mid w0 W p mb room age R1 q R2 lv b0 xs) {R2' : List E4} {lv' : Value} (hr : HasR W' w0.heap.size q room age R2' lv') (k : Tq W W' w0.heap.size q) : Mid w0 W' p mb room age R1 q R2' lv' b0 xs := ⟨h.fs.tq h.hr k (Nat.le_refl _) h.nq, hr, k.cells h.hr h.hx (by decide) (by decide), h.nq⟩
theorem Mid.below (h : Mid w0 W p mb room age R1 q R2 lv b0 xs) (k : Below W.heap.size W W') : Mid w0 W' p mb room age R1 q R2 lv b0 xs := ⟨h.fs.below k, h.hr.below k, below_block k (lt_of_block h.hx) h.hx, h.nq⟩
theorem Mid.drewN (h : Mid w0 W p mb room age R1 q R2 lv b0 xs) (n : Nat) : Mid w0 (W.drewN n) p mb room age R1 q R2 lv b0 xs := ⟨h.fs.drewN n, h.hr.drewN n, h.hx, h.nq⟩
theorem Mid.drew (h : Mid w0 W p mb room age R1 q R2 lv b0 xs) : Mid w0 W.drew p mb room age R1 q R2 lv b0 xs := ⟨⟨h.fs.has, h.fs.bel.drew, h.fs.np, h.fs.nm, h.fs.good, h.fs.len, h.fs.r1, h.fs.r2, h.fs.a1, h.fs.a2⟩, h.hr, h.hx, h.nq⟩
theorem Mid.cell (h : Mid w0 W p mb room age R1 q R2 lv b0 xs) (j : Nat) {v : Value} (hj : xs[j]? = some v) : W.cell? ⟨b0, j, none⟩ = some v := cell_of_block h.hx hj
theorem Two.mid (h : Two w0 W p mb room age q R lv) (xs : Array Value) : Mid w0 (W.alloc (.cells xs 35)) p mb room age R q R lv W.heap.size xs :=
  have k : Below W.heap.size W (W.alloc (.cells xs 35)) := (Below.refl _ W).alloc (Nat.le_refl _) _
  ⟨h.fs.below k, h.hr.below k, heap_new _ _, h.nq⟩
theorem Mid.two (h : Mid w0 W p mb room age R q R lv b0 xs) : Two w0 W p mb room age q R lv := ⟨h.fs, h.hr, h.nq⟩
theorem Two.below (h : Two w0 W p mb room age q R lv) (k : Below W.heap.size W W') : Two w0 W' p mb room age q R lv := ⟨h.fs.below k, h.hr.below k, h.nq⟩
/-- WHAT A STEP LEAVES. -/
def StepPost (w0 : World) (p mb : Nat) (room age : Int) (q : Nat) (e : Ending) (w' : World) : Prop :=
  ∃ R' lv', e = .returned (.bool true) ∧ Hid (Two w0 w' p mb room age q R' lv')

set_option maxHeartbeats 8000000 in
set_option maxRecDepth 100000 in
theorem step_0 {w0 W : World} {p mb : Nat} {room age : Int} {q : Nat} {R : List E4} {lv : Value} (h : Two w0 W p mb room age q R lv) (v : Int) (m : ByteArray) (pt now : Int) (hk : WfK v m) :
    Calls Try.prog 10 #[.pointer (some ⟨p, 0, none⟩), .pointer (some ⟨q, 0, none⟩), .agg #[.int .i64 0, .int .i64 v, .string m, .int .i64 pt, .int .i64 now]] W (StepPost w0 p mb room age q) := by
  have K := Lib.hid (h.mid #[.int .i64 0, .int .i64 v, .string m, .int .i64 pt, .int .i64 now])
  have HG := Lib.hid h.fs.good
  have HL := Lib.hid (show R.length < 1000000000 by have := h.fs.l; omega)
  have HA := Lib.hid (show 0 ≤ age ∧ age ≤ 1000000 from ⟨by have := h.fs.a1; omega, h.fs.a2⟩)
  have HR := Lib.hid h.fs.r1
  have KF := Lib.hid fun (U : World) (R1 R2 : List E4) (lv' : Value) (k : Mid w0 U p mb room age R1 q R2 lv' W.heap.size #[.int .i64 0, .int .i64 v, .string m, .int .i64 pt, .int .i64 now]) => (⟨k.cell 0 rfl, k.cell 1 rfl, k.cell 2 rfl, k.cell 3 rfl, k.cell 4 rfl⟩ : U.cell? ⟨W.heap.size, 0, none⟩ = some (.int .i64 0) ∧ U.cell? ⟨W.heap.size, 1, none⟩ = some (.int .i64 v) ∧ U.cell? ⟨W.heap.size, 2, none⟩ = some (.string m) ∧ U.cell? ⟨W.heap.size, 3, none⟩ = some (.int .i64 pt) ∧ U.cell? ⟨W.heap.size, 4, none⟩ = some (.int .i64 now))
  have A1 := Lib.hid (lrn_s K.out.drew.fs v m pt now)
  have R2 := Lib.hid fun (U : World) (k : Mid w0 U p mb room age (lrnF room R v m pt now) q R lv W.heap.size #[.int .i64 0, .int .i64 v, .string m, .int .i64 pt, .int .i64 now]) => rlearn_c k.hr HG.out HR.out HL.out k.fs.bel.size v m pt now
  clear h
  go_enter Try.func10, Try.ntmps10
  go_upto_region 3 with fail
  have k0 := K.out
  have k0d := K.out.drew
  clear K
  generalize W.alloc (.cells #[.int .i64 0, .int .i64 v, .string m, .int .i64 pt, .int .i64 now] 35) = W1 at k0 k0d A1 ⊢
  obtain ⟨f0, f1, f2, f3, f4⟩ := KF.out _ _ _ _ k0
  go_region_held3 (fun U => U.cell? ⟨W.heap.size, 1, none⟩ = some (.int .i64 v) ∧ U.cell? ⟨W.heap.size, 2, none⟩ = some (.string m) ∧ U.cell? ⟨W.heap.size, 3, none⟩ = some (.int .i64 pt) ∧ U.cell? ⟨W.heap.size, 4, none⟩ = some (.int .i64 now))
    (first
      | with_reducible exact (KF.out _ _ _ _ k4).2
      | with_reducible exact (KF.out _ _ _ _ k3).2
      | with_reducible exact (KF.out _ _ _ _ k0).2
      | with_reducible exact (KF.out _ _ _ _ k0d).2)
    (first
      | (go_at_call 14; (with_reducible refine A1.out.mono ?_); rintro e u3 ⟨rfl, h3, t3⟩; have k3 := k0d.tw h3 t3; have A2 := Lib.hid (R2.out _ k3); clear h3 t3)
      | (go_at_call 17; (with_reducible refine A2.out.mono ?_); rintro e u4 ⟨rfl, lv4, h4, t4⟩; have k4 := k3.tq h4 t4; clear h4 t4))
  all_goals
    clear f0 f1 f2 f3 f4
    go_wp2_with fail
    go_ret
    exact ⟨_, lv4, by simp, Lib.hid k4.two⟩

set_option maxHeartbeats 8000000 in
set_option maxRecDepth 100000 in
theorem step_2 {w0 W : World} {p mb : Nat} {room age : Int} {q : Nat} {R : List E4} {lv : Value} (h : Two w0 W p mb room age q R lv) (v : Int) (m : ByteArray) (pt now : Int) (hk : WfK v m) :
    Calls Try.prog 10 #[.pointer (some ⟨p, 0, none⟩), .pointer (some ⟨q, 0, none⟩), .agg #[.int .i64 2, .int .i64 v, .string m, .int .i64 pt, .int .i64 now]] W (StepPost w0 p mb room age q) := by
  have K := Lib.hid (h.mid #[.int .i64 2, .int .i64 v, .string m, .int .i64 pt, .int .i64 now])
  have HG := Lib.hid h.fs.good
  have HL := Lib.hid (show R.length < 1000000000 by have := h.fs.l; omega)
  have HA := Lib.hid (show 0 ≤ age ∧ age ≤ 1000000 from ⟨by have := h.fs.a1; omega, h.fs.a2⟩)
  have HR := Lib.hid h.fs.r1
  have KF := Lib.hid fun (U : World) (R1 R2 : List E4) (lv' : Value) (k : Mid w0 U p mb room age R1 q R2 lv' W.heap.size #[.int .i64 2, .int .i64 v, .string m, .int .i64 pt, .int .i64 now]) => (⟨k.cell 0 rfl, k.cell 1 rfl, k.cell 2 rfl, k.cell 3 rfl, k.cell 4 rfl⟩ : U.cell? ⟨W.heap.size, 0, none⟩ = some (.int .i64 2) ∧ U.cell? ⟨W.heap.size, 1, none⟩ = some (.int .i64 v) ∧ U.cell? ⟨W.heap.size, 2, none⟩ = some (.string m) ∧ U.cell? ⟨W.heap.size, 3, none⟩ = some (.int .i64 pt) ∧ U.cell? ⟨W.heap.size, 4, none⟩ = some (.int .i64 now))
  have A1 := Lib.hid (exp_s K.out.drew.fs now)
  have R2 := Lib.hid fun (U : World) (k : Mid w0 U p mb room age (expF R age now) q R lv W.heap.size #[.int .i64 2, .int .i64 v, .string m, .int .i64 pt, .int .i64 now]) => rexpire_c k.hr HG.out HL.out HA.out.1 HA.out.2 now
  clear h
  go_enter Try.func10, Try.ntmps10
  go_upto_region 9 with fail
  have k0 := K.out
  have k0d := K.out.drew
  clear K
  generalize W.alloc (.cells #[.int .i64 2, .int .i64 v, .string m, .int .i64 pt, .int .i64 now] 35) = W1 at k0 k0d A1 ⊢
  obtain ⟨f0, f1, f2, f3, f4⟩ := KF.out _ _ _ _ k0
  go_region_held3 (fun U => U.cell? ⟨W.heap.size, 1, none⟩ = some (.int .i64 v) ∧ U.cell? ⟨W.heap.size, 2, none⟩ = some (.string m) ∧ U.cell? ⟨W.heap.size, 3, none⟩ = some (.int .i64 pt) ∧ U.cell? ⟨W.heap.size, 4, none⟩ = some (.int .i64 now))
    (first
      | with_reducible exact (KF.out _ _ _ _ k4).2
      | with_reducible exact (KF.out _ _ _ _ k3).2
      | with_reducible exact (KF.out _ _ _ _ k0).2
      | with_reducible exact (KF.out _ _ _ _ k0d).2)
    (first
      | (go_at_call 15; (with_reducible refine A1.out.mono ?_); rintro e u3 ⟨rfl, h3, t3⟩; have k3 := k0d.tw h3 t3; have A2 := Lib.hid (R2.out _ k3); clear h3 t3)
      | (go_at_call 19; (with_reducible refine A2.out.mono ?_); rintro e u4 ⟨rfl, lv4, h4, t4⟩; have k4 := k3.tq h4 t4; clear h4 t4))
  all_goals
    clear f0 f1 f2 f3 f4
    go_wp2_with fail
    go_ret
    exact ⟨_, lv4, by simp, Lib.hid k4.two⟩

set_option maxHeartbeats 8000000 in
set_option maxRecDepth 100000 in
theorem step_3 {w0 W : World} {p mb : Nat} {room age : Int} {q : Nat} {R : List E4} {lv : Value} (h : Two w0 W p mb room age q R lv) (v : Int) (m : ByteArray) (pt now : Int) (hk : WfK v m) :
    Calls Try.prog 10 #[.pointer (some ⟨p, 0, none⟩), .pointer (some ⟨q, 0, none⟩), .agg #[.int .i64 3, .int .i64 v, .string m, .int .i64 pt, .int .i64 now]] W (StepPost w0 p mb room age q) := by
  have K := Lib.hid (h.mid #[.int .i64 3, .int .i64 v, .string m, .int .i64 pt, .int .i64 now])
  have HG := Lib.hid h.fs.good
  have HL := Lib.hid (show R.length < 1000000000 by have := h.fs.l; omega)
  have HA := Lib.hid (show 0 ≤ age ∧ age ≤ 1000000 from ⟨by have := h.fs.a1; omega, h.fs.a2⟩)
  have HR := Lib.hid h.fs.r1
  have KF := Lib.hid fun (U : World) (R1 R2 : List E4) (lv' : Value) (k : Mid w0 U p mb room age R1 q R2 lv' W.heap.size #[.int .i64 3, .int .i64 v, .string m, .int .i64 pt, .int .i64 now]) => (⟨k.cell 0 rfl, k.cell 1 rfl, k.cell 2 rfl, k.cell 3 rfl, k.cell 4 rfl⟩ : U.cell? ⟨W.heap.size, 0, none⟩ = some (.int .i64 3) ∧ U.cell? ⟨W.heap.size, 1, none⟩ = some (.int .i64 v) ∧ U.cell? ⟨W.heap.size, 2, none⟩ = some (.string m) ∧ U.cell? ⟨W.heap.size, 3, none⟩ = some (.int .i64 pt) ∧ U.cell? ⟨W.heap.size, 4, none⟩ = some (.int .i64 now))
  have A1 := Lib.hid (flu_s K.out.drew.fs pt)
  have R2 := Lib.hid fun (U : World) (k : Mid w0 U p mb room age (fluF R pt) q R lv W.heap.size #[.int .i64 3, .int .i64 v, .string m, .int .i64 pt, .int .i64 now]) => rflush_c k.hr HG.out HL.out pt
  clear h
  go_enter Try.func10, Try.ntmps10
  go_upto_region 11 with fail
  have k0 := K.out
  have k0d := K.out.drew
  clear K
  generalize W.alloc (.cells #[.int .i64 3, .int .i64 v, .string m, .int .i64 pt, .int .i64 now] 35) = W1 at k0 k0d A1 ⊢
  obtain ⟨f0, f1, f2, f3, f4⟩ := KF.out _ _ _ _ k0
  go_region_held3 (fun U => U.cell? ⟨W.heap.size, 1, none⟩ = some (.int .i64 v) ∧ U.cell? ⟨W.heap.size, 2, none⟩ = some (.string m) ∧ U.cell? ⟨W.heap.size, 3, none⟩ = some (.int .i64 pt) ∧ U.cell? ⟨W.heap.size, 4, none⟩ = some (.int .i64 now))
    (first
      | with_reducible exact (KF.out _ _ _ _ k4).2
      | with_reducible exact (KF.out _ _ _ _ k3).2
      | with_reducible exact (KF.out _ _ _ _ k0).2
      | with_reducible exact (KF.out _ _ _ _ k0d).2)
    (first
      | (go_at_call 16; (with_reducible refine A1.out.mono ?_); rintro e u3 ⟨rfl, h3, t3⟩; have k3 := k0d.tw h3 t3; have A2 := Lib.hid (R2.out _ k3); clear h3 t3)
      | (go_at_call 20; (with_reducible refine A2.out.mono ?_); rintro e u4 ⟨rfl, lv4, h4, t4⟩; have k4 := k3.tq h4 t4; clear h4 t4))
  all_goals
    clear f0 f1 f2 f3 f4
    go_wp2_with fail
    go_ret
    exact ⟨_, lv4, by simp, Lib.hid k4.two⟩

set_option maxHeartbeats 8000000 in
set_option maxRecDepth 100000 in
theorem step_1 {w0 W : World} {p mb : Nat} {room age : Int} {q : Nat} {R : List E4} {lv : Value} (h : Two w0 W p mb room age q R lv) (v : Int) (m : ByteArray) (pt now : Int) (hk : WfK v m) :
    Calls Try.prog 10 #[.pointer (some ⟨p, 0, none⟩), .pointer (some ⟨q, 0, none⟩), .agg #[.int .i64 1, .int .i64 v, .string m, .int .i64 pt, .int .i64 now]] W (StepPost w0 p mb room age q) := by
  have K := Lib.hid (h.mid #[.int .i64 1, .int .i64 v, .string m, .int .i64 pt, .int .i64 now])
  have HG := Lib.hid h.fs.good
  have HL := Lib.hid (show R.length < 1000000000 by have := h.fs.l; omega)
  have HA := Lib.hid (show 0 ≤ age ∧ age ≤ 1000000 from ⟨by have := h.fs.a1; omega, h.fs.a2⟩)
  have HR := Lib.hid h.fs.r1
  have KF := Lib.hid fun (U : World) (R1 R2 : List E4) (lv' : Value) (k : Mid w0 U p mb room age R1 q R2 lv' W.heap.size #[.int .i64 1, .int .i64 v, .string m, .int .i64 pt, .int .i64 now]) => (⟨k.cell 0 rfl, k.cell 1 rfl, k.cell 2 rfl, k.cell 3 rfl, k.cell 4 rfl⟩ : U.cell? ⟨W.heap.size, 0, none⟩ = some (.int .i64 1) ∧ U.cell? ⟨W.heap.size, 1, none⟩ = some (.int .i64 v) ∧ U.cell? ⟨W.heap.size, 2, none⟩ = some (.string m) ∧ U.cell? ⟨W.heap.size, 3, none⟩ = some (.int .i64 pt) ∧ U.cell? ⟨W.heap.size, 4, none⟩ = some (.int .i64 now))
  have A1 := Lib.hid (look_s K.out.fs v m now hk)
  have RL := Lib.hid fun (U : World) (k : Mid w0 U p mb room age R q R lv W.heap.size #[.int .i64 1, .int .i64 v, .string m, .int .i64 pt, .int .i64 now]) => rlook_c k.hr HG.out HL.out HA.out.1 HA.out.2 v m now
  clear h
  generalize lookF R age v m now = l at A1 RL
  obtain ⟨l1, l2⟩ := l
  go_enter Try.func10, Try.ntmps10
  go_upto_region 5 with fail
  have k0 := K.out
  clear K
  generalize W.alloc (.cells #[.int .i64 1, .int .i64 v, .string m, .int .i64 pt, .int .i64 now] 35) = W1 at k0 A1 ⊢
  obtain ⟨f0, f1, f2, f3, f4⟩ := KF.out _ _ _ _ k0
  go_upto_region 6 with (go_at_call 13; (with_reducible refine A1.out.mono ?_); rintro e u3 ⟨rfl, -, h3⟩)
  have k3 := k0.below h3
  have A2 := Lib.hid (RL.out _ k3)
  clear f0 f1 f2 f3 f4 h3 A1 RL
  obtain ⟨f0, f1, f2, f3, f4⟩ := KF.out _ _ _ _ k3
  go_wp2_with (go_at_call 18; (with_reducible refine A2.out.mono ?_); rintro e u4 ⟨rfl, n, rfl⟩)
  go_ret
  exact ⟨R, lv, by simp, Lib.hid (k3.drewN n).two⟩

end Go.Proofs.Ytodddahjibccoaa
