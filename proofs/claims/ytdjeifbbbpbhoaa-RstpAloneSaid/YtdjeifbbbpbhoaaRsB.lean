/-
  rstp: ports. Contracts over the translated program.
-/
import Derived.Test.YtdjeifbbbpbhoaaRsA
import Derived.Lib.QuietBelow
import Derived.Deep.Cut
namespace Go.Proofs.Ytdjeifbbbpbhoaa
open Go.RowKit
set_option linter.unusedVariables false
set_option linter.unusedSimpArgs false

theorem prt_c0 {w : World} {a : Nat} {p : Prt} {kv : Value} (h : w.heap[a]? = some (.cells (prtC p kv) 64 (0, 0))) : w.cell? ⟨a, 0, none⟩ = some (.int .i64 p.cost) := cell_of_block h rfl
theorem prt_c1 {w : World} {a : Nat} {p : Prt} {kv : Value} (h : w.heap[a]? = some (.cells (prtC p kv) 64 (0, 0))) : w.cell? ⟨a, 1, none⟩ = some (.bool p.up) := cell_of_block h rfl
theorem prt_c2 {w : World} {a : Nat} {p : Prt} {kv : Value} (h : w.heap[a]? = some (.cells (prtC p kv) 64 (0, 0))) : w.cell? ⟨a, 2, none⟩ = some kv := cell_of_block h rfl
theorem prt_c3 {w : World} {a : Nat} {p : Prt} {kv : Value} (h : w.heap[a]? = some (.cells (prtC p kv) 64 (0, 0))) : w.cell? ⟨a, 3, none⟩ = some (.int .i64 p.role) := cell_of_block h rfl
theorem prt_c4 {w : World} {a : Nat} {p : Prt} {kv : Value} (h : w.heap[a]? = some (.cells (prtC p kv) 64 (0, 0))) : w.cell? ⟨a, 4, none⟩ = some (.int .i64 p.since) := cell_of_block h rfl
theorem prt_c5 {w : World} {a : Nat} {p : Prt} {kv : Value} (h : w.heap[a]? = some (.cells (prtC p kv) 64 (0, 0))) : w.cell? ⟨a, 5, none⟩ = some (.bool p.learns) := cell_of_block h rfl
theorem prt_c6 {w : World} {a : Nat} {p : Prt} {kv : Value} (h : w.heap[a]? = some (.cells (prtC p kv) 64 (0, 0))) : w.cell? ⟨a, 6, none⟩ = some (.bool p.fwd) := cell_of_block h rfl
theorem msg_c0 {w : World} {a : Nat} {m : Msg} (h : w.heap[a]? = some (.cells (msgC m) 76 (0, 0))) : w.cell? ⟨a, 0, none⟩ = some (.int .u64 m.v.1) ∧ w.cell? ⟨a, 1, none⟩ = some (.int .i64 m.v.2.1) ∧ w.cell? ⟨a, 2, none⟩ = some (.int .u64 m.v.2.2.1) ∧ w.cell? ⟨a, 3, none⟩ = some (.int .i64 m.v.2.2.2) ∧ w.cell? ⟨a, 4, none⟩ = some (.int .i64 m.age) ∧ w.cell? ⟨a, 5, none⟩ = some (.int .i64 m.on) :=
  ⟨cell_of_block h rfl, cell_of_block h rfl, cell_of_block h rfl, cell_of_block h rfl, cell_of_block h rfl, cell_of_block h rfl⟩

set_option maxRecDepth 100000 in
theorem role_nil (n : Int) (w : World) : Calls Try.prog 17 #[.pointer none, .int .i64 n] w fun e w' => e = .returned (.int .i64 (0 : Int)) ∧ w = w' := by
  have HP := Lib.hid fun U => port_nil n U
  go_enter Try.func17, Try.ntmps17
  go_wp2_with fail
  ((with_reducible refine (HP.out _).mono ?_); rintro e w1 ⟨rfl, rfl⟩)
  go_wp2_with fail
  go_ret
  exact ⟨rfl, rfl⟩
set_option maxRecDepth 100000 in
theorem role_no {w : World} {B t rb cap : Nat} {A : List Nat} {T : Part} (h : HasS w B t rb cap A T) (n : Int) (hn : n < 0 ∨ (A.length : Int) ≤ n) : Calls Try.prog 17 #[.pointer (some ⟨t, 0, none⟩), .int .i64 n] w fun e w' => e = .returned (.int .i64 (0 : Int)) ∧ w = w' := by
  have HP := Lib.hid (port_no h n hn)
  clear h hn
  go_enter Try.func17, Try.ntmps17
  go_wp2_with fail
  ((with_reducible refine HP.out.mono ?_); rintro e w1 ⟨rfl, rfl⟩)
  go_wp2_with fail
  go_ret
  exact ⟨rfl, rfl⟩
set_option maxRecDepth 100000 in
theorem role_yes {w : World} {B t rb cap : Nat} {A : List Nat} {T : Part} (h : HasS w B t rb cap A T) {k a : Nat} {p : Prt} (ha : A[k]? = some a) (hp : T.ps[k]? = some p) : Calls Try.prog 17 #[.pointer (some ⟨t, 0, none⟩), .int .i64 k] w fun e w' => e = .returned (.int .i64 p.role) ∧ w = w' := by
  have HP := Lib.hid (port_yes h ha)
  obtain ⟨kv, hb, -⟩ := h.ports k a p ha hp
  have x := prt_c3 hb
  clear h hb
  replace ha := Lib.hid ha
  replace hp := Lib.hid hp
  go_enter Try.func17, Try.ntmps17
  go_wp2_with fail
  ((with_reducible refine HP.out.mono ?_); rintro e w1 ⟨rfl, rfl⟩)
  go_wp2_with fail
  go_ret
  exact ⟨rfl, rfl⟩

set_option maxRecDepth 100000 in
theorem learns_nil (n : Int) (w : World) : Calls Try.prog 18 #[.pointer none, .int .i64 n] w fun e w' => e = .returned (.bool false) ∧ w = w' := by
  have HP := Lib.hid fun U => port_nil n U
  go_enter Try.func18, Try.ntmps18
  go_wp2_with fail
  ((with_reducible refine (HP.out _).mono ?_); rintro e w1 ⟨rfl, rfl⟩)
  go_wp2_with fail
  go_ret
  exact ⟨rfl, rfl⟩
set_option maxRecDepth 100000 in
theorem learns_no {w : World} {B t rb cap : Nat} {A : List Nat} {T : Part} (h : HasS w B t rb cap A T) (n : Int) (hn : n < 0 ∨ (A.length : Int) ≤ n) : Calls Try.prog 18 #[.pointer (some ⟨t, 0, none⟩), .int .i64 n] w fun e w' => e = .returned (.bool false) ∧ w = w' := by
  have HP := Lib.hid (port_no h n hn)
  clear h hn
  go_enter Try.func18, Try.ntmps18
  go_wp2_with fail
  ((with_reducible refine HP.out.mono ?_); rintro e w1 ⟨rfl, rfl⟩)
  go_wp2_with fail
  go_ret
  exact ⟨rfl, rfl⟩
set_option maxRecDepth 100000 in
theorem learns_yes {w : World} {B t rb cap : Nat} {A : List Nat} {T : Part} (h : HasS w B t rb cap A T) {k a : Nat} {p : Prt} (ha : A[k]? = some a) (hp : T.ps[k]? = some p) : Calls Try.prog 18 #[.pointer (some ⟨t, 0, none⟩), .int .i64 k] w fun e w' => e = .returned (.bool p.learns) ∧ w = w' := by
  have HP := Lib.hid (port_yes h ha)
  obtain ⟨kv, hb, -⟩ := h.ports k a p ha hp
  have x := prt_c5 hb
  clear h hb
  replace ha := Lib.hid ha
  replace hp := Lib.hid hp
  go_enter Try.func18, Try.ntmps18
  go_wp2_with fail
  ((with_reducible refine HP.out.mono ?_); rintro e w1 ⟨rfl, rfl⟩)
  go_wp2_with fail
  go_ret
  exact ⟨rfl, rfl⟩

set_option maxRecDepth 100000 in
theorem forwards_nil (n : Int) (w : World) : Calls Try.prog 19 #[.pointer none, .int .i64 n] w fun e w' => e = .returned (.bool false) ∧ w = w' := by
  have HP := Lib.hid fun U => port_nil n U
  go_enter Try.func19, Try.ntmps19
  go_wp2_with fail
  ((with_reducible refine (HP.out _).mono ?_); rintro e w1 ⟨rfl, rfl⟩)
  go_wp2_with fail
  go_ret
  exact ⟨rfl, rfl⟩
set_option maxRecDepth 100000 in
theorem forwards_no {w : World} {B t rb cap : Nat} {A : List Nat} {T : Part} (h : HasS w B t rb cap A T) (n : Int) (hn : n < 0 ∨ (A.length : Int) ≤ n) : Calls Try.prog 19 #[.pointer (some ⟨t, 0, none⟩), .int .i64 n] w fun e w' => e = .returned (.bool false) ∧ w = w' := by
  have HP := Lib.hid (port_no h n hn)
  clear h hn
  go_enter Try.func19, Try.ntmps19
  go_wp2_with fail
  ((with_reducible refine HP.out.mono ?_); rintro e w1 ⟨rfl, rfl⟩)
  go_wp2_with fail
  go_ret
  exact ⟨rfl, rfl⟩
set_option maxRecDepth 100000 in
theorem forwards_yes {w : World} {B t rb cap : Nat} {A : List Nat} {T : Part} (h : HasS w B t rb cap A T) {k a : Nat} {p : Prt} (ha : A[k]? = some a) (hp : T.ps[k]? = some p) : Calls Try.prog 19 #[.pointer (some ⟨t, 0, none⟩), .int .i64 k] w fun e w' => e = .returned (.bool p.fwd) ∧ w = w' := by
  have HP := Lib.hid (port_yes h ha)
  obtain ⟨kv, hb, -⟩ := h.ports k a p ha hp
  have x := prt_c6 hb
  clear h hb
  replace ha := Lib.hid ha
  replace hp := Lib.hid hp
  go_enter Try.func19, Try.ntmps19
  go_wp2_with fail
  ((with_reducible refine HP.out.mono ?_); rintro e w1 ⟨rfl, rfl⟩)
  go_wp2_with fail
  go_ret
  exact ⟨rfl, rfl⟩

set_option maxHeartbeats 1000000 in
set_option maxRecDepth 100000 in
theorem heard_c {w : World} {a : Nat} {p : Prt} (h : PrtAt w a p) : Calls Try.prog 42 #[.pointer (some ⟨a, 0, none⟩)] w fun e w' => e = .returned (hdV p.hd) ∧ Below w.heap.size w w' := by
  obtain ⟨kv, hb, hk⟩ := h
  have hlt : a < w.heap.size := (Array.getElem?_eq_some_iff.1 hb).1
  have hne : a ≠ w.heap.size := by omega
  have x0 := prt_c0 hb
  have x2 := prt_c2 hb
  clear hb
  unfold Prt.hd
  cases hkk : p.kept with
  | none =>
    rw [hkk] at hk
    obtain rfl : kv = .pointer none := hk
    have hB := Lib.hid ((Below.refl w.heap.size w).alloc (Nat.le_refl _) (.cells #[.bool false, .int .u64 0, .int .i64 0, .int .u64 0, .int .i64 0, .int .i64 p.cost] 82))
    replace hkk := Lib.hid hkk
    go_enter Try.func42, Try.ntmps42
    go_wp2
    exact bodyPost_ret (v := .agg #[.bool false, .int .u64 0, .int .i64 0, .int .u64 0, .int .i64 0, .int .i64 p.cost]) (by simp [results, Try.results42, go_sem]) rfl ⟨rfl, hB.out⟩
  | some m =>
    rw [hkk] at hk
    obtain ⟨mb, rfl, hm⟩ := hk
    have hltm : mb < w.heap.size := (Array.getElem?_eq_some_iff.1 hm).1
    have hnem : mb ≠ w.heap.size := by omega
    obtain ⟨y0, y1, y2, y3, -, -⟩ := msg_c0 hm
    have W0 := Lib.hid ((Below.refl w.heap.size w).alloc (Nat.le_refl _) (.cells #[.bool true, .int .u64 m.v.1, .int .i64 m.v.2.1, .int .u64 m.v.2.2.1, .int .i64 m.v.2.2.2, .int .i64 p.cost] 82))
    replace hkk := Lib.hid hkk
    have Z0 := Lib.hid (Bx.start w #[.bool false, .int .u64 0, .int .i64 0, .int .u64 0, .int .i64 0, .int .i64 0] 82)
    have z0 := gcell_below Z0.out.bel x0
    have z2 := gcell_below Z0.out.bel x2
    have u0 := gcell_below Z0.out.bel y0
    have u1 := gcell_below Z0.out.bel y1
    have u2 := gcell_below Z0.out.bel y2
    have u3 := gcell_below Z0.out.bel y3
    clear hm
    go_enter Try.func42, Try.ntmps42
    go_upto_region 3 with fail
    generalize w.alloc (.cells #[.bool false, .int .u64 0, .int .i64 0, .int .u64 0, .int .i64 0, .int .i64 0] 82) = W at Z0 z0 z2 u0 u1 u2 u3 ⊢
    go_still_tail 12, (by kernel_rfl)
    change wpList _ _ _ _ _ W.drew
    have k0 := Z0.out.drew
    have k1 := fun j => k0.free j
    have k2 := k0.cell 0 rfl
    have k3 := k0.cell 1 rfl
    have k4 := k0.cell 2 rfl
    have k5 := k0.cell 3 rfl
    have k6 := k0.cell 4 rfl
    have k7 := k0.cell 5 rfl
    replace k0 := Lib.hid k0
    clear z0 z2 u0 u1 u2 u3
    generalize W.drew = W2 at k0 k1 k2 k3 k4 k5 k6 k7 ⊢
    go_wp2
    have Z1 := Lib.hid ((((((k0.out.set 0 (.bool true)).set 1 (.int .u64 m.v.1)).set 2 (.int .i64 m.v.2.1)).set 3 (.int .u64 m.v.2.2.1)).set 4 (.int .i64 m.v.2.2.2)).set 5 (.int .i64 p.cost))
    clear k0 k1 k2 k3 k4 k5 k6 k7
    generalize (((((W2.setCell ⟨w.heap.size, 0, none⟩ (.bool true)).setCell ⟨w.heap.size, 1, none⟩ (.int .u64 m.v.1)).setCell ⟨w.heap.size, 2, none⟩ (.int .i64 m.v.2.1)).setCell ⟨w.heap.size, 3, none⟩ (.int .u64 m.v.2.2.1)).setCell ⟨w.heap.size, 4, none⟩ (.int .i64 m.v.2.2.2)).setCell ⟨w.heap.size, 5, none⟩ (.int .i64 p.cost) = W3 at Z1 ⊢
    have d0 : W3.cell? ⟨w.heap.size, 0, none⟩ = some (.bool true) := Z1.out.cell 0 rfl
    have d1 : W3.cell? ⟨w.heap.size, 1, none⟩ = some (.int .u64 m.v.1) := Z1.out.cell 1 rfl
    have d2 : W3.cell? ⟨w.heap.size, 2, none⟩ = some (.int .i64 m.v.2.1) := Z1.out.cell 2 rfl
    have d3 : W3.cell? ⟨w.heap.size, 3, none⟩ = some (.int .u64 m.v.2.2.1) := Z1.out.cell 3 rfl
    have d4 : W3.cell? ⟨w.heap.size, 4, none⟩ = some (.int .i64 m.v.2.2.2) := Z1.out.cell 4 rfl
    have d5 : W3.cell? ⟨w.heap.size, 5, none⟩ = some (.int .i64 p.cost) := Z1.out.cell 5 rfl
    exact bodyPost_ret (v := .agg #[.bool true, .int .u64 m.v.1, .int .i64 m.v.2.1, .int .u64 m.v.2.2.1, .int .i64 m.v.2.2.2, .int .i64 p.cost]) (by simp [results, Try.results42, go_sem, d0, d1, d2, d3, d4, d5]) rfl ⟨rfl, Z1.out.bel⟩

end Go.Proofs.Ytdjeifbbbpbhoaa
