/-
  rstp: the small functions. Contracts over the translated program.
-/
import Derived.Test.YtdjeifbbbpbhoaaRsM
import Derived.Test.YtdjeifbbbpbhoaaPrE
import Derived.Test.YtdjeifbbbpbhoaaTst
import Derived.Deep.QuietTactic
import Derived.Deep.RegionHeld3
import Derived.StillTailTactics
namespace Go.Proofs.Ytdjeifbbbpbhoaa
open Go.RowKit
set_option linter.unusedVariables false
set_option linter.unusedSimpArgs false

set_option maxRecDepth 100000 in
theorem active_c (r : Int) (w : World) : Calls Try.prog 51 #[.int .i64 r] w fun e w' => e = .returned (.bool (actv r)) ∧ w = w' := by
  unfold actv
  by_cases h1 : r = 1
  · obtain ⟨k1, k2⟩ := eq_t h1
    go_enter Try.func51, Try.ntmps51
    go_wp2
    go_ret
    exact ⟨by simp [k1], rfl⟩
  · obtain ⟨k1, k2⟩ := ne_t h1
    go_enter Try.func51, Try.ntmps51
    go_wp2
    go_ret
    exact ⟨by simp [k1], rfl⟩

set_option maxRecDepth 100000 in
theorem old_c {b : Nat} {m : Msg} {w : World} (h : w.heap[b]? = some (.cells (msgC m) 76 (0, 0))) (t : Int) (t0 : 0 ≤ t) (t1 : t ≤ 1099511627776) (a0 : 0 ≤ m.on) (a1 : m.on ≤ 1099511627776) :
    Calls Try.prog 46 #[.pointer (some ⟨b, 0, none⟩), .int .i64 t] w fun e w' => e = .returned (.bool (oldM m t)) ∧ w = w' := by
  have x1 : w.cell? ⟨b, 4, none⟩ = some (.int .i64 m.age) := cell_of_block h rfl
  have x2 : w.cell? ⟨b, 5, none⟩ = some (.int .i64 m.on) := cell_of_block h rfl
  unfold oldM
  clear h
  obtain ⟨v, age, on⟩ := m
  simp only at x1 x2 a0 a1 ⊢
  cases h1 : decide (6 ≤ t - on) with
  | true =>
    go_enter Try.func46, Try.ntmps46
    go_wp2
    go_ret
    exact ⟨by simp, rfl⟩
  | false =>
    go_enter Try.func46, Try.ntmps46
    go_wp2
    go_ret
    exact ⟨by simp, rfl⟩

section
variable {w w' : World} {B t rb cap : Nat} {A : List Nat} {T : Part}

set_option maxRecDepth 100000 in
theorem port_nil (n : Int) (w : World) : Calls Try.prog 29 #[.pointer none, .int .i64 n] w fun e w' => e = .returned (.pointer none) ∧ w = w' := by
  go_enter Try.func29, Try.ntmps29
  go_wp2
  go_ret
  exact ⟨rfl, rfl⟩
set_option maxRecDepth 100000 in
theorem port_no (h : HasS w B t rb cap A T) (n : Int) (hn : n < 0 ∨ (A.length : Int) ≤ n) : Calls Try.prog 29 #[.pointer (some ⟨t, 0, none⟩), .int .i64 n] w fun e w' => e = .returned (.pointer none) ∧ w = w' := by
  have x2 := h.c2
  have hl := h.n16
  clear h
  by_cases h1 : n < 0
  · have k1 : decide (n < 0) = true := decide_eq_true h1
    clear hn h1
    go_enter Try.func29, Try.ntmps29
    go_wp2
    go_ret
    exact ⟨rfl, rfl⟩
  · have k1 : decide (n < 0) = false := decide_eq_false h1
    have k2 : decide ((A.length : Int) ≤ n) = true := decide_eq_true (by omega)
    clear hn h1
    go_enter Try.func29, Try.ntmps29
    go_wp2
    go_ret
    exact ⟨rfl, rfl⟩
set_option maxRecDepth 100000 in
theorem port_yes (h : HasS w B t rb cap A T) {k a : Nat} (ha : A[k]? = some a) : Calls Try.prog 29 #[.pointer (some ⟨t, 0, none⟩), .int .i64 k] w fun e w' => e = .returned (.pointer (some ⟨a, 0, none⟩)) ∧ w = w' := by
  have x2 := h.c2
  have hl := h.n16
  have xr := h.rowc ha
  have hk : k < A.length := (List.getElem?_eq_some_iff.1 ha).1
  have k1 : decide ((k : Int) < 0) = false := decide_eq_false (by omega)
  have k2 : decide ((A.length : Int) ≤ (k : Int)) = false := decide_eq_false (by omega)
  have k3 : decide (A.length ≤ k) = false := decide_eq_false (by omega)
  clear h
  replace ha := Lib.hid ha
  go_enter Try.func29, Try.ntmps29
  go_wp2
  go_ret
  exact ⟨rfl, rfl⟩

set_option maxRecDepth 100000 in
theorem goOn_no (w : World) (v : Value) (n : Int) (hn : timeR n = false) : Calls Try.prog 30 #[v, .int .i64 n] w fun e w' => e = .returned (.bool false) ∧ w = w' := by
  unfold timeR at hn
  simp at hn
  by_cases h1 : n < 0
  · have k1 : decide (n < 0) = true := decide_eq_true h1
    clear hn h1
    go_enter Try.func30, Try.ntmps30
    go_wp2
    go_ret
    exact ⟨rfl, rfl⟩
  · have k1 : decide (n < 0) = false := decide_eq_false h1
    have k2 : decide (1099511627776 < n) = true := decide_eq_true (by omega)
    clear hn h1
    go_enter Try.func30, Try.ntmps30
    go_wp2
    go_ret
    exact ⟨rfl, rfl⟩
set_option maxRecDepth 100000 in
theorem goOn_yes (h : HasS w B t rb cap A T) (n : Int) (hn : timeR n = true) : Calls Try.prog 30 #[.pointer (some ⟨t, 0, none⟩), .int .i64 n] w fun e w' => e = .returned (.bool true) ∧ HasS w' B t rb cap A (T.goOn n) ∧ Tt isS B w w' := by
  have hg := h.good.goOn hn
  have H := Lib.hid h
  have x1 := h.c1
  have f1 := free_of_block (j := 1) h.tree
  have hs := Lib.hid (heap_store (j := 1) (v := .int .i64 (max T.time n)) h.tree)
  unfold timeR at hn
  simp at hn
  have k1 : decide (n < 0) = false := decide_eq_false (by omega)
  have k2 : decide (1099511627776 < n) = false := decide_eq_false (by omega)
  clear h hn
  go_enter Try.func30, Try.ntmps30
  go_wp2
  · have hm : max T.time n = n := by omega
    have hs' := hs.out
    rw [hm] at hs'
    go_ret
    have hx := Only.setCell w t 1 (.int .i64 n)
    exact ⟨rfl, H.out.own hx (by rw [hs']; simp [partC, Part.goOn, hm]) rfl hg, H.out.ttT hx⟩
  · have hm : max T.time n = T.time := by omega
    have hs' := hs.out
    rw [hm] at hs'
    go_ret
    have hx := Only.setCell w t 1 (.int .i64 T.time)
    exact ⟨rfl, H.out.own hx (by rw [hs']; simp [partC, Part.goOn, hm]) rfl hg, H.out.ttT hx⟩

set_option maxRecDepth 100000 in
theorem note_c (h : HasS w B t rb cap A T) : Calls Try.prog 34 #[.pointer (some ⟨t, 0, none⟩)] w fun e w' => e = .returned (.tuple #[]) ∧ HasS w' B t rb cap A T.note ∧ Tt isS B w w' := by
  have hg := h.good.note
  have g0 := h.good.t0
  have g1 := h.good.t1
  have H := Lib.hid h
  have x1 := h.c1
  have f1 := free_of_block (j := 7) h.tree
  have x7 := h.c7
  have hs := Lib.hid (heap_store (j := 7) (v := .int .i64 (T.time + 1)) h.tree)
  clear h
  go_enter Try.func34, Try.ntmps34
  go_wp2
  have hx := Only.setCell w t 7 (.int .i64 (T.time + 1))
  go_end0
  exact ⟨rfl, H.out.own hx hs.out rfl hg, H.out.ttT hx⟩

set_option maxRecDepth 100000 in
theorem changed_c (h : HasS w B t rb cap A T) : Calls Try.prog 21 #[.pointer (some ⟨t, 0, none⟩)] w fun e w' => e = .returned (.int .i64 (T.chg - 1)) ∧ w = w' := by
  have g0 := h.good.c0
  have g1 := h.good.c1
  have x1 := h.c7
  clear h
  go_enter Try.func21, Try.ntmps21
  go_wp2
  go_ret
  exact ⟨rfl, rfl⟩
set_option maxRecDepth 100000 in
theorem changed_nil (w : World) : Calls Try.prog 21 #[.pointer none] w fun e w' => e = .returned (.int .i64 (-1)) ∧ w = w' := by
  go_enter Try.func21, Try.ntmps21
  go_wp2
  go_ret
  exact ⟨rfl, rfl⟩
set_option maxRecDepth 100000 in
theorem root_c (h : HasS w B t rb cap A T) : Calls Try.prog 20 #[.pointer (some ⟨t, 0, none⟩)] w fun e w' => e = .returned (.agg #[.int .u64 T.best.1, .int .i64 T.best.2.1, .int .u64 T.best.2.2.1, .int .i64 T.best.2.2.2]) ∧ Below w.heap.size w w' := by
  have hB := Lib.hid ((Below.refl w.heap.size w).alloc (Nat.le_refl _) (.cells #[.int .u64 T.best.1, .int .i64 T.best.2.1, .int .u64 T.best.2.2.1, .int .i64 T.best.2.2.2] 36))
  have hlt := h.ltT
  have hne : t ≠ w.heap.size := by omega
  have x0 := h.c3
  have x1 := h.c4
  have x2 := h.c5
  have x3 := h.c6
  clear h
  go_enter Try.func20, Try.ntmps20
  go_wp2
  exact bodyPost_ret (v := .agg #[.int .u64 T.best.1, .int .i64 T.best.2.1, .int .u64 T.best.2.2.1, .int .i64 T.best.2.2.2]) (by simp [results, Try.results20, go_sem]) rfl ⟨rfl, hB.out⟩
set_option maxRecDepth 100000 in
theorem root_nil (w : World) : Calls Try.prog 20 #[.pointer none] w fun e w' => e = .returned (.agg #[.int .u64 0, .int .i64 0, .int .u64 0, .int .i64 0]) ∧ Below w.heap.size w w' := by
  have hB := Lib.hid ((Below.refl w.heap.size w).alloc (Nat.le_refl _) (.cells #[.int .u64 0, .int .i64 0, .int .u64 0, .int .i64 0] 36))
  go_enter Try.func20, Try.ntmps20
  go_wp2
  exact bodyPost_ret (v := .agg #[.int .u64 0, .int .i64 0, .int .u64 0, .int .i64 0]) (by simp [results, Try.results20, go_sem]) rfl ⟨rfl, hB.out⟩
end

end Go.Proofs.Ytdjeifbbbpbhoaa
