/-
  Reading group messages of IPv6: the reader's error, numbers and addresses. Contracts over the translated program.
  Reading group messages of IPv6: lists of addresses, messages of one group, reports, the details of a query. Contracts over the translated program.
-/
import Derived.Test.YtnfngmclomjimaaIgE
import Derived.Test.YtnfngmclomjimaaMdA
import Derived.Maps.AppendAt
import Derived.Test.YtnfngmclomjimaaIgD
import Derived.Deep.Cut
namespace Go.Proofs.Ytnfngmclomjimaa
open Go.RowKit
set_option linter.unusedVariables false

/-- Block b is a reader: its error, its text, and where it stands. -/
def RB (b : Nat) (e : Int) (s : ByteArray) (t : Int) (w : World) : Prop := w.heap[b]? = some (.cells #[.int .i64 e, .string s, .int .i64 t] 57 (0, 0))
theorem RB.lt {b : Nat} {e : Int} {s : ByteArray} {t : Int} {w : World} (h : RB b e s t w) : b < w.heap.size := lt_of_block h
theorem RB.below {b : Nat} {e : Int} {s : ByteArray} {t : Int} {w w' : World} (h : RB b e s t w) (k : Below w.heap.size w w') : RB b e s t w' := below_block k (lt_of_block h) h
theorem RB.cells {b : Nat} {e : Int} {s : ByteArray} {t : Int} {w : World} (h : RB b e s t w) :
    w.cell? ⟨b, 0, none⟩ = some (.int .i64 e) ∧ w.cell? ⟨b, 1, none⟩ = some (.string s) ∧ w.cell? ⟨b, 2, none⟩ = some (.int .i64 t) ∧ w.frozen? ⟨b, 0, none⟩ = false ∧ w.frozen? ⟨b, 2, none⟩ = false :=
  ⟨cell_of_block h rfl, cell_of_block h rfl, cell_of_block h rfl, free_of_block h, free_of_block h⟩
theorem grown_set (w : World) (b j : Nat) (v : Value) : w.grownBy (w.setCell ⟨b, j, none⟩ v) (some b) :=
  ⟨rfl, rfl, rfl, by simp [World.setCell], fun k _ hk => Below.heap_setCell _ _ _ _ (fun e => hk (by simp [e]))⟩
theorem grown_below {w w' : World} {row : Option Nat} (k : Below w.heap.size w w') : w.grownBy w' row := ⟨k.os, k.tape, k.output, k.size, fun j hj _ => k.block j hj⟩
theorem grown_refl (w : World) (row : Option Nat) : w.grownBy w row := ⟨rfl, rfl, rfl, Nat.le_refl _, fun _ _ _ => rfl⟩
theorem below_grown {w w' : World} {b : Nat} (h : w.grownBy w' (some b)) (hb : b ≤ w.heap.size) : Below b w w' :=
  ⟨h.os, h.tape, h.output, h.size, fun k hk => h.block k (by omega) (by simp; omega)⟩

/-- A reader, and that nothing else of w0 has changed. -/
def RS (b : Nat) (w0 : World) (e : Int) (s : ByteArray) (t : Int) (w : World) : Prop := RB b e s t w ∧ w0.grownBy w (some b)
theorem RS.start {b : Nat} {e : Int} {s : ByteArray} {t : Int} {w : World} (h : RB b e s t w) : RS b w e s t w := ⟨h, grown_refl _ _⟩
theorem RS.then {b : Nat} {w0 w w' : World} {e e' : Int} {s : ByteArray} {t t' : Int} (h : RS b w0 e s t w) (k : RS b w e' s t' w') : RS b w0 e' s t' w' := ⟨k.1, h.2.trans k.2⟩
theorem RS.below {b : Nat} {w0 w w' : World} {e : Int} {s : ByteArray} {t : Int} (h : RS b w0 e s t w) (k : Below w.heap.size w w') : RS b w0 e s t w' := ⟨h.1.below k, h.2.trans (grown_below k)⟩
def RPost (b : Nat) (v : Value) (e : Int) (s : ByteArray) (t : Int) (w : World) (r : Ending) (w' : World) : Prop := r = .returned v ∧ RS b w e s t w'

theorem RB.set0 {b : Nat} {e : Int} {s : ByteArray} {t : Int} {w : World} (h : RB b e s t w) (e' : Int) : RS b w e' s t (w.setCell ⟨b, 0, none⟩ (.int .i64 e')) := by
  have hr := heap_store (j := 0) (v := .int .i64 e') h
  exact ⟨hr, grown_set _ _ _ _⟩
theorem RB.set2 {b : Nat} {e : Int} {s : ByteArray} {t : Int} {w : World} (h : RB b e s t w) (t' : Int) : RS b w e s t' (w.setCell ⟨b, 2, none⟩ (.int .i64 t')) := by
  have hr := heap_store (j := 2) (v := .int .i64 t') h
  exact ⟨hr, grown_set _ _ _ _⟩

/-- The first error counts. -/
def kI (e e' : Int) : Int := if e = 0 then e' else e

set_option maxHeartbeats 1000000 in
set_option maxRecDepth 100000 in
theorem keepr (b : Nat) (e : Int) (s : ByteArray) (t e' : Int) (w : World) (h : RB b e s t w) :
    Calls Try.prog 14 #[.pointer (some ⟨b, 0, none⟩), .int .i64 e'] w (RPost b (.tuple #[]) (kI e e') s t w) := by
  obtain ⟨c0, -, -, f0, -⟩ := h.cells
  have HB := Lib.hid h
  clear h
  by_cases h0 : e = 0
  · subst h0
    go_enter Try.func14, Try.ntmps14
    go_wp2_with fail
    go_end0
    exact ⟨rfl, HB.out.set0 e'⟩
  · obtain ⟨a1, a2⟩ := ne_t h0
    have V := Lib.hid (show kI e e' = e from if_neg h0)
    clear h0
    go_enter Try.func14, Try.ntmps14
    go_wp2_with fail
    go_end0
    rw [V.out]
    exact ⟨rfl, RS.start HB.out⟩

set_option maxHeartbeats 1000000 in
set_option maxRecDepth 100000 in
theorem needr (b : Nat) (e : Int) (s : ByteArray) (t : Int) (q : Bool) (c : Int) (w : World) (h : RB b e s t w) :
    Calls Try.prog 33 #[.pointer (some ⟨b, 0, none⟩), .bool q, .int .i64 c] w (RPost b (.tuple #[]) (if q then e else kI e c) s t w) := by
  have HK := Lib.hid fun U h => keepr b e s t c U h
  have HB := Lib.hid h
  clear h
  cases q
  · go_enter Try.func33, Try.ntmps33
    go_wp2_with fail
    refine (HK.out _ HB.out).mono ?_
    rintro r w1 ⟨rfl, h1⟩
    go_wp2_with fail
    go_end0
    exact ⟨rfl, h1⟩
  · go_enter Try.func33, Try.ntmps33
    go_wp2_with fail
    go_end0
    exact ⟨rfl, RS.start HB.out⟩

set_option maxHeartbeats 1000000 in
set_option maxRecDepth 100000 in
theorem skipr (b : Nat) (e : Int) (s : ByteArray) (t n : Int) (w : World) (h : RB b e s t w) (t1 : 0 ≤ t) (t2 : t ≤ 4611686018427387904) (n1 : 0 ≤ n) (n2 : n ≤ 1000000) :
    Calls Try.prog 29 #[.pointer (some ⟨b, 0, none⟩), .int .i64 n] w (RPost b (.tuple #[]) e s (t + n) w) := by
  obtain ⟨-, -, c2, -, f2⟩ := h.cells
  have HB := Lib.hid h
  clear h
  go_enter Try.func29, Try.ntmps29
  go_wp2_with fail
  go_end0
  exact ⟨rfl, HB.out.set2 _⟩

set_option maxHeartbeats 1000000 in
set_option maxRecDepth 100000 in
theorem leftr (b : Nat) (e : Int) (s : ByteArray) (t : Int) (w : World) (h : RB b e s t w) (t1 : 0 ≤ t) (t2 : t ≤ 4611686018427387904) (hs : s.size ≤ 281474976710000) :
    Calls Try.prog 51 #[.pointer (some ⟨b, 0, none⟩)] w fun r w' => r = .returned (.int .i64 ((s.size : Int) - t)) ∧ Below w.heap.size w w' := by
  obtain ⟨-, c1, c2, -, -⟩ := h.cells
  clear h
  go_enter Try.func51, Try.ntmps51
  go_wp2_with fail
  first
    | (go_ret; exact ⟨rfl, by first | exact Below.refl _ _ | exact (Below.refl _ _).drew⟩)
    | (go_region
       all_goals (go_wp2; go_ret; exact ⟨rfl, by first | exact Below.refl _ _ | exact (Below.refl _ _).drew⟩))

set_option maxHeartbeats 1000000 in
set_option maxRecDepth 100000 in
theorem numberr (b : Nat) (e : Int) (s : ByteArray) (t k : Int) (w : World) (h : RB b e s t w) (t1 : 0 ≤ t) (t2 : t ≤ 4611686018427387904) (k1 : 0 ≤ k) (k2 : k ≤ 4) (hs : s.size ≤ 281474976710000) :
    Calls Try.prog 28 #[.pointer (some ⟨b, 0, none⟩), .int .i64 k] w (RPost b (.int .i64 (getSpec s t k).1) (kI e (getSpec s t k).2) s (t + k) w) := by
  have H1 := Lib.hid fun U => get_c s t k U (by omega) (by omega) (by omega)
  have HK := Lib.hid fun U h => keepr b e s t (getSpec s t k).2 U h
  have HS := Lib.hid fun U h => skipr b (kI e (getSpec s t k).2) s t k U h t1 t2 k1 (by omega)
  generalize (getSpec s t k).1 = n at *
  generalize (getSpec s t k).2 = er at *
  obtain ⟨-, c1, c2, -, -⟩ := h.cells
  have HB := Lib.hid (RS.start h)
  clear h
  go_enter Try.func28, Try.ntmps28
  go_wp2_with fail
  go_region_with (go_at_call 49; refine (H1.out _).mono ?_; rintro r w1 ⟨rfl, h1⟩)
  all_goals
    have hB1 : RS b w e s t w1 := by
      first
        | exact HB.out.below h1
        | exact HB.out.below ((Below.refl _ w).drew.trans h1)
        | exact HB.out.below ((Below.refl _ w).drew.drew.trans h1)
    have HB1 := Lib.hid hB1
    clear hB1 h1 c1 c2 HB
    go_wp2_with fail
    refine (HK.out _ HB1.out.1).mono ?_
    rintro r w2 ⟨rfl, h2⟩
    replace HB1 := Lib.hid (HB1.out.then h2)
    clear h2
    go_wp2_with fail
    refine (HS.out _ HB1.out.1).mono ?_
    rintro r w3 ⟨rfl, h3⟩
    go_wp2_with fail
    go_ret
    exact ⟨rfl, HB1.out.then h3⟩

set_option maxHeartbeats 1000000 in
set_option maxRecDepth 100000 in
theorem addrr (b : Nat) (e : Int) (s : ByteArray) (t : Int) (w : World) (h : RB b e s t w) (t1 : 0 ≤ t) (t2 : t ≤ 4611686018427387904) (hs : s.size ≤ 281474976710000) :
    Calls Try.prog 50 #[.pointer (some ⟨b, 0, none⟩)] w (RPost b (.string (cutSpec s t 16).1) (kI e (cutSpec s t 16).2) s (t + 16) w) := by
  have H1 := Lib.hid fun U => cut_c s t 16 U hs (by omega) (by omega)
  have HK := Lib.hid fun U h => keepr b e s t (cutSpec s t 16).2 U h
  have HS := Lib.hid fun U h => skipr b (kI e (cutSpec s t 16).2) s t 16 U h t1 t2 (by omega) (by omega)
  generalize (cutSpec s t 16).1 = n at *
  generalize (cutSpec s t 16).2 = er at *
  obtain ⟨-, c1, c2, -, -⟩ := h.cells
  have HB := Lib.hid (RS.start h)
  clear h
  go_enter Try.func50, Try.ntmps50
  go_wp2_with fail
  go_region_with (go_at_call 25; refine (H1.out _).mono ?_; rintro r w1 ⟨rfl, h1⟩)
  all_goals
    have hB1 : RS b w e s t w1 := by
      first
        | exact HB.out.below h1
        | exact HB.out.below ((Below.refl _ w).drew.trans h1)
        | exact HB.out.below ((Below.refl _ w).drew.drew.trans h1)
    have HB1 := Lib.hid hB1
    clear hB1 h1 c1 c2 HB
    go_wp2_with fail
    refine (HK.out _ HB1.out.1).mono ?_
    rintro r w2 ⟨rfl, h2⟩
    replace HB1 := Lib.hid (HB1.out.then h2)
    clear h2
    go_wp2_with fail
    refine (HS.out _ HB1.out.1).mono ?_
    rintro r w3 ⟨rfl, h3⟩
    go_wp2_with fail
    go_ret
    exact ⟨rfl, HB1.out.then h3⟩

theorem owns_slice {w : World} {base e size n : Nat} {v : Value} {xs : List Value} (h : w.ownsRow base e size v n xs) : ∃ p c, v = .slice p n c := by
  rcases h.2 with ⟨rfl, rfl⟩ | ⟨g, cap, cur, rfl, _⟩
  · exact ⟨_, _, rfl⟩
  · exact ⟨_, _, rfl⟩
theorem owns_grown {w w' : World} {base e size n : Nat} {v : Value} {xs : List Value} {b : Nat} (h : w.ownsRow base e size v n xs) (k : w.grownBy w' (some b)) (hb : b < base) : w'.ownsRow base e size v n xs := by
  refine h.kept k ?_
  rcases h.2 with ⟨rfl, _⟩ | ⟨g, cap, cur, rfl, hg, _⟩
  · exact .inl rfl
  · refine .inr ?_
    simp only [Value.ownBlock, ne_eq, Option.some.injEq]
    omega
def lenOf : Value → Nat
  | .slice _ n _ => n
  | _ => 0

theorem cut_fit (s : ByteArray) (A : Nat) (h : A + 16 ≤ s.size) : cutSpec s A 16 = (s.extract A (A + 16), 0) := cut_okv s A 16 h
theorem cut_no (s : ByteArray) (A : Nat) (h : s.size < A + 16) : cutSpec s A 16 = (⟨#[]⟩, 2) := by
  unfold cutSpec
  rw [if_neg (by omega), if_pos (by omega)]

set_option maxHeartbeats 2000000 in
set_option maxRecDepth 100000 in
theorem addrsr_no (b : Nat) (e : Int) (s : ByteArray) (t n : Int) (w : World) (h : RB b e s t w) (he : e ≠ 0) :
    Calls Try.prog 67 #[.pointer (some ⟨b, 0, none⟩), .int .i64 n] w fun r w' => r = .returned (.slice none 0 0) ∧ w' = w := by
  obtain ⟨c0, -, -, -, -⟩ := h.cells
  obtain ⟨a1, a2⟩ := ne_t he
  clear h he
  go_enter Try.func67, Try.ntmps67
  go_wp2_with fail
  go_loopw [5] (fun v wr => v = .slice none 0 0 ∧ wr = w) (fun _ _ => 0)
  case atStart => exact ⟨rfl, rfl⟩
  case round =>
    obtain ⟨rfl, rfl⟩ := hrel
    go_wp2_with fail
    go_ret
    exact ⟨rfl, rfl⟩

def APost (b : Nat) (s : ByteArray) (T n : Nat) (w : World) (r : Ending) (w' : World) : Prop :=
  ∃ v e' t', r = .returned v ∧ RS b w e' s t' w' ∧ (∃ p m c, v = .slice p m c) ∧ (e' = if T + n * 16 ≤ s.size then 0 else 2) ∧ (e' = 0 → AddrsG w.heap.size true w' v (addrsL s T n 16))

set_option maxHeartbeats 2000000 in
set_option maxRecDepth 100000 in
theorem addrsr_ok (b : Nat) (s : ByteArray) (T n : Nat) (w : World) (h : RB b 0 s T w) (hT : T ≤ s.size) (hs : s.size ≤ 281474976710000) (hn : n ≤ 60) :
    Calls Try.prog 67 #[.pointer (some ⟨b, 0, none⟩), .int .i64 n] w (APost b s T n w) := by
  obtain ⟨i0, hi, hz0, hz1, hz2⟩ := info_parts info_addr
  have hbw : b < w.heap.size := h.lt
  have HS := Lib.hid (RS.start h)
  have HA := Lib.hid fun e (k : Nat) (hk : k ≤ 60) U h => addrr b e s ((T + k * 16 : Nat) : Int) U h (by omega) (by omega) hs
  have hni : (n : Int) ≤ 60 := by omega
  clear h
  go_enter Try.func67, Try.ntmps67
  go_wp2_with fail
  go_loopw [5] (fun v wr => ∃ (k : Nat) (xs : List ByteArray) (e : Int), k ≤ n ∧ wr.ownsRow w.heap.size 22 1 v k (xs.map Value.string) ∧ Hid (RS b w e s ((T + k * 16 : Nat) : Int) wr) ∧ (e = if T + k * 16 ≤ s.size then 0 else 2) ∧ (e = 0 → xs = addrsL s T k 16)) (fun v _ => n - lenOf v)
  case atStart => exact ⟨0, [], 0, Nat.zero_le _, World.ownsRow_nil _ _ _ _, HS, by rw [if_pos (by omega)], fun _ => rfl⟩
  case round =>
    obtain ⟨k, xs, e, hk, hown, hS, he, hxs⟩ := hrel
    obtain ⟨p, cp, rfl⟩ := owns_slice hown
    have c0 := hS.out.1.cells.1
    by_cases hlt : e = 0 ∧ k < n
    · obtain ⟨rfl, hlt⟩ := hlt
      have hfit : T + k * 16 ≤ s.size := by
        by_cases hc : T + k * 16 ≤ s.size
        · exact hc
        · rw [if_neg hc] at he; cases he
      obtain rfl := hxs rfl
      have hlt' : (k : Int) < (n : Int) := by omega
      have H := Lib.hid fun U h => HA.out 0 k (by omega) U h
      have HX := Lib.hid hown
      obtain ⟨x, e2, hce, he2, hx⟩ : ∃ x e2, cutSpec s ((T + k * 16 : Nat) : Int) 16 = (x, e2) ∧ (e2 = if T + (k + 1) * 16 ≤ s.size then 0 else 2) ∧ (e2 = 0 → addrsL s T k 16 ++ [x] = addrsL s T (k + 1) 16) := by
        by_cases hc : T + (k + 1) * 16 ≤ s.size
        · refine ⟨_, 0, cut_fit s _ (by omega), by rw [if_pos hc], fun _ => ?_⟩
          rw [addrsL_succ]
        · refine ⟨_, 2, cut_no s _ (by omega), by rw [if_neg hc], fun h => by cases h⟩
      rw [hce] at H
      simp only [kI, if_true] at H
      have HE2 := Lib.hid he2
      have HX2 := Lib.hid hx
      have hrow := hS.out.2.size
      clear hown he hxs hce he2 hx hfit
      go_wp2_with fail
      refine (H.out _ hS.out.1).mono ?_
      rintro r w1 ⟨rfl, h1⟩
      have HO := Lib.hid (owns_grown HX.out h1.2 hbw)
      have hS1 := Lib.hid (hS.out.then h1)
      have hsz := h1.2.size
      clear h1 HX
      go_wp2_with (at_builtin; refine wpList_append_own _ rfl _ _ 25 rfl w.heap.size 22 i0 (.string ⟨#[]⟩) 1 16 Try.underlying25 hi hz0 hz1 hz2 rfl (by decide) _ _ _ rfl (HO.out.alloc _) ⟨w1.heap.size, 0, none⟩ 1 1 [.string x] rfl rfl ?c1 ?c2 ?c3 ?c4 ?c5 ?_)
      case c1 =>
        intro j u hj
        obtain ⟨rfl, rfl⟩ := one_at hj
        exact cell_of_block (heap_new _ _) rfl
      case c2 => intro u hu; rw [List.mem_singleton.1 hu]; rfl
      case c3 => unfold maxLen; omega
      case c4 => omega
      case c5 => simp; omega
      intro v' w2 hown' hgrow _
      have HO2 := Lib.hid hown'
      have hS2 : Hid (RS b w e2 s ((T + (k + 1) * 16 : Nat) : Int) w2) := by
        refine Lib.hid ?_
        have hq := hS1.out
        have hb1 := hq.1.lt
        have ha := hq.below ((Below.refl _ w1).alloc (Nat.le_refl _) (.cells #[.string x] 22))
        have hne : some b ≠ (Value.slice p k cp).ownBlock := by
          intro hh
          have := HO.out.lt b hh.symm
          omega
        have hB2 : RB b e2 s _ w2 := (hgrow.block b (by simp; omega) hne).trans ha.1
        have hG : w.grownBy w2 (some b) := by
          refine ⟨hgrow.os.trans ha.2.os, hgrow.tape.trans ha.2.tape, hgrow.output.trans ha.2.output, Nat.le_trans ha.2.size hgrow.size, fun j hj hjb => ?_⟩
          rw [hgrow.block j (Nat.lt_of_lt_of_le hj ha.2.size) ?_]
          · exact ha.2.block j hj hjb
          · intro hh
            have := (HO.out.lt j hh.symm).1
            omega
        rw [show ((T + (k + 1) * 16 : Nat) : Int) = ((T + k * 16 : Nat) : Int) + 16 from by push_cast; omega]
        exact ⟨hB2, hG⟩
      obtain ⟨p2, cp2, rfl⟩ := owns_slice hown'
      clear hown' hgrow hS1
      go_wp2_with fail
      go_roundw
      case rel => exact ⟨k + 1, addrsL s T k 16 ++ [x], e2, by omega, by rw [List.map_append]; exact HO2.out, hS2, HE2.out, HX2.out⟩
      case measure => simp [lenOf]; omega
    · have hstop : (e == 0) = false ∨ ((e == 0) = true ∧ ¬ (k : Int) < (n : Int)) := by
        by_cases h0 : e = 0
        · exact .inr ⟨by simp [h0], by have := fun h => hlt ⟨h0, h⟩; omega⟩
        · exact .inl (by simp [h0])
      have hfin : ∃ e', e = e' ∧ (e' = if T + n * 16 ≤ s.size then 0 else 2) ∧ (e' = 0 → AddrsG w.heap.size true wr (.slice p k cp) (addrsL s T n 16)) := by
        refine ⟨e, rfl, ?_, ?_⟩
        · rw [he]
          split
          · next hc =>
            rw [if_pos hc] at he
            have : ¬ k < n := fun h => hlt ⟨he, h⟩
            obtain rfl : k = n := by omega
            rw [if_pos hc]
          · next hc => rw [if_neg (by omega)]
        · intro h0
          have : ¬ k < n := fun h => hlt ⟨h0, h⟩
          obtain rfl : k = n := by omega
          rw [← hxs h0]
          exact AddrsG.of_owns hown
      have HF := Lib.hid hfin
      clear hfin hown he hxs hlt
      rcases hstop with h0 | ⟨h0, h1⟩
      all_goals
        go_wp2_with fail
        go_ret
        obtain ⟨e', rfl, g1, g2⟩ := HF.out
        exact ⟨_, _, _, rfl, hS.out, ⟨_, _, _, rfl⟩, g1, g2⟩

end Go.Proofs.Ytnfngmclomjimaa
