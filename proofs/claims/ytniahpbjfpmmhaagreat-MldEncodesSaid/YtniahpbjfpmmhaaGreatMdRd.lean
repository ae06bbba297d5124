/-
  Reading group messages of IPv6: the reader's error, numbers and addresses. Contracts over the translated program.
  Reading group messages of IPv6: lists of addresses, messages of one group, reports, the details of a query. Contracts over the translated program.
  Reading group messages of IPv6: messages of one group, reports of version 2. Contracts over the translated program.
  Reading group messages of IPv6: the details of a query. A contract over the translated program.
  Reading group messages of IPv6: queries and reports of version 2. Contracts over the translated program.
  Reading group messages of IPv6: queries; whole messages. Contracts over the translated program.
  Reading group messages of IPv6: whole messages. A contract over the translated program.
  Reading group messages of IPv6: Decode. A contract over the translated program.
-/
import Derived.Test.YtniahpbjfpmmhaaGreatIgDE
import Derived.Test.YtniahpbjfpmmhaaGreatMdWr
import Derived.Maps.AppendAt
import Derived.Deep.Cut
import Derived.Test.YtniahpbjfpmmhaaGreatBits
import Derived.WalkSpells
import Derived.Test.YtniahpbjfpmmhaaGreatSumAB
namespace Go.Proofs.YtniahpbjfpmmhaaGreat
open Go.RowKit
set_option linter.unusedVariables false

/-- Block b is a reader: its error, its text, and where it stands. -/
def RB (b : Nat) (e : Int) (s : ByteArray) (t : Int) (w : World) : Prop := w.heap[b]? = some (.cells #[.int .i64 e, .string s, .int .i64 t] 56 (0, 0))
theorem RB.lt {b : Nat} {e : Int} {s : ByteArray} {t : Int} {w : World} (h : RB b e s t w) : b < w.heap.size := lt_of_block h
theorem RB.below {b : Nat} {e : Int} {s : ByteArray} {t : Int} {w w' : World} (h : RB b e s t w) (k : Below w.heap.size w w') : RB b e s t w' := below_block k (lt_of_block h) h
theorem RB.cells {b : Nat} {e : Int} {s : ByteArray} {t : Int} {w : World} (h : RB b e s t w) :
    w.cell? ⟨b, 0, none⟩ = some (.int .i64 e) ∧ w.cell? ⟨b, 1, none⟩ = some (.string s) ∧ w.cell? ⟨b, 2, none⟩ = some (.int .i64 t) ∧ w.frozen? ⟨b, 0, none⟩ = false ∧ w.frozen? ⟨b, 2, none⟩ = false :=
  ⟨cell_of_block h rfl, cell_of_block h rfl, cell_of_block h rfl, free_of_block h, free_of_block h⟩
theorem grown_set (w : World) (b j : Nat) (v : Value) : w.grownBy (w.setCell ⟨b, j, none⟩ v) (some b) :=
  ⟨rfl, rfl, rfl, by simp [World.setCell], fun k _ hk => Below.heap_setCell _ _ _ _ (fun e => hk (by simp [e]))⟩
theorem grown_below {w w' : World} {row : Option Nat} (k : Below w.heap.size w w') : w.grownBy w' row := ⟨k.os, k.tape, k.output, k.size, fun j hj _ => k.block j hj⟩
theorem grown_refl (w : World) (row : Option Nat) : w.grownBy w row := ⟨rfl, rfl, rfl, Nat.le_refl _, fun _ _ _ => rfl⟩
theorem below_grown {w w' : World} {b : Nat} (h : w.grownBy w' (some b)) (hb : b ≤ w.heap.size) : Below b w w' :=
  ⟨h.os, h.tape, h.output, h.size, fun k hk => h.block k (by omega) (by simp; omega)⟩

/-- A reader, and that nothing else of w0 has changed. -/
def RS (b : Nat) (w0 : World) (e : Int) (s : ByteArray) (t : Int) (w : World) : Prop := RB b e s t w ∧ w0.grownBy w (some b)
theorem RS.start {b : Nat} {e : Int} {s : ByteArray} {t : Int} {w : World} (h : RB b e s t w) : RS b w e s t w := ⟨h, grown_refl _ _⟩
theorem RS.then {b : Nat} {w0 w w' : World} {e e' : Int} {s : ByteArray} {t t' : Int} (h : RS b w0 e s t w) (k : RS b w e' s t' w') : RS b w0 e' s t' w' := ⟨k.1, h.2.trans k.2⟩
theorem RS.below {b : Nat} {w0 w w' : World} {e : Int} {s : ByteArray} {t : Int} (h : RS b w0 e s t w) (k : Below w.heap.size w w') : RS b w0 e s t w' := ⟨h.1.below k, h.2.trans (grown_below k)⟩
def RPost (b : Nat) (v : Value) (e : Int) (s : ByteArray) (t : Int) (w : World) (r : Ending) (w' : World) : Prop := r = .returned v ∧ RS b w e s t w'

theorem RB.set0 {b : Nat} {e : Int} {s : ByteArray} {t : Int} {w : World} (h : RB b e s t w) (e' : Int) : RS b w e' s t (w.setCell ⟨b, 0, none⟩ (.int .i64 e')) := by
  have hr := heap_store (j := 0) (v := .int .i64 e') h
  exact ⟨hr, grown_set _ _ _ _⟩
theorem RB.set2 {b : Nat} {e : Int} {s : ByteArray} {t : Int} {w : World} (h : RB b e s t w) (t' : Int) : RS b w e s t' (w.setCell ⟨b, 2, none⟩ (.int .i64 t')) := by
  have hr := heap_store (j := 2) (v := .int .i64 t') h
  exact ⟨hr, grown_set _ _ _ _⟩

/-- The first error counts. -/
def kI (e e' : Int) : Int := if e = 0 then e' else e

set_option maxHeartbeats 1000000 in
set_option maxRecDepth 100000 in
theorem keepr (b : Nat) (e : Int) (s : ByteArray) (t e' : Int) (w : World) (h : RB b e s t w) :
    Calls Tryz.prog 12 #[.pointer (some ⟨b, 0, none⟩), .int .i64 e'] w (RPost b (.tuple #[]) (kI e e') s t w) := by
  obtain ⟨c0, -, -, f0, -⟩ := h.cells
  have HB := Lib.hid h
  clear h
  by_cases h0 : e = 0
  · subst h0
    go_enter Tryz.func12, Tryz.ntmps12
    go_wp2_with fail
    go_end0
    exact ⟨rfl, HB.out.set0 e'⟩
  · obtain ⟨a1, a2⟩ := ne_t h0
    have V := Lib.hid (show kI e e' = e from if_neg h0)
    clear h0
    go_enter Tryz.func12, Tryz.ntmps12
    go_wp2_with fail
    go_end0
    rw [V.out]
    exact ⟨rfl, RS.start HB.out⟩

set_option maxHeartbeats 1000000 in
set_option maxRecDepth 100000 in
theorem needr (b : Nat) (e : Int) (s : ByteArray) (t : Int) (q : Bool) (c : Int) (w : World) (h : RB b e s t w) :
    Calls Tryz.prog 44 #[.pointer (some ⟨b, 0, none⟩), .bool q, .int .i64 c] w (RPost b (.tuple #[]) (if q then e else kI e c) s t w) := by
  have HK := Lib.hid fun U h => keepr b e s t c U h
  have HB := Lib.hid h
  clear h
  cases q
  · go_enter Tryz.func44, Tryz.ntmps44
    go_wp2_with fail
    refine (HK.out _ HB.out).mono ?_
    rintro r w1 ⟨rfl, h1⟩
    go_wp2_with fail
    go_end0
    exact ⟨rfl, h1⟩
  · go_enter Tryz.func44, Tryz.ntmps44
    go_wp2_with fail
    go_end0
    exact ⟨rfl, RS.start HB.out⟩

set_option maxHeartbeats 1000000 in
set_option maxRecDepth 100000 in
theorem skipr (b : Nat) (e : Int) (s : ByteArray) (t n : Int) (w : World) (h : RB b e s t w) (t1 : 0 ≤ t) (t2 : t ≤ 4611686018427387904) (n1 : 0 ≤ n) (n2 : n ≤ 1000000) :
    Calls Tryz.prog 40 #[.pointer (some ⟨b, 0, none⟩), .int .i64 n] w (RPost b (.tuple #[]) e s (t + n) w) := by
  obtain ⟨-, -, c2, -, f2⟩ := h.cells
  have HB := Lib.hid h
  clear h
  go_enter Tryz.func40, Tryz.ntmps40
  go_wp2_with fail
  go_end0
  exact ⟨rfl, HB.out.set2 _⟩

set_option maxHeartbeats 1000000 in
set_option maxRecDepth 100000 in
theorem leftr (b : Nat) (e : Int) (s : ByteArray) (t : Int) (w : World) (h : RB b e s t w) (t1 : 0 ≤ t) (t2 : t ≤ 4611686018427387904) (hs : s.size ≤ 281474976710000) :
    Calls Tryz.prog 69 #[.pointer (some ⟨b, 0, none⟩)] w fun r w' => r = .returned (.int .i64 ((s.size : Int) - t)) ∧ Below w.heap.size w w' := by
  obtain ⟨-, c1, c2, -, -⟩ := h.cells
  clear h
  go_enter Tryz.func69, Tryz.ntmps69
  go_wp2_with fail
  first
    | (go_ret; exact ⟨rfl, by first | exact Below.refl _ _ | exact (Below.refl _ _).drew⟩)
    | (go_region
       all_goals (go_wp2; go_ret; exact ⟨rfl, by first | exact Below.refl _ _ | exact (Below.refl _ _).drew⟩))

set_option maxHeartbeats 1000000 in
set_option maxRecDepth 100000 in
theorem numberr (b : Nat) (e : Int) (s : ByteArray) (t k : Int) (w : World) (h : RB b e s t w) (t1 : 0 ≤ t) (t2 : t ≤ 4611686018427387904) (k1 : 0 ≤ k) (k2 : k ≤ 4) (hs : s.size ≤ 281474976710000) :
    Calls Tryz.prog 39 #[.pointer (some ⟨b, 0, none⟩), .int .i64 k] w (RPost b (.int .i64 (getSpec s t k).1) (kI e (getSpec s t k).2) s (t + k) w) := by
  have H1 := Lib.hid fun U => get_c s t k U (by omega) (by omega) (by omega)
  have HK := Lib.hid fun U h => keepr b e s t (getSpec s t k).2 U h
  have HS := Lib.hid fun U h => skipr b (kI e (getSpec s t k).2) s t k U h t1 t2 k1 (by omega)
  generalize (getSpec s t k).1 = n at *
  generalize (getSpec s t k).2 = er at *
  obtain ⟨-, c1, c2, -, -⟩ := h.cells
  have HB := Lib.hid (RS.start h)
  clear h
  go_enter Tryz.func39, Tryz.ntmps39
  go_wp2_with fail
  go_region_with (go_at_call 67; refine (H1.out _).mono ?_; rintro r w1 ⟨rfl, h1⟩)
  all_goals
    have hB1 : RS b w e s t w1 := by
      first
        | exact HB.out.below h1
        | exact HB.out.below ((Below.refl _ w).drew.trans h1)
        | exact HB.out.below ((Below.refl _ w).drew.drew.trans h1)
    have HB1 := Lib.hid hB1
    clear hB1 h1 c1 c2 HB
    go_wp2_with fail
    refine (HK.out _ HB1.out.1).mono ?_
    rintro r w2 ⟨rfl, h2⟩
    replace HB1 := Lib.hid (HB1.out.then h2)
    clear h2
    go_wp2_with fail
    refine (HS.out _ HB1.out.1).mono ?_
    rintro r w3 ⟨rfl, h3⟩
    go_wp2_with fail
    go_ret
    exact ⟨rfl, HB1.out.then h3⟩

set_option maxHeartbeats 1000000 in
set_option maxRecDepth 100000 in
theorem addrr (b : Nat) (e : Int) (s : ByteArray) (t : Int) (w : World) (h : RB b e s t w) (t1 : 0 ≤ t) (t2 : t ≤ 4611686018427387904) (hs : s.size ≤ 281474976710000) :
    Calls Tryz.prog 68 #[.pointer (some ⟨b, 0, none⟩)] w (RPost b (.string (cutSpec s t 16).1) (kI e (cutSpec s t 16).2) s (t + 16) w) := by
  have H1 := Lib.hid fun U => cut_c s t 16 U hs (by omega) (by omega)
  have HK := Lib.hid fun U h => keepr b e s t (cutSpec s t 16).2 U h
  have HS := Lib.hid fun U h => skipr b (kI e (cutSpec s t 16).2) s t 16 U h t1 t2 (by omega) (by omega)
  generalize (cutSpec s t 16).1 = n at *
  generalize (cutSpec s t 16).2 = er at *
  obtain ⟨-, c1, c2, -, -⟩ := h.cells
  have HB := Lib.hid (RS.start h)
  clear h
  go_enter Tryz.func68, Tryz.ntmps68
  go_wp2_with fail
  go_region_with (go_at_call 25; refine (H1.out _).mono ?_; rintro r w1 ⟨rfl, h1⟩)
  all_goals
    have hB1 : RS b w e s t w1 := by
      first
        | exact HB.out.below h1
        | exact HB.out.below ((Below.refl _ w).drew.trans h1)
        | exact HB.out.below ((Below.refl _ w).drew.drew.trans h1)
    have HB1 := Lib.hid hB1
    clear hB1 h1 c1 c2 HB
    go_wp2_with fail
    refine (HK.out _ HB1.out.1).mono ?_
    rintro r w2 ⟨rfl, h2⟩
    replace HB1 := Lib.hid (HB1.out.then h2)
    clear h2
    go_wp2_with fail
    refine (HS.out _ HB1.out.1).mono ?_
    rintro r w3 ⟨rfl, h3⟩
    go_wp2_with fail
    go_ret
    exact ⟨rfl, HB1.out.then h3⟩

theorem owns_slice {w : World} {base e size n : Nat} {v : Value} {xs : List Value} (h : w.ownsRow base e size v n xs) : ∃ p c, v = .slice p n c := by
  rcases h.2 with ⟨rfl, rfl⟩ | ⟨g, cap, cur, rfl, _⟩
  · exact ⟨_, _, rfl⟩
  · exact ⟨_, _, rfl⟩
theorem owns_grown {w w' : World} {base e size n : Nat} {v : Value} {xs : List Value} {b : Nat} (h : w.ownsRow base e size v n xs) (k : w.grownBy w' (some b)) (hb : b < base) : w'.ownsRow base e size v n xs := by
  refine h.kept k ?_
  rcases h.2 with ⟨rfl, _⟩ | ⟨g, cap, cur, rfl, hg, _⟩
  · exact .inl rfl
  · refine .inr ?_
    simp only [Value.ownBlock, ne_eq, Option.some.injEq]
    omega
def lenOf : Value → Nat
  | .slice _ n _ => n
  | _ => 0

theorem cut_fit (s : ByteArray) (A : Nat) (h : A + 16 ≤ s.size) : cutSpec s A 16 = (s.extract A (A + 16), 0) := cut_okv s A 16 h
theorem cut_no (s : ByteArray) (A : Nat) (h : s.size < A + 16) : cutSpec s A 16 = (⟨#[]⟩, 2) := by
  unfold cutSpec
  rw [if_neg (by omega), if_pos (by omega)]

set_option maxHeartbeats 2000000 in
set_option maxRecDepth 100000 in
theorem addrsr_no (b : Nat) (e : Int) (s : ByteArray) (t n : Int) (w : World) (h : RB b e s t w) (he : e ≠ 0) :
    Calls Tryz.prog 86 #[.pointer (some ⟨b, 0, none⟩), .int .i64 n] w fun r w' => r = .returned (.slice none 0 0) ∧ w' = w := by
  obtain ⟨c0, -, -, -, -⟩ := h.cells
  obtain ⟨a1, a2⟩ := ne_t he
  clear h he
  go_enter Tryz.func86, Tryz.ntmps86
  go_wp2_with fail
  go_loopw [5] (fun v wr => v = .slice none 0 0 ∧ wr = w) (fun _ _ => 0)
  case atStart => exact ⟨rfl, rfl⟩
  case round =>
    obtain ⟨rfl, rfl⟩ := hrel
    go_wp2_with fail
    go_ret
    exact ⟨rfl, rfl⟩

def APost (b : Nat) (s : ByteArray) (T n : Nat) (w : World) (r : Ending) (w' : World) : Prop :=
  ∃ v e' t', r = .returned v ∧ RS b w e' s t' w' ∧ (∃ p m c, v = .slice p m c) ∧ (e' = if T + n * 16 ≤ s.size then 0 else 2) ∧ (e' = 0 → AddrsG w.heap.size true w' v (addrsL s T n 16))

set_option maxHeartbeats 2000000 in
set_option maxRecDepth 100000 in
theorem addrsr_ok (b : Nat) (s : ByteArray) (T n : Nat) (w : World) (h : RB b 0 s T w) (hT : T ≤ s.size) (hs : s.size ≤ 281474976710000) (hn : n ≤ 60) :
    Calls Tryz.prog 86 #[.pointer (some ⟨b, 0, none⟩), .int .i64 n] w (APost b s T n w) := by
  obtain ⟨i0, hi, hz0, hz1, hz2⟩ := info_parts info_addr
  have hbw : b < w.heap.size := h.lt
  have HS := Lib.hid (RS.start h)
  have HA := Lib.hid fun e (k : Nat) (hk : k ≤ 60) U h => addrr b e s ((T + k * 16 : Nat) : Int) U h (by omega) (by omega) hs
  have hni : (n : Int) ≤ 60 := by omega
  clear h
  go_enter Tryz.func86, Tryz.ntmps86
  go_wp2_with fail
  go_loopw [5] (fun v wr => ∃ (k : Nat) (xs : List ByteArray) (e : Int), k ≤ n ∧ wr.ownsRow w.heap.size 22 1 v k (xs.map Value.string) ∧ Hid (RS b w e s ((T + k * 16 : Nat) : Int) wr) ∧ (e = if T + k * 16 ≤ s.size then 0 else 2) ∧ (e = 0 → xs = addrsL s T k 16)) (fun v _ => n - lenOf v)
  case atStart => exact ⟨0, [], 0, Nat.zero_le _, World.ownsRow_nil _ _ _ _, HS, by rw [if_pos (by omega)], fun _ => rfl⟩
  case round =>
    obtain ⟨k, xs, e, hk, hown, hS, he, hxs⟩ := hrel
    obtain ⟨p, cp, rfl⟩ := owns_slice hown
    have c0 := hS.out.1.cells.1
    by_cases hlt : e = 0 ∧ k < n
    · obtain ⟨rfl, hlt⟩ := hlt
      have hfit : T + k * 16 ≤ s.size := by
        by_cases hc : T + k * 16 ≤ s.size
        · exact hc
        · rw [if_neg hc] at he; cases he
      obtain rfl := hxs rfl
      have hlt' : (k : Int) < (n : Int) := by omega
      have H := Lib.hid fun U h => HA.out 0 k (by omega) U h
      have HX := Lib.hid hown
      obtain ⟨x, e2, hce, he2, hx⟩ : ∃ x e2, cutSpec s ((T + k * 16 : Nat) : Int) 16 = (x, e2) ∧ (e2 = if T + (k + 1) * 16 ≤ s.size then 0 else 2) ∧ (e2 = 0 → addrsL s T k 16 ++ [x] = addrsL s T (k + 1) 16) := by
        by_cases hc : T + (k + 1) * 16 ≤ s.size
        · refine ⟨_, 0, cut_fit s _ (by omega), by rw [if_pos hc], fun _ => ?_⟩
          rw [addrsL_succ]
        · refine ⟨_, 2, cut_no s _ (by omega), by rw [if_neg hc], fun h => by cases h⟩
      rw [hce] at H
      simp only [kI, if_true] at H
      have HE2 := Lib.hid he2
      have HX2 := Lib.hid hx
      have hrow := hS.out.2.size
      clear hown he hxs hce he2 hx hfit
      go_wp2_with fail
      refine (H.out _ hS.out.1).mono ?_
      rintro r w1 ⟨rfl, h1⟩
      have HO := Lib.hid (owns_grown HX.out h1.2 hbw)
      have hS1 := Lib.hid (hS.out.then h1)
      have hsz := h1.2.size
      clear h1 HX
      go_wp2_with (at_builtin; refine wpList_append_own _ rfl _ _ 25 rfl w.heap.size 22 i0 (.string ⟨#[]⟩) 1 16 Tryz.underlying25 hi hz0 hz1 hz2 rfl (by decide) _ _ _ rfl (HO.out.alloc _) ⟨w1.heap.size, 0, none⟩ 1 1 [.string x] rfl rfl ?c1 ?c2 ?c3 ?c4 ?c5 ?_)
      case c1 =>
        intro j u hj
        obtain ⟨rfl, rfl⟩ := one_at hj
        exact cell_of_block (heap_new _ _) rfl
      case c2 => intro u hu; rw [List.mem_singleton.1 hu]; rfl
      case c3 => unfold maxLen; omega
      case c4 => omega
      case c5 => simp; omega
      intro v' w2 hown' hgrow _
      have HO2 := Lib.hid hown'
      have hS2 : Hid (RS b w e2 s ((T + (k + 1) * 16 : Nat) : Int) w2) := by
        refine Lib.hid ?_
        have hq := hS1.out
        have hb1 := hq.1.lt
        have ha := hq.below ((Below.refl _ w1).alloc (Nat.le_refl _) (.cells #[.string x] 22))
        have hne : some b ≠ (Value.slice p k cp).ownBlock := by
          intro hh
          have := HO.out.lt b hh.symm
          omega
        have hB2 : RB b e2 s _ w2 := (hgrow.block b (by simp; omega) hne).trans ha.1
        have hG : w.grownBy w2 (some b) := by
          refine ⟨hgrow.os.trans ha.2.os, hgrow.tape.trans ha.2.tape, hgrow.output.trans ha.2.output, Nat.le_trans ha.2.size hgrow.size, fun j hj hjb => ?_⟩
          rw [hgrow.block j (Nat.lt_of_lt_of_le hj ha.2.size) ?_]
          · exact ha.2.block j hj hjb
          · intro hh
            have := (HO.out.lt j hh.symm).1
            omega
        rw [show ((T + (k + 1) * 16 : Nat) : Int) = ((T + k * 16 : Nat) : Int) + 16 from by push_cast; omega]
        exact ⟨hB2, hG⟩
      obtain ⟨p2, cp2, rfl⟩ := owns_slice hown'
      clear hown' hgrow hS1
      go_wp2_with fail
      go_roundw
      case rel => exact ⟨k + 1, addrsL s T k 16 ++ [x], e2, by omega, by rw [List.map_append]; exact HO2.out, hS2, HE2.out, HX2.out⟩
      case measure => simp [lenOf]; omega
    · have hstop : (e == 0) = false ∨ ((e == 0) = true ∧ ¬ (k : Int) < (n : Int)) := by
        by_cases h0 : e = 0
        · exact .inr ⟨by simp [h0], by have := fun h => hlt ⟨h0, h⟩; omega⟩
        · exact .inl (by simp [h0])
      have hfin : ∃ e', e = e' ∧ (e' = if T + n * 16 ≤ s.size then 0 else 2) ∧ (e' = 0 → AddrsG w.heap.size true wr (.slice p k cp) (addrsL s T n 16)) := by
        refine ⟨e, rfl, ?_, ?_⟩
        · rw [he]
          split
          · next hc =>
            rw [if_pos hc] at he
            have : ¬ k < n := fun h => hlt ⟨he, h⟩
            obtain rfl : k = n := by omega
            rw [if_pos hc]
          · next hc => rw [if_neg (by omega)]
        · intro h0
          have : ¬ k < n := fun h => hlt ⟨h0, h⟩
          obtain rfl : k = n := by omega
          rw [← hxs h0]
          exact AddrsG.of_owns hown
      have HF := Lib.hid hfin
      clear hfin hown he hxs hlt
      rcases hstop with h0 | ⟨h0, h1⟩
      all_goals
        go_wp2_with fail
        go_ret
        obtain ⟨e', rfl, g1, g2⟩ := HF.out
        exact ⟨_, _, _, rfl, hS.out, ⟨_, _, _, rfl⟩, g1, g2⟩

abbrev zero9 : Array Value := #[.int .i64 0, .int .i64 0, .string ⟨#[]⟩, .int .i64 0, .bool false, .int .i64 0, .int .i64 0, .slice none 0 0, .slice none 0 0]
/-- A reader at b, and the answer's block behind w's end. -/
def RQ (b : Nat) (w : World) (e : Int) (s : ByteArray) (t : Int) (W : World) : Prop :=
  RB b e s t W ∧ W.heap[w.heap.size]? = some (.cells #[.int .i64 0, .int .i64 0, .string ⟨#[]⟩, .int .i64 0, .bool false, .int .i64 0, .int .i64 0, .slice none 0 0, .slice none 0 0] 28 (0, 0)) ∧ w.grownBy W (some b) ∧ b < w.heap.size
/-- A store behind w's end. -/
theorem grown_far {w W : World} {b : Nat} (h : w.grownBy W (some b)) (P j : Nat) (v : Value) (hP : w.heap.size ≤ P) : w.grownBy (W.setCell ⟨P, j, none⟩ v) (some b) :=
  ⟨h.os, h.tape, h.output, by simp [World.setCell]; exact h.size, fun k hk hb => (Below.heap_setCell _ _ _ _ (show k ≠ P by omega)).trans (h.block k hk hb)⟩
theorem RQ.start {b : Nat} {w : World} {e : Int} {s : ByteArray} {t : Int} (h : RB b e s t w) : RQ b w e s t (w.alloc (.cells #[.int .i64 0, .int .i64 0, .string ⟨#[]⟩, .int .i64 0, .bool false, .int .i64 0, .int .i64 0, .slice none 0 0, .slice none 0 0] 28)) := by
  have hb := (Below.refl w.heap.size w).alloc (Nat.le_refl _) (.cells #[.int .i64 0, .int .i64 0, .string ⟨#[]⟩, .int .i64 0, .bool false, .int .i64 0, .int .i64 0, .slice none 0 0, .slice none 0 0] 28)
  exact ⟨h.below hb, heap_new _ _, grown_below hb, h.lt⟩
theorem RQ.then {b : Nat} {w W W' : World} {e e' : Int} {s : ByteArray} {t t' : Int} (h : RQ b w e s t W) (k : RS b W e' s t' W') : RQ b w e' s t' W' :=
  ⟨k.1, (k.2.block _ (lt_of_block h.2.1) (by have := h.2.2.2; simp; omega)).trans h.2.1, h.2.2.1.trans k.2, h.2.2.2⟩
theorem RQ.below {b : Nat} {w W W' : World} {e : Int} {s : ByteArray} {t : Int} (h : RQ b w e s t W) (k : Below W.heap.size W W') : RQ b w e s t W' :=
  ⟨h.1.below k, below_block k (lt_of_block h.2.1) h.2.1, h.2.2.1.trans (grown_below k), h.2.2.2⟩
theorem RQ.cell {b : Nat} {w W : World} {e : Int} {s : ByteArray} {t : Int} (h : RQ b w e s t W) (j : Nat) {v : Value} (hj : (#[.int .i64 0, .int .i64 0, .string ⟨#[]⟩, .int .i64 0, .bool false, .int .i64 0, .int .i64 0, .slice none 0 0, .slice none 0 0] : Array Value)[j]? = some v) : W.cell? ⟨w.heap.size, j, none⟩ = some v := cell_of_block h.2.1 hj
theorem RQ.free {b : Nat} {w W : World} {e : Int} {s : ByteArray} {t : Int} (h : RQ b w e s t W) (j : Nat) : W.frozen? ⟨w.heap.size, j, none⟩ = false := free_of_block h.2.1
/-- The answer is laid. -/
theorem RQ.laid {b : Nat} {w W : World} {e : Int} {s : ByteArray} {t : Int} (h : RQ b w e s t W) (u0 u1 u2 u3 u4 u5 u6 u7 u8 : Value) :
    RB b e s t (((((((((W.setCell ⟨w.heap.size, 0, none⟩ u0).setCell ⟨w.heap.size, 1, none⟩ u1).setCell ⟨w.heap.size, 2, none⟩ u2).setCell ⟨w.heap.size, 3, none⟩ u3).setCell ⟨w.heap.size, 4, none⟩ u4).setCell ⟨w.heap.size, 5, none⟩ u5).setCell ⟨w.heap.size, 6, none⟩ u6).setCell ⟨w.heap.size, 7, none⟩ u7).setCell ⟨w.heap.size, 8, none⟩ u8) ∧
    w.grownBy (((((((((W.setCell ⟨w.heap.size, 0, none⟩ u0).setCell ⟨w.heap.size, 1, none⟩ u1).setCell ⟨w.heap.size, 2, none⟩ u2).setCell ⟨w.heap.size, 3, none⟩ u3).setCell ⟨w.heap.size, 4, none⟩ u4).setCell ⟨w.heap.size, 5, none⟩ u5).setCell ⟨w.heap.size, 6, none⟩ u6).setCell ⟨w.heap.size, 7, none⟩ u7).setCell ⟨w.heap.size, 8, none⟩ u8) (some b) := by
  have hne : b ≠ w.heap.size := by have := h.2.2.2; omega
  refine ⟨?_, ?_⟩
  · unfold RB
    exact heap_store_other (heap_store_other (heap_store_other (heap_store_other (heap_store_other (heap_store_other (heap_store_other (heap_store_other (heap_store_other h.1 hne) hne) hne) hne) hne) hne) hne) hne) hne
  · have hl := Nat.le_refl w.heap.size
    exact grown_far (grown_far (grown_far (grown_far (grown_far (grown_far (grown_far (grown_far (grown_far h.2.2.1 _ _ _ hl) _ _ _ hl) _ _ _ hl) _ _ _ hl) _ _ _ hl) _ _ _ hl) _ _ _ hl) _ _ _ hl) _ _ _ hl

/-- What a reader answers: the error, and the message where there is none. -/
def RMPost (b : Nat) (s : ByteArray) (x : Int × Msg) (w : World) (r : Ending) (W : World) : Prop :=
  ∃ (m : Msg) (p : Option Addr) (n c : Nat) (p' : Option Addr) (n' c' : Nat) (t : Int), r = .returned (m.val (.slice p n c) (.slice p' n' c')) ∧ RB b x.1 s t W ∧ w.grownBy W (some b) ∧
    (x.1 = 0 → m = x.2 ∧ AddrsG w.heap.size true W (.slice p n c) m.srcs ∧ RecsG w.heap.size true W (.slice p' n' c') m.recs)

/-- A message's box too. -/
def RP (b : Nat) (w : World) (P : Nat) (xs : Array Value) (e : Int) (s : ByteArray) (t : Int) (W : World) : Prop :=
  RQ b w e s t W ∧ W.heap[P]? = some (.cells xs 28 (0, 0)) ∧ w.heap.size < P
theorem RP.start {b : Nat} {w W : World} (xs : Array Value) {e : Int} {s : ByteArray} {t : Int} (h : RQ b w e s t W) : RP b w W.heap.size xs e s t (W.alloc (.cells xs 28)) :=
  ⟨h.below ((Below.refl _ W).alloc (Nat.le_refl _) _), heap_new _ _, lt_of_block h.2.1⟩
theorem RP.then {b P : Nat} {w W W' : World} {xs : Array Value} {e e' : Int} {s : ByteArray} {t t' : Int} (h : RP b w P xs e s t W) (k : RS b W e' s t' W') : RP b w P xs e' s t' W' :=
  ⟨h.1.then k, (k.2.block _ (lt_of_block h.2.1) (by have := h.1.2.2.2; have := h.2.2; simp; omega)).trans h.2.1, h.2.2⟩
theorem RP.below {b P : Nat} {w W W' : World} {xs : Array Value} {e : Int} {s : ByteArray} {t : Int} (h : RP b w P xs e s t W) (k : Below W.heap.size W W') : RP b w P xs e s t W' :=
  ⟨h.1.below k, below_block k (lt_of_block h.2.1) h.2.1, h.2.2⟩
theorem RP.cell {b P : Nat} {w W : World} {xs : Array Value} {e : Int} {s : ByteArray} {t : Int} (h : RP b w P xs e s t W) (j : Nat) {v : Value} (hj : xs[j]? = some v) : W.cell? ⟨P, j, none⟩ = some v := cell_of_block h.2.1 hj
theorem RP.free {b P : Nat} {w W : World} {xs : Array Value} {e : Int} {s : ByteArray} {t : Int} (h : RP b w P xs e s t W) (j : Nat) : W.frozen? ⟨P, j, none⟩ = false := free_of_block h.2.1
theorem RP.store {b P : Nat} {w W : World} {xs : Array Value} {e : Int} {s : ByteArray} {t : Int} (h : RP b w P xs e s t W) (j : Nat) (v : Value) : RP b w P (xs.setIfInBounds j v) e s t (W.setCell ⟨P, j, none⟩ v) := by
  have h1 := h.1.2.2.2
  have h2 := h.2.2
  exact ⟨⟨heap_store_other h.1.1 (by omega), heap_store_other h.1.2.1 (by omega), grown_far h.1.2.2.1 _ _ _ (Nat.le_of_lt h2), h1⟩, heap_store h.2.1, h2⟩

/-- A message of one group, at the bytes behind the head. -/
def oneD (s : ByteArray) (k : Int) : Int × Msg :=
  if s.size < 24 then (2, zeroM) else if grpB (s.extract 8 24) 16 then (0, ⟨k, 1, s.extract 8 24, 0, false, 0, 0, [], []⟩) else (3, zeroM)

set_option maxHeartbeats 4000000 in
set_option maxRecDepth 100000 in
theorem oner (b : Nat) (s : ByteArray) (k : Int) (w : World) (h : RB b 0 s 4 w) (hs : s.size ≤ 281474976710000) :
    Calls Tryz.prog 42 #[.pointer (some ⟨b, 0, none⟩), .int .i64 k] w (RMPost b s (oneD s k) w) := by
  obtain ⟨g, e1, hc, V⟩ : ∃ g e1, cutSpec s 8 16 = (g, e1) ∧ ((if grpB g 16 then e1 else kI e1 3), if s.size < 24 then zeroM else if grpB g 16 then ⟨k, 1, g, 0, false, 0, 0, [], []⟩ else zeroM) = oneD s k := by
    by_cases hc : s.size < 24
    · refine ⟨_, _, cut_no s 8 (by omega), ?_⟩
      unfold oneD
      rw [if_pos hc, if_pos hc]
      rfl
    · refine ⟨_, _, cut_fit s 8 (by omega), ?_⟩
      unfold oneD
      rw [if_neg hc, if_neg hc]
      split <;> rfl
  have HV : (oneD s k).1 = (if grpB g 16 then e1 else kI e1 3) := by rw [← V]
  have HM : (oneD s k).1 = 0 → (oneD s k).2 = ⟨k, 1, g, 0, false, 0, 0, [], []⟩ := by
    intro h0
    rw [← V] at h0 ⊢
    simp only at h0 ⊢
    by_cases hc' : s.size < 24
    · have := cut_no s 8 (by omega)
      rw [show ((8 : Nat) : Int) = 8 from rfl, hc] at this
      obtain ⟨rfl, rfl⟩ := Prod.mk.inj this
      exact absurd h0 (by decide)
    · rw [if_neg hc']
      have := cut_fit s 8 (by omega)
      rw [show ((8 : Nat) : Int) = 8 from rfl, hc] at this
      obtain ⟨rfl, rfl⟩ := Prod.mk.inj this
      by_cases hg : grpB (s.extract 8 24) 16 = true
      · rw [if_pos hg]
      · rw [if_neg hg] at h0
        exact absurd h0 (by decide)
  have V1 := Lib.hid HV
  have V2 := Lib.hid HM
  have HS := Lib.hid fun U h => skipr b 0 s 4 4 U h (by omega) (by omega) (by omega) (by omega)
  have HA := Lib.hid fun U h => addrr b 0 s 8 U h (by omega) (by omega) hs
  rw [hc] at HA
  simp only [kI, if_true] at HA
  have HG := Lib.hid fun U => misgroup_c g U
  generalize oneD s k = OD at *
  obtain ⟨oe, om⟩ := OD
  simp only at V1 V2
  have HN := Lib.hid fun U h => needr b e1 s 24 (grpB g 16) 3 U h
  rw [← V1.out] at HN
  generalize grpB g 16 = gb at *
  have Q := Lib.hid (RQ.start h)
  clear h hc V HV HM V1
  go_enter Tryz.func42, Tryz.ntmps42
  go_wp2_with fail
  refine (HS.out _ Q.out.1).mono ?_
  rintro r w1 ⟨rfl, h1⟩
  replace Q := Lib.hid (Q.out.then h1)
  clear h1
  go_wp2_with fail
  refine (HA.out _ Q.out.1).mono ?_
  rintro r w2 ⟨rfl, h1⟩
  replace Q := Lib.hid (Q.out.then h1)
  clear h1
  go_upto_region 3 with fail
  have HP := Lib.hid (RP.start #[.int .i64 k, .int .i64 1, .string g, .int .i64 0, .bool false, .int .i64 0, .int .i64 0, .slice none 0 0, .slice none 0 0] Q.out)
  have hne : w2.heap.size ≠ b := by have := Q.out.1.lt; omega
  generalize w2.alloc (.cells #[.int .i64 k, .int .i64 1, .string g, .int .i64 0, .bool false, .int .i64 0, .int .i64 0, .slice none 0 0, .slice none 0 0] 28) = W2 at HP ⊢
  generalize w2.heap.size = P at HP hne ⊢
  have c2 := HP.out.cell 2 rfl
  clear Q
  have HPd := Lib.hid (HP.out.below ((Below.refl _ W2).drew))
  go_region_with (first
    | (go_at_call 71; refine (HG.out _).mono ?_; rintro r w3 ⟨rfl, h3⟩; have HP3 := Lib.hid (HPd.out.below h3))
    | (go_at_call 44; refine (HN.out _ HP3.out.1.1).mono ?_; rintro r w4 ⟨rfl, h4⟩))
  all_goals
    have HP4 := Lib.hid (HP3.out.then h4)
    clear h4 HP3 HP HPd h3 c2
    have c0 := HP4.out.cell 0 rfl
    have c1 := HP4.out.cell 1 rfl
    have c2 := HP4.out.cell 2 rfl
    have c3 := HP4.out.cell 3 rfl
    have c4 := HP4.out.cell 4 rfl
    have c5 := HP4.out.cell 5 rfl
    have c6 := HP4.out.cell 6 rfl
    have c7 := HP4.out.cell 7 rfl
    have c8 := HP4.out.cell 8 rfl
    have r0 := HP4.out.1.cell 0 rfl
    have r1 := HP4.out.1.cell 1 rfl
    have r2 := HP4.out.1.cell 2 rfl
    have r3 := HP4.out.1.cell 3 rfl
    have r4 := HP4.out.1.cell 4 rfl
    have r5 := HP4.out.1.cell 5 rfl
    have r6 := HP4.out.1.cell 6 rfl
    have r7 := HP4.out.1.cell 7 rfl
    have r8 := HP4.out.1.cell 8 rfl
    have g0 := HP4.out.1.free 0
    have g1 := HP4.out.1.free 1
    have g2 := HP4.out.1.free 2
    have g3 := HP4.out.1.free 3
    have g4 := HP4.out.1.free 4
    have g5 := HP4.out.1.free 5
    have g6 := HP4.out.1.free 6
    have g7 := HP4.out.1.free 7
    have g8 := HP4.out.1.free 8
    go_wp2
    refine bodyPost_ret (v := .agg #[.int .i64 k, .int .i64 1, .string g, .int .i64 0, .bool false, .int .i64 0, .int .i64 0, .slice none 0 0, .slice none 0 0]) (by simp [results, Tryz.results42, go_sem, r0, r1, r2, r3, r4, r5, r6, r7, r8]) rfl ?_
    obtain ⟨l1, l2⟩ := HP4.out.1.laid (.int .i64 k) (.int .i64 1) (.string g) (.int .i64 0) (.bool false) (.int .i64 0) (.int .i64 0) (.slice none 0 0) (.slice none 0 0)
    refine ⟨⟨k, 1, g, 0, false, 0, 0, [], []⟩, none, 0, 0, none, 0, 0, _, rfl, l1, l2, fun h0 => ⟨(V2.out h0).symm, AddrsG.nil _ _ _, RecsG.nil _ _ _⟩⟩

theorem get_fit (s : ByteArray) (t k : Int) (t0 : 0 ≤ t) (k1 : 1 ≤ k) (k4 : k ≤ 4) (h : t + k ≤ s.size) : (getSpec s t k).2 = 0 := by
  unfold getSpec
  rw [if_neg (by omega), if_neg (by omega)]
/-- A number, where it stands there, or an error has been met. -/
theorem numr (b : Nat) (e : Int) (s : ByteArray) (t k t' : Int) (w : World) (h : RB b e s t w) (t1 : 0 ≤ t) (t2 : t ≤ 1000000) (k1 : 1 ≤ k) (k2 : k ≤ 4) (hs : s.size ≤ 281474976710000) (he : e = 0 → t + k ≤ s.size) (ht : t + k = t') :
    Calls Tryz.prog 39 #[.pointer (some ⟨b, 0, none⟩), .int .i64 k] w (RPost b (.int .i64 (numv s t k)) e s t' w) := by
  have := numberr b e s t k w h t1 (by omega) (by omega) k2 hs
  have hk : kI e (getSpec s t k).2 = e := by
    unfold kI
    split
    · next h0 => rw [get_fit s t k t1 k1 k2 (he h0), h0]
    · rfl
  rw [hk, ht] at this
  exact this

/-- All blocks of w but b and P stand in W. -/
def Fr2 (b P : Nat) (w W : World) : Prop := W.os = w.os ∧ W.tape = w.tape ∧ W.output = w.output ∧ w.heap.size ≤ W.heap.size ∧ ∀ k, k < w.heap.size → k ≠ b → k ≠ P → W.heap[k]? = w.heap[k]?
theorem Fr2.refl (b P : Nat) (w : World) : Fr2 b P w w := ⟨rfl, rfl, rfl, Nat.le_refl _, fun _ _ _ _ => rfl⟩
theorem Fr2.then {b P : Nat} {w W W' : World} (h : Fr2 b P w W) (k : W.grownBy W' (some b)) : Fr2 b P w W' :=
  ⟨k.os.trans h.1, k.tape.trans h.2.1, k.output.trans h.2.2.1, Nat.le_trans h.2.2.2.1 k.size, fun j hj hb hP => (k.block j (Nat.lt_of_lt_of_le hj h.2.2.2.1) (by simp; omega)).trans (h.2.2.2.2 j hj hb hP)⟩
theorem Fr2.store {b P : Nat} {w W : World} (h : Fr2 b P w W) (j : Nat) (v : Value) : Fr2 b P w (W.setCell ⟨P, j, none⟩ v) :=
  ⟨h.1, h.2.1, h.2.2.1, by simp [World.setCell]; exact h.2.2.2.1, fun k hk hb hP => (Below.heap_setCell _ _ _ _ hP).trans (h.2.2.2.2 k hk hb hP)⟩

/-- A reader at b and a message's box at P, at work since w. -/
def DS (b P : Nat) (w : World) (xs : Array Value) (e : Int) (s : ByteArray) (t : Int) (W : World) : Prop :=
  RB b e s t W ∧ W.heap[P]? = some (.cells xs 28 (0, 0)) ∧ Fr2 b P w W ∧ b < P
theorem DS.then {b P : Nat} {w W W' : World} {xs : Array Value} {e e' : Int} {s : ByteArray} {t t' : Int} (h : DS b P w xs e s t W) (k : RS b W e' s t' W') : DS b P w xs e' s t' W' :=
  ⟨k.1, (k.2.block _ (lt_of_block h.2.1) (by have := h.2.2.2; simp; omega)).trans h.2.1, h.2.2.1.then k.2, h.2.2.2⟩
theorem DS.below {b P : Nat} {w W W' : World} {xs : Array Value} {e : Int} {s : ByteArray} {t : Int} (h : DS b P w xs e s t W) (k : Below W.heap.size W W') : DS b P w xs e s t W' :=
  ⟨h.1.below k, below_block k (lt_of_block h.2.1) h.2.1, h.2.2.1.then (grown_below k), h.2.2.2⟩
theorem DS.store {b P : Nat} {w W : World} {xs : Array Value} {e : Int} {s : ByteArray} {t : Int} (h : DS b P w xs e s t W) (j : Nat) (v : Value) : DS b P w (xs.setIfInBounds j v) e s t (W.setCell ⟨P, j, none⟩ v) :=
  ⟨heap_store_other h.1 (by have := h.2.2.2; omega), heap_store h.2.1, h.2.2.1.store j v, h.2.2.2⟩
theorem DS.cell {b P : Nat} {w W : World} {xs : Array Value} {e : Int} {s : ByteArray} {t : Int} (h : DS b P w xs e s t W) (j : Nat) {v : Value} (hj : xs[j]? = some v) : W.cell? ⟨P, j, none⟩ = some v := cell_of_block h.2.1 hj
theorem DS.free {b P : Nat} {w W : World} {xs : Array Value} {e : Int} {s : ByteArray} {t : Int} (h : DS b P w xs e s t W) (j : Nat) : W.frozen? ⟨P, j, none⟩ = false := free_of_block h.2.1

/-- The details' error. -/
def dtE (s : ByteArray) : Int :=
  if s.size < 28 then 3 else if 60 < (numv s 26 2).toNat then 3 else if s.size < 28 + (numv s 26 2).toNat * 16 then 2 else 0
def DPost (b P : Nat) (s g : ByteArray) (mx : Int) (w : World) (r : Ending) (W : World) : Prop :=
  r = .returned (.tuple #[]) ∧ ∃ (q : Bool) (rob ev : Int) (p : Option Addr) (n c : Nat) (t : Int),
    DS b P w #[.int .i64 1, .int .i64 2, .string g, .int .i64 (decI 12 mx).1, .bool q, .int .i64 rob, .int .i64 ev, .slice p n c, .slice none 0 0] (dtE s) s t W ∧
    (dtE s = 0 → q = decide (byt s 24 / 8 % 2 = 1) ∧ rob = ((byt s 24 % 8 : Nat) : Int) ∧ ev = (decI 4 (byt s 25)).1 ∧ n = (numv s 26 2).toNat ∧ AddrsG (P + 1) true W (.slice p n c) (addrsL s 28 (numv s 26 2).toNat 16))

theorem dec16_b (c : Int) (w : World) :
    Calls Tryz.prog 76 #[.int .i64 c] w fun e w' => e = .returned (.tuple #[.int .i64 (decI 12 c).1, .int .i64 (decI 12 c).2]) ∧ Below w.heap.size w w' :=
  (dec16_c c w).mono fun _ _ ⟨h, n, hn⟩ => ⟨h, by rw [hn]; exact below_drewN (Below.refl _ _) _⟩

theorem flags_at (s : ByteArray) (h : 24 < s.size) : numv s 24 1 = (byt s 24 : Int) ∧ (bits .and .i64 (numv s 24 1) 8 != 0) = decide (byt s 24 / 8 % 2 = 1) ∧ bits .and .i64 (numv s 24 1) 7 = ((byt s 24 % 8 : Nat) : Int) := by
  have e0 : numv s 24 1 = (byt s 24 : Int) := by
    have := numv_byte s 24 h
    rw [byt_get s 24 h] at this
    exact this
  have b8 : byt s 24 < 256 := by unfold byt; exact UInt8.toNat_lt _
  refine ⟨e0, ?_, ?_⟩
  · rw [e0]
    have := i64_bit (byt s 24 : Int) 3 (by omega) (by omega) (by omega)
    rw [show (((2 ^ 3 : Nat) : Int)) = 8 from rfl] at this
    rw [this]
    by_cases hb : byt s 24 / 8 % 2 = 1
    · rw [decide_eq_true hb]
      simp only [bne_iff_ne, ne_eq]
      omega
    · rw [decide_eq_false hb]
      have : (byt s 24 : Int) / 8 % 2 = 0 := by omega
      rw [this]
      rfl
  · rw [e0]
    have := i64_mask (byt s 24 : Int) 3 (by omega) (by omega) (by omega)
    rw [show (((2 ^ 3 - 1 : Nat) : Int)) = 7 from rfl, show (((2 ^ 3 : Nat) : Int)) = 8 from rfl] at this
    rw [this]
    omega

set_option maxHeartbeats 4000000 in
set_option maxRecDepth 100000 in
theorem detailsr (b P : Nat) (s g : ByteArray) (mx : Int) (w : World) (h : RB b 0 s 24 w) (hP : w.heap[P]? = some (.cells #[.int .i64 1, .int .i64 1, .string g, .int .i64 mx, .bool false, .int .i64 0, .int .i64 0, .slice none 0 0, .slice none 0 0] 28 (0, 0))) (hb : b < P) (hs : s.size ≤ 281474976710000) (h24 : 24 < s.size) :
    Calls Tryz.prog 70 #[.pointer (some ⟨b, 0, none⟩), .pointer (some ⟨P, 0, none⟩)] w (DPost b P s g mx w) := by
  have D := Lib.hid (show DS b P w _ 0 s 24 w from ⟨h, hP, Fr2.refl _ _ _, hb⟩)
  have HL := Lib.hid fun U h => leftr b 0 s 24 U h (by omega) (by omega) hs
  obtain ⟨q0, e0, hq0, he0, hcase⟩ : ∃ (q0 : Bool) (e0 : Int), decide ((4 : Int) ≤ (s.size : Int) - 24) = q0 ∧ (if q0 then (0 : Int) else kI 0 3) = e0 ∧ (e0 = 0 ∧ 28 ≤ s.size ∨ e0 = 3 ∧ s.size < 28) := by
    by_cases hc : 28 ≤ s.size
    · exact ⟨true, 0, decide_eq_true (by omega), rfl, .inl ⟨rfl, hc⟩⟩
    · exact ⟨false, 3, decide_eq_false (by omega), rfl, .inr ⟨rfl, by omega⟩⟩
  have HN := Lib.hid fun U h => needr b 0 s 24 q0 3 U h
  rw [he0] at HN
  have H1 := Lib.hid fun U h => numr b e0 s 24 1 25 U h (by omega) (by omega) (by omega) (by omega) hs (by omega) rfl
  have H2 := Lib.hid fun U h => numr b e0 s 25 1 26 U h (by omega) (by omega) (by omega) (by omega) hs (by omega) rfl
  have H3 := Lib.hid fun U h => numr b e0 s 26 2 28 U h (by omega) (by omega) (by omega) (by omega) hs (by omega) rfl
  have HD16 := Lib.hid fun U => dec16_b mx U
  have HD8 := Lib.hid fun U => dec8_b (numv s 25 1) U
  have bn := numv_le2 s 26
  obtain ⟨N, hN⟩ := Int.eq_ofNat_of_zero_le bn.1
  have hNt : (numv s 26 2).toNat = N := by rw [hN, Int.toNat_natCast]
  obtain ⟨q5, e5, hq5, he5, hfin⟩ : ∃ (q5 : Bool) (e5 : Int), decide ((N : Int) ≤ 60) = q5 ∧ (if q5 then e0 else kI e0 3) = e5 ∧ (e5 = 0 ∧ 28 ≤ s.size ∧ N ≤ 60 ∨ e5 ≠ 0 ∧ dtE s = e5) := by
    by_cases hc : N ≤ 60
    · refine ⟨true, e0, decide_eq_true (by omega), rfl, ?_⟩
      rcases hcase with ⟨rfl, h28⟩ | ⟨rfl, h28⟩
      · exact .inl ⟨rfl, h28, hc⟩
      · exact .inr ⟨by decide, by unfold dtE; rw [if_pos h28]⟩
    · refine ⟨false, 3, decide_eq_false (by omega), ?_, .inr ⟨by decide, ?_⟩⟩
      · rcases hcase with ⟨rfl, h28⟩ | ⟨rfl, h28⟩ <;> rfl
      · unfold dtE
        rw [hNt]
        split
        · rfl
        · rw [if_pos (by omega)]
  have HN5 := Lib.hid fun U h => needr b e0 s 28 q5 3 U h
  rw [he5] at HN5
  rw [hN] at H3
  obtain ⟨f1, f2, f3⟩ := flags_at s h24
  have FL := Lib.hid (And.intro f2 f3)
  have c25 : 28 ≤ s.size → numv s 25 1 = (byt s 25 : Int) := fun h => by
    have := numv_byte s 25 (by omega)
    rw [byt_get s 25 (by omega)] at this
    exact this
  have C25 := Lib.hid c25
  unfold DPost
  rw [hNt]
  generalize numv s 24 1 = F at *
  generalize numv s 25 1 = C at *
  generalize (decI 12 mx).1 = M16 at *
  generalize (decI 12 mx).2 = M16' at *
  have EV := Lib.hid fun (h : 28 ≤ s.size) => show (decI 4 C).1 = (decI 4 (byt s 25 : Int)).1 by rw [c25 h]
  generalize (decI 4 C).1 = E8 at *
  generalize (decI 4 C).2 = E8' at *
  have HDT := Lib.hid fun (h1 : 28 ≤ s.size) (h2 : N ≤ 60) => show dtE s = if 28 + N * 16 ≤ s.size then 0 else 2 by
    unfold dtE
    rw [hNt, if_neg (by omega), if_neg (by omega)]
    split <;> split <;> first | rfl | omega
  have HA := Lib.hid fun (n60 : N ≤ 60) (h28 : 28 ≤ s.size) U h => addrsr_ok b s 28 N U h h28 hs n60
  have HA0 := Lib.hid fun (h0 : e5 ≠ 0) U h => addrsr_no b e5 s 28 N U h h0
  generalize dtE s = DE at *
  have FN := Lib.hid hfin
  clear h hP hcase he0 he5 hN hNt bn f1 f2 f3 c25 C25 hfin
  go_enter Tryz.func70, Tryz.ntmps70
  go_wp2_with fail
  have Dd := Lib.hid (D.out.below ((Below.refl _ w).drew))
  go_region_with (first
    | (go_at_call 69; refine (HL.out _ Dd.out.1).mono ?_; rintro r w1 ⟨rfl, h1⟩; have D1 := Lib.hid (Dd.out.below h1))
    | (go_at_call 44; refine (HN.out _ D1.out.1).mono ?_; rintro r w2 ⟨rfl, h2⟩))
  all_goals
    have D2 := Lib.hid (D1.out.then h2)
    clear D Dd D1 h1 h2
    have f1 := D2.out.free 1
    have c1 := D2.out.cell 1 rfl
    have c3 := D2.out.cell 3 rfl
    have f3 := D2.out.free 3
    go_wp2_with fail
    ((with_reducible refine (HD16.out _).mono ?_); rintro r w3 ⟨rfl, h3⟩)
    replace D2 := Lib.hid ((D2.out.store 1 (.int .i64 2)).below h3)
    clear h3 f1 c1 c3 f3
    have f3 := D2.out.free 3
    have c3 := D2.out.cell 3 rfl
    go_wp2_with fail
    have D3 := Lib.hid (D2.out.store 3 (.int .i64 M16))
    refine (H1.out _ D3.out.1).mono ?_
    rintro r w4 ⟨rfl, h4⟩
    replace D3 := Lib.hid (D3.out.then h4)
    clear h4 D2 f3 c3
    have f4 := D3.out.free 4
    have f5 := D3.out.free 5
    have c4 := D3.out.cell 4 rfl
    have c5 := D3.out.cell 5 rfl
    go_wp2_with fail
    have D4 := Lib.hid ((D3.out.store 4 (.bool (bits .and .i64 F 8 != 0))).store 5 (.int .i64 (bits .and .i64 F 7)))
    refine (H2.out _ D4.out.1).mono ?_
    rintro r w5 ⟨rfl, h5⟩
    replace D4 := Lib.hid (D4.out.then h5)
    clear h5 D3 f4 f5 c4 c5
    go_wp2_with fail
    ((with_reducible refine (HD8.out _).mono ?_); rintro r w6 ⟨rfl, h6⟩)
    replace D4 := Lib.hid (D4.out.below h6)
    clear h6
    have f6 := D4.out.free 6
    have c6 := D4.out.cell 6 rfl
    go_wp2_with fail
    have D5 := Lib.hid (D4.out.store 6 (.int .i64 E8))
    refine (H3.out _ D5.out.1).mono ?_
    rintro r w7 ⟨rfl, h7⟩
    replace D5 := Lib.hid (D5.out.then h7)
    clear h7 D4 f6 c6
    go_wp2_with fail
    refine (HN5.out _ D5.out.1).mono ?_
    rintro r w8 ⟨rfl, h8⟩
    replace D5 := Lib.hid (D5.out.then h8)
    clear h8
    rcases FN.out with ⟨z0, z28, z60⟩ | ⟨z0, zd⟩
    · have HA1 := Lib.hid (HA.out z60 z28)
      have hd := Lib.hid (HDT.out z28 z60)
      have ev := Lib.hid (EV.out z28)
      subst z0
      clear HA HA0 HDT EV z28 z60
      go_wp2_with fail
      refine (HA1.out _ D5.out.1).mono ?_
      rintro r w9 ⟨v, e9, t9, rfl, h9, ⟨p, m, c, rfl⟩, he9, ha9⟩
      have D6 := Lib.hid (D5.out.then h9)
      have hb9 := lt_of_block D5.out.2.1
      have f7 := D6.out.free 7
      have c7 := D6.out.cell 7 rfl
      have HA9 := Lib.hid ha9
      have HE9 := Lib.hid he9
      clear h9 ha9 he9 D5
      go_wp2_with fail
      go_end0
      have D7 := D6.out.store 7 (.slice p m c)
      have hde : e9 = DE := by rw [HE9.out, hd.out]
      subst hde
      refine ⟨rfl, _, _, _, p, m, c, _, D7, fun h0 => ?_⟩
      have ha := HA9.out h0
      obtain ⟨p', c', hh⟩ := ha.slice
      rw [addrsL_length] at hh
      refine ⟨FL.out.1, FL.out.2, ev.out, ?_, ?_⟩
      · cases hh; rfl
      · exact (ha.mono (show P + 1 ≤ _ from hb9) id).store (Nat.lt_succ_self P)
    · have HA1 := Lib.hid (HA0.out z0)
      clear HA HA0 HDT EV
      go_wp2_with fail
      refine (HA1.out _ D5.out.1).mono ?_
      rintro r w9 ⟨rfl, rfl⟩
      have f7 := D5.out.free 7
      have c7 := D5.out.cell 7 rfl
      go_wp2_with fail
      go_end0
      have D7 := D5.out.store 7 (.slice none 0 0)
      subst zd
      refine ⟨rfl, _, _, _, none, 0, 0, _, D7, fun h0 => absurd h0 z0⟩

def none6 : ByteArray := ⟨#[0, 0, 0, 0, 0, 0, 0, 0, 0, 0, 0, 0, 0, 0, 0, 0]⟩
/-- Group of a query. -/
def grpQ (s : ByteArray) : ByteArray := if s.extract 8 24 = none6 then ⟨#[]⟩ else s.extract 8 24
/-- A query, at the bytes behind the head. -/
def qryD (s : ByteArray) : Int × Msg :=
  if s.size < 24 then (2, zeroM)
  else if s.size = 24 then (if qGrp6 (grpQ s) 0 then (0, ⟨1, 1, grpQ s, numv s 4 2, false, 0, 0, [], []⟩) else (3, zeroM))
  else if dtE s ≠ 0 then (dtE s, zeroM)
  else if qGrp6 (grpQ s) (numv s 26 2).toNat then
    (0, ⟨1, 2, grpQ s, (decI 12 (numv s 4 2)).1, decide (byt s 24 / 8 % 2 = 1), ((byt s 24 % 8 : Nat) : Int), (decI 4 (byt s 25)).1, addrsL s 28 (numv s 26 2).toNat 16, []⟩)
  else (3, zeroM)

theorem RP.det {b P : Nat} {w W W' : World} {xs xs' : Array Value} {e e' : Int} {s : ByteArray} {t t' : Int} (h : RP b w P xs e s t W) (k : DS b P W xs' e' s t' W') : RP b w P xs' e' s t' W' := by
  have h1 := h.1.2.2.2
  have h2 := h.2.2
  refine ⟨⟨k.1, (k.2.2.1.2.2.2.2 _ (lt_of_block h.1.2.1) (by omega) (by omega)).trans h.1.2.1, ?_, h1⟩, k.2.1, h2⟩
  obtain ⟨q1, q2, q3, q4, q5⟩ := k.2.2.1
  have hb := h.1.2.2.1
  exact ⟨q1.trans hb.os, q2.trans hb.tape, q3.trans hb.output, Nat.le_trans hb.size q4, fun j hj hjb => (q5 j (by have := hb.size; omega) (by simp at hjb; omega) (by omega)).trans (hb.block j hj hjb)⟩

/-- The end of a query's reading: its group is looked at, and the message handed back. -/
theorem rm_end {b : Nat} {s : ByteArray} {x : Int × Msg} {w W : World} {P : Nat} {k v : Int} {g : ByteArray} {mx : Int} {q : Bool} {rob ev : Int} {p : Option Addr} {n c : Nat} {p' : Option Addr} {n' c' : Nat} {e : Int} {t : Int} {xs : Array Value}
    (h : RP b w P xs e s t W) (he : e = x.1) (hm : x.1 = 0 → ∃ ss rs, ⟨k, v, g, mx, q, rob, ev, ss, rs⟩ = x.2 ∧ AddrsG (w.heap.size + 1) true W (.slice p n c) ss ∧ RecsG (w.heap.size + 1) true W (.slice p' n' c') rs) :
    RMPost b s x w (.returned (.agg #[.int .i64 k, .int .i64 v, .string g, .int .i64 mx, .bool q, .int .i64 rob, .int .i64 ev, .slice p n c, .slice p' n' c'])) (((((((((W.setCell ⟨w.heap.size, 0, none⟩ (.int .i64 k)).setCell ⟨w.heap.size, 1, none⟩ (.int .i64 v)).setCell ⟨w.heap.size, 2, none⟩ (.string g)).setCell ⟨w.heap.size, 3, none⟩ (.int .i64 mx)).setCell ⟨w.heap.size, 4, none⟩ (.bool q)).setCell ⟨w.heap.size, 5, none⟩ (.int .i64 rob)).setCell ⟨w.heap.size, 6, none⟩ (.int .i64 ev)).setCell ⟨w.heap.size, 7, none⟩ (.slice p n c)).setCell ⟨w.heap.size, 8, none⟩ (.slice p' n' c')) := by
  obtain ⟨l1, l2⟩ := h.1.laid (.int .i64 k) (.int .i64 v) (.string g) (.int .i64 mx) (.bool q) (.int .i64 rob) (.int .i64 ev) (.slice p n c) (.slice p' n' c')
  have hb := h.1.2.2.2
  by_cases h0 : x.1 = 0
  · obtain ⟨ss, rs, e1, e2, e3⟩ := hm h0
    refine ⟨⟨k, v, g, mx, q, rob, ev, ss, rs⟩, p, n, c, p', n', c', t, rfl, he ▸ l1, l2, fun _ => ⟨e1, ?_, ?_⟩⟩
    · exact e2.storeN9 w.heap.size (Nat.lt_succ_self _)
    · exact e3.storeN9 w.heap.size (Nat.lt_succ_self _)
  · exact ⟨⟨k, v, g, mx, q, rob, ev, [], []⟩, p, n, c, p', n', c', t, rfl, he ▸ l1, l2, fun h => absurd h h0⟩

/-- A report of version 2, at the bytes behind the head. -/
def repQ (t : Int × List Rec) : Int × Msg := if t.1 ≠ 0 then (t.1, zeroM) else (0, ⟨2, 2, ⟨#[]⟩, 0, false, 0, 0, [], t.2⟩)
def repD (s : ByteArray) : Int × Msg := repQ (recsI (s.extract 8 s.size) (numv s 6 2) 16)

set_option maxHeartbeats 4000000 in
set_option maxRecDepth 100000 in
theorem recordsr (b : Nat) (s : ByteArray) (w : World) (h : RB b 0 s 4 w) (hs : s.size ≤ 281474976710000) (h8 : 8 ≤ s.size) :
    Calls Tryz.prog 43 #[.pointer (some ⟨b, 0, none⟩)] w (RMPost b s (repD s) w) := by
  have HS := Lib.hid fun U h => skipr b 0 s 4 2 U h (by omega) (by omega) (by omega) (by omega)
  have HN := Lib.hid fun U h => numr b 0 s 6 2 8 U h (by omega) (by omega) (by omega) (by omega) hs (by omega) rfl
  have bn := numv_le2 s 6
  have HR := Lib.hid fun U => recs_c (s.extract 8 s.size) (numv s 6 2) 16 U (by rw [ByteArray.size_extract]; omega) (by omega)
  have V := Lib.hid (show repD s = repQ (recsI (s.extract 8 s.size) (numv s 6 2) 16) from rfl)
  generalize repD s = OD at *
  generalize recsI (s.extract 8 s.size) (numv s 6 2) 16 = T at *
  generalize numv s 6 2 = N at *
  obtain ⟨te, tl⟩ := T
  unfold RecsPost at HR
  simp only at HR
  have HK := Lib.hid fun U h => keepr b 0 s 8 te U h
  simp only [kI, if_true] at HK
  have Q := Lib.hid (RQ.start h)
  have h8' : (8 : Int) ≤ (s.size : Int) := by omega
  have hs' : (s.size : Int) ≤ 281474976710000 := by omega
  clear h bn
  go_enter Tryz.func43, Tryz.ntmps43
  go_wp2_with fail
  refine (HS.out _ Q.out.1).mono ?_
  rintro r w1 ⟨rfl, h1⟩
  replace Q := Lib.hid (Q.out.then h1)
  clear h1
  go_wp2_with fail
  refine (HN.out _ Q.out.1).mono ?_
  rintro r w2 ⟨rfl, h1⟩
  replace Q := Lib.hid (Q.out.then h1)
  clear h1
  obtain ⟨-, c1, c2, -, -⟩ := Q.out.1.cells
  go_wp2_with fail
  have Qd := Lib.hid (Q.out.below ((Below.refl _ w2).drew))
  go_region_with (go_at_call 72; refine (HR.out _).mono ?_; rintro r w3 ⟨vr, rfl, hvr, h3⟩; have Q3 := Lib.hid (Qd.out.below h3); have hlt3 := lt_of_block Qd.out.2.1)
  all_goals
    obtain ⟨pv, cv, rfl⟩ := hvr.slice
    have HV := Lib.hid (hvr.mono (show w.heap.size + 1 ≤ _ from hlt3) id)
    clear hvr h3 c1 c2 Q Qd
    go_wp2_with fail
    refine (HK.out _ Q3.out.1).mono ?_
    rintro r w4 ⟨rfl, h4⟩
    have HV4 : Hid (te = 0 → RecsG (w.heap.size + 1) true w4 (.slice pv tl.length cv) tl) := by
      refine Lib.hid fun h0 => ?_
      subst h0
      have hb := Q3.out.2.2.2
      obtain ⟨p, cap, bb, off, e1, e2, e3⟩ := HV.out
      refine ⟨p, cap, bb, off, e1, e2, fun j rr hj => ?_⟩
      have hne : tl ≠ [] := by rintro rfl; simp at hj
      have hbb : b ≠ bb := by have := (e2 hne).2; omega
      obtain ⟨x0, x1, vs, x2, xa⟩ := e3 j rr hj
      have kc : ∀ o u, w3.cell? ⟨bb, o, none⟩ = some u → w4.cell? ⟨bb, o, none⟩ = some u := fun o u hu =>
        (World.cell?_of_block (w := w3) (a := ⟨bb, o, none⟩) (h4.2.block bb (cell_lt' hu) (by simp; omega))).trans hu
      refine ⟨kc _ _ x0, kc _ _ x1, vs, kc _ _ x2, ?_⟩
      obtain ⟨p2, cap2, b2, off2, g1, g2, g3⟩ := xa
      refine ⟨p2, cap2, b2, off2, g1, fun hL => ?_, fun i u hi => ?_⟩
      · obtain ⟨k1, k2, k3⟩ := g2 hL
        refine ⟨k1, k2, fun ht => ?_⟩
        obtain ⟨cs, f, k4⟩ := k3 ht
        exact ⟨cs, f, (h4.2.block b2 (lt_of_block k4) (by simp; omega)).trans k4⟩
      · have hL : rr.srcs ≠ [] := by intro h; rw [h] at hi; simp at hi
        have k2 := (g2 hL).2.1
        exact (World.cell?_of_block (w := w3) (a := ⟨b2, off2 + i, none⟩) (h4.2.block b2 (cell_lt' (g3 i u hi)) (by simp; omega))).trans (g3 i u hi)
    have Q4 := Lib.hid (Q3.out.then h4)
    clear h4 Q3 HV
    have g0 := Q4.out.free 0
    have g1 := Q4.out.free 1
    have g2 := Q4.out.free 2
    have g3 := Q4.out.free 3
    have g4 := Q4.out.free 4
    have g5 := Q4.out.free 5
    have g6 := Q4.out.free 6
    have g7 := Q4.out.free 7
    have g8 := Q4.out.free 8
    have r0 := Q4.out.cell 0 rfl
    have r1 := Q4.out.cell 1 rfl
    have r2 := Q4.out.cell 2 rfl
    have r3 := Q4.out.cell 3 rfl
    have r4 := Q4.out.cell 4 rfl
    have r5 := Q4.out.cell 5 rfl
    have r6 := Q4.out.cell 6 rfl
    have r7 := Q4.out.cell 7 rfl
    have r8 := Q4.out.cell 8 rfl
    go_wp2
    refine bodyPost_ret (v := .agg #[.int .i64 2, .int .i64 2, .string ⟨#[]⟩, .int .i64 0, .bool false, .int .i64 0, .int .i64 0, .slice none 0 0, .slice pv tl.length cv]) (by simp [results, Tryz.results43, go_sem, r0, r1, r2, r3, r4, r5, r6, r7, r8]) rfl ?_
    obtain ⟨l1, l2⟩ := Q4.out.laid (.int .i64 2) (.int .i64 2) (.string ⟨#[]⟩) (.int .i64 0) (.bool false) (.int .i64 0) (.int .i64 0) (.slice none 0 0) (.slice pv tl.length cv)
    have hb := Q4.out.2.2.2
    have ve : OD.1 = te := by
      rw [V.out]; unfold repQ; simp only
      split
      · rfl
      · next h0 => exact (Decidable.not_not.1 h0).symm
    rw [← ve] at l1
    refine ⟨⟨2, 2, ⟨#[]⟩, 0, false, 0, 0, [], tl⟩, none, 0, 0, pv, tl.length, cv, _, rfl, l1, l2, fun h0 => ⟨?_, AddrsG.nil _ _ _, ?_⟩⟩
    · rw [V.out]; unfold repQ; simp only; rw [if_neg (by rw [← ve]; simpa using h0)]
    · exact (HV4.out (ve ▸ h0)).storeN9 w.heap.size (Nat.lt_succ_self _)

/-- A list that was read stays while the reader's error is set. -/
theorem AddrsG.kept {B b : Nat} {w w' : World} {v : Value} {l : List ByteArray} {e : Int} {s : ByteArray} {t : Int} (h : AddrsG B true w v l) (k : w.grownBy w' (some b)) (hb : RB b e s t w) : AddrsG B true w' v l :=
  h.grown k fun g hg => by
    obtain rfl : b = g := by simpa using hg
    exact ⟨_, _, _, hb, by decide⟩

set_option maxHeartbeats 4000000 in
set_option maxRecDepth 100000 in
theorem queryr (b : Nat) (s : ByteArray) (w : World) (h : RB b 0 s 4 w) (hs : s.size ≤ 281474976710000) (h8 : 8 ≤ s.size) :
    Calls Tryz.prog 41 #[.pointer (some ⟨b, 0, none⟩)] w (RMPost b s (qryD s) w) := by
  have H1 := Lib.hid fun U h => numr b 0 s 4 2 6 U h (by omega) (by omega) (by omega) (by omega) hs (by omega) rfl
  have HS := Lib.hid fun U h => skipr b 0 s 6 2 U h (by omega) (by omega) (by omega) (by omega)
  rw [show ((6 : Int) + 2) = 8 from rfl] at HS
  have HA := Lib.hid fun U h => addrr b 0 s 8 U h (by omega) (by omega) hs
  rw [show ((8 : Int) + 16) = 24 from rfl] at HA
  have HL := Lib.hid fun e U h => leftr b e s 24 U h (by omega) (by omega) hs
  have Q0 := Lib.hid (RQ.start h)
  clear h
  by_cases hz : s.size < 24
  · have V := Lib.hid (show qryD s = (2, zeroM) from if_pos hz)
    have hc := cut_no s 8 (by omega)
    rw [show ((8 : Nat) : Int) = 8 from rfl] at hc
    rw [hc] at HA
    simp only [kI, if_true] at HA
    have HG := Lib.hid fun U => mgmay_c 1 1 ⟨#[]⟩ (numv s 4 2) false 0 0 none 0 0 (.slice none 0 0) U
    rw [show qGrp6 ⟨#[]⟩ 0 = true from rfl] at HG
    have HN := Lib.hid fun U h => needr b 2 s 24 true 3 U h
    simp only [if_true] at HN
    have hlt : (s.size : Int) < 24 := by omega
    generalize numv s 4 2 = N4 at *
    clear hz hc h8
    go_enter Tryz.func41, Tryz.ntmps41
    go_wp2_with fail
    refine (H1.out _ Q0.out.1).mono ?_
    rintro r w1 ⟨rfl, h1⟩
    have Q1 := Lib.hid (Q0.out.then h1)
    clear h1 Q0
    go_wp2_with fail
    have Q := Lib.hid (RP.start #[.int .i64 1, .int .i64 1, .string ⟨#[]⟩, .int .i64 N4, .bool false, .int .i64 0, .int .i64 0, .slice none 0 0, .slice none 0 0] Q1.out)
    refine (HS.out _ Q.out.1.1).mono ?_
    rintro r w2 ⟨rfl, h1⟩
    replace Q := Lib.hid (Q.out.then h1)
    clear h1 Q1
    go_wp2_with fail
    refine (HA.out _ Q.out.1.1).mono ?_
    rintro r w3 ⟨rfl, h1⟩
    replace Q := Lib.hid (Q.out.then h1)
    clear h1
    generalize w1.heap.size = P at Q ⊢
    have f2 := Q.out.free 2
    have c2 := Q.out.cell 2 rfl
    go_wp2_with fail
    refine (HL.out _ _ (Q.out.store 2 (.string ⟨#[]⟩)).1.1).mono ?_
    rintro r w4 ⟨rfl, h4⟩
    replace Q := Lib.hid (((Q.out.store 2 (.string ⟨#[]⟩))).below h4)
    clear h4 f2 c2
    go_upto_region 8 with fail
    have c0 := Q.out.cell 0 rfl
    have c1 := Q.out.cell 1 rfl
    have c2 := Q.out.cell 2 rfl
    have c3 := Q.out.cell 3 rfl
    have c4 := Q.out.cell 4 rfl
    have c5 := Q.out.cell 5 rfl
    have c6 := Q.out.cell 6 rfl
    have c7 := Q.out.cell 7 rfl
    have c8 := Q.out.cell 8 rfl
    have Qd := Lib.hid (Q.out.below ((Below.refl _ w4).drew))
    go_region_with (first
      | (go_at_call 48; refine (HG.out _).mono ?_; rintro r w7 ⟨rfl, h7⟩; have Q7 := Lib.hid (Qd.out.below h7); have k7 := (Below.refl _ w4).drew.trans h7)
      | (go_at_call 44; refine (HN.out _ Q7.out.1.1).mono ?_; rintro r w8 ⟨rfl, h8⟩))
    all_goals
      have Q8 := Lib.hid (Q7.out.then h8)
      clear h7 h8 Q Qd Q7 k7 c0 c1 c2 c3 c4 c5 c6 c7 c8
      have c0 := Q8.out.cell 0 rfl
      have c1 := Q8.out.cell 1 rfl
      have c2 := Q8.out.cell 2 rfl
      have c3 := Q8.out.cell 3 rfl
      have c4 := Q8.out.cell 4 rfl
      have c5 := Q8.out.cell 5 rfl
      have c6 := Q8.out.cell 6 rfl
      have c7 := Q8.out.cell 7 rfl
      have c8 := Q8.out.cell 8 rfl
      have r0 := Q8.out.1.cell 0 rfl
      have r1 := Q8.out.1.cell 1 rfl
      have r2 := Q8.out.1.cell 2 rfl
      have r3 := Q8.out.1.cell 3 rfl
      have r4 := Q8.out.1.cell 4 rfl
      have r5 := Q8.out.1.cell 5 rfl
      have r6 := Q8.out.1.cell 6 rfl
      have r7 := Q8.out.1.cell 7 rfl
      have r8 := Q8.out.1.cell 8 rfl
      have g0 := Q8.out.1.free 0
      have g1 := Q8.out.1.free 1
      have g2 := Q8.out.1.free 2
      have g3 := Q8.out.1.free 3
      have g4 := Q8.out.1.free 4
      have g5 := Q8.out.1.free 5
      have g6 := Q8.out.1.free 6
      have g7 := Q8.out.1.free 7
      have g8 := Q8.out.1.free 8
      have hNP : w.heap.size ≠ P := by have := Q8.out.2.2; omega
      go_wp2
      refine bodyPost_ret (v := .agg #[.int .i64 1, .int .i64 1, .string ⟨#[]⟩, .int .i64 N4, .bool false, .int .i64 0, .int .i64 0, .slice none 0 0, .slice none 0 0]) (by simp [results, Tryz.results41, go_sem, r0, r1, r2, r3, r4, r5, r6, r7, r8]) rfl ?_
      rw [V.out]
      exact rm_end Q8.out rfl (fun h => by simp at h)
  · have hcx := cut_fit s 8 (by omega)
    rw [show ((8 : Nat) : Int) = 8 from rfl, show 8 + 16 = 24 from rfl] at hcx
    rw [hcx] at HA
    simp only [kI, if_true] at HA
    clear hcx
    have hgq : (s.extract 8 24 = ⟨#[0, 0, 0, 0, 0, 0, 0, 0, 0, 0, 0, 0, 0, 0, 0, 0]⟩ ∧ grpQ s = ⟨#[]⟩) ∨ (grpQ s = s.extract 8 24 ∧ ((grpQ s).toList == [0, 0, 0, 0, 0, 0, 0, 0, 0, 0, 0, 0, 0, 0, 0, 0]) = false) := by
      unfold grpQ
      by_cases hh : s.extract 8 24 = none6
      · rw [if_pos hh]; exact .inl ⟨hh, rfl⟩
      · rw [if_neg hh]
        refine .inr ⟨rfl, ?_⟩
        rw [beq_eq_false_iff_ne, ByteArray.toList_eq]
        intro h
        exact hh (ByteArray.ext (Array.toList_inj.1 h))
    by_cases h24 : s.size = 24
    · have V := Lib.hid (show qryD s = if qGrp6 (grpQ s) 0 then (0, ⟨1, 1, grpQ s, numv s 4 2, false, 0, 0, [], []⟩) else (3, zeroM) by unfold qryD; rw [if_neg hz, if_pos h24])
      have hlt : (s.size : Int) = 24 := by omega
      generalize s.extract 8 24 = a at *
      generalize grpQ s = g at *
      have HG := Lib.hid fun U => mgmay_c 1 1 g (numv s 4 2) false 0 0 none 0 0 (.slice none 0 0) U
      have HN := Lib.hid fun U h => needr b 0 s 24 (qGrp6 g 0) 3 U h
      generalize qGrp6 g 0 = qb at *
      generalize numv s 4 2 = N4 at *
      clear hz h24 h8
      rcases hgq with ⟨rfl, rfl⟩ | ⟨rfl, t1⟩
      · go_enter Tryz.func41, Tryz.ntmps41
        go_wp2_with fail
        refine (H1.out _ Q0.out.1).mono ?_
        rintro r w1 ⟨rfl, h1⟩
        have Q1 := Lib.hid (Q0.out.then h1)
        clear h1 Q0
        go_wp2_with fail
        have Q := Lib.hid (RP.start #[.int .i64 1, .int .i64 1, .string ⟨#[]⟩, .int .i64 N4, .bool false, .int .i64 0, .int .i64 0, .slice none 0 0, .slice none 0 0] Q1.out)
        refine (HS.out _ Q.out.1.1).mono ?_
        rintro r w2 ⟨rfl, h1⟩
        replace Q := Lib.hid (Q.out.then h1)
        clear h1 Q1
        go_wp2_with fail
        refine (HA.out _ Q.out.1.1).mono ?_
        rintro r w3 ⟨rfl, h1⟩
        replace Q := Lib.hid (Q.out.then h1)
        clear h1
        generalize w1.heap.size = P at Q ⊢
        have f2 := Q.out.free 2
        have c2 := Q.out.cell 2 rfl
        go_wp2_with fail
        refine (HL.out _ _ Q.out.1.1).mono ?_
        rintro r w4 ⟨rfl, h4⟩
        replace Q := Lib.hid (Q.out.below h4)
        clear h4 f2 c2
        go_upto_region 8 with fail
        have c0 := Q.out.cell 0 rfl
        have c1 := Q.out.cell 1 rfl
        have c2 := Q.out.cell 2 rfl
        have c3 := Q.out.cell 3 rfl
        have c4 := Q.out.cell 4 rfl
        have c5 := Q.out.cell 5 rfl
        have c6 := Q.out.cell 6 rfl
        have c7 := Q.out.cell 7 rfl
        have c8 := Q.out.cell 8 rfl
        have Qd := Lib.hid (Q.out.below ((Below.refl _ w4).drew))
        go_region_with (first
          | (go_at_call 48; refine (HG.out _).mono ?_; rintro r w7 ⟨rfl, h7⟩; have Q7 := Lib.hid (Qd.out.below h7); have k7 := (Below.refl _ w4).drew.trans h7)
          | (go_at_call 44; refine (HN.out _ Q7.out.1.1).mono ?_; rintro r w8 ⟨rfl, h8⟩))
        all_goals
          have Q8 := Lib.hid (Q7.out.then h8)
          clear h7 h8 Q Qd Q7 k7 c0 c1 c2 c3 c4 c5 c6 c7 c8
          have c0 := Q8.out.cell 0 rfl
          have c1 := Q8.out.cell 1 rfl
          have c2 := Q8.out.cell 2 rfl
          have c3 := Q8.out.cell 3 rfl
          have c4 := Q8.out.cell 4 rfl
          have c5 := Q8.out.cell 5 rfl
          have c6 := Q8.out.cell 6 rfl
          have c7 := Q8.out.cell 7 rfl
          have c8 := Q8.out.cell 8 rfl
          have r0 := Q8.out.1.cell 0 rfl
          have r1 := Q8.out.1.cell 1 rfl
          have r2 := Q8.out.1.cell 2 rfl
          have r3 := Q8.out.1.cell 3 rfl
          have r4 := Q8.out.1.cell 4 rfl
          have r5 := Q8.out.1.cell 5 rfl
          have r6 := Q8.out.1.cell 6 rfl
          have r7 := Q8.out.1.cell 7 rfl
          have r8 := Q8.out.1.cell 8 rfl
          have g0 := Q8.out.1.free 0
          have g1 := Q8.out.1.free 1
          have g2 := Q8.out.1.free 2
          have g3 := Q8.out.1.free 3
          have g4 := Q8.out.1.free 4
          have g5 := Q8.out.1.free 5
          have g6 := Q8.out.1.free 6
          have g7 := Q8.out.1.free 7
          have g8 := Q8.out.1.free 8
          have hNP : w.heap.size ≠ P := by have := Q8.out.2.2; omega
          go_wp2
          refine bodyPost_ret (v := .agg #[.int .i64 1, .int .i64 1, .string ⟨#[]⟩, .int .i64 N4, .bool false, .int .i64 0, .int .i64 0, .slice none 0 0, .slice none 0 0]) (by simp [results, Tryz.results41, go_sem, r0, r1, r2, r3, r4, r5, r6, r7, r8]) rfl ?_
          rw [V.out]
          cases qb
          · exact rm_end Q8.out rfl (fun h => by simp at h)
          · exact rm_end Q8.out rfl (fun _ => ⟨[], [], rfl, AddrsG.nil _ _ _, RecsG.nil _ _ _⟩)
      · go_enter Tryz.func41, Tryz.ntmps41
        go_wp2_with fail
        refine (H1.out _ Q0.out.1).mono ?_
        rintro r w1 ⟨rfl, h1⟩
        have Q1 := Lib.hid (Q0.out.then h1)
        clear h1 Q0
        go_wp2_with fail
        have Q := Lib.hid (RP.start #[.int .i64 1, .int .i64 1, .string ⟨#[]⟩, .int .i64 N4, .bool false, .int .i64 0, .int .i64 0, .slice none 0 0, .slice none 0 0] Q1.out)
        refine (HS.out _ Q.out.1.1).mono ?_
        rintro r w2 ⟨rfl, h1⟩
        replace Q := Lib.hid (Q.out.then h1)
        clear h1 Q1
        go_wp2_with fail
        refine (HA.out _ Q.out.1.1).mono ?_
        rintro r w3 ⟨rfl, h1⟩
        replace Q := Lib.hid (Q.out.then h1)
        clear h1
        generalize w1.heap.size = P at Q ⊢
        have f2 := Q.out.free 2
        have c2 := Q.out.cell 2 rfl
        go_wp2_with fail
        refine (HL.out _ _ (Q.out.store 2 (.string g)).1.1).mono ?_
        rintro r w4 ⟨rfl, h4⟩
        replace Q := Lib.hid (((Q.out.store 2 (.string g))).below h4)
        clear h4 f2 c2
        go_upto_region 8 with fail
        have c0 := Q.out.cell 0 rfl
        have c1 := Q.out.cell 1 rfl
        have c2 := Q.out.cell 2 rfl
        have c3 := Q.out.cell 3 rfl
        have c4 := Q.out.cell 4 rfl
        have c5 := Q.out.cell 5 rfl
        have c6 := Q.out.cell 6 rfl
        have c7 := Q.out.cell 7 rfl
        have c8 := Q.out.cell 8 rfl
        have Qd := Lib.hid (Q.out.below ((Below.refl _ w4).drew))
        go_region_with (first
          | (go_at_call 48; refine (HG.out _).mono ?_; rintro r w7 ⟨rfl, h7⟩; have Q7 := Lib.hid (Qd.out.below h7); have k7 := (Below.refl _ w4).drew.trans h7)
          | (go_at_call 44; refine (HN.out _ Q7.out.1.1).mono ?_; rintro r w8 ⟨rfl, h8⟩))
        all_goals
          have Q8 := Lib.hid (Q7.out.then h8)
          clear h7 h8 Q Qd Q7 k7 c0 c1 c2 c3 c4 c5 c6 c7 c8
          have c0 := Q8.out.cell 0 rfl
          have c1 := Q8.out.cell 1 rfl
          have c2 := Q8.out.cell 2 rfl
          have c3 := Q8.out.cell 3 rfl
          have c4 := Q8.out.cell 4 rfl
          have c5 := Q8.out.cell 5 rfl
          have c6 := Q8.out.cell 6 rfl
          have c7 := Q8.out.cell 7 rfl
          have c8 := Q8.out.cell 8 rfl
          have r0 := Q8.out.1.cell 0 rfl
          have r1 := Q8.out.1.cell 1 rfl
          have r2 := Q8.out.1.cell 2 rfl
          have r3 := Q8.out.1.cell 3 rfl
          have r4 := Q8.out.1.cell 4 rfl
          have r5 := Q8.out.1.cell 5 rfl
          have r6 := Q8.out.1.cell 6 rfl
          have r7 := Q8.out.1.cell 7 rfl
          have r8 := Q8.out.1.cell 8 rfl
          have g0 := Q8.out.1.free 0
          have g1 := Q8.out.1.free 1
          have g2 := Q8.out.1.free 2
          have g3 := Q8.out.1.free 3
          have g4 := Q8.out.1.free 4
          have g5 := Q8.out.1.free 5
          have g6 := Q8.out.1.free 6
          have g7 := Q8.out.1.free 7
          have g8 := Q8.out.1.free 8
          have hNP : w.heap.size ≠ P := by have := Q8.out.2.2; omega
          go_wp2
          refine bodyPost_ret (v := .agg #[.int .i64 1, .int .i64 1, .string g, .int .i64 N4, .bool false, .int .i64 0, .int .i64 0, .slice none 0 0, .slice none 0 0]) (by simp [results, Tryz.results41, go_sem, r0, r1, r2, r3, r4, r5, r6, r7, r8]) rfl ?_
          rw [V.out]
          cases qb
          · exact rm_end Q8.out rfl (fun h => by simp at h)
          · exact rm_end Q8.out rfl (fun _ => ⟨[], [], rfl, AddrsG.nil _ _ _, RecsG.nil _ _ _⟩)
    · have h24' : 24 < s.size := by omega
      have V := Lib.hid (show qryD s = if dtE s ≠ 0 then (dtE s, zeroM) else if qGrp6 (grpQ s) (numv s 26 2).toNat then
          (0, ⟨1, 2, grpQ s, (decI 12 (numv s 4 2)).1, decide (byt s 24 / 8 % 2 = 1), ((byt s 24 % 8 : Nat) : Int), (decI 4 (byt s 25)).1, addrsL s 28 (numv s 26 2).toNat 16, []⟩) else (3, zeroM) by
        unfold qryD; rw [if_neg hz, if_neg h24])
      have hlt : (24 : Int) < (s.size : Int) := by omega
      generalize s.extract 8 24 = a at *
      generalize grpQ s = g at *
      generalize hN4 : numv s 4 2 = N4 at *
      have HDt := Lib.hid fun P U h hP hb => detailsr b P s g N4 U h hP hb hs h24'
      unfold DPost at HDt
      have HG := Lib.hid fun M q rob ev p n c U => mgmay_c 1 2 g M q rob ev p n c (.slice none 0 0) U
      have HN := Lib.hid fun e t qb U h => needr b e s t qb 3 U h
      clear hz h24 h8 hN4
      generalize (decI 12 N4).1 = M16 at *
      rcases hgq with ⟨rfl, rfl⟩ | ⟨rfl, t1⟩
      · go_enter Tryz.func41, Tryz.ntmps41
        go_wp2_with fail
        refine (H1.out _ Q0.out.1).mono ?_
        rintro r w1 ⟨rfl, h1⟩
        have Q1 := Lib.hid (Q0.out.then h1)
        clear h1 Q0
        go_wp2_with fail
        have Q := Lib.hid (RP.start #[.int .i64 1, .int .i64 1, .string ⟨#[]⟩, .int .i64 N4, .bool false, .int .i64 0, .int .i64 0, .slice none 0 0, .slice none 0 0] Q1.out)
        refine (HS.out _ Q.out.1.1).mono ?_
        rintro r w2 ⟨rfl, h1⟩
        replace Q := Lib.hid (Q.out.then h1)
        clear h1 Q1
        go_wp2_with fail
        refine (HA.out _ Q.out.1.1).mono ?_
        rintro r w3 ⟨rfl, h1⟩
        replace Q := Lib.hid (Q.out.then h1)
        clear h1
        generalize w1.heap.size = P at Q ⊢
        have f2 := Q.out.free 2
        have c2 := Q.out.cell 2 rfl
        go_wp2_with fail
        refine (HL.out _ _ Q.out.1.1).mono ?_
        rintro r w4 ⟨rfl, h4⟩
        replace Q := Lib.hid (Q.out.below h4)
        clear h4 f2 c2
        go_wp2_with fail
        refine (HDt.out P _ Q.out.1.1 Q.out.2.1 (by have := Q.out.1.2.2.2; have := Q.out.2.2; omega)).mono ?_
        rintro r w5 ⟨rfl, q, rob, ev, p, n, c, t, hd, hok⟩
        replace Q := Lib.hid (Q.out.det hd)
        have OK := Lib.hid hok
        clear hd hok
        go_upto_region 8 with fail
        have c0 := Q.out.cell 0 rfl
        have c1 := Q.out.cell 1 rfl
        have c2 := Q.out.cell 2 rfl
        have c3 := Q.out.cell 3 rfl
        have c4 := Q.out.cell 4 rfl
        have c5 := Q.out.cell 5 rfl
        have c6 := Q.out.cell 6 rfl
        have c7 := Q.out.cell 7 rfl
        have c8 := Q.out.cell 8 rfl
        have Qd := Lib.hid (Q.out.below ((Below.refl _ w5).drew))
        go_region_with (first
          | (go_at_call 48; refine (HG.out _ _ _ _ _ _ _ _).mono ?_; rintro r w7 ⟨rfl, h7⟩; have Q7 := Lib.hid (Qd.out.below h7); have k7 := (Below.refl _ w5).drew.trans h7)
          | (go_at_call 44; refine (HN.out _ _ _ _ Q7.out.1.1).mono ?_; rintro r w8 ⟨rfl, h8⟩))
        all_goals
          have Q8 := Lib.hid (Q7.out.then h8)
          have AK : Hid (dtE s = 0 → AddrsG (w.heap.size + 1) true w8 (.slice p n c) (addrsL s 28 (numv s 26 2).toNat 16)) := by
            refine Lib.hid fun h0 => ?_
            obtain ⟨-, -, -, -, ha⟩ := OK.out h0
            exact ((ha.below k7).kept h8.2 Q7.out.1.1).mono (by have := Q.out.2.2; omega) id
          clear h7 h8 Q Qd Q7 k7 c0 c1 c2 c3 c4 c5 c6 c7 c8
          have c0 := Q8.out.cell 0 rfl
          have c1 := Q8.out.cell 1 rfl
          have c2 := Q8.out.cell 2 rfl
          have c3 := Q8.out.cell 3 rfl
          have c4 := Q8.out.cell 4 rfl
          have c5 := Q8.out.cell 5 rfl
          have c6 := Q8.out.cell 6 rfl
          have c7 := Q8.out.cell 7 rfl
          have c8 := Q8.out.cell 8 rfl
          have r0 := Q8.out.1.cell 0 rfl
          have r1 := Q8.out.1.cell 1 rfl
          have r2 := Q8.out.1.cell 2 rfl
          have r3 := Q8.out.1.cell 3 rfl
          have r4 := Q8.out.1.cell 4 rfl
          have r5 := Q8.out.1.cell 5 rfl
          have r6 := Q8.out.1.cell 6 rfl
          have r7 := Q8.out.1.cell 7 rfl
          have r8 := Q8.out.1.cell 8 rfl
          have g0 := Q8.out.1.free 0
          have g1 := Q8.out.1.free 1
          have g2 := Q8.out.1.free 2
          have g3 := Q8.out.1.free 3
          have g4 := Q8.out.1.free 4
          have g5 := Q8.out.1.free 5
          have g6 := Q8.out.1.free 6
          have g7 := Q8.out.1.free 7
          have g8 := Q8.out.1.free 8
          have hNP : w.heap.size ≠ P := by have := Q8.out.2.2; omega
          go_wp2
          refine bodyPost_ret (v := .agg #[.int .i64 1, .int .i64 2, .string ⟨#[]⟩, .int .i64 M16, .bool q, .int .i64 rob, .int .i64 ev, .slice p n c, .slice none 0 0]) (by simp [results, Tryz.results41, go_sem, r0, r1, r2, r3, r4, r5, r6, r7, r8]) rfl ?_
          rw [V.out]
          by_cases hd0 : dtE s = 0
          · obtain ⟨rfl, rfl, rfl, rfl, -⟩ := OK.out hd0
            have ha := AK.out hd0
            rw [if_neg (by rw [hd0]; simp)]
            rw [hd0] at Q8
            generalize hqb : qGrp6 ⟨#[]⟩ (numv s 26 2).toNat = qb at Q8 ⊢
            cases qb
            · exact rm_end Q8.out rfl (fun h => by simp at h)
            · exact rm_end Q8.out rfl (fun _ => ⟨_, [], rfl, ha, RecsG.nil _ _ _⟩)
          · rw [if_pos hd0]
            refine rm_end Q8.out ?_ (fun h => absurd h hd0)
            simp only [kI]
            split
            · rfl
            · first | rfl | rw [if_neg hd0]
      · go_enter Tryz.func41, Tryz.ntmps41
        go_wp2_with fail
        refine (H1.out _ Q0.out.1).mono ?_
        rintro r w1 ⟨rfl, h1⟩
        have Q1 := Lib.hid (Q0.out.then h1)
        clear h1 Q0
        go_wp2_with fail
        have Q := Lib.hid (RP.start #[.int .i64 1, .int .i64 1, .string ⟨#[]⟩, .int .i64 N4, .bool false, .int .i64 0, .int .i64 0, .slice none 0 0, .slice none 0 0] Q1.out)
        refine (HS.out _ Q.out.1.1).mono ?_
        rintro r w2 ⟨rfl, h1⟩
        replace Q := Lib.hid (Q.out.then h1)
        clear h1 Q1
        go_wp2_with fail
        refine (HA.out _ Q.out.1.1).mono ?_
        rintro r w3 ⟨rfl, h1⟩
        replace Q := Lib.hid (Q.out.then h1)
        clear h1
        generalize w1.heap.size = P at Q ⊢
        have f2 := Q.out.free 2
        have c2 := Q.out.cell 2 rfl
        go_wp2_with fail
        refine (HL.out _ _ (Q.out.store 2 (.string g)).1.1).mono ?_
        rintro r w4 ⟨rfl, h4⟩
        replace Q := Lib.hid (((Q.out.store 2 (.string g))).below h4)
        clear h4 f2 c2
        go_wp2_with fail
        refine (HDt.out P _ Q.out.1.1 Q.out.2.1 (by have := Q.out.1.2.2.2; have := Q.out.2.2; omega)).mono ?_
        rintro r w5 ⟨rfl, q, rob, ev, p, n, c, t, hd, hok⟩
        replace Q := Lib.hid (Q.out.det hd)
        have OK := Lib.hid hok
        clear hd hok
        go_upto_region 8 with fail
        have c0 := Q.out.cell 0 rfl
        have c1 := Q.out.cell 1 rfl
        have c2 := Q.out.cell 2 rfl
        have c3 := Q.out.cell 3 rfl
        have c4 := Q.out.cell 4 rfl
        have c5 := Q.out.cell 5 rfl
        have c6 := Q.out.cell 6 rfl
        have c7 := Q.out.cell 7 rfl
        have c8 := Q.out.cell 8 rfl
        have Qd := Lib.hid (Q.out.below ((Below.refl _ w5).drew))
        go_region_with (first
          | (go_at_call 48; refine (HG.out _ _ _ _ _ _ _ _).mono ?_; rintro r w7 ⟨rfl, h7⟩; have Q7 := Lib.hid (Qd.out.below h7); have k7 := (Below.refl _ w5).drew.trans h7)
          | (go_at_call 44; refine (HN.out _ _ _ _ Q7.out.1.1).mono ?_; rintro r w8 ⟨rfl, h8⟩))
        all_goals
          have Q8 := Lib.hid (Q7.out.then h8)
          have AK : Hid (dtE s = 0 → AddrsG (w.heap.size + 1) true w8 (.slice p n c) (addrsL s 28 (numv s 26 2).toNat 16)) := by
            refine Lib.hid fun h0 => ?_
            obtain ⟨-, -, -, -, ha⟩ := OK.out h0
            exact ((ha.below k7).kept h8.2 Q7.out.1.1).mono (by have := Q.out.2.2; omega) id
          clear h7 h8 Q Qd Q7 k7 c0 c1 c2 c3 c4 c5 c6 c7 c8
          have c0 := Q8.out.cell 0 rfl
          have c1 := Q8.out.cell 1 rfl
          have c2 := Q8.out.cell 2 rfl
          have c3 := Q8.out.cell 3 rfl
          have c4 := Q8.out.cell 4 rfl
          have c5 := Q8.out.cell 5 rfl
          have c6 := Q8.out.cell 6 rfl
          have c7 := Q8.out.cell 7 rfl
          have c8 := Q8.out.cell 8 rfl
          have r0 := Q8.out.1.cell 0 rfl
          have r1 := Q8.out.1.cell 1 rfl
          have r2 := Q8.out.1.cell 2 rfl
          have r3 := Q8.out.1.cell 3 rfl
          have r4 := Q8.out.1.cell 4 rfl
          have r5 := Q8.out.1.cell 5 rfl
          have r6 := Q8.out.1.cell 6 rfl
          have r7 := Q8.out.1.cell 7 rfl
          have r8 := Q8.out.1.cell 8 rfl
          have g0 := Q8.out.1.free 0
          have g1 := Q8.out.1.free 1
          have g2 := Q8.out.1.free 2
          have g3 := Q8.out.1.free 3
          have g4 := Q8.out.1.free 4
          have g5 := Q8.out.1.free 5
          have g6 := Q8.out.1.free 6
          have g7 := Q8.out.1.free 7
          have g8 := Q8.out.1.free 8
          have hNP : w.heap.size ≠ P := by have := Q8.out.2.2; omega
          go_wp2
          refine bodyPost_ret (v := .agg #[.int .i64 1, .int .i64 2, .string g, .int .i64 M16, .bool q, .int .i64 rob, .int .i64 ev, .slice p n c, .slice none 0 0]) (by simp [results, Tryz.results41, go_sem, r0, r1, r2, r3, r4, r5, r6, r7, r8]) rfl ?_
          rw [V.out]
          by_cases hd0 : dtE s = 0
          · obtain ⟨rfl, rfl, rfl, rfl, -⟩ := OK.out hd0
            have ha := AK.out hd0
            rw [if_neg (by rw [hd0]; simp)]
            rw [hd0] at Q8
            generalize hqb : qGrp6 g (numv s 26 2).toNat = qb at Q8 ⊢
            cases qb
            · exact rm_end Q8.out rfl (fun h => by simp at h)
            · exact rm_end Q8.out rfl (fun _ => ⟨_, [], rfl, ha, RecsG.nil _ _ _⟩)
          · rw [if_pos hd0]
            refine rm_end Q8.out ?_ (fun h => absurd h hd0)
            simp only [kI]
            split
            · rfl
            · first | rfl | rw [if_neg hd0]

/-- A message whose sum is right. -/
def rdM (s : ByteArray) : Int × Msg :=
  if byt s 0 = 130 then qryD s else if byt s 0 = 131 then oneD s 2 else if byt s 0 = 132 then oneD s 3 else if byt s 0 = 143 then repD s else (3, zeroM)

/-- What was answered is handed on. -/
theorem rm_on {b : Nat} {s : ByteArray} {x : Int × Msg} {w W W' : World} {t : Int} {r : Ending} (h : RQ b w 0 s t W) (k : RMPost b s x W r W') :
    ∃ (m : Msg) (p : Option Addr) (n c : Nat) (p' : Option Addr) (n' c' : Nat) (t' : Int), r = .returned (m.val (.slice p n c) (.slice p' n' c')) ∧ RQ b w x.1 s t' W' ∧
      (x.1 = 0 → m = x.2 ∧ AddrsG (w.heap.size + 1) true W' (.slice p n c) m.srcs ∧ RecsG (w.heap.size + 1) true W' (.slice p' n' c') m.recs) := by
  obtain ⟨m, p, n, c, p', n', c', t', e1, e2, e3, e4⟩ := k
  have hlt : w.heap.size + 1 ≤ W.heap.size := lt_of_block h.2.1
  exact ⟨m, p, n, c, p', n', c', t', e1, h.then ⟨e2, e3⟩, fun h0 => ⟨(e4 h0).1, (e4 h0).2.1.mono hlt id, (e4 h0).2.2.mono hlt id⟩⟩
theorem rq_end {b : Nat} {s : ByteArray} {x : Int × Msg} {w W : World} {k v : Int} {g : ByteArray} {mx : Int} {q : Bool} {rob ev : Int} {p : Option Addr} {n c : Nat} {p' : Option Addr} {n' c' : Nat} {e : Int} {t : Int} {ss : List ByteArray} {rs : List Rec}
    (h : RQ b w e s t W) (he : e = x.1) (hm : x.1 = 0 → ⟨k, v, g, mx, q, rob, ev, ss, rs⟩ = x.2 ∧ AddrsG (w.heap.size + 1) true W (.slice p n c) ss ∧ RecsG (w.heap.size + 1) true W (.slice p' n' c') rs) :
    RMPost b s x w (.returned (.agg #[.int .i64 k, .int .i64 v, .string g, .int .i64 mx, .bool q, .int .i64 rob, .int .i64 ev, .slice p n c, .slice p' n' c'])) (((((((((W.setCell ⟨w.heap.size, 0, none⟩ (.int .i64 k)).setCell ⟨w.heap.size, 1, none⟩ (.int .i64 v)).setCell ⟨w.heap.size, 2, none⟩ (.string g)).setCell ⟨w.heap.size, 3, none⟩ (.int .i64 mx)).setCell ⟨w.heap.size, 4, none⟩ (.bool q)).setCell ⟨w.heap.size, 5, none⟩ (.int .i64 rob)).setCell ⟨w.heap.size, 6, none⟩ (.int .i64 ev)).setCell ⟨w.heap.size, 7, none⟩ (.slice p n c)).setCell ⟨w.heap.size, 8, none⟩ (.slice p' n' c')) := by
  obtain ⟨l1, l2⟩ := h.laid (.int .i64 k) (.int .i64 v) (.string g) (.int .i64 mx) (.bool q) (.int .i64 rob) (.int .i64 ev) (.slice p n c) (.slice p' n' c')
  by_cases h0 : x.1 = 0
  · obtain ⟨e1, e2, e3⟩ := hm h0
    exact ⟨⟨k, v, g, mx, q, rob, ev, ss, rs⟩, p, n, c, p', n', c', t, rfl, he ▸ l1, l2, fun _ => ⟨e1, e2.storeN9 w.heap.size (Nat.lt_succ_self _), e3.storeN9 w.heap.size (Nat.lt_succ_self _)⟩⟩
  · exact ⟨⟨k, v, g, mx, q, rob, ev, [], []⟩, p, n, c, p', n', c', t, rfl, he ▸ l1, l2, fun h => absurd h h0⟩

set_option maxHeartbeats 4000000 in
set_option maxRecDepth 100000 in
theorem messager (b : Nat) (s : ByteArray) (w : World) (h : RB b 0 s 0 w) (hs : s.size ≤ 281474976710000) (h8 : 8 ≤ s.size) :
    Calls Tryz.prog 19 #[.pointer (some ⟨b, 0, none⟩)] w (RMPost b s (rdM s) w) := by
  have H1 := Lib.hid fun U h => numr b 0 s 0 1 1 U h (by omega) (by omega) (by omega) (by omega) hs (by omega) rfl
  have hb0 : numv s 0 1 = (byt s 0 : Int) := by
    have := numv_byte s 0 (by omega)
    rw [byt_get s 0 (by omega)] at this
    exact this
  rw [hb0] at H1
  have HS := Lib.hid fun U h => skipr b 0 s 1 3 U h (by omega) (by omega) (by omega) (by omega)
  rw [show ((1 : Int) + 3) = 4 from rfl] at HS
  have Q := Lib.hid (RQ.start h)
  have V := Lib.hid (show rdM s = if byt s 0 = 130 then qryD s else if byt s 0 = 131 then oneD s 2 else if byt s 0 = 132 then oneD s 3 else if byt s 0 = 143 then repD s else (3, zeroM) from rfl)
  have HQ := Lib.hid fun U h => queryr b s U h hs h8
  have HO2 := Lib.hid fun U h => oner b s 2 U h hs
  have HO3 := Lib.hid fun U h => oner b s 3 U h hs
  have HR := Lib.hid fun U h => recordsr b s U h hs h8
  have HK := Lib.hid fun U h => keepr b 0 s 4 3 U h
  generalize rdM s = OD at *
  generalize qryD s = D1 at *
  generalize oneD s 2 = D2 at *
  generalize oneD s 3 = D3 at *
  generalize repD s = D4 at *
  clear h hb0 h8
  generalize byt s 0 = B0 at *
  by_cases n1 : B0 = 130
  · obtain ⟨a1, a2⟩ := eq_t (show (B0 : Int) = 130 by omega)
    rw [if_pos n1] at V
    clear n1 HO2 HO3 HR HK
    go_enter Tryz.func19, Tryz.ntmps19
    go_wp2_with fail
    refine (H1.out _ Q.out.1).mono ?_
    rintro r w1 ⟨rfl, h1⟩
    replace Q := Lib.hid (Q.out.then h1)
    clear h1
    go_wp2_with fail
    refine (HS.out _ Q.out.1).mono ?_
    rintro r w2 ⟨rfl, h1⟩
    replace Q := Lib.hid (Q.out.then h1)
    clear h1
    go_wp2_with fail
    refine (HQ.out _ Q.out.1).mono ?_
    intro r w3 h3
    obtain ⟨m, p, n, c, p', n', c', t', rfl, hq, hm⟩ := rm_on Q.out h3
    have Q3 := Lib.hid hq
    have M3 := Lib.hid hm
    clear h3 hq hm Q
    obtain ⟨k, v, g, mx, q, rob, ev, ss, rs⟩ := m
    simp only [Msg.val] at *
    have r0 := Q3.out.cell 0 rfl
    have r1 := Q3.out.cell 1 rfl
    have r2 := Q3.out.cell 2 rfl
    have r3 := Q3.out.cell 3 rfl
    have r4 := Q3.out.cell 4 rfl
    have r5 := Q3.out.cell 5 rfl
    have r6 := Q3.out.cell 6 rfl
    have r7 := Q3.out.cell 7 rfl
    have r8 := Q3.out.cell 8 rfl
    have g0 := Q3.out.free 0
    have g1 := Q3.out.free 1
    have g2 := Q3.out.free 2
    have g3 := Q3.out.free 3
    have g4 := Q3.out.free 4
    have g5 := Q3.out.free 5
    have g6 := Q3.out.free 6
    have g7 := Q3.out.free 7
    have g8 := Q3.out.free 8
    go_wp2
    refine bodyPost_ret (v := .agg #[.int .i64 k, .int .i64 v, .string g, .int .i64 mx, .bool q, .int .i64 rob, .int .i64 ev, .slice p n c, .slice p' n' c']) (by simp [results, Tryz.results19, go_sem, r0, r1, r2, r3, r4, r5, r6, r7, r8]) rfl ?_
    rw [V.out]
    exact rq_end Q3.out rfl M3.out
  · obtain ⟨a1, a2⟩ := ne_t (show (B0 : Int) ≠ 130 by omega)
    rw [if_neg n1] at V
    by_cases n2 : B0 = 131
    · obtain ⟨b1, b2⟩ := eq_t (show (B0 : Int) = 131 by omega)
      rw [if_pos n2] at V
      clear n1 n2 HQ HO3 HR HK
      go_enter Tryz.func19, Tryz.ntmps19
      go_wp2_with fail
      refine (H1.out _ Q.out.1).mono ?_
      rintro r w1 ⟨rfl, h1⟩
      replace Q := Lib.hid (Q.out.then h1)
      clear h1
      go_wp2_with fail
      refine (HS.out _ Q.out.1).mono ?_
      rintro r w2 ⟨rfl, h1⟩
      replace Q := Lib.hid (Q.out.then h1)
      clear h1
      go_wp2_with fail
      refine (HO2.out _ Q.out.1).mono ?_
      intro r w3 h3
      obtain ⟨m, p, n, c, p', n', c', t', rfl, hq, hm⟩ := rm_on Q.out h3
      have Q3 := Lib.hid hq
      have M3 := Lib.hid hm
      clear h3 hq hm Q
      obtain ⟨k, v, g, mx, q, rob, ev, ss, rs⟩ := m
      simp only [Msg.val] at *
      have r0 := Q3.out.cell 0 rfl
      have r1 := Q3.out.cell 1 rfl
      have r2 := Q3.out.cell 2 rfl
      have r3 := Q3.out.cell 3 rfl
      have r4 := Q3.out.cell 4 rfl
      have r5 := Q3.out.cell 5 rfl
      have r6 := Q3.out.cell 6 rfl
      have r7 := Q3.out.cell 7 rfl
      have r8 := Q3.out.cell 8 rfl
      have g0 := Q3.out.free 0
      have g1 := Q3.out.free 1
      have g2 := Q3.out.free 2
      have g3 := Q3.out.free 3
      have g4 := Q3.out.free 4
      have g5 := Q3.out.free 5
      have g6 := Q3.out.free 6
      have g7 := Q3.out.free 7
      have g8 := Q3.out.free 8
      go_wp2
      refine bodyPost_ret (v := .agg #[.int .i64 k, .int .i64 v, .string g, .int .i64 mx, .bool q, .int .i64 rob, .int .i64 ev, .slice p n c, .slice p' n' c']) (by simp [results, Tryz.results19, go_sem, r0, r1, r2, r3, r4, r5, r6, r7, r8]) rfl ?_
      rw [V.out]
      exact rq_end Q3.out rfl M3.out
    · obtain ⟨b1, b2⟩ := ne_t (show (B0 : Int) ≠ 131 by omega)
      rw [if_neg n2] at V
      by_cases n3 : B0 = 132
      · obtain ⟨d1, d2⟩ := eq_t (show (B0 : Int) = 132 by omega)
        rw [if_pos n3] at V
        clear n1 n2 n3 HQ HO2 HR HK
        go_enter Tryz.func19, Tryz.ntmps19
        go_wp2_with fail
        refine (H1.out _ Q.out.1).mono ?_
        rintro r w1 ⟨rfl, h1⟩
        replace Q := Lib.hid (Q.out.then h1)
        clear h1
        go_wp2_with fail
        refine (HS.out _ Q.out.1).mono ?_
        rintro r w2 ⟨rfl, h1⟩
        replace Q := Lib.hid (Q.out.then h1)
        clear h1
        go_wp2_with fail
        refine (HO3.out _ Q.out.1).mono ?_
        intro r w3 h3
        obtain ⟨m, p, n, c, p', n', c', t', rfl, hq, hm⟩ := rm_on Q.out h3
        have Q3 := Lib.hid hq
        have M3 := Lib.hid hm
        clear h3 hq hm Q
        obtain ⟨k, v, g, mx, q, rob, ev, ss, rs⟩ := m
        simp only [Msg.val] at *
        have r0 := Q3.out.cell 0 rfl
        have r1 := Q3.out.cell 1 rfl
        have r2 := Q3.out.cell 2 rfl
        have r3 := Q3.out.cell 3 rfl
        have r4 := Q3.out.cell 4 rfl
        have r5 := Q3.out.cell 5 rfl
        have r6 := Q3.out.cell 6 rfl
        have r7 := Q3.out.cell 7 rfl
        have r8 := Q3.out.cell 8 rfl
        have g0 := Q3.out.free 0
        have g1 := Q3.out.free 1
        have g2 := Q3.out.free 2
        have g3 := Q3.out.free 3
        have g4 := Q3.out.free 4
        have g5 := Q3.out.free 5
        have g6 := Q3.out.free 6
        have g7 := Q3.out.free 7
        have g8 := Q3.out.free 8
        go_wp2
        refine bodyPost_ret (v := .agg #[.int .i64 k, .int .i64 v, .string g, .int .i64 mx, .bool q, .int .i64 rob, .int .i64 ev, .slice p n c, .slice p' n' c']) (by simp [results, Tryz.results19, go_sem, r0, r1, r2, r3, r4, r5, r6, r7, r8]) rfl ?_
        rw [V.out]
        exact rq_end Q3.out rfl M3.out
      · obtain ⟨d1, d2⟩ := ne_t (show (B0 : Int) ≠ 132 by omega)
        rw [if_neg n3] at V
        by_cases n4 : B0 = 143
        · obtain ⟨e1, e2⟩ := eq_t (show (B0 : Int) = 143 by omega)
          rw [if_pos n4] at V
          clear n1 n2 n3 n4 HQ HO2 HO3 HK
          go_enter Tryz.func19, Tryz.ntmps19
          go_wp2_with fail
          refine (H1.out _ Q.out.1).mono ?_
          rintro r w1 ⟨rfl, h1⟩
          replace Q := Lib.hid (Q.out.then h1)
          clear h1
          go_wp2_with fail
          refine (HS.out _ Q.out.1).mono ?_
          rintro r w2 ⟨rfl, h1⟩
          replace Q := Lib.hid (Q.out.then h1)
          clear h1
          go_wp2_with fail
          refine (HR.out _ Q.out.1).mono ?_
          intro r w3 h3
          obtain ⟨m, p, n, c, p', n', c', t', rfl, hq, hm⟩ := rm_on Q.out h3
          have Q3 := Lib.hid hq
          have M3 := Lib.hid hm
          clear h3 hq hm Q
          obtain ⟨k, v, g, mx, q, rob, ev, ss, rs⟩ := m
          simp only [Msg.val] at *
          have r0 := Q3.out.cell 0 rfl
          have r1 := Q3.out.cell 1 rfl
          have r2 := Q3.out.cell 2 rfl
          have r3 := Q3.out.cell 3 rfl
          have r4 := Q3.out.cell 4 rfl
          have r5 := Q3.out.cell 5 rfl
          have r6 := Q3.out.cell 6 rfl
          have r7 := Q3.out.cell 7 rfl
          have r8 := Q3.out.cell 8 rfl
          have g0 := Q3.out.free 0
          have g1 := Q3.out.free 1
          have g2 := Q3.out.free 2
          have g3 := Q3.out.free 3
          have g4 := Q3.out.free 4
          have g5 := Q3.out.free 5
          have g6 := Q3.out.free 6
          have g7 := Q3.out.free 7
          have g8 := Q3.out.free 8
          go_wp2
          refine bodyPost_ret (v := .agg #[.int .i64 k, .int .i64 v, .string g, .int .i64 mx, .bool q, .int .i64 rob, .int .i64 ev, .slice p n c, .slice p' n' c']) (by simp [results, Tryz.results19, go_sem, r0, r1, r2, r3, r4, r5, r6, r7, r8]) rfl ?_
          rw [V.out]
          exact rq_end Q3.out rfl M3.out
        · obtain ⟨e1, e2⟩ := ne_t (show (B0 : Int) ≠ 143 by omega)
          rw [if_neg n4] at V
          clear n1 n2 n3 n4 HQ HO2 HO3 HR
          go_enter Tryz.func19, Tryz.ntmps19
          go_wp2_with fail
          refine (H1.out _ Q.out.1).mono ?_
          rintro r w1 ⟨rfl, h1⟩
          replace Q := Lib.hid (Q.out.then h1)
          clear h1
          go_wp2_with fail
          refine (HS.out _ Q.out.1).mono ?_
          rintro r w2 ⟨rfl, h1⟩
          replace Q := Lib.hid (Q.out.then h1)
          clear h1
          go_wp2_with fail
          refine (HK.out _ Q.out.1).mono ?_
          rintro r w3 ⟨rfl, h1⟩
          have Q3 := Lib.hid (Q.out.then h1)
          clear h1 Q
          have r0 := Q3.out.cell 0 rfl
          have r1 := Q3.out.cell 1 rfl
          have r2 := Q3.out.cell 2 rfl
          have r3 := Q3.out.cell 3 rfl
          have r4 := Q3.out.cell 4 rfl
          have r5 := Q3.out.cell 5 rfl
          have r6 := Q3.out.cell 6 rfl
          have r7 := Q3.out.cell 7 rfl
          have r8 := Q3.out.cell 8 rfl
          have g0 := Q3.out.free 0
          have g1 := Q3.out.free 1
          have g2 := Q3.out.free 2
          have g3 := Q3.out.free 3
          have g4 := Q3.out.free 4
          have g5 := Q3.out.free 5
          have g6 := Q3.out.free 6
          have g7 := Q3.out.free 7
          have g8 := Q3.out.free 8
          go_wp2
          refine bodyPost_ret (v := .agg #[.int .i64 0, .int .i64 0, .string ⟨#[]⟩, .int .i64 0, .bool false, .int .i64 0, .int .i64 0, .slice none 0 0, .slice none 0 0]) (by simp [results, Tryz.results19, go_sem, r0, r1, r2, r3, r4, r5, r6, r7, r8]) rfl ?_
          rw [V.out]
          exact rq_end (ss := []) (rs := []) Q3.out rfl (fun h => absurd h (by decide))

/-- What Decode answers. -/
def fixD (t : Int × Msg) : Int × Msg := if t.1 ≠ 0 then (t.1, zeroM) else (0, t.2)
def decD (src dst s : ByteArray) : Int × Msg :=
  if (aheadI src dst s.size).2 ≠ 0 then ((aheadI src dst s.size).2, zeroM)
  else if s.size < 8 then (2, zeroM)
  else if sumN ((aheadI src dst s.size).1 ++ s).data.toList ≠ 0 then (4, zeroM)
  else fixD (rdM s)

theorem Box.grownR {w0 w w' : World} {xs : Array Value} {t : TypeId} {b : Nat} (h : Box w0 w xs t) (k : w.grownBy w' (some b)) (hb : w0.heap.size < b) : Box w0 w' xs t :=
  ⟨(k.block _ (lt_of_block h.1) (by simp; omega)).trans h.1, ⟨k.os.trans h.2.os, k.tape.trans h.2.tape, k.output.trans h.2.output, Nat.le_trans h.2.size k.size, fun j hj => (k.block j (by have := h.2.size; omega) (by simp; omega)).trans (h.2.block j hj)⟩⟩

/-- The answer's block, the reader, and the message. -/
def DB (w : World) (b P : Nat) (xs : Array Value) (e : Int) (s : ByteArray) (t : Int) (W : World) : Prop :=
  Box w W #[.int .i64 0, .int .i64 0, .string ⟨#[]⟩, .int .i64 0, .bool false, .int .i64 0, .int .i64 0, .slice none 0 0, .slice none 0 0] 28 ∧ RB b e s t W ∧ W.heap[P]? = some (.cells xs 28 (0, 0)) ∧ w.heap.size < P ∧ w.heap.size < b
theorem DB.drew {w : World} {b P : Nat} {xs : Array Value} {e : Int} {s : ByteArray} {t : Int} {W : World} (h : DB w b P xs e s t W) : DB w b P xs e s t W.drew := ⟨⟨h.1.1, h.1.2.drew⟩, h.2.1, h.2.2⟩

set_option maxHeartbeats 4000000 in
set_option maxRecDepth 100000 in
theorem mdec_c (src dst s : ByteArray) (w : World) (hs : s.size ≤ 281474976710000) :
    Calls Tryz.prog 8 #[.string src, .string dst, .string s] w (MsgPost (decD src dst s) w) := by
  have HA := Lib.hid fun U => ahead_c src dst s.size U
  have hz := ahead_size src dst s.size
  have V0 := Lib.hid (show decD src dst s = if (aheadI src dst s.size).2 ≠ 0 then ((aheadI src dst s.size).2, zeroM) else if s.size < 8 then (2, zeroM) else if sumN ((aheadI src dst s.size).1 ++ s).data.toList ≠ 0 then (4, zeroM) else fixD (rdM s) from rfl)
  generalize decD src dst s = OD at *
  generalize (aheadI src dst s.size).1 = A1 at *
  generalize (aheadI src dst s.size).2 = A2 at *
  by_cases h2 : A2 = 0
  · subst h2
    rw [if_neg (by simp)] at V0
    by_cases h8 : s.size < 8
    · have V := Lib.hid (V0.out.trans (if_pos h8))
      have h8' : (s.size : Int) < 8 := by omega
      clear h8 V0 hz
      go_enter Tryz.func8, Tryz.ntmps8
      go_wp2_with fail
      ((with_reducible refine (HA.out _).mono ?_); rintro r w1 ⟨rfl, h1⟩)
      have B := Lib.hid ((Box.start w _ _).below h1)
      clear h1
      have c0 := B.out.cell 0 rfl
      have c1 := B.out.cell 1 rfl
      have c2 := B.out.cell 2 rfl
      have c3 := B.out.cell 3 rfl
      have c4 := B.out.cell 4 rfl
      have c5 := B.out.cell 5 rfl
      have c6 := B.out.cell 6 rfl
      have c7 := B.out.cell 7 rfl
      have c8 := B.out.cell 8 rfl
      have g0 := B.out.free 0
      have g1 := B.out.free 1
      have g2 := B.out.free 2
      have g3 := B.out.free 3
      have g4 := B.out.free 4
      have g5 := B.out.free 5
      have g6 := B.out.free 6
      have g7 := B.out.free 7
      have g8 := B.out.free 8
      go_wp2_with fail
      refine bodyPost_ret (v := .tuple #[.agg #[.int .i64 0, .int .i64 0, .string ⟨#[]⟩, .int .i64 0, .bool false, .int .i64 0, .int .i64 0, .slice none 0 0, .slice none 0 0], .int .i64 2]) (by simp [results, Tryz.results8, go_sem, c0, c1, c2, c3, c4, c5, c6, c7, c8]) rfl (MsgPost.bad V.out rfl ?_)
      exact (((((((((B.out.2.setCell (p := ⟨w.heap.size, 0, none⟩) (Nat.le_refl _) _).setCell (p := ⟨w.heap.size, 1, none⟩) (Nat.le_refl _) _).setCell (p := ⟨w.heap.size, 2, none⟩) (Nat.le_refl _) _).setCell (p := ⟨w.heap.size, 3, none⟩) (Nat.le_refl _) _).setCell (p := ⟨w.heap.size, 4, none⟩) (Nat.le_refl _) _).setCell (p := ⟨w.heap.size, 5, none⟩) (Nat.le_refl _) _).setCell (p := ⟨w.heap.size, 6, none⟩) (Nat.le_refl _) _).setCell (p := ⟨w.heap.size, 7, none⟩) (Nat.le_refl _) _).setCell (p := ⟨w.heap.size, 8, none⟩) (Nat.le_refl _) _)
    · have V1 := Lib.hid (V0.out.trans (if_neg h8))
      have h8' : ¬ (s.size : Int) < 8 := by omega
      have hn : ¬ (9223372036854775807 < A1.size + s.size) := by omega
      have HR := Lib.hid fun U => right_c (A1 ++ s) U (by rw [ByteArray.size_append]; omega)
      obtain ⟨X, hX⟩ : ∃ X, A1 ++ s = X := ⟨_, rfl⟩
      rw [hX] at V1 HR
      by_cases hq : sumN X.data.toList = 0
      · have V := Lib.hid (V1.out.trans (if_neg fun h => h hq))
        rw [show ((sumN X.data.toList : Int) == 0) = true from by rw [hq]; rfl] at HR
        have HM := Lib.hid fun b U h => messager b s U h hs (by omega)
        clear hq V0 V1 h8 hz
        generalize rdM s = RD at *
        go_enter Tryz.func8, Tryz.ntmps8
        go_wp2_with fail
        ((with_reducible refine (HA.out _).mono ?_); rintro r w1 ⟨rfl, h1⟩)
        have B := Lib.hid ((Box.start w _ _).below h1)
        clear h1
        go_wp2_with fail
        ((with_reducible refine (HR.out _).mono ?_); rintro r w2 ⟨rfl, h2⟩)
        replace B := Lib.hid (B.out.below h2)
        clear h2
        go_upto_region 9 with fail
        have hRB : RB w2.heap.size 0 s 0 (w2.alloc (.cells #[.int .i64 0, .string s, .int .i64 0] 56)) := heap_new _ _
        have hBx := B.out.below ((Below.refl _ w2).alloc (Nat.le_refl _) (.cells #[.int .i64 0, .string s, .int .i64 0] 56))
        have hbw : w.heap.size < w2.heap.size := B.out.lt
        have HRB := Lib.hid hRB
        replace B := Lib.hid hBx
        clear hRB hBx
        generalize w2.alloc (.cells #[.int .i64 0, .string s, .int .i64 0] 56) = W2 at HRB B ⊢
        generalize w2.heap.size = b at HRB hbw ⊢
        go_wp2_with fail
        refine (HM.out b W2 HRB.out).mono ?_
        rintro r w3 ⟨m, p, n, c, p', n', c', t', rfl, hrb, hg, hm⟩
        replace B := Lib.hid (B.out.grownR hg hbw)
        have hlt2 : w.heap.size + 1 ≤ W2.heap.size := by have := HRB.out.lt; omega
        have HM3 := Lib.hid fun h0 => (⟨(hm h0).1, (hm h0).2.1.mono hlt2 id, (hm h0).2.2.mono hlt2 id⟩ : m = RD.2 ∧ AddrsG (w.heap.size + 1) true w3 (.slice p n c) m.srcs ∧ RecsG (w.heap.size + 1) true w3 (.slice p' n' c') m.recs)
        have HRB3 := Lib.hid hrb
        clear hrb hg hm hlt2 HRB HM
        obtain ⟨k, v, g, mx, q, rob, ev, ss, rs⟩ := m
        simp only [Msg.val] at *
        go_upto_region 10 with fail
        have hal := (Below.refl w3.heap.size w3).alloc (Nat.le_refl _) (.cells #[.int .i64 k, .int .i64 v, .string g, .int .i64 mx, .bool q, .int .i64 rob, .int .i64 ev, .slice p n c, .slice p' n' c'] 28)
        have hD : DB w b w3.heap.size #[.int .i64 k, .int .i64 v, .string g, .int .i64 mx, .bool q, .int .i64 rob, .int .i64 ev, .slice p n c, .slice p' n' c'] RD.1 s t' (w3.alloc (.cells #[.int .i64 k, .int .i64 v, .string g, .int .i64 mx, .bool q, .int .i64 rob, .int .i64 ev, .slice p n c, .slice p' n' c'] 28)) :=
          ⟨B.out.below hal, HRB3.out.below hal, heap_new _ _, B.out.lt, hbw⟩
        have D := Lib.hid hD
        have M4 := Lib.hid fun h0 => (⟨(HM3.out h0).1, (HM3.out h0).2.1.below hal, (HM3.out h0).2.2.below hal⟩ : (⟨k, v, g, mx, q, rob, ev, ss, rs⟩ : Msg) = RD.2 ∧ AddrsG (w.heap.size + 1) true _ (.slice p n c) ss ∧ RecsG (w.heap.size + 1) true _ (.slice p' n' c') rs)
        clear hal hD B HRB3 HM3
        generalize w3.alloc (.cells #[.int .i64 k, .int .i64 v, .string g, .int .i64 mx, .bool q, .int .i64 rob, .int .i64 ev, .slice p n c, .slice p' n' c'] 28) = W3 at D M4 ⊢
        generalize w3.heap.size = P at D ⊢
        have x0 := D.out.2.1.cells.1
        have hNP : w.heap.size ≠ P := by have := D.out.2.2.2.1; omega
        have m0 : W3.cell? ⟨P, 0, none⟩ = some _ := cell_of_block D.out.2.2.1 rfl
        have m1 : W3.cell? ⟨P, 1, none⟩ = some _ := cell_of_block D.out.2.2.1 rfl
        have m2 : W3.cell? ⟨P, 2, none⟩ = some _ := cell_of_block D.out.2.2.1 rfl
        have m3 : W3.cell? ⟨P, 3, none⟩ = some _ := cell_of_block D.out.2.2.1 rfl
        have m4 : W3.cell? ⟨P, 4, none⟩ = some _ := cell_of_block D.out.2.2.1 rfl
        have m5 : W3.cell? ⟨P, 5, none⟩ = some _ := cell_of_block D.out.2.2.1 rfl
        have m6 : W3.cell? ⟨P, 6, none⟩ = some _ := cell_of_block D.out.2.2.1 rfl
        have m7 : W3.cell? ⟨P, 7, none⟩ = some _ := cell_of_block D.out.2.2.1 rfl
        have m8 : W3.cell? ⟨P, 8, none⟩ = some _ := cell_of_block D.out.2.2.1 rfl
        have c0 := D.out.1.cell 0 rfl
        have c1 := D.out.1.cell 1 rfl
        have c2 := D.out.1.cell 2 rfl
        have c3 := D.out.1.cell 3 rfl
        have c4 := D.out.1.cell 4 rfl
        have c5 := D.out.1.cell 5 rfl
        have c6 := D.out.1.cell 6 rfl
        have c7 := D.out.1.cell 7 rfl
        have c8 := D.out.1.cell 8 rfl
        have g0 := D.out.1.free 0
        have g1 := D.out.1.free 1
        have g2 := D.out.1.free 2
        have g3 := D.out.1.free 3
        have g4 := D.out.1.free 4
        have g5 := D.out.1.free 5
        have g6 := D.out.1.free 6
        have g7 := D.out.1.free 7
        have g8 := D.out.1.free 8
        by_cases h0 : RD.1 = 0
        · have hx : RD.1 = 0 := h0
          rw [hx] at x0
          obtain ⟨M1, M2, M3⟩ := M4.out hx
          have HS := Lib.hid M2
          have HR2 := Lib.hid M3
          have VV := Lib.hid (show OD = (0, ⟨k, v, g, mx, q, rob, ev, ss, rs⟩) by rw [V.out]; unfold fixD; rw [if_neg (fun h => h hx), ← M1])
          clear M1 M2 M3 M4 V h0 hx
          go_wp2
          refine bodyPost_ret (v := .tuple #[.agg #[.int .i64 k, .int .i64 v, .string g, .int .i64 mx, .bool q, .int .i64 rob, .int .i64 ev, .slice p n c, .slice p' n' c'], .int .i64 0]) (by simp [results, Tryz.results8, go_sem, c0, c1, c2, c3, c4, c5, c6, c7, c8]) rfl ?_
          unfold MsgPost
          rw [VV.out]
          exact ⟨_, _, rfl, HS.out.storeN9 w.heap.size (Nat.lt_succ_self _), HR2.out.storeN9 w.heap.size (Nat.lt_succ_self _), (((((((((D.out.1.2.setCell (p := ⟨w.heap.size, 0, none⟩) (Nat.le_refl _) _).setCell (p := ⟨w.heap.size, 1, none⟩) (Nat.le_refl _) _).setCell (p := ⟨w.heap.size, 2, none⟩) (Nat.le_refl _) _).setCell (p := ⟨w.heap.size, 3, none⟩) (Nat.le_refl _) _).setCell (p := ⟨w.heap.size, 4, none⟩) (Nat.le_refl _) _).setCell (p := ⟨w.heap.size, 5, none⟩) (Nat.le_refl _) _).setCell (p := ⟨w.heap.size, 6, none⟩) (Nat.le_refl _) _).setCell (p := ⟨w.heap.size, 7, none⟩) (Nat.le_refl _) _).setCell (p := ⟨w.heap.size, 8, none⟩) (Nat.le_refl _) _)⟩
        · obtain ⟨y1, y2⟩ := ne_t h0
          have VV := Lib.hid (show OD = (RD.1, zeroM) by rw [V.out]; unfold fixD; rw [if_pos h0])
          generalize RD.1 = RE at *
          clear h0 M4 V m0 m1 m2 m3 m4 m5 m6 m7 m8
          go_wp2_with fail
          go_region
          all_goals
            go_wp2
            refine bodyPost_ret (v := .tuple #[.agg #[.int .i64 0, .int .i64 0, .string ⟨#[]⟩, .int .i64 0, .bool false, .int .i64 0, .int .i64 0, .slice none 0 0, .slice none 0 0], .int .i64 RE]) (by simp [results, Tryz.results8, go_sem, c0, c1, c2, c3, c4, c5, c6, c7, c8]) rfl (MsgPost.bad VV.out rfl ?_)
            exact ((((((((((D.out.1.2.setCell (p := ⟨w.heap.size, 0, none⟩) (Nat.le_refl _) _).setCell (p := ⟨w.heap.size, 1, none⟩) (Nat.le_refl _) _).setCell (p := ⟨w.heap.size, 2, none⟩) (Nat.le_refl _) _).setCell (p := ⟨w.heap.size, 3, none⟩) (Nat.le_refl _) _).setCell (p := ⟨w.heap.size, 4, none⟩) (Nat.le_refl _) _).setCell (p := ⟨w.heap.size, 5, none⟩) (Nat.le_refl _) _).setCell (p := ⟨w.heap.size, 6, none⟩) (Nat.le_refl _) _).setCell (p := ⟨w.heap.size, 7, none⟩) (Nat.le_refl _) _).setCell (p := ⟨w.heap.size, 8, none⟩) (Nat.le_refl _) _)).drew
      · have V := Lib.hid (V1.out.trans (if_pos hq))
        rw [show ((sumN X.data.toList : Int) == 0) = false from by simp; omega] at HR
        clear hq V0 V1 h8 hz
        go_enter Tryz.func8, Tryz.ntmps8
        go_wp2_with fail
        ((with_reducible refine (HA.out _).mono ?_); rintro r w1 ⟨rfl, h1⟩)
        have B := Lib.hid ((Box.start w _ _).below h1)
        clear h1
        go_wp2_with fail
        ((with_reducible refine (HR.out _).mono ?_); rintro r w2 ⟨rfl, h2⟩)
        replace B := Lib.hid (B.out.below h2)
        clear h2
        have c0 := B.out.cell 0 rfl
        have c1 := B.out.cell 1 rfl
        have c2 := B.out.cell 2 rfl
        have c3 := B.out.cell 3 rfl
        have c4 := B.out.cell 4 rfl
        have c5 := B.out.cell 5 rfl
        have c6 := B.out.cell 6 rfl
        have c7 := B.out.cell 7 rfl
        have c8 := B.out.cell 8 rfl
        have g0 := B.out.free 0
        have g1 := B.out.free 1
        have g2 := B.out.free 2
        have g3 := B.out.free 3
        have g4 := B.out.free 4
        have g5 := B.out.free 5
        have g6 := B.out.free 6
        have g7 := B.out.free 7
        have g8 := B.out.free 8
        go_wp2_with fail
        refine bodyPost_ret (v := .tuple #[.agg #[.int .i64 0, .int .i64 0, .string ⟨#[]⟩, .int .i64 0, .bool false, .int .i64 0, .int .i64 0, .slice none 0 0, .slice none 0 0], .int .i64 4]) (by simp [results, Tryz.results8, go_sem, c0, c1, c2, c3, c4, c5, c6, c7, c8]) rfl (MsgPost.bad V.out rfl ?_)
        exact (((((((((B.out.2.setCell (p := ⟨w.heap.size, 0, none⟩) (Nat.le_refl _) _).setCell (p := ⟨w.heap.size, 1, none⟩) (Nat.le_refl _) _).setCell (p := ⟨w.heap.size, 2, none⟩) (Nat.le_refl _) _).setCell (p := ⟨w.heap.size, 3, none⟩) (Nat.le_refl _) _).setCell (p := ⟨w.heap.size, 4, none⟩) (Nat.le_refl _) _).setCell (p := ⟨w.heap.size, 5, none⟩) (Nat.le_refl _) _).setCell (p := ⟨w.heap.size, 6, none⟩) (Nat.le_refl _) _).setCell (p := ⟨w.heap.size, 7, none⟩) (Nat.le_refl _) _).setCell (p := ⟨w.heap.size, 8, none⟩) (Nat.le_refl _) _)
  · have V := Lib.hid (V0.out.trans (if_pos h2))
    obtain ⟨a1, a2⟩ := ne_t h2
    clear h2 V0 hz
    go_enter Tryz.func8, Tryz.ntmps8
    go_wp2_with fail
    ((with_reducible refine (HA.out _).mono ?_); rintro r w1 ⟨rfl, h1⟩)
    have B := Lib.hid ((Box.start w _ _).below h1)
    clear h1
    have c0 := B.out.cell 0 rfl
    have c1 := B.out.cell 1 rfl
    have c2 := B.out.cell 2 rfl
    have c3 := B.out.cell 3 rfl
    have c4 := B.out.cell 4 rfl
    have c5 := B.out.cell 5 rfl
    have c6 := B.out.cell 6 rfl
    have c7 := B.out.cell 7 rfl
    have c8 := B.out.cell 8 rfl
    have g0 := B.out.free 0
    have g1 := B.out.free 1
    have g2 := B.out.free 2
    have g3 := B.out.free 3
    have g4 := B.out.free 4
    have g5 := B.out.free 5
    have g6 := B.out.free 6
    have g7 := B.out.free 7
    have g8 := B.out.free 8
    go_wp2_with fail
    refine bodyPost_ret (v := .tuple #[.agg #[.int .i64 0, .int .i64 0, .string ⟨#[]⟩, .int .i64 0, .bool false, .int .i64 0, .int .i64 0, .slice none 0 0, .slice none 0 0], .int .i64 A2]) (by simp [results, Tryz.results8, go_sem, c0, c1, c2, c3, c4, c5, c6, c7, c8]) rfl (MsgPost.bad V.out rfl ?_)
    exact (((((((((B.out.2.setCell (p := ⟨w.heap.size, 0, none⟩) (Nat.le_refl _) _).setCell (p := ⟨w.heap.size, 1, none⟩) (Nat.le_refl _) _).setCell (p := ⟨w.heap.size, 2, none⟩) (Nat.le_refl _) _).setCell (p := ⟨w.heap.size, 3, none⟩) (Nat.le_refl _) _).setCell (p := ⟨w.heap.size, 4, none⟩) (Nat.le_refl _) _).setCell (p := ⟨w.heap.size, 5, none⟩) (Nat.le_refl _) _).setCell (p := ⟨w.heap.size, 6, none⟩) (Nat.le_refl _) _).setCell (p := ⟨w.heap.size, 7, none⟩) (Nat.le_refl _) _).setCell (p := ⟨w.heap.size, 8, none⟩) (Nat.le_refl _) _)

end Go.Proofs.YtniahpbjfpmmhaaGreat
