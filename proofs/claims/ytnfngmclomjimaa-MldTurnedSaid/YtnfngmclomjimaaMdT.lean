/-
  Reading group messages of IPv6: messages of one group, reports of version 2. Contracts over the translated program.
  Reading group messages of IPv6: the details of a query. A contract over the translated program.
-/
import Derived.Test.YtnfngmclomjimaaMdR
import Derived.Test.YtnfngmclomjimaaBits
namespace Go.Proofs.Ytnfngmclomjimaa
open Go.RowKit
set_option linter.unusedVariables false

abbrev zero9 : Array Value := #[.int .i64 0, .int .i64 0, .string ⟨#[]⟩, .int .i64 0, .bool false, .int .i64 0, .int .i64 0, .slice none 0 0, .slice none 0 0]
/-- A reader at b, and the answer's block behind w's end. -/
def RQ (b : Nat) (w : World) (e : Int) (s : ByteArray) (t : Int) (W : World) : Prop :=
  RB b e s t W ∧ W.heap[w.heap.size]? = some (.cells #[.int .i64 0, .int .i64 0, .string ⟨#[]⟩, .int .i64 0, .bool false, .int .i64 0, .int .i64 0, .slice none 0 0, .slice none 0 0] 28 (0, 0)) ∧ w.grownBy W (some b) ∧ b < w.heap.size
/-- A store behind w's end. -/
theorem grown_far {w W : World} {b : Nat} (h : w.grownBy W (some b)) (P j : Nat) (v : Value) (hP : w.heap.size ≤ P) : w.grownBy (W.setCell ⟨P, j, none⟩ v) (some b) :=
  ⟨h.os, h.tape, h.output, by simp [World.setCell]; exact h.size, fun k hk hb => (Below.heap_setCell _ _ _ _ (show k ≠ P by omega)).trans (h.block k hk hb)⟩
theorem RQ.start {b : Nat} {w : World} {e : Int} {s : ByteArray} {t : Int} (h : RB b e s t w) : RQ b w e s t (w.alloc (.cells #[.int .i64 0, .int .i64 0, .string ⟨#[]⟩, .int .i64 0, .bool false, .int .i64 0, .int .i64 0, .slice none 0 0, .slice none 0 0] 28)) := by
  have hb := (Below.refl w.heap.size w).alloc (Nat.le_refl _) (.cells #[.int .i64 0, .int .i64 0, .string ⟨#[]⟩, .int .i64 0, .bool false, .int .i64 0, .int .i64 0, .slice none 0 0, .slice none 0 0] 28)
  exact ⟨h.below hb, heap_new _ _, grown_below hb, h.lt⟩
theorem RQ.then {b : Nat} {w W W' : World} {e e' : Int} {s : ByteArray} {t t' : Int} (h : RQ b w e s t W) (k : RS b W e' s t' W') : RQ b w e' s t' W' :=
  ⟨k.1, (k.2.block _ (lt_of_block h.2.1) (by have := h.2.2.2; simp; omega)).trans h.2.1, h.2.2.1.trans k.2, h.2.2.2⟩
theorem RQ.below {b : Nat} {w W W' : World} {e : Int} {s : ByteArray} {t : Int} (h : RQ b w e s t W) (k : Below W.heap.size W W') : RQ b w e s t W' :=
  ⟨h.1.below k, below_block k (lt_of_block h.2.1) h.2.1, h.2.2.1.trans (grown_below k), h.2.2.2⟩
theorem RQ.cell {b : Nat} {w W : World} {e : Int} {s : ByteArray} {t : Int} (h : RQ b w e s t W) (j : Nat) {v : Value} (hj : (#[.int .i64 0, .int .i64 0, .string ⟨#[]⟩, .int .i64 0, .bool false, .int .i64 0, .int .i64 0, .slice none 0 0, .slice none 0 0] : Array Value)[j]? = some v) : W.cell? ⟨w.heap.size, j, none⟩ = some v := cell_of_block h.2.1 hj
theorem RQ.free {b : Nat} {w W : World} {e : Int} {s : ByteArray} {t : Int} (h : RQ b w e s t W) (j : Nat) : W.frozen? ⟨w.heap.size, j, none⟩ = false := free_of_block h.2.1
/-- The answer is laid. -/
theorem RQ.laid {b : Nat} {w W : World} {e : Int} {s : ByteArray} {t : Int} (h : RQ b w e s t W) (u0 u1 u2 u3 u4 u5 u6 u7 u8 : Value) :
    RB b e s t (((((((((W.setCell ⟨w.heap.size, 0, none⟩ u0).setCell ⟨w.heap.size, 1, none⟩ u1).setCell ⟨w.heap.size, 2, none⟩ u2).setCell ⟨w.heap.size, 3, none⟩ u3).setCell ⟨w.heap.size, 4, none⟩ u4).setCell ⟨w.heap.size, 5, none⟩ u5).setCell ⟨w.heap.size, 6, none⟩ u6).setCell ⟨w.heap.size, 7, none⟩ u7).setCell ⟨w.heap.size, 8, none⟩ u8) ∧
    w.grownBy (((((((((W.setCell ⟨w.heap.size, 0, none⟩ u0).setCell ⟨w.heap.size, 1, none⟩ u1).setCell ⟨w.heap.size, 2, none⟩ u2).setCell ⟨w.heap.size, 3, none⟩ u3).setCell ⟨w.heap.size, 4, none⟩ u4).setCell ⟨w.heap.size, 5, none⟩ u5).setCell ⟨w.heap.size, 6, none⟩ u6).setCell ⟨w.heap.size, 7, none⟩ u7).setCell ⟨w.heap.size, 8, none⟩ u8) (some b) := by
  have hne : b ≠ w.heap.size := by have := h.2.2.2; omega
  refine ⟨?_, ?_⟩
  · unfold RB
    exact heap_store_other (heap_store_other (heap_store_other (heap_store_other (heap_store_other (heap_store_other (heap_store_other (heap_store_other (heap_store_other h.1 hne) hne) hne) hne) hne) hne) hne) hne) hne
  · have hl := Nat.le_refl w.heap.size
    exact grown_far (grown_far (grown_far (grown_far (grown_far (grown_far (grown_far (grown_far (grown_far h.2.2.1 _ _ _ hl) _ _ _ hl) _ _ _ hl) _ _ _ hl) _ _ _ hl) _ _ _ hl) _ _ _ hl) _ _ _ hl) _ _ _ hl

/-- What a reader answers: the error, and the message where there is none. -/
def RMPost (b : Nat) (s : ByteArray) (x : Int × Msg) (w : World) (r : Ending) (W : World) : Prop :=
  ∃ (m : Msg) (p : Option Addr) (n c : Nat) (p' : Option Addr) (n' c' : Nat) (t : Int), r = .returned (m.val (.slice p n c) (.slice p' n' c')) ∧ RB b x.1 s t W ∧ w.grownBy W (some b) ∧
    (x.1 = 0 → m = x.2 ∧ AddrsG w.heap.size true W (.slice p n c) m.srcs ∧ RecsG w.heap.size true W (.slice p' n' c') m.recs)

/-- A message's box too. -/
def RP (b : Nat) (w : World) (P : Nat) (xs : Array Value) (e : Int) (s : ByteArray) (t : Int) (W : World) : Prop :=
  RQ b w e s t W ∧ W.heap[P]? = some (.cells xs 28 (0, 0)) ∧ w.heap.size < P
theorem RP.start {b : Nat} {w W : World} (xs : Array Value) {e : Int} {s : ByteArray} {t : Int} (h : RQ b w e s t W) : RP b w W.heap.size xs e s t (W.alloc (.cells xs 28)) :=
  ⟨h.below ((Below.refl _ W).alloc (Nat.le_refl _) _), heap_new _ _, lt_of_block h.2.1⟩
theorem RP.then {b P : Nat} {w W W' : World} {xs : Array Value} {e e' : Int} {s : ByteArray} {t t' : Int} (h : RP b w P xs e s t W) (k : RS b W e' s t' W') : RP b w P xs e' s t' W' :=
  ⟨h.1.then k, (k.2.block _ (lt_of_block h.2.1) (by have := h.1.2.2.2; have := h.2.2; simp; omega)).trans h.2.1, h.2.2⟩
theorem RP.below {b P : Nat} {w W W' : World} {xs : Array Value} {e : Int} {s : ByteArray} {t : Int} (h : RP b w P xs e s t W) (k : Below W.heap.size W W') : RP b w P xs e s t W' :=
  ⟨h.1.below k, below_block k (lt_of_block h.2.1) h.2.1, h.2.2⟩
theorem RP.cell {b P : Nat} {w W : World} {xs : Array Value} {e : Int} {s : ByteArray} {t : Int} (h : RP b w P xs e s t W) (j : Nat) {v : Value} (hj : xs[j]? = some v) : W.cell? ⟨P, j, none⟩ = some v := cell_of_block h.2.1 hj
theorem RP.free {b P : Nat} {w W : World} {xs : Array Value} {e : Int} {s : ByteArray} {t : Int} (h : RP b w P xs e s t W) (j : Nat) : W.frozen? ⟨P, j, none⟩ = false := free_of_block h.2.1
theorem RP.store {b P : Nat} {w W : World} {xs : Array Value} {e : Int} {s : ByteArray} {t : Int} (h : RP b w P xs e s t W) (j : Nat) (v : Value) : RP b w P (xs.setIfInBounds j v) e s t (W.setCell ⟨P, j, none⟩ v) := by
  have h1 := h.1.2.2.2
  have h2 := h.2.2
  exact ⟨⟨heap_store_other h.1.1 (by omega), heap_store_other h.1.2.1 (by omega), grown_far h.1.2.2.1 _ _ _ (Nat.le_of_lt h2), h1⟩, heap_store h.2.1, h2⟩

/-- A message of one group, at the bytes behind the head. -/
def oneD (s : ByteArray) (k : Int) : Int × Msg :=
  if s.size < 24 then (2, zeroM) else if grpB (s.extract 8 24) 16 then (0, ⟨k, 1, s.extract 8 24, 0, false, 0, 0, [], []⟩) else (3, zeroM)

set_option maxHeartbeats 4000000 in
set_option maxRecDepth 100000 in
theorem oner (b : Nat) (s : ByteArray) (k : Int) (w : World) (h : RB b 0 s 4 w) (hs : s.size ≤ 281474976710000) :
    Calls Try.prog 31 #[.pointer (some ⟨b, 0, none⟩), .int .i64 k] w (RMPost b s (oneD s k) w) := by
  obtain ⟨g, e1, hc, V⟩ : ∃ g e1, cutSpec s 8 16 = (g, e1) ∧ ((if grpB g 16 then e1 else kI e1 3), if s.size < 24 then zeroM else if grpB g 16 then ⟨k, 1, g, 0, false, 0, 0, [], []⟩ else zeroM) = oneD s k := by
    by_cases hc : s.size < 24
    · refine ⟨_, _, cut_no s 8 (by omega), ?_⟩
      unfold oneD
      rw [if_pos hc, if_pos hc]
      rfl
    · refine ⟨_, _, cut_fit s 8 (by omega), ?_⟩
      unfold oneD
      rw [if_neg hc, if_neg hc]
      split <;> rfl
  have HV : (oneD s k).1 = (if grpB g 16 then e1 else kI e1 3) := by rw [← V]
  have HM : (oneD s k).1 = 0 → (oneD s k).2 = ⟨k, 1, g, 0, false, 0, 0, [], []⟩ := by
    intro h0
    rw [← V] at h0 ⊢
    simp only at h0 ⊢
    by_cases hc' : s.size < 24
    · have := cut_no s 8 (by omega)
      rw [show ((8 : Nat) : Int) = 8 from rfl, hc] at this
      obtain ⟨rfl, rfl⟩ := Prod.mk.inj this
      exact absurd h0 (by decide)
    · rw [if_neg hc']
      have := cut_fit s 8 (by omega)
      rw [show ((8 : Nat) : Int) = 8 from rfl, hc] at this
      obtain ⟨rfl, rfl⟩ := Prod.mk.inj this
      by_cases hg : grpB (s.extract 8 24) 16 = true
      · rw [if_pos hg]
      · rw [if_neg hg] at h0
        exact absurd h0 (by decide)
  have V1 := Lib.hid HV
  have V2 := Lib.hid HM
  have HS := Lib.hid fun U h => skipr b 0 s 4 4 U h (by omega) (by omega) (by omega) (by omega)
  have HA := Lib.hid fun U h => addrr b 0 s 8 U h (by omega) (by omega) hs
  rw [hc] at HA
  simp only [kI, if_true] at HA
  have HG := Lib.hid fun U => misgroup_c g U
  generalize oneD s k = OD at *
  obtain ⟨oe, om⟩ := OD
  simp only at V1 V2
  have HN := Lib.hid fun U h => needr b e1 s 24 (grpB g 16) 3 U h
  rw [← V1.out] at HN
  generalize grpB g 16 = gb at *
  have Q := Lib.hid (RQ.start h)
  clear h hc V HV HM V1
  go_enter Try.func31, Try.ntmps31
  go_wp2_with fail
  refine (HS.out _ Q.out.1).mono ?_
  rintro r w1 ⟨rfl, h1⟩
  replace Q := Lib.hid (Q.out.then h1)
  clear h1
  go_wp2_with fail
  refine (HA.out _ Q.out.1).mono ?_
  rintro r w2 ⟨rfl, h1⟩
  replace Q := Lib.hid (Q.out.then h1)
  clear h1
  go_upto_region 3 with fail
  have HP := Lib.hid (RP.start #[.int .i64 k, .int .i64 1, .string g, .int .i64 0, .bool false, .int .i64 0, .int .i64 0, .slice none 0 0, .slice none 0 0] Q.out)
  have hne : w2.heap.size ≠ b := by have := Q.out.1.lt; omega
  generalize w2.alloc (.cells #[.int .i64 k, .int .i64 1, .string g, .int .i64 0, .bool false, .int .i64 0, .int .i64 0, .slice none 0 0, .slice none 0 0] 28) = W2 at HP ⊢
  generalize w2.heap.size = P at HP hne ⊢
  have c2 := HP.out.cell 2 rfl
  clear Q
  have HPd := Lib.hid (HP.out.below ((Below.refl _ W2).drew))
  go_region_with (first
    | (go_at_call 53; refine (HG.out _).mono ?_; rintro r w3 ⟨rfl, h3⟩; have HP3 := Lib.hid (HPd.out.below h3))
    | (go_at_call 33; refine (HN.out _ HP3.out.1.1).mono ?_; rintro r w4 ⟨rfl, h4⟩))
  all_goals
    have HP4 := Lib.hid (HP3.out.then h4)
    clear h4 HP3 HP HPd h3 c2
    have c0 := HP4.out.cell 0 rfl
    have c1 := HP4.out.cell 1 rfl
    have c2 := HP4.out.cell 2 rfl
    have c3 := HP4.out.cell 3 rfl
    have c4 := HP4.out.cell 4 rfl
    have c5 := HP4.out.cell 5 rfl
    have c6 := HP4.out.cell 6 rfl
    have c7 := HP4.out.cell 7 rfl
    have c8 := HP4.out.cell 8 rfl
    have r0 := HP4.out.1.cell 0 rfl
    have r1 := HP4.out.1.cell 1 rfl
    have r2 := HP4.out.1.cell 2 rfl
    have r3 := HP4.out.1.cell 3 rfl
    have r4 := HP4.out.1.cell 4 rfl
    have r5 := HP4.out.1.cell 5 rfl
    have r6 := HP4.out.1.cell 6 rfl
    have r7 := HP4.out.1.cell 7 rfl
    have r8 := HP4.out.1.cell 8 rfl
    have g0 := HP4.out.1.free 0
    have g1 := HP4.out.1.free 1
    have g2 := HP4.out.1.free 2
    have g3 := HP4.out.1.free 3
    have g4 := HP4.out.1.free 4
    have g5 := HP4.out.1.free 5
    have g6 := HP4.out.1.free 6
    have g7 := HP4.out.1.free 7
    have g8 := HP4.out.1.free 8
    go_wp2
    refine bodyPost_ret (v := .agg #[.int .i64 k, .int .i64 1, .string g, .int .i64 0, .bool false, .int .i64 0, .int .i64 0, .slice none 0 0, .slice none 0 0]) (by simp [results, Try.results31, go_sem, r0, r1, r2, r3, r4, r5, r6, r7, r8]) rfl ?_
    obtain ⟨l1, l2⟩ := HP4.out.1.laid (.int .i64 k) (.int .i64 1) (.string g) (.int .i64 0) (.bool false) (.int .i64 0) (.int .i64 0) (.slice none 0 0) (.slice none 0 0)
    refine ⟨⟨k, 1, g, 0, false, 0, 0, [], []⟩, none, 0, 0, none, 0, 0, _, rfl, l1, l2, fun h0 => ⟨(V2.out h0).symm, AddrsG.nil _ _ _, RecsG.nil _ _ _⟩⟩

theorem get_fit (s : ByteArray) (t k : Int) (t0 : 0 ≤ t) (k1 : 1 ≤ k) (k4 : k ≤ 4) (h : t + k ≤ s.size) : (getSpec s t k).2 = 0 := by
  unfold getSpec
  rw [if_neg (by omega), if_neg (by omega)]
/-- A number, where it stands there, or an error has been met. -/
theorem numr (b : Nat) (e : Int) (s : ByteArray) (t k t' : Int) (w : World) (h : RB b e s t w) (t1 : 0 ≤ t) (t2 : t ≤ 1000000) (k1 : 1 ≤ k) (k2 : k ≤ 4) (hs : s.size ≤ 281474976710000) (he : e = 0 → t + k ≤ s.size) (ht : t + k = t') :
    Calls Try.prog 28 #[.pointer (some ⟨b, 0, none⟩), .int .i64 k] w (RPost b (.int .i64 (numv s t k)) e s t' w) := by
  have := numberr b e s t k w h t1 (by omega) (by omega) k2 hs
  have hk : kI e (getSpec s t k).2 = e := by
    unfold kI
    split
    · next h0 => rw [get_fit s t k t1 k1 k2 (he h0), h0]
    · rfl
  rw [hk, ht] at this
  exact this

/-- All blocks of w but b and P stand in W. -/
def Fr2 (b P : Nat) (w W : World) : Prop := W.os = w.os ∧ W.tape = w.tape ∧ W.output = w.output ∧ w.heap.size ≤ W.heap.size ∧ ∀ k, k < w.heap.size → k ≠ b → k ≠ P → W.heap[k]? = w.heap[k]?
theorem Fr2.refl (b P : Nat) (w : World) : Fr2 b P w w := ⟨rfl, rfl, rfl, Nat.le_refl _, fun _ _ _ _ => rfl⟩
theorem Fr2.then {b P : Nat} {w W W' : World} (h : Fr2 b P w W) (k : W.grownBy W' (some b)) : Fr2 b P w W' :=
  ⟨k.os.trans h.1, k.tape.trans h.2.1, k.output.trans h.2.2.1, Nat.le_trans h.2.2.2.1 k.size, fun j hj hb hP => (k.block j (Nat.lt_of_lt_of_le hj h.2.2.2.1) (by simp; omega)).trans (h.2.2.2.2 j hj hb hP)⟩
theorem Fr2.store {b P : Nat} {w W : World} (h : Fr2 b P w W) (j : Nat) (v : Value) : Fr2 b P w (W.setCell ⟨P, j, none⟩ v) :=
  ⟨h.1, h.2.1, h.2.2.1, by simp [World.setCell]; exact h.2.2.2.1, fun k hk hb hP => (Below.heap_setCell _ _ _ _ hP).trans (h.2.2.2.2 k hk hb hP)⟩

/-- A reader at b and a message's box at P, at work since w. -/
def DS (b P : Nat) (w : World) (xs : Array Value) (e : Int) (s : ByteArray) (t : Int) (W : World) : Prop :=
  RB b e s t W ∧ W.heap[P]? = some (.cells xs 28 (0, 0)) ∧ Fr2 b P w W ∧ b < P
theorem DS.then {b P : Nat} {w W W' : World} {xs : Array Value} {e e' : Int} {s : ByteArray} {t t' : Int} (h : DS b P w xs e s t W) (k : RS b W e' s t' W') : DS b P w xs e' s t' W' :=
  ⟨k.1, (k.2.block _ (lt_of_block h.2.1) (by have := h.2.2.2; simp; omega)).trans h.2.1, h.2.2.1.then k.2, h.2.2.2⟩
theorem DS.below {b P : Nat} {w W W' : World} {xs : Array Value} {e : Int} {s : ByteArray} {t : Int} (h : DS b P w xs e s t W) (k : Below W.heap.size W W') : DS b P w xs e s t W' :=
  ⟨h.1.below k, below_block k (lt_of_block h.2.1) h.2.1, h.2.2.1.then (grown_below k), h.2.2.2⟩
theorem DS.store {b P : Nat} {w W : World} {xs : Array Value} {e : Int} {s : ByteArray} {t : Int} (h : DS b P w xs e s t W) (j : Nat) (v : Value) : DS b P w (xs.setIfInBounds j v) e s t (W.setCell ⟨P, j, none⟩ v) :=
  ⟨heap_store_other h.1 (by have := h.2.2.2; omega), heap_store h.2.1, h.2.2.1.store j v, h.2.2.2⟩
theorem DS.cell {b P : Nat} {w W : World} {xs : Array Value} {e : Int} {s : ByteArray} {t : Int} (h : DS b P w xs e s t W) (j : Nat) {v : Value} (hj : xs[j]? = some v) : W.cell? ⟨P, j, none⟩ = some v := cell_of_block h.2.1 hj
theorem DS.free {b P : Nat} {w W : World} {xs : Array Value} {e : Int} {s : ByteArray} {t : Int} (h : DS b P w xs e s t W) (j : Nat) : W.frozen? ⟨P, j, none⟩ = false := free_of_block h.2.1

/-- The details' error. -/
def dtE (s : ByteArray) : Int :=
  if s.size < 28 then 3 else if 60 < (numv s 26 2).toNat then 3 else if s.size < 28 + (numv s 26 2).toNat * 16 then 2 else 0
def DPost (b P : Nat) (s g : ByteArray) (mx : Int) (w : World) (r : Ending) (W : World) : Prop :=
  r = .returned (.tuple #[]) ∧ ∃ (q : Bool) (rob ev : Int) (p : Option Addr) (n c : Nat) (t : Int),
    DS b P w #[.int .i64 1, .int .i64 2, .string g, .int .i64 (decI 12 mx).1, .bool q, .int .i64 rob, .int .i64 ev, .slice p n c, .slice none 0 0] (dtE s) s t W ∧
    (dtE s = 0 → q = decide (byt s 24 / 8 % 2 = 1) ∧ rob = ((byt s 24 % 8 : Nat) : Int) ∧ ev = (decI 4 (byt s 25)).1 ∧ n = (numv s 26 2).toNat ∧ AddrsG (P + 1) true W (.slice p n c) (addrsL s 28 (numv s 26 2).toNat 16))

theorem dec16_b (c : Int) (w : World) :
    Calls Try.prog 58 #[.int .i64 c] w fun e w' => e = .returned (.tuple #[.int .i64 (decI 12 c).1, .int .i64 (decI 12 c).2]) ∧ Below w.heap.size w w' :=
  (dec16_c c w).mono fun _ _ ⟨h, n, hn⟩ => ⟨h, by rw [hn]; exact below_drewN (Below.refl _ _) _⟩

theorem flags_at (s : ByteArray) (h : 24 < s.size) : numv s 24 1 = (byt s 24 : Int) ∧ (bits .and .i64 (numv s 24 1) 8 != 0) = decide (byt s 24 / 8 % 2 = 1) ∧ bits .and .i64 (numv s 24 1) 7 = ((byt s 24 % 8 : Nat) : Int) := by
  have e0 : numv s 24 1 = (byt s 24 : Int) := by
    have := numv_byte s 24 h
    rw [byt_get s 24 h] at this
    exact this
  have b8 : byt s 24 < 256 := by unfold byt; exact UInt8.toNat_lt _
  refine ⟨e0, ?_, ?_⟩
  · rw [e0]
    have := i64_bit (byt s 24 : Int) 3 (by omega) (by omega) (by omega)
    rw [show (((2 ^ 3 : Nat) : Int)) = 8 from rfl] at this
    rw [this]
    by_cases hb : byt s 24 / 8 % 2 = 1
    · rw [decide_eq_true hb]
      simp only [bne_iff_ne, ne_eq]
      omega
    · rw [decide_eq_false hb]
      have : (byt s 24 : Int) / 8 % 2 = 0 := by omega
      rw [this]
      rfl
  · rw [e0]
    have := i64_mask (byt s 24 : Int) 3 (by omega) (by omega) (by omega)
    rw [show (((2 ^ 3 - 1 : Nat) : Int)) = 7 from rfl, show (((2 ^ 3 : Nat) : Int)) = 8 from rfl] at this
    rw [this]
    omega

set_option maxHeartbeats 4000000 in
set_option maxRecDepth 100000 in
theorem detailsr (b P : Nat) (s g : ByteArray) (mx : Int) (w : World) (h : RB b 0 s 24 w) (hP : w.heap[P]? = some (.cells #[.int .i64 1, .int .i64 1, .string g, .int .i64 mx, .bool false, .int .i64 0, .int .i64 0, .slice none 0 0, .slice none 0 0] 28 (0, 0))) (hb : b < P) (hs : s.size ≤ 281474976710000) (h24 : 24 < s.size) :
    Calls Try.prog 52 #[.pointer (some ⟨b, 0, none⟩), .pointer (some ⟨P, 0, none⟩)] w (DPost b P s g mx w) := by
  have D := Lib.hid (show DS b P w _ 0 s 24 w from ⟨h, hP, Fr2.refl _ _ _, hb⟩)
  have HL := Lib.hid fun U h => leftr b 0 s 24 U h (by omega) (by omega) hs
  obtain ⟨q0, e0, hq0, he0, hcase⟩ : ∃ (q0 : Bool) (e0 : Int), decide ((4 : Int) ≤ (s.size : Int) - 24) = q0 ∧ (if q0 then (0 : Int) else kI 0 3) = e0 ∧ (e0 = 0 ∧ 28 ≤ s.size ∨ e0 = 3 ∧ s.size < 28) := by
    by_cases hc : 28 ≤ s.size
    · exact ⟨true, 0, decide_eq_true (by omega), rfl, .inl ⟨rfl, hc⟩⟩
    · exact ⟨false, 3, decide_eq_false (by omega), rfl, .inr ⟨rfl, by omega⟩⟩
  have HN := Lib.hid fun U h => needr b 0 s 24 q0 3 U h
  rw [he0] at HN
  have H1 := Lib.hid fun U h => numr b e0 s 24 1 25 U h (by omega) (by omega) (by omega) (by omega) hs (by omega) rfl
  have H2 := Lib.hid fun U h => numr b e0 s 25 1 26 U h (by omega) (by omega) (by omega) (by omega) hs (by omega) rfl
  have H3 := Lib.hid fun U h => numr b e0 s 26 2 28 U h (by omega) (by omega) (by omega) (by omega) hs (by omega) rfl
  have HD16 := Lib.hid fun U => dec16_b mx U
  have HD8 := Lib.hid fun U => dec8_b (numv s 25 1) U
  have bn := numv_le2 s 26
  obtain ⟨N, hN⟩ := Int.eq_ofNat_of_zero_le bn.1
  have hNt : (numv s 26 2).toNat = N := by rw [hN, Int.toNat_natCast]
  obtain ⟨q5, e5, hq5, he5, hfin⟩ : ∃ (q5 : Bool) (e5 : Int), decide ((N : Int) ≤ 60) = q5 ∧ (if q5 then e0 else kI e0 3) = e5 ∧ (e5 = 0 ∧ 28 ≤ s.size ∧ N ≤ 60 ∨ e5 ≠ 0 ∧ dtE s = e5) := by
    by_cases hc : N ≤ 60
    · refine ⟨true, e0, decide_eq_true (by omega), rfl, ?_⟩
      rcases hcase with ⟨rfl, h28⟩ | ⟨rfl, h28⟩
      · exact .inl ⟨rfl, h28, hc⟩
      · exact .inr ⟨by decide, by unfold dtE; rw [if_pos h28]⟩
    · refine ⟨false, 3, decide_eq_false (by omega), ?_, .inr ⟨by decide, ?_⟩⟩
      · rcases hcase with ⟨rfl, h28⟩ | ⟨rfl, h28⟩ <;> rfl
      · unfold dtE
        rw [hNt]
        split
        · rfl
        · rw [if_pos (by omega)]
  have HN5 := Lib.hid fun U h => needr b e0 s 28 q5 3 U h
  rw [he5] at HN5
  rw [hN] at H3
  obtain ⟨f1, f2, f3⟩ := flags_at s h24
  have FL := Lib.hid (And.intro f2 f3)
  have c25 : 28 ≤ s.size → numv s 25 1 = (byt s 25 : Int) := fun h => by
    have := numv_byte s 25 (by omega)
    rw [byt_get s 25 (by omega)] at this
    exact this
  have C25 := Lib.hid c25
  unfold DPost
  rw [hNt]
  generalize numv s 24 1 = F at *
  generalize numv s 25 1 = C at *
  generalize (decI 12 mx).1 = M16 at *
  generalize (decI 12 mx).2 = M16' at *
  have EV := Lib.hid fun (h : 28 ≤ s.size) => show (decI 4 C).1 = (decI 4 (byt s 25 : Int)).1 by rw [c25 h]
  generalize (decI 4 C).1 = E8 at *
  generalize (decI 4 C).2 = E8' at *
  have HDT := Lib.hid fun (h1 : 28 ≤ s.size) (h2 : N ≤ 60) => show dtE s = if 28 + N * 16 ≤ s.size then 0 else 2 by
    unfold dtE
    rw [hNt, if_neg (by omega), if_neg (by omega)]
    split <;> split <;> first | rfl | omega
  have HA := Lib.hid fun (n60 : N ≤ 60) (h28 : 28 ≤ s.size) U h => addrsr_ok b s 28 N U h h28 hs n60
  have HA0 := Lib.hid fun (h0 : e5 ≠ 0) U h => addrsr_no b e5 s 28 N U h h0
  generalize dtE s = DE at *
  have FN := Lib.hid hfin
  clear h hP hcase he0 he5 hN hNt bn f1 f2 f3 c25 C25 hfin
  go_enter Try.func52, Try.ntmps52
  go_wp2_with fail
  have Dd := Lib.hid (D.out.below ((Below.refl _ w).drew))
  go_region_with (first
    | (go_at_call 51; refine (HL.out _ Dd.out.1).mono ?_; rintro r w1 ⟨rfl, h1⟩; have D1 := Lib.hid (Dd.out.below h1))
    | (go_at_call 33; refine (HN.out _ D1.out.1).mono ?_; rintro r w2 ⟨rfl, h2⟩))
  all_goals
    have D2 := Lib.hid (D1.out.then h2)
    clear D Dd D1 h1 h2
    have f1 := D2.out.free 1
    have c1 := D2.out.cell 1 rfl
    have c3 := D2.out.cell 3 rfl
    have f3 := D2.out.free 3
    go_wp2_with fail
    ((with_reducible refine (HD16.out _).mono ?_); rintro r w3 ⟨rfl, h3⟩)
    replace D2 := Lib.hid ((D2.out.store 1 (.int .i64 2)).below h3)
    clear h3 f1 c1 c3 f3
    have f3 := D2.out.free 3
    have c3 := D2.out.cell 3 rfl
    go_wp2_with fail
    have D3 := Lib.hid (D2.out.store 3 (.int .i64 M16))
    refine (H1.out _ D3.out.1).mono ?_
    rintro r w4 ⟨rfl, h4⟩
    replace D3 := Lib.hid (D3.out.then h4)
    clear h4 D2 f3 c3
    have f4 := D3.out.free 4
    have f5 := D3.out.free 5
    have c4 := D3.out.cell 4 rfl
    have c5 := D3.out.cell 5 rfl
    go_wp2_with fail
    have D4 := Lib.hid ((D3.out.store 4 (.bool (bits .and .i64 F 8 != 0))).store 5 (.int .i64 (bits .and .i64 F 7)))
    refine (H2.out _ D4.out.1).mono ?_
    rintro r w5 ⟨rfl, h5⟩
    replace D4 := Lib.hid (D4.out.then h5)
    clear h5 D3 f4 f5 c4 c5
    go_wp2_with fail
    ((with_reducible refine (HD8.out _).mono ?_); rintro r w6 ⟨rfl, h6⟩)
    replace D4 := Lib.hid (D4.out.below h6)
    clear h6
    have f6 := D4.out.free 6
    have c6 := D4.out.cell 6 rfl
    go_wp2_with fail
    have D5 := Lib.hid (D4.out.store 6 (.int .i64 E8))
    refine (H3.out _ D5.out.1).mono ?_
    rintro r w7 ⟨rfl, h7⟩
    replace D5 := Lib.hid (D5.out.then h7)
    clear h7 D4 f6 c6
    go_wp2_with fail
    refine (HN5.out _ D5.out.1).mono ?_
    rintro r w8 ⟨rfl, h8⟩
    replace D5 := Lib.hid (D5.out.then h8)
    clear h8
    rcases FN.out with ⟨z0, z28, z60⟩ | ⟨z0, zd⟩
    · have HA1 := Lib.hid (HA.out z60 z28)
      have hd := Lib.hid (HDT.out z28 z60)
      have ev := Lib.hid (EV.out z28)
      subst z0
      clear HA HA0 HDT EV z28 z60
      go_wp2_with fail
      refine (HA1.out _ D5.out.1).mono ?_
      rintro r w9 ⟨v, e9, t9, rfl, h9, ⟨p, m, c, rfl⟩, he9, ha9⟩
      have D6 := Lib.hid (D5.out.then h9)
      have hb9 := lt_of_block D5.out.2.1
      have f7 := D6.out.free 7
      have c7 := D6.out.cell 7 rfl
      have HA9 := Lib.hid ha9
      have HE9 := Lib.hid he9
      clear h9 ha9 he9 D5
      go_wp2_with fail
      go_end0
      have D7 := D6.out.store 7 (.slice p m c)
      have hde : e9 = DE := by rw [HE9.out, hd.out]
      subst hde
      refine ⟨rfl, _, _, _, p, m, c, _, D7, fun h0 => ?_⟩
      have ha := HA9.out h0
      obtain ⟨p', c', hh⟩ := ha.slice
      rw [addrsL_length] at hh
      refine ⟨FL.out.1, FL.out.2, ev.out, ?_, ?_⟩
      · cases hh; rfl
      · exact (ha.mono (show P + 1 ≤ _ from hb9) id).store (Nat.lt_succ_self P)
    · have HA1 := Lib.hid (HA0.out z0)
      clear HA HA0 HDT EV
      go_wp2_with fail
      refine (HA1.out _ D5.out.1).mono ?_
      rintro r w9 ⟨rfl, rfl⟩
      have f7 := D5.out.free 7
      have c7 := D5.out.cell 7 rfl
      go_wp2_with fail
      go_end0
      have D7 := D5.out.store 7 (.slice none 0 0)
      subst zd
      refine ⟨rfl, _, _, _, none, 0, 0, _, D7, fun h0 => absurd h0 z0⟩

end Go.Proofs.Ytnfngmclomjimaa
