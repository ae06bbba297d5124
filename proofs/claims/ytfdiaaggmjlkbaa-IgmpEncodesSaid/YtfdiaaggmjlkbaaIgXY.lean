/-
  Which messages of one group may be, and their bytes: igmp.isDetailed, oneByte, tellingMayBe, mayBe, one, Encode where a message is neither a query nor a report of version 3.
  The bytes of a message of one group: the writer's one, and Encode where a message is neither a query nor a report of version 3.
-/
import Derived.Test.YtfdiaaggmjlkbaaIgW
import Derived.Test.YtfdiaaggmjlkbaaIgA
import Derived.Test.YtfdiaaggmjlkbaaFill
import Derived.Test.YtfdiaaggmjlkbaaIgF
namespace Go.Proofs.Ytfdiaaggmjlkbaa
open Go.RowKit
set_option linter.unusedVariables false

def detB (q : Bool) (rob ev : Int) (ns : Nat) : Bool := q || decide (rob ≠ 0) || decide (ev ≠ 0) || decide (ns ≠ 0)
def oneB (k v : Int) : Int × Bool :=
  if k = 2 ∧ v = 1 then (18, true) else if k = 2 ∧ v = 2 then (22, true) else if k = 3 ∧ v = 2 then (23, true) else (0, false)

set_option maxHeartbeats 1000000 in
set_option maxRecDepth 100000 in
theorem isdet_c (k v : Int) (g : ByteArray) (mx : Int) (q : Bool) (rob ev : Int) (ps : Option Addr) (ns cs : Nat) (pr : Option Addr) (nr cr : Nat) (w : World) :
    Calls Try.prog 28 #[.agg #[.int .i64 k, .int .i64 v, .string g, .int .i64 mx, .bool q, .int .i64 rob, .int .i64 ev, .slice ps ns cs, .slice pr nr cr]] w fun e w' => e = .returned (.bool (detB q rob ev ns)) ∧ Below w.heap.size w w' := by
  have HB := Lib.hid fun o => (Below.refl w.heap.size w).alloc (Nat.le_refl _) o
  cases q
  · by_cases h1 : rob = 0
    · by_cases h2 : ev = 0
      · by_cases h3 : ns = 0
        · have V := Lib.hid (show detB false rob ev ns = false by simp [detB, h1, h2, h3])
          obtain ⟨a1, a2⟩ := eq_t h1
          obtain ⟨b1, b2⟩ := eq_t h2
          obtain ⟨c1, c2⟩ := eq_t (show (ns : Int) = 0 by omega)
          clear h1 h2 h3
          go_enter Try.func28, Try.ntmps28
          go_wp2_with fail
          go_ret
          exact ⟨by rw [V.out]; rfl, HB.out _⟩
        · have V := Lib.hid (show detB false rob ev ns = true by simp [detB, h1, h2, h3])
          obtain ⟨a1, a2⟩ := eq_t h1
          obtain ⟨b1, b2⟩ := eq_t h2
          obtain ⟨c1, c2⟩ := ne_t (show (ns : Int) ≠ 0 by omega)
          clear h1 h2 h3
          go_enter Try.func28, Try.ntmps28
          go_wp2_with fail
          go_ret
          exact ⟨by rw [V.out]; rfl, HB.out _⟩
      · have V := Lib.hid (show detB false rob ev ns = true by simp [detB, h1, h2])
        obtain ⟨a1, a2⟩ := eq_t h1
        obtain ⟨b1, b2⟩ := ne_t h2
        clear h1 h2
        go_enter Try.func28, Try.ntmps28
        go_wp2_with fail
        go_ret
        exact ⟨by rw [V.out]; rfl, HB.out _⟩
    · have V := Lib.hid (show detB false rob ev ns = true by simp [detB, h1])
      obtain ⟨a1, a2⟩ := ne_t h1
      clear h1
      go_enter Try.func28, Try.ntmps28
      go_wp2_with fail
      go_ret
      exact ⟨by rw [V.out]; rfl, HB.out _⟩
  · have V := Lib.hid (show detB true rob ev ns = true by simp [detB])
    go_enter Try.func28, Try.ntmps28
    go_wp2_with fail
    go_ret
    exact ⟨by rw [V.out]; rfl, HB.out _⟩

set_option maxHeartbeats 1000000 in
set_option maxRecDepth 100000 in
theorem onebyte_c (k v : Int) (g : ByteArray) (mx : Int) (q : Bool) (rob ev : Int) (ps : Option Addr) (ns cs : Nat) (pr : Option Addr) (nr cr : Nat) (w : World) :
    Calls Try.prog 35 #[.agg #[.int .i64 k, .int .i64 v, .string g, .int .i64 mx, .bool q, .int .i64 rob, .int .i64 ev, .slice ps ns cs, .slice pr nr cr]] w fun e w' => e = .returned (.tuple #[.int .i64 (oneB k v).1, .bool (oneB k v).2]) ∧ Below w.heap.size w w' := by
  have HB := Lib.hid fun o => (Below.refl w.heap.size w).alloc (Nat.le_refl _) o
  have T1 : ∀ x y : Int, x = y → (x == y) = true := fun x y h => by simp [h]
  have T2 : ∀ x y : Int, ¬ x = y → (x == y) = false := fun x y h => by simp [h]
  by_cases h2 : k = 2
  · have a1 := T1 _ _ h2
    have a3 := T2 k 3 (by omega)
    by_cases v1 : v = 1
    · have V := Lib.hid (show oneB k v = (18, true) by unfold oneB; rw [if_pos ⟨h2, v1⟩])
      have b1 := T1 _ _ v1
      clear h2 v1 T1 T2
      go_enter Try.func35, Try.ntmps35
      go_wp2_with fail
      go_ret2
      exact ⟨by rw [V.out]; rfl, HB.out _⟩
    · have b1 := T2 _ _ v1
      by_cases v2 : v = 2
      · have V := Lib.hid (show oneB k v = (22, true) by unfold oneB; rw [if_neg (by omega), if_pos ⟨h2, v2⟩])
        have b2 := T1 _ _ v2
        clear h2 v1 v2 T1 T2
        go_enter Try.func35, Try.ntmps35
        go_wp2_with fail
        go_ret2
        exact ⟨by rw [V.out]; rfl, HB.out _⟩
      · have V := Lib.hid (show oneB k v = (0, false) by unfold oneB; rw [if_neg (by omega), if_neg (by omega), if_neg (by omega)])
        have b2 := T2 _ _ v2
        clear h2 v1 v2 T1 T2
        go_enter Try.func35, Try.ntmps35
        go_wp2_with fail
        go_ret2
        exact ⟨by rw [V.out]; rfl, HB.out _⟩
  · have a1 := T2 _ _ h2
    by_cases h3 : k = 3
    · have a3 := T1 _ _ h3
      by_cases v2 : v = 2
      · have V := Lib.hid (show oneB k v = (23, true) by unfold oneB; rw [if_neg (by omega), if_neg (by omega), if_pos ⟨h3, v2⟩])
        have b2 := T1 _ _ v2
        clear h2 h3 v2 T1 T2
        go_enter Try.func35, Try.ntmps35
        go_wp2_with fail
        go_ret2
        exact ⟨by rw [V.out]; rfl, HB.out _⟩
      · have V := Lib.hid (show oneB k v = (0, false) by unfold oneB; rw [if_neg (by omega), if_neg (by omega), if_neg (by omega)])
        have b2 := T2 _ _ v2
        clear h2 h3 v2 T1 T2
        go_enter Try.func35, Try.ntmps35
        go_wp2_with fail
        go_ret2
        exact ⟨by rw [V.out]; rfl, HB.out _⟩
    · have V := Lib.hid (show oneB k v = (0, false) by unfold oneB; rw [if_neg (by omega), if_neg (by omega), if_neg (by omega)])
      have a3 := T2 _ _ h3
      clear h2 h3 T1 T2
      go_enter Try.func35, Try.ntmps35
      go_wp2_with fail
      go_ret2
      exact ⟨by rw [V.out]; rfl, HB.out _⟩

def tellB (k v : Int) (g : ByteArray) (nr : Nat) : Bool := (oneB k v).2 && grpB g 4 && decide (nr = 0)

set_option maxHeartbeats 1000000 in
set_option maxRecDepth 100000 in
theorem tell_one (k v : Int) (g : ByteArray) (mx : Int) (q : Bool) (rob ev : Int) (ps : Option Addr) (ns cs : Nat) (pr : Option Addr) (nr cr : Nat) (w : World) (hk : ¬ (k = 2 ∧ v = 3)) :
    Calls Try.prog 29 #[.agg #[.int .i64 k, .int .i64 v, .string g, .int .i64 mx, .bool q, .int .i64 rob, .int .i64 ev, .slice ps ns cs, .slice pr nr cr]] w fun e w' => e = .returned (.bool (tellB k v g nr)) ∧ Below w.heap.size w w' := by
  have H1 := Lib.hid fun U => onebyte_c k v g mx q rob ev ps ns cs pr nr cr U
  have H2 := Lib.hid fun U => isgroup_c g 4 U
  have V := Lib.hid (show tellB k v g nr = ((oneB k v).2 && grpB g 4 && decide (nr = 0)) from rfl)
  generalize (oneB k v).1 = c at *
  generalize (oneB k v).2 = kn at *
  generalize grpB g 4 = gb at *
  have hn : ((nr : Int) == 0) = decide (nr = 0) := by
    rw [Bool.eq_iff_iff, beq_iff_eq, decide_eq_true_iff]; omega
  generalize decide (nr = 0) = nb at *
  have hkt : ((k == 2) = true ∧ (v == 3) = false) ∨ (k == 2) = false := by
    by_cases h : k = 2
    · exact .inl ⟨by simp [h], by simp; intro h3; exact hk ⟨h, h3⟩⟩
    · exact .inr (by simp [h])
  clear hk
  rcases hkt with ⟨a1, a2⟩ | a1
  all_goals
    go_enter Try.func29, Try.ntmps29
    go_wp2_with fail
    ((with_reducible refine (H1.out _).mono ?_); rintro e w1 ⟨rfl, h1⟩)
    have B := Lib.hid ((Box.start w _ _).below h1)
    clear h1
    have c2 := B.out.cell 2 rfl
    have c8 := B.out.cell 8 rfl
    cases kn
    · go_wp2_with fail
      go_ret
      exact ⟨by rw [V.out]; rfl, B.out.2⟩
    · go_wp2_with fail
      ((with_reducible refine (H2.out _).mono ?_); rintro e w2 ⟨rfl, h2⟩)
      replace B := Lib.hid (B.out.below h2)
      clear h2 c2 c8
      have c8 := B.out.cell 8 rfl
      cases gb
      · go_wp2_with fail
        go_ret
        exact ⟨by rw [V.out]; rfl, B.out.2⟩
      · go_wp2_with fail
        go_ret
        exact ⟨by rw [V.out]; rfl, B.out.2⟩

def mayOneB (k v : Int) (g : ByteArray) (mx : Int) (q : Bool) (rob ev : Int) (ns nr : Nat) : Bool := decide (mx = 0) && !detB q rob ev ns && tellB k v g nr

set_option maxHeartbeats 1000000 in
set_option maxRecDepth 100000 in
theorem may_one (k v : Int) (g : ByteArray) (mx : Int) (q : Bool) (rob ev : Int) (ps : Option Addr) (ns cs : Nat) (pr : Option Addr) (nr cr : Nat) (w : World) (hk : ¬ (k = 2 ∧ v = 3)) (hk2 : k = 2 ∨ k = 3) :
    Calls Try.prog 11 #[.agg #[.int .i64 k, .int .i64 v, .string g, .int .i64 mx, .bool q, .int .i64 rob, .int .i64 ev, .slice ps ns cs, .slice pr nr cr]] w fun e w' => e = .returned (.bool (mayOneB k v g mx q rob ev ns nr)) ∧ Below w.heap.size w w' := by
  have H1 := Lib.hid fun U => isdet_c k v g mx q rob ev ps ns cs pr nr cr U
  have H2 := Lib.hid fun U => tell_one k v g mx q rob ev ps ns cs pr nr cr U hk
  have V := Lib.hid (show mayOneB k v g mx q rob ev ns nr = (decide (mx = 0) && !detB q rob ev ns && tellB k v g nr) from rfl)
  generalize detB q rob ev ns = db at *
  generalize tellB k v g nr = tb at *
  have a1 : (k == 1) = false := by simp; omega
  have hkt : (k == 2) = true ∨ ((k == 2) = false ∧ (k == 3) = true) := by
    rcases hk2 with h | h
    · exact .inl (by simp [h])
    · exact .inr ⟨by simp [h], by simp [h]⟩
  have hmx : (mx == 0) = decide (mx = 0) := by rw [Bool.eq_iff_iff, beq_iff_eq, decide_eq_true_iff]
  have hmt : ((mx == 0) = true ∧ decide (mx = 0) = true) ∨ ((mx == 0) = false ∧ decide (mx = 0) = false) := by
    by_cases h : mx = 0
    · exact .inl ⟨by simp [h], by simp [h]⟩
    · exact .inr ⟨by simp [h], by simp [h]⟩
  clear hmx hk hk2
  rcases hmt with ⟨m1, m2⟩ | ⟨m1, m2⟩
  all_goals
    rw [m2] at V
    clear m2
    rcases hkt with a2 | ⟨a2, a3⟩
  case inl.inl | inl.inr =>
    go_enter Try.func11, Try.ntmps11
    go_wp2_with fail
    ((with_reducible refine (H1.out _).mono ?_); rintro e w1 ⟨rfl, h1⟩)
    have B := Lib.hid ((Box.start w _ _).below h1)
    clear h1
    have c0 := B.out.cell 0 rfl
    have c1 := B.out.cell 1 rfl
    have c2 := B.out.cell 2 rfl
    have c3 := B.out.cell 3 rfl
    have c4 := B.out.cell 4 rfl
    have c5 := B.out.cell 5 rfl
    have c6 := B.out.cell 6 rfl
    have c7 := B.out.cell 7 rfl
    have c8 := B.out.cell 8 rfl
    cases db
    · go_wp2_with fail
      ((with_reducible refine (H2.out _).mono ?_); rintro e w2 ⟨rfl, h2⟩)
      replace B := Lib.hid (B.out.below h2)
      go_wp2_with fail
      go_ret
      exact ⟨by rw [V.out]; rfl, B.out.2⟩
    · go_wp2_with fail
      go_ret
      exact ⟨by rw [V.out]; rfl, B.out.2⟩
  all_goals
    go_enter Try.func11, Try.ntmps11
    go_wp2_with fail
    go_ret
    exact ⟨by rw [V.out]; rfl, (Below.refl _ w).alloc (Nat.le_refl _) _⟩

set_option maxHeartbeats 1000000 in
set_option maxRecDepth 100000 in
theorem may_none (k v : Int) (g : ByteArray) (mx : Int) (q : Bool) (rob ev : Int) (ps : Option Addr) (ns cs : Nat) (pr : Option Addr) (nr cr : Nat) (w : World) (h1 : k ≠ 1) (h2 : k ≠ 2) (h3 : k ≠ 3) :
    Calls Try.prog 11 #[.agg #[.int .i64 k, .int .i64 v, .string g, .int .i64 mx, .bool q, .int .i64 rob, .int .i64 ev, .slice ps ns cs, .slice pr nr cr]] w fun e w' => e = .returned (.bool false) ∧ Below w.heap.size w w' := by
  obtain ⟨a1, a2⟩ := ne_t h1
  obtain ⟨b1, b2⟩ := ne_t h2
  obtain ⟨c1, c2⟩ := ne_t h3
  clear h1 h2 h3
  go_enter Try.func11, Try.ntmps11
  go_wp2_with fail
  go_ret
  exact ⟨rfl, (Below.refl _ w).alloc (Nat.le_refl _) _⟩

/-- A writer's block b, and a message's box behind w0's end, while it writes. -/
def WF (b : Nat) (w0 : World) (xs : Array Value) (t : TypeId) (l : List UInt8) (w : World) : Prop :=
  Wr.Bld b l w ∧ Below b w0 w ∧ Wr.KeptO b w0 w ∧ w.heap[w0.heap.size]? = some (.cells xs t (0, 0)) ∧ b < w0.heap.size
theorem WF.start {b : Nat} {w0 : World} {xs : Array Value} {t : TypeId} {l : List UInt8} (h : Wr.Bld b l w0) : WF b w0 xs t l (w0.alloc (.cells xs t)) := by
  have hb : Below w0.heap.size w0 (w0.alloc (.cells xs t)) := (Below.refl _ w0).alloc (Nat.le_refl _) _
  exact ⟨h.alloc _, hb.mono (Nat.le_of_lt h.lt), Wr.KeptO.of_below hb, heap_new _ _, h.lt⟩
theorem WF.below {b : Nat} {w0 w w' : World} {xs : Array Value} {t : TypeId} {l : List UInt8} (h : WF b w0 xs t l w) (k : Below w.heap.size w w') : WF b w0 xs t l w' :=
  ⟨h.1.below k, h.2.1.trans (k.mono (Nat.le_of_lt h.1.lt)), h.2.2.1.trans (Wr.KeptO.of_below k), below_block k (lt_of_block h.2.2.2.1) h.2.2.2.1, h.2.2.2.2⟩
theorem WF.wrote {b : Nat} {w0 w w' : World} {xs : Array Value} {t : TypeId} {l l' : List UInt8} (h : WF b w0 xs t l w) (ht : t ≠ 5) (b2 : Wr.Bld b l' w') (k : Below b w w') (o : Wr.KeptO b w w') : WF b w0 xs t l' w' :=
  ⟨b2, h.2.1.trans k, h.2.2.1.trans o, o _ _ _ _ (by have := h.2.2.2.2; omega) ht h.2.2.2.1, h.2.2.2.2⟩
theorem WF.cell {b : Nat} {w0 w : World} {xs : Array Value} {t : TypeId} {l : List UInt8} (h : WF b w0 xs t l w) (j : Nat) {v : Value} (hj : xs[j]? = some v) : w.cell? ⟨w0.heap.size, j, none⟩ = some v := cell_of_block h.2.2.2.1 hj

theorem put_n (n k : Nat) (h1 : 1 ≤ k) (h4 : k ≤ 4) (hn : n < 256 ^ k) : (putSpec n k).1.data.toList = bytesOf n k := by rw [put_ok n k h1 h4 hn]

set_option maxHeartbeats 1000000 in
set_option maxRecDepth 100000 in
theorem wone_c (b : Nat) (l : List UInt8) (k v : Int) (g : ByteArray) (mx : Int) (q : Bool) (rob ev : Int) (ps : Option Addr) (ns cs : Nat) (pr : Option Addr) (nr cr : Nat) (c : Nat) (w : World) (h : Wr.Bld b l w) (hc : oneB k v = ((c : Int), true)) (hc2 : c < 256) (hg : g.size ≤ 16) (hl : l.length ≤ 1000) :
    Calls Try.prog 14 #[.pointer (some ⟨b, 0, none⟩), .agg #[.int .i64 k, .int .i64 v, .string g, .int .i64 mx, .bool q, .int .i64 rob, .int .i64 ev, .slice ps ns cs, .slice pr nr cr]] w (WPost b (l ++ bytesOf c 1 ++ bytesOf 0 1 ++ bytesOf 0 2 ++ g.data.toList) w) := by
  have H1 := Lib.hid fun U => onebyte_c k v g mx q rob ev ps ns cs pr nr cr U
  rw [hc] at H1
  have P1 := Lib.hid (put_n c 1 (by omega) (by omega) (by omega))
  have P2 := Lib.hid (put_n 0 1 (by omega) (by omega) (by omega))
  have P3 := Lib.hid (put_n 0 2 (by omega) (by omega) (by omega))
  have Z1 := bytesOf_length c 1
  have Z2 := bytesOf_length 0 1
  have Z3 := bytesOf_length 0 2
  have ZG := vlen g
  have HB := Lib.hid h
  have hci : (0 : Int) ≤ (c : Int) ∧ (c : Int) ≤ 255 := by omega
  clear h hc
  go_enter Try.func14, Try.ntmps14
  go_wp2_with fail
  have Wf := Lib.hid (WF.start (xs := #[.int .i64 k, .int .i64 v, .string g, .int .i64 mx, .bool q, .int .i64 rob, .int .i64 ev, .slice ps ns cs, .slice pr nr cr]) (t := 26) HB.out)
  ((with_reducible refine (H1.out _).mono ?_); rintro e w1 ⟨rfl, h1⟩)
  replace Wf := Lib.hid (Wf.out.below h1)
  clear h1
  go_wp2_with fail
  refine (wnum_c b _ c 1 w1 Wf.out.1 (by omega) (by omega) (by omega)).mono ?_
  rintro e w2 ⟨rfl, b2, h2, o2⟩
  rw [show ((1 : Int)) = ((1 : Nat) : Int) from rfl, P1.out] at b2
  replace Wf := Lib.hid (Wf.out.wrote (by decide) b2 h2 o2)
  clear b2 h2 o2
  go_wp2_with fail
  refine (wnum_c b _ 0 1 w2 Wf.out.1 (by simp only [List.length_append]; omega) (by omega) (by omega)).mono ?_
  rintro e w3 ⟨rfl, b2, h2, o2⟩
  rw [show ((1 : Int)) = ((1 : Nat) : Int) from rfl, show (0 : Int) = ((0 : Nat) : Int) from rfl, P2.out] at b2
  replace Wf := Lib.hid (Wf.out.wrote (by decide) b2 h2 o2)
  clear b2 h2 o2
  go_wp2_with fail
  refine (wnum_c b _ 0 2 w3 Wf.out.1 (by simp only [List.length_append]; omega) (by omega) (by omega)).mono ?_
  rintro e w4 ⟨rfl, b2, h2, o2⟩
  rw [show ((2 : Int)) = ((2 : Nat) : Int) from rfl, show (0 : Int) = ((0 : Nat) : Int) from rfl, P3.out] at b2
  replace Wf := Lib.hid (Wf.out.wrote (by decide) b2 h2 o2)
  clear b2 h2 o2
  have c2 := Wf.out.cell 2 rfl
  go_wp2_with fail
  have BA := Wf.out.1.lt
  have Ha := AddrsW.one b w4 g BA
  replace Wf := Lib.hid (Wf.out.below ((Below.refl _ w4).alloc (Nat.le_refl _) (.cells #[.string g] 22)))
  refine (waddrs_c b _ _ [g] _ Wf.out.1 Ha (by simp) (by simp only [List.length_append, flatL, List.flatMap_cons, List.flatMap_nil, List.append_nil]; omega)).mono ?_
  rintro e w5 ⟨rfl, b2, h2, o2⟩
  replace Wf := Lib.hid (Wf.out.wrote (by decide) b2 h2 o2)
  clear c2
  go_wp2_with fail
  go_end0
  refine ⟨rfl, ?_, Wf.out.2.1, Wf.out.2.2.1⟩
  have := Wf.out.1
  rw [show flatL [g] = g.data.toList from by simp [flatL]] at this
  exact this

set_option maxHeartbeats 1000000 in
set_option maxRecDepth 100000 in
theorem ienc_no (k v : Int) (g : ByteArray) (mx : Int) (q : Bool) (rob ev : Int) (ps : Option Addr) (ns cs : Nat) (pr : Option Addr) (nr cr : Nat) (w : World) (hm : ∀ U, Calls Try.prog 11 #[.agg #[.int .i64 k, .int .i64 v, .string g, .int .i64 mx, .bool q, .int .i64 rob, .int .i64 ev, .slice ps ns cs, .slice pr nr cr]] U fun e w' => e = .returned (.bool false) ∧ Below U.heap.size U w') :
    Calls Try.prog 7 #[.agg #[.int .i64 k, .int .i64 v, .string g, .int .i64 mx, .bool q, .int .i64 rob, .int .i64 ev, .slice ps ns cs, .slice pr nr cr]] w fun e w' => e = .returned (.tuple #[.string ⟨#[]⟩, .int .i64 1]) ∧ Below w.heap.size w w' := by
  have HM := Lib.hid hm
  clear hm
  go_enter Try.func7, Try.ntmps7
  go_wp2_with fail
  ((with_reducible refine (HM.out _).mono ?_); rintro e w1 ⟨rfl, h1⟩)
  have B := Lib.hid ((Box.start w #[.int .i64 k, .int .i64 v, .string g, .int .i64 mx, .bool q, .int .i64 rob, .int .i64 ev, .slice ps ns cs, .slice pr nr cr] 26).below h1)
  clear h1
  go_wp2_with fail
  go_ret2
  exact ⟨rfl, B.out.2⟩

def oneL (c : Nat) (g : ByteArray) : List UInt8 := [] ++ bytesOf c 1 ++ bytesOf 0 1 ++ bytesOf 0 2 ++ g.data.toList

set_option maxHeartbeats 1000000 in
set_option maxRecDepth 100000 in
theorem ienc_one (k v : Int) (g : ByteArray) (mx : Int) (q : Bool) (rob ev : Int) (ps : Option Addr) (ns cs : Nat) (pr : Option Addr) (nr cr : Nat) (c : Nat) (w : World) (hk : ¬ (k = 2 ∧ v = 3)) (hk2 : k = 2 ∨ k = 3) (hv : v = 1 ∨ v = 2) (hm : mayOneB k v g mx q rob ev ns nr = true) (hc : oneB k v = ((c : Int), true)) (hc2 : c < 256) (hg : g.size = 4) :
    Calls Try.prog 7 #[.agg #[.int .i64 k, .int .i64 v, .string g, .int .i64 mx, .bool q, .int .i64 rob, .int .i64 ev, .slice ps ns cs, .slice pr nr cr]] w fun e w' => e = .returned (.tuple #[.string (fillSpec ⟨#[]⟩ ⟨(oneL c g).toArray⟩ 2).1, .int .i64 0]) ∧ Below w.heap.size w w' := by
  have HM := Lib.hid fun U => may_one k v g mx q rob ev ps ns cs pr nr cr U hk hk2
  rw [hm] at HM
  obtain ⟨a1, a2⟩ := ne_t (show k ≠ 1 by omega)
  obtain ⟨b1, b2⟩ := ne_t (show v ≠ 3 by omega)
  have HW := Lib.hid fun b U h => wone_c b [] k v g mx q rob ev ps ns cs pr nr cr c U h hc hc2 (by omega) (by simp)
  have ZL : (oneL c g).length = 8 := by
    have := vlen g
    unfold oneL
    simp only [List.length_append, bytesOf_length, List.length_nil]
    omega
  have HL := Lib.hid (show oneL c g = [] ++ bytesOf c 1 ++ bytesOf 0 1 ++ bytesOf 0 2 ++ g.data.toList from rfl)
  generalize oneL c g = L at *
  rw [← HL.out] at HW
  have hne : L ≠ [] := by rintro rfl; simp at ZL
  have HF := Lib.hid fun U => fill_c ⟨#[]⟩ ⟨L.toArray⟩ 2 U (by decide) (by rw [ByteArray.size_mk', List.size_toArray]; omega)
  have HFs := Lib.hid hne
  clear hk hk2 hv hm hc hne
  go_enter Try.func7, Try.ntmps7
  go_wp2_with fail
  ((with_reducible refine (HM.out _).mono ?_); rintro e w1 ⟨rfl, h1⟩)
  have B := Lib.hid ((Box.start w #[.int .i64 k, .int .i64 v, .string g, .int .i64 mx, .bool q, .int .i64 rob, .int .i64 ev, .slice ps ns cs, .slice pr nr cr] 26).below h1)
  clear h1
  have hlt := B.out.lt
  have hb1 : Below w1.heap.size w1 (w1.alloc (.cells #[.pointer none, .slice none 0 0] 43)) := (Below.refl _ w1).alloc (Nat.le_refl _) _
  have B1 := Lib.hid (B.out.below hb1)
  have WB := Lib.hid (Wr.Bld.fresh w1)
  have c0 := B.out.cell 0 rfl
  have c1 := B.out.cell 1 rfl
  have c2 := B.out.cell 2 rfl
  have c3 := B.out.cell 3 rfl
  have c4 := B.out.cell 4 rfl
  have c5 := B.out.cell 5 rfl
  have c6 := B.out.cell 6 rfl
  have c7 := B.out.cell 7 rfl
  have c8 := B.out.cell 8 rfl
  clear hb1
  go_wp2_with fail
  refine (HW.out _ _ WB.out).mono ?_
  rintro e w2 ⟨rfl, b2, h2, o2⟩
  have B2 := Lib.hid (B1.out.belowP hlt h2)
  have WB2 := Lib.hid b2
  clear b2 h2 o2 c0 c1 c2 c3 c4 c5 c6 c7 c8 WB B1 B
  go_wp2_with fail
  refine (Wr.bstr_some _ L w2 WB2.out HFs.out).mono ?_
  rintro e w3 ⟨rfl, b3, h3⟩
  have B3 := Lib.hid (B2.out.belowP hlt h3)
  go_wp2_with fail
  ((with_reducible refine (HF.out _).mono ?_); rintro e w4 ⟨rfl, h4⟩)
  have B4 := Lib.hid (B3.out.below h4)
  go_wp2_with fail
  go_ret2
  exact ⟨rfl, B4.out.2⟩

end Go.Proofs.Ytfdiaaggmjlkbaa
