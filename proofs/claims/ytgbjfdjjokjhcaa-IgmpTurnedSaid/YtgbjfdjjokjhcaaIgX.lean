/-
  Which messages of one group may be, and their bytes: igmp.isDetailed, oneByte, tellingMayBe, mayBe, one, Encode where a message is neither a query nor a report of version 3.
-/
import Derived.Test.YtgbjfdjjokjhcaaIgW
import Derived.Test.YtgbjfdjjokjhcaaIgA
import Derived.Test.YtgbjfdjjokjhcaaFill
namespace Go.Proofs.Ytgbjfdjjokjhcaa
open Go.RowKit
set_option linter.unusedVariables false

def detB (q : Bool) (rob ev : Int) (ns : Nat) : Bool := q || decide (rob ≠ 0) || decide (ev ≠ 0) || decide (ns ≠ 0)
def oneB (k v : Int) : Int × Bool :=
  if k = 2 ∧ v = 1 then (18, true) else if k = 2 ∧ v = 2 then (22, true) else if k = 3 ∧ v = 2 then (23, true) else (0, false)

set_option maxHeartbeats 1000000 in
set_option maxRecDepth 100000 in
theorem isdet_c (k v : Int) (g : ByteArray) (mx : Int) (q : Bool) (rob ev : Int) (ps : Option Addr) (ns cs : Nat) (pr : Option Addr) (nr cr : Nat) (w : World) :
    Calls Try.prog 31 #[.agg #[.int .i64 k, .int .i64 v, .string g, .int .i64 mx, .bool q, .int .i64 rob, .int .i64 ev, .slice ps ns cs, .slice pr nr cr]] w fun e w' => e = .returned (.bool (detB q rob ev ns)) ∧ Below w.heap.size w w' := by
  have HB := Lib.hid fun o => (Below.refl w.heap.size w).alloc (Nat.le_refl _) o
  cases q
  · by_cases h1 : rob = 0
    · by_cases h2 : ev = 0
      · by_cases h3 : ns = 0
        · have V := Lib.hid (show detB false rob ev ns = false by simp [detB, h1, h2, h3])
          obtain ⟨a1, a2⟩ := eq_t h1
          obtain ⟨b1, b2⟩ := eq_t h2
          obtain ⟨c1, c2⟩ := eq_t (show (ns : Int) = 0 by omega)
          clear h1 h2 h3
          go_enter Try.func31, Try.ntmps31
          go_wp2_with fail
          go_ret
          exact ⟨by rw [V.out]; rfl, HB.out _⟩
        · have V := Lib.hid (show detB false rob ev ns = true by simp [detB, h1, h2, h3])
          obtain ⟨a1, a2⟩ := eq_t h1
          obtain ⟨b1, b2⟩ := eq_t h2
          obtain ⟨c1, c2⟩ := ne_t (show (ns : Int) ≠ 0 by omega)
          clear h1 h2 h3
          go_enter Try.func31, Try.ntmps31
          go_wp2_with fail
          go_ret
          exact ⟨by rw [V.out]; rfl, HB.out _⟩
      · have V := Lib.hid (show detB false rob ev ns = true by simp [detB, h1, h2])
        obtain ⟨a1, a2⟩ := eq_t h1
        obtain ⟨b1, b2⟩ := ne_t h2
        clear h1 h2
        go_enter Try.func31, Try.ntmps31
        go_wp2_with fail
        go_ret
        exact ⟨by rw [V.out]; rfl, HB.out _⟩
    · have V := Lib.hid (show detB false rob ev ns = true by simp [detB, h1])
      obtain ⟨a1, a2⟩ := ne_t h1
      clear h1
      go_enter Try.func31, Try.ntmps31
      go_wp2_with fail
      go_ret
      exact ⟨by rw [V.out]; rfl, HB.out _⟩
  · have V := Lib.hid (show detB true rob ev ns = true by simp [detB])
    go_enter Try.func31, Try.ntmps31
    go_wp2_with fail
    go_ret
    exact ⟨by rw [V.out]; rfl, HB.out _⟩

set_option maxHeartbeats 1000000 in
set_option maxRecDepth 100000 in
theorem onebyte_c (k v : Int) (g : ByteArray) (mx : Int) (q : Bool) (rob ev : Int) (ps : Option Addr) (ns cs : Nat) (pr : Option Addr) (nr cr : Nat) (w : World) :
    Calls Try.prog 38 #[.agg #[.int .i64 k, .int .i64 v, .string g, .int .i64 mx, .bool q, .int .i64 rob, .int .i64 ev, .slice ps ns cs, .slice pr nr cr]] w fun e w' => e = .returned (.tuple #[.int .i64 (oneB k v).1, .bool (oneB k v).2]) ∧ Below w.heap.size w w' := by
  have HB := Lib.hid fun o => (Below.refl w.heap.size w).alloc (Nat.le_refl _) o
  have T1 : ∀ x y : Int, x = y → (x == y) = true := fun x y h => by simp [h]
  have T2 : ∀ x y : Int, ¬ x = y → (x == y) = false := fun x y h => by simp [h]
  by_cases h2 : k = 2
  · have a1 := T1 _ _ h2
    have a3 := T2 k 3 (by omega)
    by_cases v1 : v = 1
    · have V := Lib.hid (show oneB k v = (18, true) by unfold oneB; rw [if_pos ⟨h2, v1⟩])
      have b1 := T1 _ _ v1
      clear h2 v1 T1 T2
      go_enter Try.func38, Try.ntmps38
      go_wp2_with fail
      go_ret2
      exact ⟨by rw [V.out]; rfl, HB.out _⟩
    · have b1 := T2 _ _ v1
      by_cases v2 : v = 2
      · have V := Lib.hid (show oneB k v = (22, true) by unfold oneB; rw [if_neg (by omega), if_pos ⟨h2, v2⟩])
        have b2 := T1 _ _ v2
        clear h2 v1 v2 T1 T2
        go_enter Try.func38, Try.ntmps38
        go_wp2_with fail
        go_ret2
        exact ⟨by rw [V.out]; rfl, HB.out _⟩
      · have V := Lib.hid (show oneB k v = (0, false) by unfold oneB; rw [if_neg (by omega), if_neg (by omega), if_neg (by omega)])
        have b2 := T2 _ _ v2
        clear h2 v1 v2 T1 T2
        go_enter Try.func38, Try.ntmps38
        go_wp2_with fail
        go_ret2
        exact ⟨by rw [V.out]; rfl, HB.out _⟩
  · have a1 := T2 _ _ h2
    by_cases h3 : k = 3
    · have a3 := T1 _ _ h3
      by_cases v2 : v = 2
      · have V := Lib.hid (show oneB k v = (23, true) by unfold oneB; rw [if_neg (by omega), if_neg (by omega), if_pos ⟨h3, v2⟩])
        have b2 := T1 _ _ v2
        clear h2 h3 v2 T1 T2
        go_enter Try.func38, Try.ntmps38
        go_wp2_with fail
        go_ret2
        exact ⟨by rw [V.out]; rfl, HB.out _⟩
      · have V := Lib.hid (show oneB k v = (0, false) by unfold oneB; rw [if_neg (by omega), if_neg (by omega), if_neg (by omega)])
        have b2 := T2 _ _ v2
        clear h2 h3 v2 T1 T2
        go_enter Try.func38, Try.ntmps38
        go_wp2_with fail
        go_ret2
        exact ⟨by rw [V.out]; rfl, HB.out _⟩
    · have V := Lib.hid (show oneB k v = (0, false) by unfold oneB; rw [if_neg (by omega), if_neg (by omega), if_neg (by omega)])
      have a3 := T2 _ _ h3
      clear h2 h3 T1 T2
      go_enter Try.func38, Try.ntmps38
      go_wp2_with fail
      go_ret2
      exact ⟨by rw [V.out]; rfl, HB.out _⟩

def tellB (k v : Int) (g : ByteArray) (nr : Nat) : Bool := (oneB k v).2 && grpB g 4 && decide (nr = 0)

set_option maxHeartbeats 1000000 in
set_option maxRecDepth 100000 in
theorem tell_one (k v : Int) (g : ByteArray) (mx : Int) (q : Bool) (rob ev : Int) (ps : Option Addr) (ns cs : Nat) (pr : Option Addr) (nr cr : Nat) (w : World) (hk : ¬ (k = 2 ∧ v = 3)) :
    Calls Try.prog 32 #[.agg #[.int .i64 k, .int .i64 v, .string g, .int .i64 mx, .bool q, .int .i64 rob, .int .i64 ev, .slice ps ns cs, .slice pr nr cr]] w fun e w' => e = .returned (.bool (tellB k v g nr)) ∧ Below w.heap.size w w' := by
  have H1 := Lib.hid fun U => onebyte_c k v g mx q rob ev ps ns cs pr nr cr U
  have H2 := Lib.hid fun U => isgroup_c g 4 U
  have V := Lib.hid (show tellB k v g nr = ((oneB k v).2 && grpB g 4 && decide (nr = 0)) from rfl)
  generalize (oneB k v).1 = c at *
  generalize (oneB k v).2 = kn at *
  generalize grpB g 4 = gb at *
  have hn : ((nr : Int) == 0) = decide (nr = 0) := by
    rw [Bool.eq_iff_iff, beq_iff_eq, decide_eq_true_iff]; omega
  generalize decide (nr = 0) = nb at *
  have hkt : ((k == 2) = true ∧ (v == 3) = false) ∨ (k == 2) = false := by
    by_cases h : k = 2
    · exact .inl ⟨by simp [h], by simp; intro h3; exact hk ⟨h, h3⟩⟩
    · exact .inr (by simp [h])
  clear hk
  rcases hkt with ⟨a1, a2⟩ | a1
  all_goals
    go_enter Try.func32, Try.ntmps32
    go_wp2_with fail
    ((with_reducible refine (H1.out _).mono ?_); rintro e w1 ⟨rfl, h1⟩)
    have B := Lib.hid ((Box.start w _ _).below h1)
    clear h1
    have c2 := B.out.cell 2 rfl
    have c8 := B.out.cell 8 rfl
    cases kn
    · go_wp2_with fail
      go_ret
      exact ⟨by rw [V.out]; rfl, B.out.2⟩
    · go_wp2_with fail
      ((with_reducible refine (H2.out _).mono ?_); rintro e w2 ⟨rfl, h2⟩)
      replace B := Lib.hid (B.out.below h2)
      clear h2 c2 c8
      have c8 := B.out.cell 8 rfl
      cases gb
      · go_wp2_with fail
        go_ret
        exact ⟨by rw [V.out]; rfl, B.out.2⟩
      · go_wp2_with fail
        go_ret
        exact ⟨by rw [V.out]; rfl, B.out.2⟩

def mayOneB (k v : Int) (g : ByteArray) (mx : Int) (q : Bool) (rob ev : Int) (ns nr : Nat) : Bool := decide (mx = 0) && !detB q rob ev ns && tellB k v g nr

set_option maxHeartbeats 1000000 in
set_option maxRecDepth 100000 in
theorem may_one (k v : Int) (g : ByteArray) (mx : Int) (q : Bool) (rob ev : Int) (ps : Option Addr) (ns cs : Nat) (pr : Option Addr) (nr cr : Nat) (w : World) (hk : ¬ (k = 2 ∧ v = 3)) (hk2 : k = 2 ∨ k = 3) :
    Calls Try.prog 14 #[.agg #[.int .i64 k, .int .i64 v, .string g, .int .i64 mx, .bool q, .int .i64 rob, .int .i64 ev, .slice ps ns cs, .slice pr nr cr]] w fun e w' => e = .returned (.bool (mayOneB k v g mx q rob ev ns nr)) ∧ Below w.heap.size w w' := by
  have H1 := Lib.hid fun U => isdet_c k v g mx q rob ev ps ns cs pr nr cr U
  have H2 := Lib.hid fun U => tell_one k v g mx q rob ev ps ns cs pr nr cr U hk
  have V := Lib.hid (show mayOneB k v g mx q rob ev ns nr = (decide (mx = 0) && !detB q rob ev ns && tellB k v g nr) from rfl)
  generalize detB q rob ev ns = db at *
  generalize tellB k v g nr = tb at *
  have a1 : (k == 1) = false := by simp; omega
  have hkt : (k == 2) = true ∨ ((k == 2) = false ∧ (k == 3) = true) := by
    rcases hk2 with h | h
    · exact .inl (by simp [h])
    · exact .inr ⟨by simp [h], by simp [h]⟩
  have hmx : (mx == 0) = decide (mx = 0) := by rw [Bool.eq_iff_iff, beq_iff_eq, decide_eq_true_iff]
  have hmt : ((mx == 0) = true ∧ decide (mx = 0) = true) ∨ ((mx == 0) = false ∧ decide (mx = 0) = false) := by
    by_cases h : mx = 0
    · exact .inl ⟨by simp [h], by simp [h]⟩
    · exact .inr ⟨by simp [h], by simp [h]⟩
  clear hmx hk hk2
  rcases hmt with ⟨m1, m2⟩ | ⟨m1, m2⟩
  all_goals
    rw [m2] at V
    clear m2
    rcases hkt with a2 | ⟨a2, a3⟩
  case inl.inl | inl.inr =>
    go_enter Try.func14, Try.ntmps14
    go_wp2_with fail
    ((with_reducible refine (H1.out _).mono ?_); rintro e w1 ⟨rfl, h1⟩)
    have B := Lib.hid ((Box.start w _ _).below h1)
    clear h1
    have c0 := B.out.cell 0 rfl
    have c1 := B.out.cell 1 rfl
    have c2 := B.out.cell 2 rfl
    have c3 := B.out.cell 3 rfl
    have c4 := B.out.cell 4 rfl
    have c5 := B.out.cell 5 rfl
    have c6 := B.out.cell 6 rfl
    have c7 := B.out.cell 7 rfl
    have c8 := B.out.cell 8 rfl
    cases db
    · go_wp2_with fail
      ((with_reducible refine (H2.out _).mono ?_); rintro e w2 ⟨rfl, h2⟩)
      replace B := Lib.hid (B.out.below h2)
      go_wp2_with fail
      go_ret
      exact ⟨by rw [V.out]; rfl, B.out.2⟩
    · go_wp2_with fail
      go_ret
      exact ⟨by rw [V.out]; rfl, B.out.2⟩
  all_goals
    go_enter Try.func14, Try.ntmps14
    go_wp2_with fail
    go_ret
    exact ⟨by rw [V.out]; rfl, (Below.refl _ w).alloc (Nat.le_refl _) _⟩

set_option maxHeartbeats 1000000 in
set_option maxRecDepth 100000 in
theorem may_none (k v : Int) (g : ByteArray) (mx : Int) (q : Bool) (rob ev : Int) (ps : Option Addr) (ns cs : Nat) (pr : Option Addr) (nr cr : Nat) (w : World) (h1 : k ≠ 1) (h2 : k ≠ 2) (h3 : k ≠ 3) :
    Calls Try.prog 14 #[.agg #[.int .i64 k, .int .i64 v, .string g, .int .i64 mx, .bool q, .int .i64 rob, .int .i64 ev, .slice ps ns cs, .slice pr nr cr]] w fun e w' => e = .returned (.bool false) ∧ Below w.heap.size w w' := by
  obtain ⟨a1, a2⟩ := ne_t h1
  obtain ⟨b1, b2⟩ := ne_t h2
  obtain ⟨c1, c2⟩ := ne_t h3
  clear h1 h2 h3
  go_enter Try.func14, Try.ntmps14
  go_wp2_with fail
  go_ret
  exact ⟨rfl, (Below.refl _ w).alloc (Nat.le_refl _) _⟩

end Go.Proofs.Ytgbjfdjjokjhcaa
