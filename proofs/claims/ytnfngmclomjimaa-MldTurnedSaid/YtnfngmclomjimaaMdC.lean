/-
  Writing group messages of IPv6: the writer's details, query, one, records, telling, message; ahead, Encode. Contracts over the translated program.
  Writing group messages of IPv6: the writer's query of version 1, one, records, telling, message; ahead, Encode. Contracts over the translated program.
-/
import Derived.Test.YtnfngmclomjimaaMdA
import Derived.Test.YtnfngmclomjimaaIgBt
import Derived.Test.YtnfngmclomjimaaPseudo
import Derived.Test.YtnfngmclomjimaaFill
import Derived.DataShut
namespace Go.Proofs.Ytnfngmclomjimaa
open Go.RowKit
set_option linter.unusedVariables false

/-- A writer at work, and a message's box behind w0's end. -/
def MG (b : Nat) (w0 : World) (xs : Array Value) (ok : Bool) (l : List UInt8) (w : World) : Prop := MS b w0 ok l w ∧ w.heap[w0.heap.size]? = some (.cells xs 28 (0, 0)) ∧ b < w0.heap.size
theorem MG.start {b : Nat} {w0 : World} (xs : Array Value) {ok : Bool} {l : List UInt8} (h : MQ b ok l w0) : MG b w0 xs ok l (w0.alloc (.cells xs 28)) :=
  ⟨(MS.start h).below ((Below.refl _ w0).alloc (Nat.le_refl _) _), heap_new _ _, h.lt⟩
theorem MG.below {b : Nat} {w0 w w' : World} {xs : Array Value} {ok : Bool} {l : List UInt8} (h : MG b w0 xs ok l w) (k : Below w.heap.size w w') : MG b w0 xs ok l w' :=
  ⟨h.1.below k, below_block k (lt_of_block h.2.1) h.2.1, h.2.2⟩
theorem MG.then {b : Nat} {w0 w w' : World} {xs : Array Value} {ok ok' : Bool} {l l' : List UInt8} (h : MG b w0 xs ok l w) (k : MS b w ok' l' w') : MG b w0 xs ok' l' w' :=
  ⟨h.1.then k, k.2.2 _ _ _ _ (by have := h.2.2; omega) (by decide) h.2.1, h.2.2⟩
theorem MG.cell {b : Nat} {w0 w : World} {xs : Array Value} {ok : Bool} {l : List UInt8} (h : MG b w0 xs ok l w) (j : Nat) {v : Value} (hj : xs[j]? = some v) : w.cell? ⟨w0.heap.size, j, none⟩ = some v := cell_of_block h.2.1 hj

theorem bits_in (op : BinOp) (x y : Int) : -9223372036854775808 ≤ bits op .i64 x y ∧ bits op .i64 x y ≤ 9223372036854775807 := (Lit.wf_int_iff .i64 _).1 (wf_bits op .i64 x y)
theorem put_yes (n k : Nat) (h1 : 1 ≤ k) (h4 : k ≤ 4) (hn : n < 256 ^ k) : putB n k = true ∧ (putSpec n k).1.data.toList = bytesOf n k := by
  unfold putB
  rw [put_ok n k h1 h4 hn]
  exact ⟨rfl, rfl⟩
def flagM (q : Bool) (R : Nat) : Nat := if q then R + 8 else R
theorem flag_orM : ∀ r : Fin 8, bits .or .i64 (r.val : Int) 8 = ((r.val + 8 : Nat) : Int) := by decide +kernel
def flagI (q : Bool) (rob : Int) : Int := if q then bits .or .i64 rob 8 else rob
theorem flag_in (q : Bool) (rob : Int) (r1 : -9223372036854775808 ≤ rob) (r2 : rob ≤ 9223372036854775807) : -9223372036854775808 ≤ flagI q rob ∧ flagI q rob ≤ 9223372036854775807 := by
  unfold flagI
  cases q
  · exact ⟨r1, r2⟩
  · exact bits_in .or rob 8
theorem flag_nat (q : Bool) (R : Nat) (h : R < 8) : flagI q (R : Int) = (flagM q R : Nat) := by
  unfold flagI flagM
  cases q
  · rfl
  · exact flag_orM ⟨R, h⟩

def detOK (rob ev : Int) (ss : List ByteArray) : Bool := decide (0 ≤ rob) && decide (rob ≤ 7) && codedW 4 ev && decide (ss.length ≤ 60) && all16 ss
def detL (q : Bool) (rob ev : Int) (ss : List ByteArray) : List UInt8 := bytesOf (flagM q rob.toNat) 1 ++ codeL 4 1 ev ++ bytesOf ss.length 2 ++ flatL ss
theorem codeL_len (bt k : Nat) (n : Int) : (codeL bt k n).length = k := bytesOf_length _ _

theorem det_cast (q : Bool) (rob ev : Int) (ss : List ByteArray) (ok t : Bool) (l : List UInt8) (hn : ss.length ≤ 65535) (ht : t = (decide (0 ≤ rob) && decide (rob ≤ 7))) :
    (ok && t && putB (flagI q rob) 1 && codedW 4 ev && decide ((ss.length : Int) ≤ 60) && all16 ss) = (ok && detOK rob ev ss) ∧
    ((ok && detOK rob ev ss) = true → l ++ (putSpec (flagI q rob) 1).1.data.toList ++ codeL 4 1 ev ++ bytesOf ss.length 2 ++ flatL ss = l ++ detL q rob ev ss) := by
  have hd : decide ((ss.length : Int) ≤ 60) = decide (ss.length ≤ 60) := by rw [decide_eq_decide]; omega
  rw [hd]
  by_cases h : 0 ≤ rob ∧ rob ≤ 7
  · obtain ⟨R, rfl⟩ := Int.eq_ofNat_of_zero_le h.1
    obtain ⟨p1, p2⟩ := put_yes (flagM q R) 1 (by omega) (by omega) (by unfold flagM; split <;> omega)
    rw [flag_nat q R (by omega), show (1 : Int) = ((1 : Nat) : Int) from rfl, p1, p2]
    have e1 : t = true := by rw [ht, decide_eq_true h.1, decide_eq_true h.2]; rfl
    subst e1
    refine ⟨?_, fun _ => ?_⟩
    · unfold detOK
      rw [decide_eq_true h.1, decide_eq_true h.2]
      simp [Bool.and_assoc]
    · unfold detL
      rw [Int.toNat_natCast]
      simp only [List.append_assoc]
  · have e1 : (decide (0 ≤ rob) && decide (rob ≤ 7)) = false := by
      rw [Bool.and_eq_false_iff, decide_eq_false_iff_not, decide_eq_false_iff_not]
      omega
    have e2 : detOK rob ev ss = false := by unfold detOK; rw [e1]; simp
    rw [e1] at ht
    subst ht
    rw [e2]
    exact ⟨by simp, fun h => by simp at h⟩

set_option maxHeartbeats 2000000 in
set_option maxRecDepth 100000 in
theorem detailsw (b : Nat) (ok : Bool) (l : List UInt8) (k v : Int) (g : ByteArray) (mx : Int) (q : Bool) (rob ev : Int) (vs : Value) (ss : List ByteArray) (pr : Option Addr) (nr cr : Nat) (w00 w : World) (h : MQ b ok l w) (ha : AddrsAt w00 vs ss) (hD : Below w00.heap.size w00 w) (hb : w00.heap.size ≤ b) (r1 : -9223372036854775808 ≤ rob) (r2 : rob ≤ 9223372036854775807) (hev : ev ≤ 9223372036854775807) (hn : ss.length ≤ 65535) (hl : ok = true → l.length ≤ 100000) :
    Calls Try.prog 39 #[.pointer (some ⟨b, 0, none⟩), .agg #[.int .i64 k, .int .i64 v, .string g, .int .i64 mx, .bool q, .int .i64 rob, .int .i64 ev, vs, .slice pr nr cr]] w (MPost b (ok && detOK rob ev ss) (l ++ detL q rob ev ss) w) := by
  have HW := Lib.hid fun U (k : Below b w U) => AddrsW.of_at (b := b) ha (hD.trans (k.mono hb)) hb
  obtain ⟨p, cp, rfl⟩ := ha.slice
  have HG := Lib.hid (MG.start #[.int .i64 k, .int .i64 v, .string g, .int .i64 mx, .bool q, .int .i64 rob, .int .i64 ev, .slice p ss.length cp, .slice pr nr cr] h)
  have HB := Lib.hid (bits_in .or rob 8)
  have hni : (ss.length : Int) ≤ 65535 := by omega
  have ht : ∃ x y : Bool, decide (0 ≤ rob) = x ∧ (x = true → decide (rob ≤ 7) = y) ∧ (x = false → y = false) := by
    by_cases h1 : 0 ≤ rob
    · exact ⟨true, decide (rob ≤ 7), decide_eq_true h1, fun _ => rfl, fun h => by cases h⟩
    · exact ⟨false, false, decide_eq_false h1, (fun h => by cases h), fun _ => rfl⟩
  obtain ⟨x, y, hx, hy, hz⟩ := ht
  have ht : y = (decide (0 ≤ rob) && decide (rob ≤ 7)) := by
    rw [hx]
    cases x
    · rw [hz rfl]; rfl
    · rw [hy rfl]; rfl
  have HC := Lib.hid (det_cast q rob ev ss ok y l hn ht)
  have HF := Lib.hid (show flagI q rob = if q then bits .or .i64 rob 8 else rob from rfl)
  have zf := wput_len (flagI q rob) 1
  have HM := Lib.hid fun t U h => mayw b ok l t U h
  have HN := Lib.hid fun U h => numberw b (ok && y) l (flagI q rob) 1 U h (fun h => by simp only [Bool.and_eq_true] at h; have := hl h.1; omega) (flag_in q rob r1 r2).1 (flag_in q rob r1 r2).2
  have HE := Lib.hid fun U h => codew1 b (ok && y && putB (flagI q rob) 1) (l ++ (putSpec (flagI q rob) 1).1.data.toList) ev U h (fun h => by simp only [Bool.and_eq_true] at h; have := hl h.1.1; rw [List.length_append]; omega) hev
  have HM2 := Lib.hid fun t U h => mayw b (ok && y && putB (flagI q rob) 1 && codedW 4 ev) (l ++ (putSpec (flagI q rob) 1).1.data.toList ++ codeL 4 1 ev) t U h
  have HN2 := Lib.hid fun t U h => numberw_ok b (ok && y && putB (flagI q rob) 1 && codedW 4 ev && t) (l ++ (putSpec (flagI q rob) 1).1.data.toList ++ codeL 4 1 ev) ss.length 2 U h (fun h => by simp only [Bool.and_eq_true] at h; have := hl h.1.1.1.1; simp only [List.length_append, codeL_len]; omega) (by omega) (by omega) (by omega) (by omega)
  have HA := Lib.hid fun t U h ha => addrsw b (ok && y && putB (flagI q rob) 1 && codedW 4 ev && t) (l ++ (putSpec (flagI q rob) 1).1.data.toList ++ codeL 4 1 ev ++ bytesOf ss.length 2) (.slice p ss.length cp) ss U h ha (fun h => by simp only [Bool.and_eq_true] at h; have := hl h.1.1.1.1; simp only [List.length_append, codeL_len, bytesOf_length]; omega) (by omega)
  generalize putSpec (flagI q rob) 1 = PS at *
  generalize putB (flagI q rob) 1 = PB at *
  clear h ha hD ht zf hl
  clear HF
  cases q
  · rw [show flagI false rob = rob from rfl] at HN
    clear HB
    cases x
    · obtain rfl := hz rfl
      clear hz hy
      go_enter Try.func39, Try.ntmps39
      go_wp2_with fail
      refine (HM.out _ _ HG.out.1.1).mono ?_
      rintro e w1 ⟨rfl, h1⟩
      replace HG := Lib.hid (HG.out.then h1)
      clear h1
      have c4 := HG.out.cell 4 rfl
      have c5 := HG.out.cell 5 rfl
      go_wp2_with fail
      refine (HN.out _ HG.out.1.1).mono ?_
      rintro e w2 ⟨rfl, h1⟩
      replace HG := Lib.hid (HG.out.then h1)
      clear h1 c4 c5
      have c6 := HG.out.cell 6 rfl
      go_wp2_with fail
      refine (HE.out _ HG.out.1.1).mono ?_
      rintro e w3 ⟨rfl, h1⟩
      replace HG := Lib.hid (HG.out.then h1)
      clear h1 c6
      have c7 := HG.out.cell 7 rfl
      go_wp2_with fail
      refine (HM2.out _ _ HG.out.1.1).mono ?_
      rintro e w4 ⟨rfl, h1⟩
      replace HG := Lib.hid (HG.out.then h1)
      clear h1 c7
      have c7 := HG.out.cell 7 rfl
      go_wp2_with fail
      refine (HN2.out _ _ HG.out.1.1).mono ?_
      rintro e w5 ⟨rfl, h1⟩
      replace HG := Lib.hid (HG.out.then h1)
      clear h1 c7
      have c7 := HG.out.cell 7 rfl
      have AW := HW.out _ HG.out.1.2.1
      go_wp2_with fail
      refine (HA.out _ _ HG.out.1.1 AW).mono ?_
      rintro e w6 ⟨rfl, h1⟩
      replace HG := Lib.hid (HG.out.then h1)
      clear h1 c7 AW
      go_wp2_with fail
      go_end0
      exact ⟨rfl, HG.out.1.cast HC.out.1 HC.out.2⟩
    · have hy' := hy rfl
      clear hz hy
      go_enter Try.func39, Try.ntmps39
      go_wp2_with fail
      refine (HM.out _ _ HG.out.1.1).mono ?_
      rintro e w1 ⟨rfl, h1⟩
      replace HG := Lib.hid (HG.out.then h1)
      clear h1
      have c4 := HG.out.cell 4 rfl
      have c5 := HG.out.cell 5 rfl
      go_wp2_with fail
      refine (HN.out _ HG.out.1.1).mono ?_
      rintro e w2 ⟨rfl, h1⟩
      replace HG := Lib.hid (HG.out.then h1)
      clear h1 c4 c5
      have c6 := HG.out.cell 6 rfl
      go_wp2_with fail
      refine (HE.out _ HG.out.1.1).mono ?_
      rintro e w3 ⟨rfl, h1⟩
      replace HG := Lib.hid (HG.out.then h1)
      clear h1 c6
      have c7 := HG.out.cell 7 rfl
      go_wp2_with fail
      refine (HM2.out _ _ HG.out.1.1).mono ?_
      rintro e w4 ⟨rfl, h1⟩
      replace HG := Lib.hid (HG.out.then h1)
      clear h1 c7
      have c7 := HG.out.cell 7 rfl
      go_wp2_with fail
      refine (HN2.out _ _ HG.out.1.1).mono ?_
      rintro e w5 ⟨rfl, h1⟩
      replace HG := Lib.hid (HG.out.then h1)
      clear h1 c7
      have c7 := HG.out.cell 7 rfl
      have AW := HW.out _ HG.out.1.2.1
      go_wp2_with fail
      refine (HA.out _ _ HG.out.1.1 AW).mono ?_
      rintro e w6 ⟨rfl, h1⟩
      replace HG := Lib.hid (HG.out.then h1)
      clear h1 c7 AW
      go_wp2_with fail
      go_end0
      exact ⟨rfl, HG.out.1.cast HC.out.1 HC.out.2⟩
  · rw [show flagI true rob = bits .or .i64 rob 8 from rfl] at HN
    clear HB
    cases x
    · obtain rfl := hz rfl
      clear hz hy
      go_enter Try.func39, Try.ntmps39
      go_wp2_with fail
      refine (HM.out _ _ HG.out.1.1).mono ?_
      rintro e w1 ⟨rfl, h1⟩
      replace HG := Lib.hid (HG.out.then h1)
      clear h1
      have c4 := HG.out.cell 4 rfl
      have c5 := HG.out.cell 5 rfl
      go_wp2_with fail
      refine (HN.out _ HG.out.1.1).mono ?_
      rintro e w2 ⟨rfl, h1⟩
      replace HG := Lib.hid (HG.out.then h1)
      clear h1 c4 c5
      have c6 := HG.out.cell 6 rfl
      go_wp2_with fail
      refine (HE.out _ HG.out.1.1).mono ?_
      rintro e w3 ⟨rfl, h1⟩
      replace HG := Lib.hid (HG.out.then h1)
      clear h1 c6
      have c7 := HG.out.cell 7 rfl
      go_wp2_with fail
      refine (HM2.out _ _ HG.out.1.1).mono ?_
      rintro e w4 ⟨rfl, h1⟩
      replace HG := Lib.hid (HG.out.then h1)
      clear h1 c7
      have c7 := HG.out.cell 7 rfl
      go_wp2_with fail
      refine (HN2.out _ _ HG.out.1.1).mono ?_
      rintro e w5 ⟨rfl, h1⟩
      replace HG := Lib.hid (HG.out.then h1)
      clear h1 c7
      have c7 := HG.out.cell 7 rfl
      have AW := HW.out _ HG.out.1.2.1
      go_wp2_with fail
      refine (HA.out _ _ HG.out.1.1 AW).mono ?_
      rintro e w6 ⟨rfl, h1⟩
      replace HG := Lib.hid (HG.out.then h1)
      clear h1 c7 AW
      go_wp2_with fail
      go_end0
      exact ⟨rfl, HG.out.1.cast HC.out.1 HC.out.2⟩
    · have hy' := hy rfl
      clear hz hy
      go_enter Try.func39, Try.ntmps39
      go_wp2_with fail
      refine (HM.out _ _ HG.out.1.1).mono ?_
      rintro e w1 ⟨rfl, h1⟩
      replace HG := Lib.hid (HG.out.then h1)
      clear h1
      have c4 := HG.out.cell 4 rfl
      have c5 := HG.out.cell 5 rfl
      go_wp2_with fail
      refine (HN.out _ HG.out.1.1).mono ?_
      rintro e w2 ⟨rfl, h1⟩
      replace HG := Lib.hid (HG.out.then h1)
      clear h1 c4 c5
      have c6 := HG.out.cell 6 rfl
      go_wp2_with fail
      refine (HE.out _ HG.out.1.1).mono ?_
      rintro e w3 ⟨rfl, h1⟩
      replace HG := Lib.hid (HG.out.then h1)
      clear h1 c6
      have c7 := HG.out.cell 7 rfl
      go_wp2_with fail
      refine (HM2.out _ _ HG.out.1.1).mono ?_
      rintro e w4 ⟨rfl, h1⟩
      replace HG := Lib.hid (HG.out.then h1)
      clear h1 c7
      have c7 := HG.out.cell 7 rfl
      go_wp2_with fail
      refine (HN2.out _ _ HG.out.1.1).mono ?_
      rintro e w5 ⟨rfl, h1⟩
      replace HG := Lib.hid (HG.out.then h1)
      clear h1 c7
      have c7 := HG.out.cell 7 rfl
      have AW := HW.out _ HG.out.1.2.1
      go_wp2_with fail
      refine (HA.out _ _ HG.out.1.1 AW).mono ?_
      rintro e w6 ⟨rfl, h1⟩
      replace HG := Lib.hid (HG.out.then h1)
      clear h1 c7 AW
      go_wp2_with fail
      go_end0
      exact ⟨rfl, HG.out.1.cast HC.out.1 HC.out.2⟩

/-- A list of one text in a block of its own. -/
theorem MG.one {b : Nat} {w0 w : World} {xs : Array Value} {ok : Bool} {l : List UInt8} (h : MG b w0 xs ok l w) (a : ByteArray) :
    AddrsW b (w.alloc (.cells #[.string a] 22)) (.slice (some ⟨w.heap.size, 0, none⟩) 1 1) [a] ∧ MG b w0 xs ok l (w.alloc (.cells #[.string a] 22)) :=
  ⟨AddrsW.one b w a h.1.1.lt, h.below ((Below.refl _ w).alloc (Nat.le_refl _) _)⟩

def none16 : ByteArray := ⟨#[0, 0, 0, 0, 0, 0, 0, 0, 0, 0, 0, 0, 0, 0, 0, 0]⟩
/-- The group's bytes, or what stands where none is. -/
def grp6 (g : ByteArray) : ByteArray := if g.size = 0 then none16 else g
theorem flat_1 (g : ByteArray) : flatL [g] = g.data.toList := by simp [flatL]

theorem grp6_all {g : ByteArray} {n : Nat} (h : qGrp6 g n = true) : all16 [grp6 g] = true ∧ (grp6 g).size = 16 := by
  unfold qGrp6 at h
  unfold grp6 all16
  split at h
  · next hz => rw [if_pos hz]; exact ⟨rfl, rfl⟩
  · next hz =>
    rw [if_neg hz]
    unfold grpB at h
    rw [Bool.and_eq_true, decide_eq_true_iff] at h
    simp [h.1]
    omega

def q2OK (g : ByteArray) (mx rob ev : Int) (ss : List ByteArray) : Bool := codedW 12 mx && qGrp6 g ss.length && detOK rob ev ss
def q2L (g : ByteArray) (mx : Int) (q : Bool) (rob ev : Int) (ss : List ByteArray) : List UInt8 := bytesOf 130 1 ++ bytesOf 0 3 ++ codeL 12 2 mx ++ bytesOf 0 2 ++ (grp6 g).data.toList ++ detL q rob ev ss

set_option maxHeartbeats 2000000 in
set_option maxRecDepth 100000 in
theorem queryw2 (b : Nat) (ok : Bool) (k : Int) (g : ByteArray) (mx : Int) (q : Bool) (rob ev : Int) (vs : Value) (ss : List ByteArray) (pr : Option Addr) (nr cr : Nat) (w00 w : World) (h : MQ b ok [] w) (ha : AddrsAt w00 vs ss) (hD : Below w00.heap.size w00 w) (hb : w00.heap.size ≤ b) (r1 : -9223372036854775808 ≤ rob) (r2 : rob ≤ 9223372036854775807) (hmx : mx ≤ 9223372036854775807) (hev : ev ≤ 9223372036854775807) (hn : ss.length ≤ 65535) :
    Calls Try.prog 21 #[.pointer (some ⟨b, 0, none⟩), .agg #[.int .i64 k, .int .i64 2, .string g, .int .i64 mx, .bool q, .int .i64 rob, .int .i64 ev, vs, .slice pr nr cr]] w (MPost b (ok && q2OK g mx rob ev ss) (q2L g mx q rob ev ss) w) := by
  obtain ⟨p, cp, hvs⟩ := ha.slice
  have Z1 := bytesOf_length 130 1
  have Z2 := bytesOf_length 0 3
  have Z3 := bytesOf_length 0 2
  have Z4 := codeL_len 12 2 mx
  have HF := Lib.hid fun U h => firstw b ok [] 130 U h (fun _ => by simp) (by omega)
  have HC := Lib.hid fun U h => codew2 b ok ([] ++ bytesOf 130 1 ++ bytesOf 0 3) mx U h (fun _ => by simp only [List.length_append, List.length_nil]; omega) hmx
  have HN := Lib.hid fun U h => numberw_ok b (ok && codedW 12 mx) ([] ++ bytesOf 130 1 ++ bytesOf 0 3 ++ codeL 12 2 mx) 0 2 U h (fun _ => by simp only [List.length_append, List.length_nil]; omega) (by omega) (by omega) (by omega) (by omega)
  have HG0 := Lib.hid fun U => mgmay_c k 2 g mx q rob ev p ss.length cp (.slice pr nr cr) U
  have HM := Lib.hid fun U h => mayw b (ok && codedW 12 mx) ([] ++ bytesOf 130 1 ++ bytesOf 0 3 ++ codeL 12 2 mx ++ bytesOf 0 2) (qGrp6 g ss.length) U h
  have HA := Lib.hid fun v U h ha => addrsw b (ok && codedW 12 mx && qGrp6 g ss.length) ([] ++ bytesOf 130 1 ++ bytesOf 0 3 ++ codeL 12 2 mx ++ bytesOf 0 2) v [grp6 g] U h ha (fun _ => by simp only [List.length_append, List.length_nil, List.length_cons]; omega) (by simp)
  have HDt := Lib.hid fun U h (k' : Below b w U) => detailsw b (ok && codedW 12 mx && qGrp6 g ss.length && all16 [grp6 g]) ([] ++ bytesOf 130 1 ++ bytesOf 0 3 ++ codeL 12 2 mx ++ bytesOf 0 2 ++ flatL [grp6 g]) k 2 g mx q rob ev vs ss pr nr cr w00 U h ha (hD.trans (k'.mono hb)) hb r1 r2 hev hn (fun h => by
    simp only [Bool.and_eq_true] at h
    have hz := (grp6_all h.1.2).2
    have hz2 := vlen (grp6 g)
    rw [flat_1]
    simp only [List.length_append, List.length_nil]
    omega)
  rw [hvs] at HDt
  have HX := Lib.hid (show (ok && codedW 12 mx && qGrp6 g ss.length && all16 [grp6 g] && detOK rob ev ss) = (ok && q2OK g mx rob ev ss) by
    unfold q2OK
    rcases hq : qGrp6 g ss.length with _ | _
    · simp
    · rw [(grp6_all hq).1]; simp [Bool.and_assoc])
  have HY := Lib.hid (show [] ++ bytesOf 130 1 ++ bytesOf 0 3 ++ codeL 12 2 mx ++ bytesOf 0 2 ++ flatL [grp6 g] ++ detL q rob ev ss = q2L g mx q rob ev ss by rw [flat_1]; rfl)
  have HG := Lib.hid (MG.start #[.int .i64 k, .int .i64 2, .string g, .int .i64 mx, .bool q, .int .i64 rob, .int .i64 ev, .slice p ss.length cp, .slice pr nr cr] h)
  rw [hvs]
  generalize q2L g mx q rob ev ss = QL at *
  generalize q2OK g mx rob ev ss = QO at *
  generalize detL q rob ev ss = DL at *
  generalize detOK rob ev ss = DO at *
  generalize codedW 12 mx = CW at *
  generalize codeL 12 2 mx = CL at *
  generalize qGrp6 g ss.length = QG at *
  generalize ss.length = n at *
  clear h ha hD hvs
  by_cases hz : g.size = 0
  · obtain rfl := bytes_empty hz
    rw [show grp6 ⟨#[]⟩ = (⟨#[0, 0, 0, 0, 0, 0, 0, 0, 0, 0, 0, 0, 0, 0, 0, 0]⟩ : ByteArray) from rfl] at HA HDt HX HY
    clear hz
    go_enter Try.func21, Try.ntmps21
    go_wp2_with fail
    refine (HF.out _ HG.out.1.1).mono ?_
    rintro e w1 ⟨rfl, h1⟩
    replace HG := Lib.hid (HG.out.then h1)
    clear h1
    have c1 := HG.out.cell 1 rfl
    have c3 := HG.out.cell 3 rfl
    go_wp2_with fail
    refine (HC.out _ HG.out.1.1).mono ?_
    rintro e w2 ⟨rfl, h1⟩
    replace HG := Lib.hid (HG.out.then h1)
    clear h1 c1 c3
    go_wp2_with fail
    refine (HN.out _ HG.out.1.1).mono ?_
    rintro e w3 ⟨rfl, h1⟩
    replace HG := Lib.hid (HG.out.then h1)
    clear h1
    have c0 := HG.out.cell 0 rfl
    have c1 := HG.out.cell 1 rfl
    have c2 := HG.out.cell 2 rfl
    have c3 := HG.out.cell 3 rfl
    have c4 := HG.out.cell 4 rfl
    have c5 := HG.out.cell 5 rfl
    have c6 := HG.out.cell 6 rfl
    have c7 := HG.out.cell 7 rfl
    have c8 := HG.out.cell 8 rfl
    go_wp2_with fail
    ((with_reducible refine (HG0.out _).mono ?_); rintro e w4 ⟨rfl, h1⟩)
    replace HG := Lib.hid (HG.out.below h1)
    clear h1 c0 c1 c2 c3 c4 c5 c6 c7 c8
    go_wp2_with fail
    refine (HM.out _ HG.out.1.1).mono ?_
    rintro e w5 ⟨rfl, h1⟩
    replace HG := Lib.hid (HG.out.then h1)
    clear h1
    have c2 := HG.out.cell 2 rfl
    go_wp2_with fail
    have Ha := (HG.out.one ⟨#[0, 0, 0, 0, 0, 0, 0, 0, 0, 0, 0, 0, 0, 0, 0, 0]⟩).1
    replace HG := Lib.hid (HG.out.one ⟨#[0, 0, 0, 0, 0, 0, 0, 0, 0, 0, 0, 0, 0, 0, 0, 0]⟩).2
    refine (HA.out _ _ HG.out.1.1 Ha).mono ?_
    rintro e w6 ⟨rfl, h1⟩
    replace HG := Lib.hid (HG.out.then h1)
    clear h1 c2 Ha
    have c0 := HG.out.cell 0 rfl
    have c1 := HG.out.cell 1 rfl
    have c2 := HG.out.cell 2 rfl
    have c3 := HG.out.cell 3 rfl
    have c4 := HG.out.cell 4 rfl
    have c5 := HG.out.cell 5 rfl
    have c6 := HG.out.cell 6 rfl
    have c7 := HG.out.cell 7 rfl
    have c8 := HG.out.cell 8 rfl
    go_wp2_with fail
    refine (HDt.out _ HG.out.1.1 HG.out.1.2.1).mono ?_
    rintro e w7 ⟨rfl, h1⟩
    replace HG := Lib.hid (HG.out.then h1)
    clear h1 c0 c1 c2 c3 c4 c5 c6 c7 c8
    go_wp2_with fail
    go_end0
    exact ⟨rfl, HG.out.1.cast HX.out (fun _ => HY.out)⟩
  · have e1 : g.toList.isEmpty = false := toList_ne g hz
    rw [show grp6 g = g from if_neg hz] at HA HDt HX HY
    clear hz
    go_enter Try.func21, Try.ntmps21
    go_wp2_with fail
    refine (HF.out _ HG.out.1.1).mono ?_
    rintro e w1 ⟨rfl, h1⟩
    replace HG := Lib.hid (HG.out.then h1)
    clear h1
    have c1 := HG.out.cell 1 rfl
    have c3 := HG.out.cell 3 rfl
    go_wp2_with fail
    refine (HC.out _ HG.out.1.1).mono ?_
    rintro e w2 ⟨rfl, h1⟩
    replace HG := Lib.hid (HG.out.then h1)
    clear h1 c1 c3
    go_wp2_with fail
    refine (HN.out _ HG.out.1.1).mono ?_
    rintro e w3 ⟨rfl, h1⟩
    replace HG := Lib.hid (HG.out.then h1)
    clear h1
    have c0 := HG.out.cell 0 rfl
    have c1 := HG.out.cell 1 rfl
    have c2 := HG.out.cell 2 rfl
    have c3 := HG.out.cell 3 rfl
    have c4 := HG.out.cell 4 rfl
    have c5 := HG.out.cell 5 rfl
    have c6 := HG.out.cell 6 rfl
    have c7 := HG.out.cell 7 rfl
    have c8 := HG.out.cell 8 rfl
    go_wp2_with fail
    ((with_reducible refine (HG0.out _).mono ?_); rintro e w4 ⟨rfl, h1⟩)
    replace HG := Lib.hid (HG.out.below h1)
    clear h1 c0 c1 c2 c3 c4 c5 c6 c7 c8
    go_wp2_with fail
    refine (HM.out _ HG.out.1.1).mono ?_
    rintro e w5 ⟨rfl, h1⟩
    replace HG := Lib.hid (HG.out.then h1)
    clear h1
    have c2 := HG.out.cell 2 rfl
    go_wp2_with fail
    have Ha := (HG.out.one g).1
    replace HG := Lib.hid (HG.out.one g).2
    refine (HA.out _ _ HG.out.1.1 Ha).mono ?_
    rintro e w6 ⟨rfl, h1⟩
    replace HG := Lib.hid (HG.out.then h1)
    clear h1 c2 Ha
    have c0 := HG.out.cell 0 rfl
    have c1 := HG.out.cell 1 rfl
    have c2 := HG.out.cell 2 rfl
    have c3 := HG.out.cell 3 rfl
    have c4 := HG.out.cell 4 rfl
    have c5 := HG.out.cell 5 rfl
    have c6 := HG.out.cell 6 rfl
    have c7 := HG.out.cell 7 rfl
    have c8 := HG.out.cell 8 rfl
    go_wp2_with fail
    refine (HDt.out _ HG.out.1.1 HG.out.1.2.1).mono ?_
    rintro e w7 ⟨rfl, h1⟩
    replace HG := Lib.hid (HG.out.then h1)
    clear h1 c0 c1 c2 c3 c4 c5 c6 c7 c8
    go_wp2_with fail
    go_end0
    exact ⟨rfl, HG.out.1.cast HX.out (fun _ => HY.out)⟩

def q1OK (v : Int) (g : ByteArray) (mx : Int) (q : Bool) (rob ev : Int) (n : Nat) : Bool := decide (v = 1) && !detB6 q rob ev n && putB mx 2 && qGrp6 g n
def q1L (g : ByteArray) (mx : Int) : List UInt8 := bytesOf 130 1 ++ bytesOf 0 3 ++ (putSpec mx 2).1.data.toList ++ bytesOf 0 2 ++ (grp6 g).data.toList

set_option maxHeartbeats 2000000 in
set_option maxRecDepth 100000 in
theorem queryw1 (b : Nat) (ok : Bool) (k v : Int) (g : ByteArray) (mx : Int) (q : Bool) (rob ev : Int) (p : Option Addr) (n cp : Nat) (pr : Option Addr) (nr cr : Nat) (w : World) (h : MQ b ok [] w) (hv : v ≠ 2) (m1 : -9223372036854775808 ≤ mx) (m2 : mx ≤ 9223372036854775807) :
    Calls Try.prog 21 #[.pointer (some ⟨b, 0, none⟩), .agg #[.int .i64 k, .int .i64 v, .string g, .int .i64 mx, .bool q, .int .i64 rob, .int .i64 ev, .slice p n cp, .slice pr nr cr]] w (MPost b (ok && q1OK v g mx q rob ev n) (q1L g mx) w) := by
  have Z1 := bytesOf_length 130 1
  have Z2 := bytesOf_length 0 3
  have Z3 := bytesOf_length 0 2
  have Z4 := wput_len mx 2
  have HF := Lib.hid fun U h => firstw b ok [] 130 U h (fun _ => by simp) (by omega)
  have HI := Lib.hid fun U => misdet_c k v g mx q rob ev p n cp pr nr cr U
  obtain ⟨T, hT⟩ : ∃ T, T = (decide (v = 1) && !detB6 q rob ev n) := ⟨_, rfl⟩
  have HM0 := Lib.hid fun U h => mayw b ok ([] ++ bytesOf 130 1 ++ bytesOf 0 3) T U h
  have HN := Lib.hid fun U h => numberw b (ok && T) ([] ++ bytesOf 130 1 ++ bytesOf 0 3) mx 2 U h (fun _ => by simp only [List.length_append, List.length_nil]; omega) m1 m2
  have HN2 := Lib.hid fun U h => numberw_ok b (ok && T && putB mx 2) ([] ++ bytesOf 130 1 ++ bytesOf 0 3 ++ (putSpec mx 2).1.data.toList) 0 2 U h (fun _ => by simp only [List.length_append, List.length_nil]; omega) (by omega) (by omega) (by omega) (by omega)
  have HG0 := Lib.hid fun U => mgmay_c k v g mx q rob ev p n cp (.slice pr nr cr) U
  have HM := Lib.hid fun U h => mayw b (ok && T && putB mx 2) ([] ++ bytesOf 130 1 ++ bytesOf 0 3 ++ (putSpec mx 2).1.data.toList ++ bytesOf 0 2) (qGrp6 g n) U h
  have HA := Lib.hid fun v' U h ha => addrsw b (ok && T && putB mx 2 && qGrp6 g n) ([] ++ bytesOf 130 1 ++ bytesOf 0 3 ++ (putSpec mx 2).1.data.toList ++ bytesOf 0 2) v' [grp6 g] U h ha (fun _ => by simp only [List.length_append, List.length_nil, List.length_cons]; omega) (by simp)
  have HX := Lib.hid (show (ok && T && putB mx 2 && qGrp6 g n && all16 [grp6 g]) = (ok && q1OK v g mx q rob ev n) by
    unfold q1OK
    rw [hT]
    rcases hq : qGrp6 g n with _ | _
    · simp
    · rw [(grp6_all hq).1]; simp [Bool.and_assoc])
  have HY := Lib.hid (show [] ++ bytesOf 130 1 ++ bytesOf 0 3 ++ (putSpec mx 2).1.data.toList ++ bytesOf 0 2 ++ flatL [grp6 g] = q1L g mx by rw [flat_1]; rfl)
  have HG := Lib.hid (MG.start #[.int .i64 k, .int .i64 v, .string g, .int .i64 mx, .bool q, .int .i64 rob, .int .i64 ev, .slice p n cp, .slice pr nr cr] h)
  generalize q1L g mx = QL at *
  generalize q1OK v g mx q rob ev n = QO at *
  generalize putB mx 2 = PB at *
  generalize putSpec mx 2 = PS at *
  generalize qGrp6 g n = QG at *
  generalize detB6 q rob ev n = DB at *
  obtain ⟨n1, n2⟩ := ne_t hv
  clear h hv Z1 Z2 Z3 Z4
  have hv1 : ((v == 1) = true ∧ decide (v = 1) = true) ∨ ((v == 1) = false ∧ decide (v = 1) = false) := by
    by_cases h : v = 1
    · exact .inl ⟨by simp [h], by simp [h]⟩
    · exact .inr ⟨by simp [h], by simp [h]⟩
  have hg : (g = ⟨#[]⟩ ∧ grp6 g = ⟨#[0, 0, 0, 0, 0, 0, 0, 0, 0, 0, 0, 0, 0, 0, 0, 0]⟩) ∨ (g.toList.isEmpty = false ∧ grp6 g = g) := by
    by_cases hz : g.size = 0
    · obtain rfl := bytes_empty hz
      exact .inl ⟨rfl, rfl⟩
    · exact .inr ⟨toList_ne g hz, if_neg hz⟩
  rcases hg with ⟨rfl, hg⟩ | ⟨e1, hg⟩
  · rw [hg] at HA HX HY
    clear hg
    rcases hv1 with ⟨v1, v2⟩ | ⟨v1, v2⟩
    · rw [v2] at hT
      obtain rfl : T = !DB := by rw [hT]; rfl
      clear hT v2
      go_enter Try.func21, Try.ntmps21
      go_wp2_with fail
      refine (HF.out _ HG.out.1.1).mono ?_
      rintro e w1 ⟨rfl, h1⟩
      replace HG := Lib.hid (HG.out.then h1)
      clear h1
      have c0 := HG.out.cell 0 rfl
      have c1 := HG.out.cell 1 rfl
      have c2 := HG.out.cell 2 rfl
      have c3 := HG.out.cell 3 rfl
      have c4 := HG.out.cell 4 rfl
      have c5 := HG.out.cell 5 rfl
      have c6 := HG.out.cell 6 rfl
      have c7 := HG.out.cell 7 rfl
      have c8 := HG.out.cell 8 rfl
      go_wp2_with fail
      ((with_reducible refine (HI.out _).mono ?_); rintro e w2 ⟨rfl, h1⟩)
      replace HG := Lib.hid (HG.out.below h1)
      clear h1 c0 c1 c2 c3 c4 c5 c6 c7 c8
      go_wp2_with fail
      refine (HM0.out _ HG.out.1.1).mono ?_
      rintro e w3 ⟨rfl, h1⟩
      replace HG := Lib.hid (HG.out.then h1)
      clear h1
      have c3 := HG.out.cell 3 rfl
      go_wp2_with fail
      refine (HN.out _ HG.out.1.1).mono ?_
      rintro e w4 ⟨rfl, h1⟩
      replace HG := Lib.hid (HG.out.then h1)
      clear h1 c3
      go_wp2_with fail
      refine (HN2.out _ HG.out.1.1).mono ?_
      rintro e w5 ⟨rfl, h1⟩
      replace HG := Lib.hid (HG.out.then h1)
      clear h1
      have c0 := HG.out.cell 0 rfl
      have c1 := HG.out.cell 1 rfl
      have c2 := HG.out.cell 2 rfl
      have c3 := HG.out.cell 3 rfl
      have c4 := HG.out.cell 4 rfl
      have c5 := HG.out.cell 5 rfl
      have c6 := HG.out.cell 6 rfl
      have c7 := HG.out.cell 7 rfl
      have c8 := HG.out.cell 8 rfl
      go_wp2_with fail
      ((with_reducible refine (HG0.out _).mono ?_); rintro e w6 ⟨rfl, h1⟩)
      replace HG := Lib.hid (HG.out.below h1)
      clear h1 c0 c1 c2 c3 c4 c5 c6 c7 c8
      go_wp2_with fail
      refine (HM.out _ HG.out.1.1).mono ?_
      rintro e w7 ⟨rfl, h1⟩
      replace HG := Lib.hid (HG.out.then h1)
      clear h1
      have c2 := HG.out.cell 2 rfl
      go_wp2_with fail
      have Ha := (HG.out.one ⟨#[0, 0, 0, 0, 0, 0, 0, 0, 0, 0, 0, 0, 0, 0, 0, 0]⟩).1
      replace HG := Lib.hid (HG.out.one ⟨#[0, 0, 0, 0, 0, 0, 0, 0, 0, 0, 0, 0, 0, 0, 0, 0]⟩).2
      refine (HA.out _ _ HG.out.1.1 Ha).mono ?_
      rintro e w8 ⟨rfl, h1⟩
      replace HG := Lib.hid (HG.out.then h1)
      clear h1 c2 Ha
      have c1 := HG.out.cell 1 rfl
      go_wp2_with fail
      go_end0
      exact ⟨rfl, HG.out.1.cast HX.out (fun _ => HY.out)⟩
    · rw [v2] at hT
      obtain rfl : T = false := by rw [hT]; rfl
      clear hT v2
      go_enter Try.func21, Try.ntmps21
      go_wp2_with fail
      refine (HF.out _ HG.out.1.1).mono ?_
      rintro e w1 ⟨rfl, h1⟩
      replace HG := Lib.hid (HG.out.then h1)
      clear h1
      have c0 := HG.out.cell 0 rfl
      have c1 := HG.out.cell 1 rfl
      have c2 := HG.out.cell 2 rfl
      have c3 := HG.out.cell 3 rfl
      have c4 := HG.out.cell 4 rfl
      have c5 := HG.out.cell 5 rfl
      have c6 := HG.out.cell 6 rfl
      have c7 := HG.out.cell 7 rfl
      have c8 := HG.out.cell 8 rfl
      go_wp2_with fail
      clear c0 c1 c2 c3 c4 c5 c6 c7 c8
      refine (HM0.out _ HG.out.1.1).mono ?_
      rintro e w3 ⟨rfl, h1⟩
      replace HG := Lib.hid (HG.out.then h1)
      clear h1
      have c3 := HG.out.cell 3 rfl
      go_wp2_with fail
      refine (HN.out _ HG.out.1.1).mono ?_
      rintro e w4 ⟨rfl, h1⟩
      replace HG := Lib.hid (HG.out.then h1)
      clear h1 c3
      go_wp2_with fail
      refine (HN2.out _ HG.out.1.1).mono ?_
      rintro e w5 ⟨rfl, h1⟩
      replace HG := Lib.hid (HG.out.then h1)
      clear h1
      have c0 := HG.out.cell 0 rfl
      have c1 := HG.out.cell 1 rfl
      have c2 := HG.out.cell 2 rfl
      have c3 := HG.out.cell 3 rfl
      have c4 := HG.out.cell 4 rfl
      have c5 := HG.out.cell 5 rfl
      have c6 := HG.out.cell 6 rfl
      have c7 := HG.out.cell 7 rfl
      have c8 := HG.out.cell 8 rfl
      go_wp2_with fail
      ((with_reducible refine (HG0.out _).mono ?_); rintro e w6 ⟨rfl, h1⟩)
      replace HG := Lib.hid (HG.out.below h1)
      clear h1 c0 c1 c2 c3 c4 c5 c6 c7 c8
      go_wp2_with fail
      refine (HM.out _ HG.out.1.1).mono ?_
      rintro e w7 ⟨rfl, h1⟩
      replace HG := Lib.hid (HG.out.then h1)
      clear h1
      have c2 := HG.out.cell 2 rfl
      go_wp2_with fail
      have Ha := (HG.out.one ⟨#[0, 0, 0, 0, 0, 0, 0, 0, 0, 0, 0, 0, 0, 0, 0, 0]⟩).1
      replace HG := Lib.hid (HG.out.one ⟨#[0, 0, 0, 0, 0, 0, 0, 0, 0, 0, 0, 0, 0, 0, 0, 0]⟩).2
      refine (HA.out _ _ HG.out.1.1 Ha).mono ?_
      rintro e w8 ⟨rfl, h1⟩
      replace HG := Lib.hid (HG.out.then h1)
      clear h1 c2 Ha
      have c1 := HG.out.cell 1 rfl
      go_wp2_with fail
      go_end0
      exact ⟨rfl, HG.out.1.cast HX.out (fun _ => HY.out)⟩
  · rw [hg] at HA HX HY
    clear hg
    rcases hv1 with ⟨v1, v2⟩ | ⟨v1, v2⟩
    · rw [v2] at hT
      obtain rfl : T = !DB := by rw [hT]; rfl
      clear hT v2
      go_enter Try.func21, Try.ntmps21
      go_wp2_with fail
      refine (HF.out _ HG.out.1.1).mono ?_
      rintro e w1 ⟨rfl, h1⟩
      replace HG := Lib.hid (HG.out.then h1)
      clear h1
      have c0 := HG.out.cell 0 rfl
      have c1 := HG.out.cell 1 rfl
      have c2 := HG.out.cell 2 rfl
      have c3 := HG.out.cell 3 rfl
      have c4 := HG.out.cell 4 rfl
      have c5 := HG.out.cell 5 rfl
      have c6 := HG.out.cell 6 rfl
      have c7 := HG.out.cell 7 rfl
      have c8 := HG.out.cell 8 rfl
      go_wp2_with fail
      ((with_reducible refine (HI.out _).mono ?_); rintro e w2 ⟨rfl, h1⟩)
      replace HG := Lib.hid (HG.out.below h1)
      clear h1 c0 c1 c2 c3 c4 c5 c6 c7 c8
      go_wp2_with fail
      refine (HM0.out _ HG.out.1.1).mono ?_
      rintro e w3 ⟨rfl, h1⟩
      replace HG := Lib.hid (HG.out.then h1)
      clear h1
      have c3 := HG.out.cell 3 rfl
      go_wp2_with fail
      refine (HN.out _ HG.out.1.1).mono ?_
      rintro e w4 ⟨rfl, h1⟩
      replace HG := Lib.hid (HG.out.then h1)
      clear h1 c3
      go_wp2_with fail
      refine (HN2.out _ HG.out.1.1).mono ?_
      rintro e w5 ⟨rfl, h1⟩
      replace HG := Lib.hid (HG.out.then h1)
      clear h1
      have c0 := HG.out.cell 0 rfl
      have c1 := HG.out.cell 1 rfl
      have c2 := HG.out.cell 2 rfl
      have c3 := HG.out.cell 3 rfl
      have c4 := HG.out.cell 4 rfl
      have c5 := HG.out.cell 5 rfl
      have c6 := HG.out.cell 6 rfl
      have c7 := HG.out.cell 7 rfl
      have c8 := HG.out.cell 8 rfl
      go_wp2_with fail
      ((with_reducible refine (HG0.out _).mono ?_); rintro e w6 ⟨rfl, h1⟩)
      replace HG := Lib.hid (HG.out.below h1)
      clear h1 c0 c1 c2 c3 c4 c5 c6 c7 c8
      go_wp2_with fail
      refine (HM.out _ HG.out.1.1).mono ?_
      rintro e w7 ⟨rfl, h1⟩
      replace HG := Lib.hid (HG.out.then h1)
      clear h1
      have c2 := HG.out.cell 2 rfl
      go_wp2_with fail
      have Ha := (HG.out.one g).1
      replace HG := Lib.hid (HG.out.one g).2
      refine (HA.out _ _ HG.out.1.1 Ha).mono ?_
      rintro e w8 ⟨rfl, h1⟩
      replace HG := Lib.hid (HG.out.then h1)
      clear h1 c2 Ha
      have c1 := HG.out.cell 1 rfl
      go_wp2_with fail
      go_end0
      exact ⟨rfl, HG.out.1.cast HX.out (fun _ => HY.out)⟩
    · rw [v2] at hT
      obtain rfl : T = false := by rw [hT]; rfl
      clear hT v2
      go_enter Try.func21, Try.ntmps21
      go_wp2_with fail
      refine (HF.out _ HG.out.1.1).mono ?_
      rintro e w1 ⟨rfl, h1⟩
      replace HG := Lib.hid (HG.out.then h1)
      clear h1
      have c0 := HG.out.cell 0 rfl
      have c1 := HG.out.cell 1 rfl
      have c2 := HG.out.cell 2 rfl
      have c3 := HG.out.cell 3 rfl
      have c4 := HG.out.cell 4 rfl
      have c5 := HG.out.cell 5 rfl
      have c6 := HG.out.cell 6 rfl
      have c7 := HG.out.cell 7 rfl
      have c8 := HG.out.cell 8 rfl
      go_wp2_with fail
      clear c0 c1 c2 c3 c4 c5 c6 c7 c8
      refine (HM0.out _ HG.out.1.1).mono ?_
      rintro e w3 ⟨rfl, h1⟩
      replace HG := Lib.hid (HG.out.then h1)
      clear h1
      have c3 := HG.out.cell 3 rfl
      go_wp2_with fail
      refine (HN.out _ HG.out.1.1).mono ?_
      rintro e w4 ⟨rfl, h1⟩
      replace HG := Lib.hid (HG.out.then h1)
      clear h1 c3
      go_wp2_with fail
      refine (HN2.out _ HG.out.1.1).mono ?_
      rintro e w5 ⟨rfl, h1⟩
      replace HG := Lib.hid (HG.out.then h1)
      clear h1
      have c0 := HG.out.cell 0 rfl
      have c1 := HG.out.cell 1 rfl
      have c2 := HG.out.cell 2 rfl
      have c3 := HG.out.cell 3 rfl
      have c4 := HG.out.cell 4 rfl
      have c5 := HG.out.cell 5 rfl
      have c6 := HG.out.cell 6 rfl
      have c7 := HG.out.cell 7 rfl
      have c8 := HG.out.cell 8 rfl
      go_wp2_with fail
      ((with_reducible refine (HG0.out _).mono ?_); rintro e w6 ⟨rfl, h1⟩)
      replace HG := Lib.hid (HG.out.below h1)
      clear h1 c0 c1 c2 c3 c4 c5 c6 c7 c8
      go_wp2_with fail
      refine (HM.out _ HG.out.1.1).mono ?_
      rintro e w7 ⟨rfl, h1⟩
      replace HG := Lib.hid (HG.out.then h1)
      clear h1
      have c2 := HG.out.cell 2 rfl
      go_wp2_with fail
      have Ha := (HG.out.one g).1
      replace HG := Lib.hid (HG.out.one g).2
      refine (HA.out _ _ HG.out.1.1 Ha).mono ?_
      rintro e w8 ⟨rfl, h1⟩
      replace HG := Lib.hid (HG.out.then h1)
      clear h1 c2 Ha
      have c1 := HG.out.cell 1 rfl
      go_wp2_with fail
      go_end0
      exact ⟨rfl, HG.out.1.cast HX.out (fun _ => HY.out)⟩

def oneOK (v : Int) (g : ByteArray) (nr : Nat) : Bool := decide (v = 1) && grpB g 16 && decide (nr = 0)
def one6L (c : Nat) (g : ByteArray) : List UInt8 := bytesOf c 1 ++ bytesOf 0 3 ++ bytesOf 0 4 ++ g.data.toList
theorem grp16 {g : ByteArray} (h : grpB g 16 = true) : all16 [g] = true ∧ g.size = 16 := by
  unfold grpB at h
  rw [Bool.and_eq_true, decide_eq_true_iff] at h
  unfold all16
  exact ⟨by simp [h.1], by omega⟩

set_option maxHeartbeats 2000000 in
set_option maxRecDepth 100000 in
theorem onew (b : Nat) (ok : Bool) (k v : Int) (g : ByteArray) (mx : Int) (q : Bool) (rob ev : Int) (p : Option Addr) (n cp : Nat) (pr : Option Addr) (nr cr : Nat) (c : Nat) (w : World) (h : MQ b ok [] w) (hc : c < 256) :
    Calls Try.prog 41 #[.pointer (some ⟨b, 0, none⟩), .agg #[.int .i64 k, .int .i64 v, .string g, .int .i64 mx, .bool q, .int .i64 rob, .int .i64 ev, .slice p n cp, .slice pr nr cr], .int .i64 (c : Int)] w (MPost b (ok && oneOK v g nr) (one6L c g) w) := by
  have Z1 := bytesOf_length c 1
  have Z2 := bytesOf_length 0 3
  have Z3 := bytesOf_length 0 4
  have HI := Lib.hid fun U => misgroup_c g U
  obtain ⟨T, hT⟩ : ∃ T, T = oneOK v g nr := ⟨_, rfl⟩
  have HM := Lib.hid fun U h => mayw b ok [] T U h
  have HF := Lib.hid fun U h => firstw b (ok && T) [] c U h (fun _ => by simp) hc
  have HN := Lib.hid fun U h => numberw_ok b (ok && T) ([] ++ bytesOf c 1 ++ bytesOf 0 3) 0 4 U h (fun _ => by simp only [List.length_append, List.length_nil]; omega) (by omega) (by omega) (by omega) (by omega)
  have HA := Lib.hid fun v' U h ha => addrsw b (ok && T) ([] ++ bytesOf c 1 ++ bytesOf 0 3 ++ bytesOf 0 4) v' [g] U h ha (fun _ => by simp only [List.length_append, List.length_nil, List.length_cons]; omega) (by simp)
  have HX := Lib.hid (show (ok && T && all16 [g]) = (ok && oneOK v g nr) by
    rw [hT]
    rcases hq : oneOK v g nr with _ | _
    · simp
    · unfold oneOK at hq
      simp only [Bool.and_eq_true] at hq
      rw [(grp16 hq.1.2).1]; simp)
  have HY := Lib.hid (show [] ++ bytesOf c 1 ++ bytesOf 0 3 ++ bytesOf 0 4 ++ flatL [g] = one6L c g by rw [flat_1]; rfl)
  have HG := Lib.hid (MG.start #[.int .i64 k, .int .i64 v, .string g, .int .i64 mx, .bool q, .int .i64 rob, .int .i64 ev, .slice p n cp, .slice pr nr cr] h)
  have V := Lib.hid (show oneOK v g nr = (decide (v = 1) && grpB g 16 && decide (nr = 0)) from rfl)
  rw [← hT] at V HX ⊢
  clear hT h Z1 Z2 Z3
  generalize one6L c g = OL at *
  generalize grpB g 16 = GB at *
  have hci : (0 : Int) ≤ (c : Int) ∧ (c : Int) ≤ 255 := by omega
  have hv1 : ((v == 1) = true ∧ decide (v = 1) = true) ∨ ((v == 1) = false ∧ decide (v = 1) = false) := by
    by_cases h : v = 1
    · exact .inl ⟨by simp [h], by simp [h]⟩
    · exact .inr ⟨by simp [h], by simp [h]⟩
  have hn1 : (((nr : Int) == 0) = true ∧ decide (nr = 0) = true) ∨ (((nr : Int) == 0) = false ∧ decide (nr = 0) = false) := by
    by_cases h : nr = 0
    · exact .inl ⟨by simp [h], by simp [h]⟩
    · exact .inr ⟨by simp [h], by simp [h]⟩
  rcases hv1 with ⟨v1, v2⟩ | ⟨v1, v2⟩
  · cases GB
    · obtain rfl : T = false := by rw [V.out, v2]; rfl
      clear V v2 hn1
      go_enter Try.func41, Try.ntmps41
      go_wp2_with fail
      ((with_reducible refine (HI.out _).mono ?_); rintro e w0 ⟨rfl, h1⟩)
      replace HG := Lib.hid (HG.out.below h1)
      clear h1
      have c8 := HG.out.cell 8 rfl
      go_wp2_with fail
      clear c8
      refine (HM.out _ HG.out.1.1).mono ?_
      rintro e w1 ⟨rfl, h1⟩
      replace HG := Lib.hid (HG.out.then h1)
      clear h1
      go_wp2_with fail
      refine (HF.out _ HG.out.1.1).mono ?_
      rintro e w2 ⟨rfl, h1⟩
      replace HG := Lib.hid (HG.out.then h1)
      clear h1
      go_wp2_with fail
      refine (HN.out _ HG.out.1.1).mono ?_
      rintro e w3 ⟨rfl, h1⟩
      replace HG := Lib.hid (HG.out.then h1)
      clear h1
      have c2 := HG.out.cell 2 rfl
      go_wp2_with fail
      have Ha := (HG.out.one g).1
      replace HG := Lib.hid (HG.out.one g).2
      refine (HA.out _ _ HG.out.1.1 Ha).mono ?_
      rintro e w4 ⟨rfl, h1⟩
      replace HG := Lib.hid (HG.out.then h1)
      clear h1 c2 Ha
      go_wp2_with fail
      go_end0
      exact ⟨rfl, HG.out.1.cast HX.out (fun _ => HY.out)⟩
    · rcases hn1 with ⟨a1, a2⟩ | ⟨a1, a2⟩
      · obtain rfl : T = true := by rw [V.out, v2, a2]; rfl
        clear V v2 a2
        go_enter Try.func41, Try.ntmps41
        go_wp2_with fail
        ((with_reducible refine (HI.out _).mono ?_); rintro e w0 ⟨rfl, h1⟩)
        replace HG := Lib.hid (HG.out.below h1)
        clear h1
        have c8 := HG.out.cell 8 rfl
        go_wp2_with fail
        clear c8
        refine (HM.out _ HG.out.1.1).mono ?_
        rintro e w1 ⟨rfl, h1⟩
        replace HG := Lib.hid (HG.out.then h1)
        clear h1
        go_wp2_with fail
        refine (HF.out _ HG.out.1.1).mono ?_
        rintro e w2 ⟨rfl, h1⟩
        replace HG := Lib.hid (HG.out.then h1)
        clear h1
        go_wp2_with fail
        refine (HN.out _ HG.out.1.1).mono ?_
        rintro e w3 ⟨rfl, h1⟩
        replace HG := Lib.hid (HG.out.then h1)
        clear h1
        have c2 := HG.out.cell 2 rfl
        go_wp2_with fail
        have Ha := (HG.out.one g).1
        replace HG := Lib.hid (HG.out.one g).2
        refine (HA.out _ _ HG.out.1.1 Ha).mono ?_
        rintro e w4 ⟨rfl, h1⟩
        replace HG := Lib.hid (HG.out.then h1)
        clear h1 c2 Ha
        go_wp2_with fail
        go_end0
        exact ⟨rfl, HG.out.1.cast HX.out (fun _ => HY.out)⟩
      · obtain rfl : T = false := by rw [V.out, v2, a2]; rfl
        clear V v2 a2
        go_enter Try.func41, Try.ntmps41
        go_wp2_with fail
        ((with_reducible refine (HI.out _).mono ?_); rintro e w0 ⟨rfl, h1⟩)
        replace HG := Lib.hid (HG.out.below h1)
        clear h1
        have c8 := HG.out.cell 8 rfl
        go_wp2_with fail
        clear c8
        refine (HM.out _ HG.out.1.1).mono ?_
        rintro e w1 ⟨rfl, h1⟩
        replace HG := Lib.hid (HG.out.then h1)
        clear h1
        go_wp2_with fail
        refine (HF.out _ HG.out.1.1).mono ?_
        rintro e w2 ⟨rfl, h1⟩
        replace HG := Lib.hid (HG.out.then h1)
        clear h1
        go_wp2_with fail
        refine (HN.out _ HG.out.1.1).mono ?_
        rintro e w3 ⟨rfl, h1⟩
        replace HG := Lib.hid (HG.out.then h1)
        clear h1
        have c2 := HG.out.cell 2 rfl
        go_wp2_with fail
        have Ha := (HG.out.one g).1
        replace HG := Lib.hid (HG.out.one g).2
        refine (HA.out _ _ HG.out.1.1 Ha).mono ?_
        rintro e w4 ⟨rfl, h1⟩
        replace HG := Lib.hid (HG.out.then h1)
        clear h1 c2 Ha
        go_wp2_with fail
        go_end0
        exact ⟨rfl, HG.out.1.cast HX.out (fun _ => HY.out)⟩
  · obtain rfl : T = false := by rw [V.out, v2]; rfl
    clear V v2 hn1
    go_enter Try.func41, Try.ntmps41
    go_wp2_with fail
    refine (HM.out _ HG.out.1.1).mono ?_
    rintro e w1 ⟨rfl, h1⟩
    replace HG := Lib.hid (HG.out.then h1)
    clear h1
    go_wp2_with fail
    refine (HF.out _ HG.out.1.1).mono ?_
    rintro e w2 ⟨rfl, h1⟩
    replace HG := Lib.hid (HG.out.then h1)
    clear h1
    go_wp2_with fail
    refine (HN.out _ HG.out.1.1).mono ?_
    rintro e w3 ⟨rfl, h1⟩
    replace HG := Lib.hid (HG.out.then h1)
    clear h1
    have c2 := HG.out.cell 2 rfl
    go_wp2_with fail
    have Ha := (HG.out.one g).1
    replace HG := Lib.hid (HG.out.one g).2
    refine (HA.out _ _ HG.out.1.1 Ha).mono ?_
    rintro e w4 ⟨rfl, h1⟩
    replace HG := Lib.hid (HG.out.then h1)
    clear h1 c2 Ha
    go_wp2_with fail
    go_end0
    exact ⟨rfl, HG.out.1.cast HX.out (fun _ => HY.out)⟩

def rec6OK (g : ByteArray) (L : List Rec) : Bool := decide (g.size = 0) && decide ((bodyI L 16).1 = 0)
def rec6L (L : List Rec) : List UInt8 := bytesOf 143 1 ++ bytesOf 0 3 ++ bytesOf 0 2 ++ bytesOf L.length 2 ++ (bodyI L 16).2.data.toList
theorem body_err (L : List Rec) (Z : Int) : (bodyI L Z).1 = 0 ∨ (bodyI L Z).1 = 1 := by
  unfold bodyI
  split
  · exact .inr rfl
  · split
    · exact .inl rfl
    · exact .inr rfl
theorem body_size (L : List Rec) (h : (bodyI L 16).1 = 0) : (bodyI L 16).2 = ⟨(L.flatMap recL).toArray⟩ ∧ L.length ≤ 30 ∧ (∀ r ∈ L, recB r 16 = true) ∧ (L.flatMap recL).length ≤ 1000 * L.length := by
  unfold bodyI at h ⊢
  split at h
  · simp at h
  · rename_i h1
    split at h
    · rename_i h2
      rw [if_neg h1, if_pos h2]
      have h3 := List.all_eq_true.1 h2
      exact ⟨rfl, by omega, h3, recs_len 16 (by omega) L h3⟩
    · simp at h

set_option maxHeartbeats 2000000 in
set_option maxRecDepth 100000 in
theorem recordsw (b : Nat) (ok : Bool) (k v : Int) (g : ByteArray) (mx : Int) (q : Bool) (rob ev : Int) (p : Option Addr) (n cp : Nat) (vr : Value) (L : List Rec) (w00 w : World) (h : MQ b ok [] w) (hL : L.length ≤ 65535) (hs : ∀ r ∈ L, r.srcs.length ≤ 9223372036854775807) (ha : RecsAt w00 vr L) (hD : Below w00.heap.size w00 w) (hb : w00.heap.size ≤ b) :
    Calls Try.prog 40 #[.pointer (some ⟨b, 0, none⟩), .agg #[.int .i64 k, .int .i64 v, .string g, .int .i64 mx, .bool q, .int .i64 rob, .int .i64 ev, .slice p n cp, vr]] w (MPost b (ok && rec6OK g L) (rec6L L) w) := by
  have Z1 := bytesOf_length 143 1
  have Z2 := bytesOf_length 0 3
  have Z3 := bytesOf_length 0 2
  have Z4 := bytesOf_length L.length 2
  have HR := Lib.hid fun U (k' : Below b w U) => body_c vr L 16 U (by omega) hs (ha.below (hD.trans (k'.mono hb)))
  unfold BodyPost at HR
  obtain ⟨pr, cr, hvr⟩ := ha.slice
  rw [hvr] at HR
  have hn := hL
  obtain ⟨T, hT⟩ : ∃ T, T = decide (g.size = 0) := ⟨_, rfl⟩
  have HM := Lib.hid fun U h => mayw b ok [] T U h
  have HF := Lib.hid fun U h => firstw b (ok && T) [] 143 U h (fun _ => by simp) (by omega)
  have HN := Lib.hid fun U h => numberw_ok b (ok && T) ([] ++ bytesOf 143 1 ++ bytesOf 0 3) 0 2 U h (fun _ => by simp only [List.length_append, List.length_nil]; omega) (by omega) (by omega) (by omega) (by omega)
  have HN2 := Lib.hid fun U h => numberw_ok b (ok && T) ([] ++ bytesOf 143 1 ++ bytesOf 0 3 ++ bytesOf 0 2) L.length 2 U h (fun _ => by simp only [List.length_append, List.length_nil]; omega) (by omega) (by omega) (by omega) (by omega)
  have HT := Lib.hid fun U h => textw b (ok && T) ([] ++ bytesOf 143 1 ++ bytesOf 0 3 ++ bytesOf 0 2 ++ bytesOf L.length 2) (bodyI L 16).2 (bodyI L 16).1 U h (body_err L 16) (fun _ h => by
    obtain ⟨e1, e2, e3, e4⟩ := body_size L h
    rw [e1, ByteArray.size_mk', List.size_toArray]
    simp only [List.length_append, List.length_nil]
    omega)
  have HX := Lib.hid (show (ok && T && decide ((bodyI L 16).1 = 0)) = (ok && rec6OK g L) by unfold rec6OK; rw [hT, Bool.and_assoc])
  have HY := Lib.hid (show [] ++ bytesOf 143 1 ++ bytesOf 0 3 ++ bytesOf 0 2 ++ bytesOf L.length 2 ++ (bodyI L 16).2.data.toList = rec6L L from rfl)
  have HG := Lib.hid (MG.start #[.int .i64 k, .int .i64 v, .string g, .int .i64 mx, .bool q, .int .i64 rob, .int .i64 ev, .slice p n cp, .slice pr L.length cr] h)
  rw [hvr]
  generalize rec6OK g L = RO at *
  generalize rec6L L = RL at *
  generalize (bodyI L 16).1 = BE at *
  generalize (bodyI L 16).2 = BS at *
  generalize L.length = nr at *
  clear h ha hD hvr hs Z1 Z2 Z3 Z4
  by_cases hz : g.size = 0
  · obtain rfl := bytes_empty hz
    obtain rfl : T = true := by rw [hT]; rfl
    clear hz hT
    go_enter Try.func40, Try.ntmps40
    go_wp2_with fail
    refine (HM.out _ HG.out.1.1).mono ?_
    rintro e w1 ⟨rfl, h1⟩
    replace HG := Lib.hid (HG.out.then h1)
    clear h1
    go_wp2_with fail
    refine (HF.out _ HG.out.1.1).mono ?_
    rintro e w2 ⟨rfl, h1⟩
    replace HG := Lib.hid (HG.out.then h1)
    clear h1
    go_wp2_with fail
    refine (HN.out _ HG.out.1.1).mono ?_
    rintro e w3 ⟨rfl, h1⟩
    replace HG := Lib.hid (HG.out.then h1)
    clear h1
    have c8 := HG.out.cell 8 rfl
    go_wp2_with fail
    refine (HN2.out _ HG.out.1.1).mono ?_
    rintro e w4 ⟨rfl, h1⟩
    replace HG := Lib.hid (HG.out.then h1)
    clear h1 c8
    have c8 := HG.out.cell 8 rfl
    have D1 := HG.out.1.2.1
    go_wp2_with fail
    ((with_reducible refine (HR.out _ D1).mono ?_); rintro e w5 ⟨rfl, h1⟩)
    replace HG := Lib.hid (HG.out.below h1)
    clear h1 c8 D1
    go_wp2_with fail
    refine (HT.out _ HG.out.1.1).mono ?_
    rintro e w6 ⟨rfl, h1⟩
    replace HG := Lib.hid (HG.out.then h1)
    clear h1
    go_wp2_with fail
    go_end0
    exact ⟨rfl, HG.out.1.cast HX.out (fun _ => HY.out)⟩
  · have e1 : g.toList.isEmpty = false := toList_ne g hz
    obtain rfl : T = false := by rw [hT, decide_eq_false hz]
    clear hz hT
    go_enter Try.func40, Try.ntmps40
    go_wp2_with fail
    refine (HM.out _ HG.out.1.1).mono ?_
    rintro e w1 ⟨rfl, h1⟩
    replace HG := Lib.hid (HG.out.then h1)
    clear h1
    go_wp2_with fail
    refine (HF.out _ HG.out.1.1).mono ?_
    rintro e w2 ⟨rfl, h1⟩
    replace HG := Lib.hid (HG.out.then h1)
    clear h1
    go_wp2_with fail
    refine (HN.out _ HG.out.1.1).mono ?_
    rintro e w3 ⟨rfl, h1⟩
    replace HG := Lib.hid (HG.out.then h1)
    clear h1
    have c8 := HG.out.cell 8 rfl
    go_wp2_with fail
    refine (HN2.out _ HG.out.1.1).mono ?_
    rintro e w4 ⟨rfl, h1⟩
    replace HG := Lib.hid (HG.out.then h1)
    clear h1 c8
    have c8 := HG.out.cell 8 rfl
    have D1 := HG.out.1.2.1
    go_wp2_with fail
    ((with_reducible refine (HR.out _ D1).mono ?_); rintro e w5 ⟨rfl, h1⟩)
    replace HG := Lib.hid (HG.out.below h1)
    clear h1 c8 D1
    go_wp2_with fail
    refine (HT.out _ HG.out.1.1).mono ?_
    rintro e w6 ⟨rfl, h1⟩
    replace HG := Lib.hid (HG.out.then h1)
    clear h1
    go_wp2_with fail
    go_end0
    exact ⟨rfl, HG.out.1.cast HX.out (fun _ => HY.out)⟩

end Go.Proofs.Ytnfngmclomjimaa
