/-
  What csum.Sum and csum.Right answer: the words of the text, one behind the other, by ones' addition. The text is ranged over by an iterator of the program's own.
  What csum.Sum and csum.Right answer, and what the document's answers (siphonref02) are: the same number.
-/
import Derived.Test.YtniahpbjfpmmhaaGreatSub
import Derived.Test.YtniahpbjfpmmhaaGreatSumMath
import Derived.RangeFuncNested
import Derived.RangeFuncBound
import Derived.RangeFuncCalls
import Derived.RangeFuncLeaves
import Derived.Shelf.Abstract
import Derived.Shelf.RegionOpen
import Derived.OwnWalkIn
import Derived.TacticsInMore
import Derived.LoopNIn
import Derived.LoopIn
namespace Go.Proofs.YtniahpbjfpmmhaaGreat
open Go.RowKit
set_option linter.unusedVariables false

open Go.RowKit Go.Shelf

set_option maxHeartbeats 400000 in
theorem plus_c (a b : Nat) (w : World) (ha : a ≤ 65535) (hb : b ≤ 65535) :
    Calls Tryz.prog 59 #[.int .i64 (a : Int), .int .i64 (b : Int)] w fun e w' => e = .returned (.int .i64 (addc a b : Int)) ∧ w' = w := by
  by_cases h : (65535 : Int) < (a : Int) + b
  · have hv : ((a : Int) + b - 65535) = (addc a b : Int) := by unfold addc; rw [if_pos (by omega)]; omega
    have HV := Lib.hid hv
    clear hv
    go_enter Tryz.func59, Tryz.ntmps59
    go_wp2
    go_ret
    exact ⟨ret_i64 HV.out, rfl⟩
  · have hv : ((a : Int) + b) = (addc a b : Int) := by unfold addc; rw [if_neg (by omega)]; omega
    have HV := Lib.hid hv
    clear hv
    go_enter Tryz.func59, Tryz.ntmps59
    go_wp2
    go_ret
    exact ⟨ret_i64 HV.out, rfl⟩

theorem get_two (s : ByteArray) (i : Nat) (h : i + 2 ≤ s.size) : getSpec s i 2 = ((wordN s.data.toList i : Int), 0) := by
  unfold getSpec
  have e : subs s ((i : Int)).toNat (2 : Int).toNat = [s[i], s[i + 1]] := by
    have h1 := subs_succ s i 0 (by omega)
    have h2 := subs_succ s i 1 (by omega)
    rw [Int.toNat_natCast]
    show subs s i 2 = _
    rw [h2, h1]
    simp [subs]
  rw [if_neg (by omega), if_neg (by omega), e]
  have g1 : s.data.toList.getD i 0 = s[i] := by rw [getD_at _ _ _ (by simp; omega)]; simp; rfl
  have g2 : s.data.toList.getD (i + 1) 0 = s[i + 1] := by rw [getD_at _ _ _ (by simp; omega)]; simp; rfl
  unfold wordN
  rw [g1, g2]
  simp [be]

theorem get_one (s : ByteArray) (i : Nat) (h : i + 1 = s.size) : getSpec s i 2 = (0, 2) ∧ ∃ b : Nat, b ≤ 255 ∧ getSpec s i 1 = ((b : Int), 0) ∧ wordN s.data.toList i = b * 256 := by
  have g1 : s.data.toList.getD i 0 = s[i] := by rw [getD_at _ _ _ (by simp; omega)]; simp; rfl
  have g2 : s.data.toList.getD (i + 1) 0 = 0 := by simp [List.getD, List.getElem?_eq_none (show s.data.toList.length ≤ i + 1 by simp; omega)]
  refine ⟨by unfold getSpec; rw [if_neg (by omega), if_pos (by omega)], s[i].toNat, by have := s[i].toNat_lt; omega, ?_, ?_⟩
  · unfold getSpec
    have e : subs s ((i : Int)).toNat (1 : Int).toNat = [s[i]] := by
      have h1 := subs_succ s i 0 (by omega)
      rw [Int.toNat_natCast]
      show subs s i 1 = _
      rw [h1]
      simp [subs]
    rw [if_neg (by omega), if_neg (by omega), e]
    simp [be]
  · unfold wordN
    rw [g1, g2]
    simp [Nat.mul_comm]

set_option maxHeartbeats 400000 in
theorem wordAt_c (s : ByteArray) (i : Nat) (w : World) (hs : s.size ≤ 9223372036854775807) (h : i < s.size) :
    Calls Tryz.prog 83 #[.string s, .int .i64 (i : Int)] w fun e w' => e = .returned (.int .i64 (wordN s.data.toList i : Int)) ∧ Below w.heap.size w w' := by
  have H1 := Lib.hid fun U => get_c s i 2 U hs (by omega) (by omega)
  by_cases c : i + 2 ≤ s.size
  · rw [get_two s i c] at H1
    go_enter Tryz.func83, Tryz.ntmps83
    go_wp2_with fail
    refine (H1.out _).mono ?_
    rintro e w1 ⟨rfl, h1⟩
    go_wp2_with fail
    go_ret
    exact ⟨rfl, h1⟩
  · obtain ⟨e1, b, hb, e2, e3⟩ := get_one s i (by omega)
    have H2 := Lib.hid fun U => get_c s i 1 U hs (by omega) (by omega)
    rw [e1] at H1
    rw [e2] at H2
    rw [e3]
    have hb2 : (b : Int) ≤ 255 := by omega
    clear e1 e2 e3
    go_enter Tryz.func83, Tryz.ntmps83
    go_wp2_with fail
    refine (H1.out _).mono ?_
    rintro e w1 ⟨rfl, h1⟩
    go_wp2_with fail
    refine (H2.out _).mono ?_
    rintro e w2 ⟨rfl, h2⟩
    go_wp2_with fail
    go_ret
    exact ⟨rfl, below_then h1 h2⟩

/-- A word, with the proof that it is one. -/
abbrev W16 := { x : Nat // x ≤ 65535 }

def wordsA (l : List UInt8) : List W16 := (List.range (cntW l)).map fun j => ⟨wordN l (2 * j), wordN_le _ _⟩

theorem wordsA_val (l : List UInt8) : (wordsA l).map (·.1) = wordsL l := by simp [wordsA, wordsL, Function.comp_def]
theorem wordsA_length (l : List UInt8) : (wordsA l).length = cntW l := by simp [wordsA]
theorem wordsA_take_succ (l : List UInt8) (k : Nat) (h : k < cntW l) : (wordsA l).take (k + 1) = (wordsA l).take k ++ [⟨wordN l (2 * k), wordN_le _ _⟩] := by
  rw [List.take_succ_eq_append_getElem (by rw [wordsA_length]; exact h)]
  simp [wordsA]

/-- What a round must keep: the cells of one block. -/
def KB (B0 : Nat) (W W' : World) : Prop := ∀ c t f, W.heap[B0]? = some (.cells c t f) → W'.heap[B0]? = some (.cells c t f)

theorem KB_t {B0 : Nat} {A B C : World} (h : KB B0 A B) (k : KB B0 B C) : KB B0 A C := fun c t f x => k c t f (h c t f x)
theorem KB_b {B0 : Nat} (W : World) (l : Nat) (o o' : Obj) (hl : W.heap[l]? = some o) (ho : o.isCells = false) : KB B0 W (W.putObj l o') := fun c t f x => by
  by_cases e : B0 = l
  · subst e
    rw [hl] at x
    cases x
    simp [Obj.isCells] at ho
  · rw [World.putObj_heap_other e]; exact x

theorem grown_of_below {W W' : World} (h : Below W.heap.size W W') : W.grownBy W' none := ⟨h.os, h.tape, h.output, h.size, fun k hk _ => h.block k hk⟩

attribute [local go_sem] Oper.semAt_some

set_option maxHeartbeats 1000000 in
set_option maxRecDepth 100000 in
theorem words_stops (n : Nat) (hn : 1 ≤ n) (B0 : Nat) (s : ByteArray) (hs : s.size ≤ 9223372036854775000) (w : World) (hbox : w.heap[B0]? = some (.cells #[.string s] 9 (0, 0))) :
    SeqStopsK Fence.wide n Tryz.prog 82 #[.pointer (some ⟨B0, 0, none⟩)] (fun x : W16 => #[.int .i64 (x.1 : Int)]) (KB B0) (fun xs => xs = wordsA s.data.toList) (fun _ => True) (wordsA s.data.toList).length w := fun l J Jx W hW hJ hJx hY h0 => by
  have hB := below_block hW (lt_of_block hbox) hbox
  have hl : s.data.toList.length = s.size := by simp
  have HL := Lib.hid hl
  clear hl
  refine callsIn_of_wp Tryz.func82 rfl trivial ?_ rfl
  simp only [Tryz.ntmps82, List.size_toArray, List.length_cons, List.length_nil, Nat.reduceAdd, Nat.reduceSub, Array.replicate_succ, Array.replicate_zero, List.push_toArray, List.append_toArray, List.nil_append, List.cons_append]
  gi_wp2
  gi_loopw [3] (fun p wr => ∃ i k : Nat, p = .int .i64 (i : Int) ∧ Hid (i = 2 * k) ∧ k ≤ cntW s.data.toList ∧ i ≤ s.size + 1 ∧ wr.heap[B0]? = some (.cells #[.string s] 9 (0, 0)) ∧ J ((wordsA s.data.toList).take k) wr)
    (fun p _ => s.size + 2 - (intOf p).toNat)
  case atStart => exact ⟨0, 0, rfl, rfl, Nat.zero_le _, Nat.zero_le _, hB, by simpa using h0⟩
  case round =>
    obtain ⟨i, k, rfl, hik, hk, hi, hb, hj⟩ := hrel
    have hc := cell_of_block (j := 0) hb rfl
    by_cases hlt : i < s.size
    · have hkl : k < cntW s.data.toList := by have := hik.out; unfold cntW; rw [HL.out]; omega
      gi_wp2_with fail
      refine ⟨trivial, (callsIn_wide.2 (wordAt_c s i _ (by omega) hlt)).mono ?_⟩
      rintro e w1 ⟨rfl, h1⟩
      have hj1 := hJ _ _ _ none hj (grown_of_below h1) (fun r e => by cases e)
      have hb1 := below_block h1 (lt_of_block hb) hb
      have hc1 := cell_of_block (j := 0) hb1 rfl
      obtain ⟨fn, tmps, assign, body, hy, hR⟩ := hY ((wordsA s.data.toList).take k) ⟨wordN s.data.toList i, wordN_le _ _⟩ w1 hj1 (by rw [List.length_take, wordsA_length]; omega)
      dsimp only at hy
      gi_wp2_with fail
      refine hR.mono ?_
      rintro e w2 (⟨rfl, hj2, hk2⟩ | ⟨rfl, hx2⟩)
      · have hb2 := hk2 _ _ _ hb1
        gi_wp2_with fail
        go_roundw
        case rel =>
          refine ⟨i + 2, k + 1, by go_num, ?_, hkl, by omega, hb2, ?_⟩
          · have := hik.out; show i + 2 = 2 * (k + 1); omega
          · rw [wordsA_take_succ _ _ hkl]
            have e : (⟨wordN s.data.toList i, wordN_le _ _⟩ : W16) = ⟨wordN s.data.toList (2 * k), wordN_le _ _⟩ := by have := hik.out; subst this; rfl
            rw [e] at hj2
            exact hj2
        case measure => simp [intOf]; omega
      · gi_wp2_with fail
        refine bodyPost_ret (results_none rfl _ _ _) rfl ?_
        exact ⟨⟨_, rfl⟩, .inr ⟨_, trivial, hx2⟩⟩
    · have hkl : k = cntW s.data.toList := by have := hik.out; unfold cntW at *; rw [HL.out] at *; omega
      gi_wp2_with fail
      go_end0
      refine ⟨⟨_, rfl⟩, .inl ⟨_, rfl, ?_⟩⟩
      rw [hkl, List.take_of_length_le (by rw [wordsA_length]; exact Nat.le_refl _)] at hj
      exact hj

open Go.RowKit Go.Shelf

set_option maxHeartbeats 400000 in
theorem words_c (s : ByteArray) (w : World) :
    Calls Tryz.prog 58 #[.string s] w fun e w' => e = .returned (.func (.func 82) #[] #[.pointer (some ⟨w.heap.size, 0, none⟩)]) ∧ w' = w.alloc (.cells #[.string s] 9) := by
  go_enter Tryz.func58, Tryz.ntmps58
  go_wp2
  go_ret
  exact ⟨rfl, rfl⟩

theorem block_kept {W W' : World} {row : Option Nat} {b : Nat} {c : Array Value} {t : TypeId} {f : Nat × Nat} (h : W.heap[b]? = some (.cells c t f)) (hg : W.grownBy W' row)
    (hr : ∀ r, row = some r → ∃ o : Obj, W.heap[r]? = some o ∧ o.isCells = false) : W'.heap[b]? = some (.cells c t f) := by
  refine (hg.block b (lt_of_block h) fun e => ?_).trans h
  obtain ⟨o, h1, h2⟩ := hr b e.symm
  rw [h] at h1
  cases h1
  simp [Obj.isCells] at h2

attribute [local go_sem] Oper.semAt_some

def totA (xs : List W16) : Nat := tot (xs.map (·.1))
theorem totA_nil : totA [] = 0 := rfl
theorem totA_snoc (pre : List W16) (x : W16) : totA (pre ++ [x]) = addc (totA pre) x.1 := by simp [totA, tot_snoc]
theorem totA_le (xs : List W16) : totA xs ≤ 65535 := tot_le _ fun x hx => by obtain ⟨y, _, rfl⟩ := List.mem_map.1 hx; exact y.2
theorem totA_words (l : List UInt8) : totA (wordsA l) = tot (wordsL l) := by unfold totA; rw [wordsA_val]

set_option maxHeartbeats 2000000 in
set_option maxRecDepth 100000 in
theorem sum_c (s : ByteArray) (w : World) (hs : s.size ≤ 9223372036854775000) :
    Calls Tryz.prog 27 #[.string s] w fun e w' => e = .returned (.int .i64 (sumN s.data.toList : Int)) ∧ Below w.heap.size w w' := by
  refine (callsIn_wide (n := 9)).1 ?_
  refine callsIn_of_wp_marks Tryz.func27 rfl trivial ?_ rfl
  simp only [Tryz.ntmps27, List.size_toArray, List.length_cons, List.length_nil, Nat.reduceAdd, Nat.reduceSub, Array.replicate_succ, Array.replicate_zero, List.push_toArray, List.append_toArray, List.nil_append, List.cons_append]
  gi_wp2_with fail
  refine ⟨trivial, (callsIn_wide.2 (words_c s _)).mono ?_⟩
  rintro e w1 ⟨rfl, rfl⟩
  gi_wp2_with fail
  have hbx : ((w.alloc (.cells #[.int .i64 0] 3)).alloc (.cells #[.string s] 9)).heap[w.heap.size + 1]? = some (.cells #[.string s] 9 (0, 0)) := by
    simpa using heap_new (w.alloc (.cells #[.int .i64 0] 3)) (.cells #[.string s] 9)
  have hB0 : Below w.heap.size w ((w.alloc (.cells #[.int .i64 0] 3)).alloc (.cells #[.string s] 9)) := ((Below.refl _ w).alloc (Nat.le_refl _) _).alloc (by simp) _
  refine wpIn_rangeFunc_ownF rfl (by omega) (gf := 82) (lb := #[.pointer (some ⟨w.heap.size + 1, 0, none⟩)]) rfl trivial (enters_of Tryz.func82 (by kernel_rfl) rfl)
    (words_stops 8 (by omega) (w.heap.size + 1) s hs _ hbx) KB_t (fun W l o o' _ hl ho _ => KB_b W l o o' hl ho) (Below.refl _ _) (fun _ => rfl)
    (fun pre W => W.heap[w.heap.size]? = some (.cells #[.int .i64 (totA pre : Int)] 3 (0, 0)) ∧ Below w.heap.size w W)
    (fun _ _ _ => False)
    (OwnFrom.and (Own.from (I := fun (pre : List W16) (W : World) => W.heap[w.heap.size]? = some (.cells #[.int .i64 (totA pre : Int)] 3 (0, 0))) (fun s A B row hs hg hr => block_kept hs hg hr) _) (ownFrom_below (Nat.le_refl _) (by simp; omega)))
    (fun _ _ _ _ _ hs _ _ => hs)
    ⟨heap_old (heap_new _ _), hB0⟩
    (fun x => { tmps := #[.string s, undef, .int .i64 0, .pointer (some ⟨w.heap.size, 0, none⟩), .int .i64 x.1, .string s, .func (.func 82) #[] #[.pointer (some ⟨w.heap.size + 1, 0, none⟩)], .int .i64 x.1, undef, undef, undef, undef, undef], defers := [] }) ?assign ?body ?done ?stop
  case assign =>
    intro l x W K hK
    gi_wp2
    exact hK
  case body =>
    rintro l pre x W ⟨hc, hB⟩ _
    have hcc := cell_of_block (j := 0) hc rfl
    have hcf := free_of_block (j := 0) hc
    gi_wp2_with fail
    refine ⟨trivial, (CallsIn.inRound l (callsIn_wide.2 (plus_c _ _ _ (totA_le pre) x.2))).mono ?_⟩
    rintro e w2 ⟨rfl, rfl⟩
    gi_wp2_with fail
    refine ⟨KeepsOthers.setCell _ _ _, fun c t f h => heap_store_other h (by omega), ?_, hB.setCell (p := ⟨w.heap.size, 0, none⟩) (Nat.le_refl _) _⟩
    rw [totA_snoc]
    exact heap_store hc
  case done =>
    rintro D ys W hD rfl ⟨hc, hB⟩ hK
    have hcc := cell_of_block (j := 0) hc rfl
    have hb1 : (totA (wordsA s.data.toList) : Int) ≤ 65535 := by have := totA_le (wordsA s.data.toList); omega
    gi_wp2_with fail
    refine ⟨by simp, .inl ⟨_, _, rfl, run_takeDeferred hK, ?_⟩⟩
    refine ⟨_, results_tmp rfl _ _ _, ?_, hB.trans (belowK_b (w := w) (Nat.le_refl _) W D _ _ (by simp at hD; omega) hK rfl rfl)⟩
    have e : (65535 : Int) - (totA (wordsA s.data.toList) : Int) = (sumN s.data.toList : Int) := by
      unfold sumN
      rw [← totA_words]
      omega
    exact ret_i64 e
  case stop =>
    rintro D c pre W _ _ h _
    exact h.elim

theorem sumN_le (l : List UInt8) : sumN l ≤ 65535 := by unfold sumN; omega

set_option maxHeartbeats 400000 in
theorem right_c (s : ByteArray) (w : World) (hs : s.size ≤ 9223372036854775000) :
    Calls Tryz.prog 18 #[.string s] w fun e w' => e = .returned (.bool ((sumN s.data.toList : Int) == 0)) ∧ Below w.heap.size w w' := by
  have H1 := Lib.hid fun U => sum_c s U hs
  obtain ⟨q, hq⟩ : ∃ q, q = sumN s.data.toList := ⟨_, rfl⟩
  rw [← hq] at H1 ⊢
  clear hq
  go_enter Tryz.func18, Tryz.ntmps18
  go_wp2_with fail
  refine (H1.out _).mono ?_
  rintro e w1 ⟨rfl, h1⟩
  go_wp2_with fail
  go_ret
  exact ⟨rfl, h1⟩

set_option maxHeartbeats 400000 in
theorem rplus_c (a b : Nat) (w : World) (ha : a ≤ 65535) (hb : b ≤ 65535) :
    Calls Tryz.prog 84 #[.int .i64 (a : Int), .int .i64 (b : Int)] w fun e w' => e = .returned (.int .i64 (addc a b : Int)) ∧ w' = w := by
  by_cases h : (65536 : Int) ≤ (a : Int) + b
  · have hv : ((a : Int) + b - 65535) = (addc a b : Int) := by unfold addc; rw [if_pos (by omega)]; omega
    have HV := Lib.hid hv
    clear hv
    go_enter Tryz.func84, Tryz.ntmps84
    go_wp2
    go_ret
    exact ⟨ret_i64 HV.out, rfl⟩
  · have hv : ((a : Int) + b) = (addc a b : Int) := by unfold addc; rw [if_neg (by omega)]; omega
    have HV := Lib.hid hv
    clear hv
    go_enter Tryz.func84, Tryz.ntmps84
    go_wp2
    go_ret
    exact ⟨ret_i64 HV.out, rfl⟩

theorem wordN_two (s : ByteArray) (i : Nat) (h : i + 1 < s.size) : wordN s.data.toList i = 256 * s[i].toNat + s[i + 1].toNat := by
  have g1 : s.data.toList.getD i 0 = s[i] := by rw [getD_at _ _ _ (by simp; omega)]; simp; rfl
  have g2 : s.data.toList.getD (i + 1) 0 = s[i + 1] := by rw [getD_at _ _ _ (by simp; omega)]; simp; rfl
  unfold wordN; rw [g1, g2]
theorem wordN_one (s : ByteArray) (i : Nat) (h : i < s.size) (h2 : s.size ≤ i + 1) : wordN s.data.toList i = 256 * s[i].toNat := by
  have g1 : s.data.toList.getD i 0 = s[i] := by rw [getD_at _ _ _ (by simp; omega)]; simp; rfl
  have g2 : s.data.toList.getD (i + 1) 0 = 0 := by simp [List.getD, List.getElem?_eq_none (show s.data.toList.length ≤ i + 1 by simp; omega)]
  unfold wordN; rw [g1, g2]; simp

set_option maxHeartbeats 1000000 in
set_option maxRecDepth 100000 in
theorem rtotal_c (s : ByteArray) (w : World) (hs : s.size ≤ 9223372036854775000) :
    Calls Tryz.prog 66 #[.string s] w fun e w' => e = .returned (.int .i64 (tot (wordsL s.data.toList) : Int)) ∧ w = w' := by
  have hl : s.data.toList.length = s.size := by simp
  have HL := Lib.hid hl
  clear hl
  go_enter Tryz.func66, Tryz.ntmps66
  go_wp2
  go_loop [3, 4] (fun n p => ∃ i k : Nat, p = .int .i64 (i : Int) ∧ Hid (i = 2 * k) ∧ k ≤ cntW s.data.toList ∧ i ≤ s.size + 1 ∧ n = .int .i64 (tot ((wordsL s.data.toList).take k) : Int)) (fun _ p => s.size + 2 - (intOf p).toNat)
  case atStart => exact ⟨0, 0, rfl, rfl, Nat.zero_le _, Nat.zero_le _, by simp [tot]⟩
  case round =>
    obtain ⟨i, k, rfl, hik, hk, hi, rfl⟩ := hrel
    by_cases hlt : i < s.size
    · have hkl : k < cntW s.data.toList := by have := hik.out; unfold cntW; rw [HL.out]; omega
      have ht := tot_take_le s.data.toList k
      have hn : tot ((wordsL s.data.toList).take (k + 1)) = addc (tot ((wordsL s.data.toList).take k)) (wordN s.data.toList i) := by
        have := hik.out
        subst this
        rw [wordsL_take_succ _ _ hkl, tot_snoc]
      have HN := Lib.hid hn
      clear hn
      obtain ⟨t, hte⟩ : ∃ t, t = tot ((wordsL s.data.toList).take k) := ⟨_, rfl⟩
      rw [← hte] at ht HN ⊢
      clear hte
      have hb1 : (s[i].toNat : Int) < 256 := by have := s[i].toNat_lt; omega
      by_cases h2 : i + 1 < s.size
      · have hw := wordN_two s i h2
        have hb2 : (s[i + 1].toNat : Int) < 256 := by have := s[i + 1].toNat_lt; omega
        have hw2 := wordN_le s.data.toList i
        have HP := Lib.hid fun U => rplus_c t (wordN s.data.toList i) U ht hw2
        rw [hw] at HP HN
        clear hw hw2
        have h3 : (i : Int) + 1 < s.size := by omega
        go_wp2_with fail
        refine ((HP.out _).mono ?_)
        rintro e w1 ⟨rfl, rfl⟩
        go_wp2_with fail
        go_round
        case rel => exact ⟨i + 2, k + 1, by go_num, by have := hik.out; show i + 2 = 2 * (k + 1); omega, hkl, by omega, by rw [HN.out]⟩
        case measure => simp [intOf]; omega
      · have hw := wordN_one s i hlt (by omega)
        have hw2 := wordN_le s.data.toList i
        have HP := Lib.hid fun U => rplus_c t (wordN s.data.toList i) U ht hw2
        rw [hw] at HP HN
        clear hw hw2
        have h3 : ¬ (i : Int) + 1 < s.size := by omega
        go_wp2_with fail
        refine ((HP.out _).mono ?_)
        rintro e w1 ⟨rfl, rfl⟩
        go_wp2_with fail
        go_round
        case rel => exact ⟨i + 2, k + 1, by go_num, by have := hik.out; show i + 2 = 2 * (k + 1); omega, hkl, by omega, by rw [HN.out]⟩
        case measure => simp [intOf]; omega
    · have hkl : k = cntW s.data.toList := by have := hik.out; unfold cntW at *; rw [HL.out] at *; omega
      rw [hkl, List.take_of_length_le (by rw [wordsL_length]; exact Nat.le_refl _)]
      go_wp2
      go_ret
      exact ⟨rfl, rfl⟩

set_option maxHeartbeats 400000 in
theorem rsum_c (s : ByteArray) (w : World) (hs : s.size ≤ 9223372036854775000) :
    Calls Tryz.prog 38 #[.string s] w fun e w' => e = .returned (.int .i64 (sumN s.data.toList : Int)) ∧ w = w' := by
  have H1 := Lib.hid fun U => rtotal_c s U hs
  have hb : (tot (wordsL s.data.toList) : Int) ≤ 65535 := by have := tot_le _ (wordsL_le s.data.toList); omega
  have e : (65535 : Int) - (tot (wordsL s.data.toList) : Int) = (sumN s.data.toList : Int) := by
    unfold sumN
    omega
  have E := Lib.hid e
  clear e
  go_enter Tryz.func38, Tryz.ntmps38
  go_wp2_with fail
  refine (H1.out _).mono ?_
  rintro e w1 ⟨rfl, rfl⟩
  go_wp2_with fail
  go_ret
  exact ⟨ret_i64 E.out, rfl⟩

end Go.Proofs.YtniahpbjfpmmhaaGreat
