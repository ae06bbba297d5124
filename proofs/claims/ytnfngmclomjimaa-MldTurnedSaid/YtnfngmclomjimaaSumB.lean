/-
  What csum.Sum and csum.Right answer, and what the document's answers (siphonref02) are: the same number.
-/
import Derived.Test.YtnfngmclomjimaaSumA
namespace Go.Proofs.Ytnfngmclomjimaa
open Go.RowKit Go.Shelf

set_option maxHeartbeats 400000 in
theorem words_c (s : ByteArray) (w : World) :
    Calls Try.prog 47 #[.string s] w fun e w' => e = .returned (.func (.func 64) #[] #[.pointer (some ⟨w.heap.size, 0, none⟩)]) ∧ w' = w.alloc (.cells #[.string s] 9) := by
  go_enter Try.func47, Try.ntmps47
  go_wp2
  go_ret
  exact ⟨rfl, rfl⟩

theorem block_kept {W W' : World} {row : Option Nat} {b : Nat} {c : Array Value} {t : TypeId} {f : Nat × Nat} (h : W.heap[b]? = some (.cells c t f)) (hg : W.grownBy W' row)
    (hr : ∀ r, row = some r → ∃ o : Obj, W.heap[r]? = some o ∧ o.isCells = false) : W'.heap[b]? = some (.cells c t f) := by
  refine (hg.block b (lt_of_block h) fun e => ?_).trans h
  obtain ⟨o, h1, h2⟩ := hr b e.symm
  rw [h] at h1
  cases h1
  simp [Obj.isCells] at h2

attribute [local go_sem] Oper.semAt_some

def totA (xs : List W16) : Nat := tot (xs.map (·.1))
theorem totA_nil : totA [] = 0 := rfl
theorem totA_snoc (pre : List W16) (x : W16) : totA (pre ++ [x]) = addc (totA pre) x.1 := by simp [totA, tot_snoc]
theorem totA_le (xs : List W16) : totA xs ≤ 65535 := tot_le _ fun x hx => by obtain ⟨y, _, rfl⟩ := List.mem_map.1 hx; exact y.2
theorem totA_words (l : List UInt8) : totA (wordsA l) = tot (wordsL l) := by unfold totA; rw [wordsA_val]

set_option maxHeartbeats 2000000 in
set_option maxRecDepth 100000 in
theorem sum_c (s : ByteArray) (w : World) (hs : s.size ≤ 9223372036854775000) :
    Calls Try.prog 27 #[.string s] w fun e w' => e = .returned (.int .i64 (sumN s.data.toList : Int)) ∧ Below w.heap.size w w' := by
  refine (callsIn_wide (n := 9)).1 ?_
  refine callsIn_of_wp_marks Try.func27 rfl trivial ?_ rfl
  simp only [Try.ntmps27, List.size_toArray, List.length_cons, List.length_nil, Nat.reduceAdd, Nat.reduceSub, Array.replicate_succ, Array.replicate_zero, List.push_toArray, List.append_toArray, List.nil_append, List.cons_append]
  gi_wp2_with fail
  refine ⟨trivial, (callsIn_wide.2 (words_c s _)).mono ?_⟩
  rintro e w1 ⟨rfl, rfl⟩
  gi_wp2_with fail
  have hbx : ((w.alloc (.cells #[.int .i64 0] 3)).alloc (.cells #[.string s] 9)).heap[w.heap.size + 1]? = some (.cells #[.string s] 9 (0, 0)) := by
    simpa using heap_new (w.alloc (.cells #[.int .i64 0] 3)) (.cells #[.string s] 9)
  have hB0 : Below w.heap.size w ((w.alloc (.cells #[.int .i64 0] 3)).alloc (.cells #[.string s] 9)) := ((Below.refl _ w).alloc (Nat.le_refl _) _).alloc (by simp) _
  refine wpIn_rangeFunc_ownF rfl (by omega) (gf := 64) (lb := #[.pointer (some ⟨w.heap.size + 1, 0, none⟩)]) rfl trivial (enters_of Try.func64 (by kernel_rfl) rfl)
    (words_stops 8 (by omega) (w.heap.size + 1) s hs _ hbx) KB_t (fun W l o o' _ hl ho _ => KB_b W l o o' hl ho) (Below.refl _ _) (fun _ => rfl)
    (fun pre W => W.heap[w.heap.size]? = some (.cells #[.int .i64 (totA pre : Int)] 3 (0, 0)) ∧ Below w.heap.size w W)
    (fun _ _ _ => False)
    (OwnFrom.and (Own.from (I := fun (pre : List W16) (W : World) => W.heap[w.heap.size]? = some (.cells #[.int .i64 (totA pre : Int)] 3 (0, 0))) (fun s A B row hs hg hr => block_kept hs hg hr) _) (ownFrom_below (Nat.le_refl _) (by simp; omega)))
    (fun _ _ _ _ _ hs _ _ => hs)
    ⟨heap_old (heap_new _ _), hB0⟩
    (fun x => { tmps := #[.string s, undef, .int .i64 0, .pointer (some ⟨w.heap.size, 0, none⟩), .int .i64 x.1, .string s, .func (.func 64) #[] #[.pointer (some ⟨w.heap.size + 1, 0, none⟩)], .int .i64 x.1, undef, undef, undef, undef, undef], defers := [] }) ?assign ?body ?done ?stop
  case assign =>
    intro l x W K hK
    gi_wp2
    exact hK
  case body =>
    rintro l pre x W ⟨hc, hB⟩ _
    have hcc := cell_of_block (j := 0) hc rfl
    have hcf := free_of_block (j := 0) hc
    gi_wp2_with fail
    refine ⟨trivial, (CallsIn.inRound l (callsIn_wide.2 (plus_c _ _ _ (totA_le pre) x.2))).mono ?_⟩
    rintro e w2 ⟨rfl, rfl⟩
    gi_wp2_with fail
    refine ⟨KeepsOthers.setCell _ _ _, fun c t f h => heap_store_other h (by omega), ?_, hB.setCell (p := ⟨w.heap.size, 0, none⟩) (Nat.le_refl _) _⟩
    rw [totA_snoc]
    exact heap_store hc
  case done =>
    rintro D ys W hD rfl ⟨hc, hB⟩ hK
    have hcc := cell_of_block (j := 0) hc rfl
    have hb1 : (totA (wordsA s.data.toList) : Int) ≤ 65535 := by have := totA_le (wordsA s.data.toList); omega
    gi_wp2_with fail
    refine ⟨by simp, .inl ⟨_, _, rfl, run_takeDeferred hK, ?_⟩⟩
    refine ⟨_, results_tmp rfl _ _ _, ?_, hB.trans (belowK_b (w := w) (Nat.le_refl _) W D _ _ (by simp at hD; omega) hK rfl rfl)⟩
    have e : (65535 : Int) - (totA (wordsA s.data.toList) : Int) = (sumN s.data.toList : Int) := by
      unfold sumN
      rw [← totA_words]
      omega
    exact ret_i64 e
  case stop =>
    rintro D c pre W _ _ h _
    exact h.elim

theorem sumN_le (l : List UInt8) : sumN l ≤ 65535 := by unfold sumN; omega

set_option maxHeartbeats 400000 in
theorem right_c (s : ByteArray) (w : World) (hs : s.size ≤ 9223372036854775000) :
    Calls Try.prog 16 #[.string s] w fun e w' => e = .returned (.bool ((sumN s.data.toList : Int) == 0)) ∧ Below w.heap.size w w' := by
  have H1 := Lib.hid fun U => sum_c s U hs
  obtain ⟨q, hq⟩ : ∃ q, q = sumN s.data.toList := ⟨_, rfl⟩
  rw [← hq] at H1 ⊢
  clear hq
  go_enter Try.func16, Try.ntmps16
  go_wp2_with fail
  refine (H1.out _).mono ?_
  rintro e w1 ⟨rfl, h1⟩
  go_wp2_with fail
  go_ret
  exact ⟨rfl, h1⟩

theorem wordN_two (s : ByteArray) (i : Nat) (h : i + 1 < s.size) : wordN s.data.toList i = 256 * s[i].toNat + s[i + 1].toNat := by
  have g1 : s.data.toList.getD i 0 = s[i] := by rw [getD_at _ _ _ (by simp; omega)]; simp; rfl
  have g2 : s.data.toList.getD (i + 1) 0 = s[i + 1] := by rw [getD_at _ _ _ (by simp; omega)]; simp; rfl
  unfold wordN; rw [g1, g2]
theorem wordN_one (s : ByteArray) (i : Nat) (h : i < s.size) (h2 : s.size ≤ i + 1) : wordN s.data.toList i = 256 * s[i].toNat := by
  have g1 : s.data.toList.getD i 0 = s[i] := by rw [getD_at _ _ _ (by simp; omega)]; simp; rfl
  have g2 : s.data.toList.getD (i + 1) 0 = 0 := by simp [List.getD, List.getElem?_eq_none (show s.data.toList.length ≤ i + 1 by simp; omega)]
  unfold wordN; rw [g1, g2]; simp

end Go.Proofs.Ytnfngmclomjimaa
