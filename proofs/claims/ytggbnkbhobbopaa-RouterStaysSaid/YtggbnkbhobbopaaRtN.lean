/-
  What is heard and what is so for good, plainly; the samples of layer 19 (siphonlaw19.live). A contract over the translated program.
-/
import Derived.Test.YtggbnkbhobbopaaRtF
import Derived.Test.YtggbnkbhobbopaaVlA
import Derived.Test.YtggbnkbhobbopaaVlB
namespace Go.Proofs.Ytggbnkbhobbopaa
open Go Go.Maps Go.WideMaps
open Go.RowKit
set_option linter.unusedVariables false
set_option linter.unusedSimpArgs false

theorem k_call {W w w' : World} (h : Below W.heap.size W w) (k : Below w.heap.size w w') : Below W.heap.size W w' := h.trans (k.mono h.size)
theorem k_alloc {W w : World} (h : Below W.heap.size W w) (o : Obj) : Below W.heap.size W (w.alloc o) := h.alloc h.size o
theorem key_P {v p : Int} (h : WfP v p) : WideAt.IsKeyLit (litP v p) := law_PL.key (keyP v p h)
theorem same_P {v p v' p' : Int} (h : WfP v p) (h' : WfP v' p') : (litP v p).sameKey (litP v' p') = decide (v = v' ∧ p = p') := by
  by_cases e : v = v' ∧ p = p'
  · obtain ⟨rfl, rfl⟩ := e
    rw [WideAt.sameKey_self (key_P h)]
    simp
  · rw [Maps.sameKey_ne (fun h2 => e (litP_inj h h' h2)), decide_eq_false e]
theorem any_del (L : List T3) {k : Lit} (hk : WideAt.IsKeyLit k) : (delT L k).any (fun x => x.1.sameKey k) = false := by
  rw [List.any_eq_false]
  intro x hx
  have := (List.mem_filter.1 hx).2
  simpa using this
theorem put_has (L : List T3) {k : Lit} (hk : WideAt.IsKeyLit k) (t : Int) : hasT (putT L k t) k = true ∧ getT (putT L k t) k = t := by
  have hn := any_del L hk
  constructor
  · unfold hasT putT
    rw [List.any_append, hn, List.any_cons, WideAt.sameKey_self hk]
    rfl
  · unfold getT putT
    rw [List.find?_append, List.find?_eq_none.2 (fun x hx => List.any_eq_false.1 hn x hx), List.find?_cons, WideAt.sameKey_self hk]
    rfl
theorem GoodL.put {L : List T3} (h : GoodL L) (k : Lit) {t : Int} (h1 : 0 ≤ t) (h2 : t ≤ 1099511627776) : GoodL (putT L k t) := by
  intro x hx
  unfold putT at hx
  rcases List.mem_append.1 hx with hx | hx
  · exact h x (List.mem_filter.1 hx).1
  · simp at hx
    subst hx
    exact ⟨h1, h2⟩
theorem put_len (L : List T3) (k : Lit) (t : Int) : (putT L k t).length ≤ L.length + 1 := by
  unfold putT delT
  have := List.length_filter_le (fun x : T3 => !x.1.sameKey k) L
  simp
  omega
theorem fix_one {v p v' : Int} (h : WfP v p) (i : Nat) (h' : WfP v' i) : fixB (MB.putT [] (litP v p) true) v' i = decide (v = v' ∧ p = i) := by
  unfold fixB MB.getT MB.putT MB.delT
  have e := same_P h h'
  simp only [List.filter_nil, List.nil_append, List.find?_cons, List.find?_nil]
  rw [e]
  by_cases c : v = v' ∧ p = i
  · rw [decide_eq_true c]
    rfl
  · rw [decide_eq_false c]
    rfl
theorem only_of {l : List Int} {x : Int} (h : l.Pairwise (fun a b => a < b)) (hm : ∀ y, y ∈ l ↔ y = x) : l = [x] := by
  rcases l with _ | ⟨a, _ | ⟨b, r⟩⟩
  · exact absurd ((hm x).2 rfl) (by simp)
  · rw [(hm a).1 (by simp)]
  · have h1 := (hm a).1 (by simp)
    have h2 := (hm b).1 (by simp)
    have := (List.pairwise_cons.1 h).1 b (by simp)
    omega
theorem none_of {l : List Int} (hm : ∀ y, ¬ y ∈ l) : l = [] := List.eq_nil_iff_forall_not_mem.2 hm
theorem fix_none (v : Int) (i : Nat) : fixB [] v i = false := rfl
theorem wf_small (v : Int) (h1 : -9223372036854775808 ≤ v) (h2 : v ≤ 9223372036854775807) (i : Nat) (h : i < 16) : WfP v i := WfP.of h1 h2 (by omega) (by omega)
theorem heard_put {L : List T3} {age now v p : Int} (i : Nat) (h : WfP v p) (e : p = i) (t : Int) : heardB (putT L (litP v p) t) age now v i = !decide (t + age ≤ now) := by
  subst e
  obtain ⟨h1, h2⟩ := put_has L (key_P h) t
  unfold heardB
  rw [h1, h2, Bool.true_and]
theorem heard_one {age now v p v' : Int} (h : WfP v p) (i : Nat) (h' : WfP v' i) (t : Int) : heardB (putT [] (litP v p) t) age now v' i = (decide (v = v' ∧ p = i) && !decide (t + age ≤ now)) := by
  by_cases c : v = v' ∧ p = i
  · obtain ⟨rfl, e⟩ := c
    rw [heard_put i h e t, show decide (v = v ∧ p = (i : Int)) = true from decide_eq_true ⟨rfl, e⟩, Bool.true_and]
  · rw [decide_eq_false c, Bool.false_and]
    unfold heardB hasT putT delT
    simp only [List.filter_nil, List.nil_append, List.any_cons, List.any_nil, Bool.or_false]
    rw [same_P h h', decide_eq_false c, Bool.false_and]

theorem live_a : lstP [] (putT [] (litP 1 3) 5) 10 14 1 = [3] := by
  refine only_of (risI_up _) fun y => ?_
  show y ∈ lstP _ _ _ _ _ ↔ _
  rw [lstP_mem]
  have W1 : WfP 1 3 := WfP.of (by decide) (by decide) (by decide) (by decide)
  constructor
  · rintro ⟨i, hi, h1 | h1, rfl⟩
    · cases h1
    · rw [heard_one W1 i (wf_small 1 (by decide) (by decide) i hi)] at h1
      simp at h1
      omega
  · rintro rfl
    exact ⟨3, by decide, .inr (by rw [heard_one W1 3 (show WfP 1 ((3 : Nat) : Int) from W1)]; decide), rfl⟩
theorem live_b : lstP [] (putT [] (litP 1 3) 5) 10 15 1 = [] := by
  refine none_of fun y hy => ?_
  rw [lstP_mem] at hy
  have W1 : WfP 1 3 := WfP.of (by decide) (by decide) (by decide) (by decide)
  obtain ⟨i, hi, h1 | h1, rfl⟩ := hy
  · cases h1
  · rw [heard_one W1 i (wf_small 1 (by decide) (by decide) i hi)] at h1
    simp at h1

theorem ints_new (w : World) (l : List Int) (t : TypeId) (n : Nat) (hn : n = l.length) : IntsAt (w.alloc (.cells (l.map (Value.int .i64)).toArray t)) (.slice (some ⟨w.heap.size, 0, none⟩) n n) l := by
  subst hn
  refine ⟨_, _, w.heap.size, 0, rfl, fun _ => rfl, fun j x hj => ?_⟩
  rw [Nat.zero_add]
  exact cell_of_block (heap_new w _) (by simp [hj])

set_option maxHeartbeats 4000000 in
set_option maxRecDepth 100000 in
theorem live19_c (w : World) : Calls Try.prog 11 #[] w fun e w' => e = .returned (.bool true) ∧ Below w.heap.size w w' := by
  have N1 := Lib.hid fun U => new_ok 10 (by decide) (by decide) U
  have N2 := Lib.hid fun U => new_no 0 (by decide) U
  have S1 := Lib.hid fun U v1 v2 l (hl : l.length ≤ 9223372036854775807) (h1 : IntsAt U v1 l) (h2 : IntsAt U v2 l) => sameI_c v1 v2 l U hl h1 h2
  go_enter Try.func11, Try.ntmps11
  go_wp2_with fail
  ((with_reducible refine (N1.out _).mono ?_); rintro e w1 ⟨p, fb, hb, rfl, h1, hf, hh, b1⟩)
  have HF := Lib.hid (And.intro hf hh)
  have H1 := Lib.hid h1
  have B1 := Lib.hid b1
  clear hf hh h1 b1
  go_wp2_with fail
  ((with_reducible refine (N2.out _).mono ?_); rintro e w2 ⟨rfl, rfl⟩)
  have C1 := Lib.hid (seen_yes H1.out (by decide) 1 3 5 (by decide) (by decide))
  go_wp2_with fail
  ((with_reducible refine C1.out.mono ?_); rintro e w3 ⟨rfl, h3, k3⟩)
  have H3 := Lib.hid h3
  have B3 := Lib.hid (B1.out.trans (k3.below HF.out.1 HF.out.2 B1.out.size))
  clear h3 k3 C1 H1 B1
  have GL := Lib.hid (show GoodL (putT [] (litP 1 3) 5) from GoodL.put (fun x hx => by cases hx) _ (by decide) (by decide))
  have L1 := list_c H3.out (by decide) (by decide) GL.out 1 14 (by decide) (by decide)
  rw [live_a] at L1
  replace L1 := Lib.hid L1
  go_wp2_with fail
  ((with_reducible refine L1.out.mono ?_); rintro e w4 ⟨u4, rfl, i4, k4⟩)
  have H4 := Lib.hid (H3.out.below k4)
  have B4 := Lib.hid (k_call B3.out k4)
  have I4 := Lib.hid i4
  clear i4 k4 L1 H3 B3
  have L2 := list_c H4.out (by decide) (by decide) GL.out 1 15 (by decide) (by decide)
  rw [live_b] at L2
  replace L2 := Lib.hid L2
  go_wp2_with fail
  ((with_reducible refine L2.out.mono ?_); rintro e w5 ⟨u5, rfl, i5, k5⟩)
  have H5 := Lib.hid (H4.out.below k5)
  have B5 := Lib.hid (k_call B4.out k5)
  have I5 := Lib.hid (I4.out.below k5)
  obtain ⟨p5, c5, rfl⟩ := i5.slice
  clear i5 k5 L2 H4 B4 I4
  have k6 := (Below.refl w5.heap.size w5).alloc (Nat.le_refl _) (.cells #[.int .i64 3] 3)
  have I6 := Lib.hid (I5.out.below k6)
  have J6 := Lib.hid (show IntsAt (w5.alloc (.cells #[.int .i64 3] 3)) (.slice (some ⟨w5.heap.size, 0, none⟩) 1 1) [3] from ints_new w5 [3] 3 1 rfl)
  have H6 := Lib.hid (H5.out.below k6)
  have B6 := Lib.hid (k_call B5.out k6)
  clear k6 I5 H5 B5
  go_upto_region 8 with fail
  go_wp2_with fail
  ((with_reducible refine (S1.out _ _ _ _ (by decide) I6.out J6.out).mono ?_); rintro e w7 ⟨rfl, n7, rfl⟩)
  have k7 := below_drewN (Below.refl (w5.alloc (.cells #[.int .i64 3] 3)).heap.size (w5.alloc (.cells #[.int .i64 3] 3))) n7
  have F7 := Lib.hid (fix_no (H6.out.below k7) (by decide) 0 0 (by decide))
  have B7 := Lib.hid (k_call B6.out k7)
  clear k7
  go_wp2_with fail
  ((with_reducible refine F7.out.mono ?_); rintro e w8 ⟨rfl, h8⟩; replace h8 := h8.symm; subst h8)
  go_wp2_with fail
  go_ret
  exact ⟨rfl, B7.out⟩
end Go.Proofs.Ytggbnkbhobbopaa
