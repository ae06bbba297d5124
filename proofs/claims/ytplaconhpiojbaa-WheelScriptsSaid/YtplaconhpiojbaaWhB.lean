/-
  The wheel at keys of type int: New, find, Len, At, Cancel, Arm. Contracts over the translated program.
-/
import Derived.Test.YtplaconhpiojbaaWhM
import Derived.Test.YtplaconhpiojbaaRows
import Derived.Test.YtplaconhpiojbaaKit
import Derived.Defers
import Derived.Recover
import Derived.RegionTactic
import Derived.StringKeys
import Derived.Deep.Cut
import Derived.Deep.QuietTactic
import Derived.BigQuiet
import Derived.StillTailTactics
namespace Go.Proofs.Ytplaconhpiojbaa
open Go Go.Maps Go.WideMaps
open Go.RowKit
set_option linter.unusedVariables false
set_option linter.unusedSimpArgs false

theorem und_KI : Try.prog.underlying 3 = some (.int .i64) := by kernel_rfl
theorem und_MI : Try.prog.underlying 73 = some (.map 3 61) := by kernel_rfl
theorem law_KI : Keyed Try.prog 3 := int_keyed und_KI
theorem zero_TI (w : World) : (zeroValue 61).run Try.prog w = .ok (tmV (0, 0)) w := by kernel_rfl

/-- THE WHEEL AT BLOCK p: its room, how often one was armed, its timers (their map lies at block mb). -/
def HasI (w : World) (p mb : Nat) (room armed : Int) (L : List T3) : Prop :=
  w.heap[p]? = some (.cells #[.int .i64 room, .int .i64 armed, .map (some mb)] 75 (0, 0)) ∧ Mp w Try.prog 3 mb L

theorem HasI.c0 {w : World} {p mb : Nat} {room armed : Int} {L : List T3} (h : HasI w p mb room armed L) : w.cell? ⟨p, 0, none⟩ = some (.int .i64 room) := by simp [World.cell?, h.1]
theorem HasI.c1 {w : World} {p mb : Nat} {room armed : Int} {L : List T3} (h : HasI w p mb room armed L) : w.cell? ⟨p, 1, none⟩ = some (.int .i64 armed) := by simp [World.cell?, h.1]
theorem HasI.c2 {w : World} {p mb : Nat} {room armed : Int} {L : List T3} (h : HasI w p mb room armed L) : w.cell? ⟨p, 2, none⟩ = some (.map (some mb)) := by simp [World.cell?, h.1]
theorem HasI.fz {w : World} {p mb : Nat} {room armed : Int} {L : List T3} (h : HasI w p mb room armed L) (j : Nat) : w.frozen? ⟨p, j, none⟩ = false := by simp [World.frozen?, h.1]
theorem HasI.lt {w : World} {p mb : Nat} {room armed : Int} {L : List T3} (h : HasI w p mb room armed L) : p < w.heap.size := (Array.getElem?_eq_some_iff.1 h.1).1
theorem HasI.ne {w : World} {p mb : Nat} {room armed : Int} {L : List T3} (h : HasI w p mb room armed L) : mb ≠ p := by
  obtain ⟨h1, l, _, es, clock, h2, _⟩ := h
  intro e
  rw [e, h1] at h2
  cases h2
theorem HasI.ofHeap {w w' : World} {p mb : Nat} {room armed : Int} {L : List T3} (h : HasI w p mb room armed L) (h1 : w'.heap[p]? = w.heap[p]?) (h2 : w'.heap[mb]? = w.heap[mb]?) : HasI w' p mb room armed L :=
  ⟨h1.trans h.1, h.2.ofHeap h2⟩
theorem HasI.below {w w' : World} {p mb : Nat} {room armed : Int} {L : List T3} (h : HasI w p mb room armed L) (k : Below w.heap.size w w') : HasI w' p mb room armed L :=
  h.ofHeap (k.block p h.lt) (k.block mb h.2.lt)

/-- What a key reads as. -/
theorem keyI (s : Int) (hs : (Lit.int .i64 s).wf = true) : keyOf Try.prog 3 (.int .i64 s) = some (.int .i64 s) := keyOf_int_mk und_KI hs

theorem idleI (a b c : Value) (w : World) :
    CallsD Try.prog 46 #[a, b, c] .returning w fun e u' w' => e = .returned (.tuple #[]) ∧ u' = .returning ∧ w' = w := by
  refine callsD_of_wpS Try.func46 rfl fun c₀ cs hu => ?_
  apply wpS_seq
  apply wpS_region
  simp [wpOpsS, go_sem, recoverD, hu, Try.ntmps46, Exit.thenS]
  refine wpS_cond (t := false) (by simp [Act.eval, Array.replicate]) ?_
  simp only [Bool.false_eq_true, if_false]
  refine wpS_of_wp (wp_skip ?_)
  cases c₀
  simp_all [bodyPostS, results, Try.results46]

theorem lenI_c {w : World} {p mb : Nat} {room armed : Int} {L : List T3} (h : HasI w p mb room armed L) :
    Calls Try.prog 21 #[.pointer (some ⟨p, 0, none⟩)] w fun e w' => e = .returned (.int .i64 L.length) ∧ w' = w := by
  have c2 := h.c2
  have hm := Lib.hid h.2
  clear h
  go_enter Try.func21, Try.ntmps21
  go_wp2_with (first | (at_len; refine wpList_len_mp _ rfl _ 73 rfl 3 61 und_MI mb L rfl hm.out ?_) | go_in)
  go_ret
  exact ⟨rfl, rfl⟩

set_option maxHeartbeats 4000000 in
set_option maxRecDepth 100000 in
theorem findI_c {w : World} {p mb : Nat} {room armed : Int} {L : List T3} (h : HasI w p mb room armed L) (s : Int) (hs : (Lit.int .i64 s).wf = true) :
    Calls Try.prog 37 #[.pointer (some ⟨p, 0, none⟩), .int .i64 s] w fun e w' =>
      e = .returned (.tuple #[.agg #[.int .i64 (getT L (.int .i64 s)).1, .int .i64 (getT L (.int .i64 s)).2], .bool (hasT L (.int .i64 s)), .int .i64 0]) ∧ Below w.heap.size w w' := by
  have hmf : ∀ (fn : Fn) (first cap : Array Value) (w : World), (Instr.makeFunc fn first cap).run Try.prog w = .ok (.func fn first cap) w := fun _ _ _ _ => rfl
  have hkey := Lib.hid (keyI s hs)
  have hB : Below w.heap.size w (((w.alloc (.cells #[.int .i64 0, .int .i64 0] 61)).alloc (.cells #[.bool false] 4)).alloc (.cells #[.int .i64 0] 24)) :=
    (((Below.refl _ w).alloc (Nat.le_refl _) _).alloc (by simp) _).alloc (by simp; omega) _
  have hm := Lib.hid (h.below hB).2
  have c2 := (h.below hB).c2
  have hlt := Lib.hid h.lt
  have hBB := Lib.hid hB
  clear hB h
  go_enter_defers Try.func37, Try.ntmps37
  go_wp2_with (first | (at_lookup; refine wpList_look_mp _ rfl _ _ 73 rfl 3 61 law_KI und_MI (zero_TI _) mb L rfl hm.out _ _ rfl hkey.out ?_) | go_in)
  go_region
  go_wp2
  refine leaves_cons (f := 46) (args := #[.pointer (some ⟨w.heap.size, 0, none⟩), .pointer (some ⟨w.heap.size + 1, 0, none⟩), .pointer (some ⟨w.heap.size + 1 + 1, 0, none⟩)]) (by simp) (by simp [go_sem]) ?_
  refine (idleI _ _ _ _).mono ?_
  rintro e u' w'' ⟨rfl, rfl, rfl⟩
  have hB2 : Below w.heap.size w (((w.alloc (.cells #[.int .i64 (getT L (.int .i64 s)).1, .int .i64 (getT L (.int .i64 s)).2] 61)).alloc (.cells #[.bool (hasT L (.int .i64 s))] 4)).alloc (.cells #[.int .i64 0] 24)).drew :=
    ((((Below.refl _ w).alloc (Nat.le_refl _) _).alloc (by simp) _).alloc (by simp; omega) _).drew
  simp [Leaves, settle, results, Try.results37, go_sem]
  exact hB2

set_option maxHeartbeats 4000000 in
set_option maxRecDepth 100000 in
theorem atI_c {w : World} {p mb : Nat} {room armed : Int} {L : List T3} (h : HasI w p mb room armed L) (s : Int) (hs : (Lit.int .i64 s).wf = true) :
    Calls Try.prog 24 #[.pointer (some ⟨p, 0, none⟩), .int .i64 s] w fun e w' =>
      e = .returned (.tuple #[.int .i64 (getT L (.int .i64 s)).1, .bool (hasT L (.int .i64 s))]) ∧ Below w.heap.size w w' := by
  have F := Lib.hid (findI_c h s hs)
  clear h
  go_enter Try.func24, Try.ntmps24
  go_wp2_with (go_at_call 37; refine F.out.mono ?_; rintro e w1 ⟨rfl, hb1⟩)
  go_ret2
  exact ⟨rfl, hb1.alloc hb1.size _⟩

theorem delI_turn {w w' : World} {p mb : Nat} {room armed : Int} {L L' : List T3} (h : HasI w p mb room armed L) (hm : Mp w' Try.prog 3 mb L') (ht : w.mapTurned w' mb) : HasI w' p mb room armed L' :=
  ⟨(ht.grown.block p h.lt (fun e => h.ne (by cases e; rfl))).trans h.1, hm⟩

set_option maxHeartbeats 4000000 in
set_option maxRecDepth 100000 in
theorem cancelI_c {w : World} {p mb : Nat} {room armed : Int} {L : List T3} (h : HasI w p mb room armed L) (s : Int) (hs : (Lit.int .i64 s).wf = true) :
    Calls Try.prog 23 #[.pointer (some ⟨p, 0, none⟩), .int .i64 s] w fun e w' =>
      e = .returned (.bool (hasT L (.int .i64 s))) ∧ HasI w' p mb room armed (delT L (.int .i64 s)) ∧ Tw w w' p mb := by
  have F := Lib.hid (findI_c h s hs)
  have hkey := Lib.hid (keyI s hs)
  have H := Lib.hid h
  clear h
  cases hh : hasT L (.int .i64 s) with
  | false =>
    go_enter Try.func23, Try.ntmps23
    go_wp2_with (go_at_call 37; refine F.out.mono ?_; rintro e w1 ⟨rfl, hb1⟩)
    go_ret
    refine ⟨rfl, ?_, Tw.ofBelow (hb1.alloc hb1.size _)⟩
    rw [delT_not hh]
    exact H.out.below (hb1.alloc hb1.size _)
  | true =>
    go_enter Try.func23, Try.ntmps23
    go_upto_region 5 with (go_at_call 37; refine F.out.mono ?_; rintro e w1 ⟨rfl, hb1⟩)
    have hb2 := hb1.alloc hb1.size (.cells #[.int .i64 (getT L (.int .i64 s)).1, .int .i64 (getT L (.int .i64 s)).2] 61)
    clear hb1
    generalize w1.alloc (.cells #[.int .i64 (getT L (.int .i64 s)).1, .int .i64 (getT L (.int .i64 s)).2] 61) = w2 at hb2 ⊢
    have c2 := (H.out.below hb2).c2
    have hm := Lib.hid (H.out.below hb2).2
    go_wp2_with (first | (at_delete; refine wpList_delete_mp _ rfl _ _ 73 3 rfl 61 law_KI und_MI mb L rfl hm.out _ _ rfl hkey.out ?_; intro w3 hm3 ht3) | go_in)
    go_ret
    exact ⟨rfl, delI_turn (H.out.below hb2) hm3 ht3, (Tw.ofBelow hb2).trans (Tw.turned ht3)⟩

theorem put_len {L : List T3} {k : Lit} {q : Int × Int} : (putT L k q).length ≤ L.length + 1 := by
  unfold putT delT
  have := List.length_filter_le (fun x : T3 => !x.1.sameKey k) L
  simp
  exact this

/-- How often one was armed grows by one. -/
theorem storeI {w : World} {p mb : Nat} {room armed : Int} {L : List T3} (h : HasI w p mb room armed L) (u : Int) : HasI (w.setCell ⟨p, 1, none⟩ (.int .i64 u)) p mb room u L :=
  ⟨by simpa using heap_store (j := 1) (v := .int .i64 u) h.1, h.2.setCell h.ne _⟩

set_option maxHeartbeats 4000000 in
set_option maxRecDepth 100000 in
/-- THE LAST HALF OF Arm: there is room. -/
theorem armI_put {w : World} {p mb : Nat} {room armed : Int} {L : List T3} (h : HasI w p mb room armed L) (s : Int) (hs : (Lit.int .i64 s).wf = true) (t : Int) (ht : 0 ≤ t) (ha : 0 ≤ armed) (hb : armed < 1000000000000) (hl : L.length < 1000000000000)
    (hr : hasT L (.int .i64 s) = true ∨ (L.length : Int) < room) :
    Calls Try.prog 19 #[.pointer (some ⟨p, 0, none⟩), .int .i64 s, .int .i64 t] w fun e w' =>
      e = .returned (.int .i64 0) ∧ HasI w' p mb room (armed + 1) (putT L (.int .i64 s) (t, armed + 1)) ∧ Tw w w' p mb := by
  have F := Lib.hid (findI_c h s hs)
  have hkey := Lib.hid (keyI s hs)
  have H := Lib.hid h
  clear h
  have k1 : decide (t < 0) = false := by simp; omega
  cases hh : hasT L (.int .i64 s) with
  | true =>
    go_enter Try.func19, Try.ntmps19
    go_upto_region 8 with (go_at_call 37; refine F.out.mono ?_; rintro e w1 ⟨rfl, hb1⟩)
    have hb2 := hb1.alloc hb1.size (.cells #[.int .i64 (getT L (.int .i64 s)).1, .int .i64 (getT L (.int .i64 s)).2] 61)
    clear hb1
    generalize w1.alloc (.cells #[.int .i64 (getT L (.int .i64 s)).1, .int .i64 (getT L (.int .i64 s)).2] 61) = w2 at hb2 ⊢
    go_quiet (fail)
    have hb3 := below_drewN hb2 nq
    clear hb2
    generalize w2.drewN nq = w3 at hb3 ⊢
    have H3 := Lib.hid (H.out.below hb3)
    have c1 := H3.out.c1
    have f1 := H3.out.fz 1
    go_upto_region 11 with (fail)
    have H4 := Lib.hid (storeI H3.out (armed + 1))
    have hT4 := Lib.hid ((Tw.ofBelow (p := p) (mb := mb) hb3).trans (Tw.setCell w3 p mb 1 (.int .i64 (armed + 1))))
    clear c1 f1 hb3
    generalize w3.setCell ⟨p, 1, none⟩ (.int .i64 (armed + 1)) = w4 at H4 hT4 ⊢
    have c1 := H4.out.c1
    have c2 := H4.out.c2
    go_still_tail 11, (by kernel_rfl)
    change wpList _ _ _ _ _ w4.drew
    have hm := Lib.hid (show Mp w4.drew Try.prog 3 mb L from H4.out.2)
    go_wp2_with (first | (at_mapUpdate; refine wpList_store_mp _ rfl _ _ _ 73 rfl 3 61 law_KI und_MI mb L rfl hm.out (by unfold maxLen; omega) _ _ _ _ rfl rfl hkey.out ?_; intro w5 hm5 ht5) | go_in)
    go_ret
    exact ⟨rfl, delI_turn (w := w4.drew) H4.out hm5 ht5, (hT4.out.trans (show Tw w4 w4.drew p mb from ⟨rfl, rfl, rfl, Nat.le_refl _, fun _ _ _ _ => rfl⟩)).trans (Tw.turned (w := w4.drew) ht5)⟩
  | false =>
    have hlen : decide (room ≤ (L.length : Int)) = false := by
      rcases hr with h | h
      · rw [hh] at h; cases h
      · simp; omega
    have hlen2 : (decide ((L.length : Int) ≥ room)) = false := hlen
    have LN := Lib.hid (fun (w' : World) (hb : Below w.heap.size w w') => lenI_c (H.out.below hb))
    go_enter Try.func19, Try.ntmps19
    go_upto_region 8 with (go_at_call 37; refine F.out.mono ?_; rintro e w1 ⟨rfl, hb1⟩)
    have hb2 := hb1.alloc hb1.size (.cells #[.int .i64 (getT L (.int .i64 s)).1, .int .i64 (getT L (.int .i64 s)).2] 61)
    clear hb1
    generalize w1.alloc (.cells #[.int .i64 (getT L (.int .i64 s)).1, .int .i64 (getT L (.int .i64 s)).2] 61) = w2 at hb2 ⊢
    have c0 := (H.out.below hb2).c0
    have LL := fun q => Lib.hid (LN.out _ (below_drewN hb2 q))
    go_quiet ((go_at_call 21; exact Calls.quiet_of_same (LL _).out))
    have hb3 := below_drewN hb2 nq
    clear hb2 LL c0
    generalize w2.drewN nq = w3 at hb3 ⊢
    have H3 := Lib.hid (H.out.below hb3)
    have c1 := H3.out.c1
    have f1 := H3.out.fz 1
    go_upto_region 11 with (fail)
    have H4 := Lib.hid (storeI H3.out (armed + 1))
    have hT4 := Lib.hid ((Tw.ofBelow (p := p) (mb := mb) hb3).trans (Tw.setCell w3 p mb 1 (.int .i64 (armed + 1))))
    clear c1 f1 hb3
    generalize w3.setCell ⟨p, 1, none⟩ (.int .i64 (armed + 1)) = w4 at H4 hT4 ⊢
    have c1 := H4.out.c1
    have c2 := H4.out.c2
    go_still_tail 11, (by kernel_rfl)
    change wpList _ _ _ _ _ w4.drew
    have hm := Lib.hid (show Mp w4.drew Try.prog 3 mb L from H4.out.2)
    go_wp2_with (first | (at_mapUpdate; refine wpList_store_mp _ rfl _ _ _ 73 rfl 3 61 law_KI und_MI mb L rfl hm.out (by unfold maxLen; omega) _ _ _ _ rfl rfl hkey.out ?_; intro w5 hm5 ht5) | go_in)
    go_ret
    exact ⟨rfl, delI_turn (w := w4.drew) H4.out hm5 ht5, (hT4.out.trans (show Tw w4 w4.drew p mb from ⟨rfl, rfl, rfl, Nat.le_refl _, fun _ _ _ _ => rfl⟩)).trans (Tw.turned (w := w4.drew) ht5)⟩

set_option maxHeartbeats 4000000 in
set_option maxRecDepth 100000 in
theorem armI_neg (p : Nat) (k : Value) (t : Int) (ht : t < 0) (w : World) :
    Calls Try.prog 19 #[.pointer (some ⟨p, 0, none⟩), k, .int .i64 t] w fun e w' => e = .returned (.int .i64 1) ∧ w' = w := by
  have k1 : decide (t < 0) = true := by simp; omega
  go_enter Try.func19, Try.ntmps19
  go_wp2
  go_ret
  exact ⟨rfl, rfl⟩

set_option maxHeartbeats 4000000 in
set_option maxRecDepth 100000 in
theorem armI_full {w : World} {p mb : Nat} {room armed : Int} {L : List T3} (h : HasI w p mb room armed L) (s : Int) (hs : (Lit.int .i64 s).wf = true) (t : Int) (ht : 0 ≤ t)
    (hh : hasT L (.int .i64 s) = false) (hr : room ≤ (L.length : Int)) :
    Calls Try.prog 19 #[.pointer (some ⟨p, 0, none⟩), .int .i64 s, .int .i64 t] w fun e w' => e = .returned (.int .i64 5) ∧ Below w.heap.size w w' := by
  have F := Lib.hid (findI_c h s hs)
  have H := Lib.hid h
  clear h
  have k1 : decide (t < 0) = false := by simp; omega
  have hlen : decide (room ≤ (L.length : Int)) = true := by simp; omega
  have LN := Lib.hid (fun (w' : World) (hb : Below w.heap.size w w') => lenI_c (H.out.below hb))
  go_enter Try.func19, Try.ntmps19
  go_upto_region 8 with (go_at_call 37; refine F.out.mono ?_; rintro e w1 ⟨rfl, hb1⟩)
  have hb2 := hb1.alloc hb1.size (.cells #[.int .i64 (getT L (.int .i64 s)).1, .int .i64 (getT L (.int .i64 s)).2] 61)
  clear hb1
  generalize w1.alloc (.cells #[.int .i64 (getT L (.int .i64 s)).1, .int .i64 (getT L (.int .i64 s)).2] 61) = w2 at hb2 ⊢
  have c0 := (H.out.below hb2).c0
  have LL := fun q => Lib.hid (LN.out _ (below_drewN hb2 q))
  go_quiet ((go_at_call 21; exact Calls.quiet_of_same (LL _).out))
  go_wp2
  go_ret
  exact ⟨rfl, below_drewN hb2 nq⟩

theorem newI_no (r : Int) (hr : r < 1 ∨ 4096 < r) (w : World) :
    Calls Try.prog 18 #[.int .i64 r] w fun e w' => e = .returned (.tuple #[.pointer none, .int .i64 1]) ∧ w' = w := by
  by_cases h1 : r < 1
  · have k1 : decide (r < 1) = true := by simp; omega
    go_enter Try.func18, Try.ntmps18
    go_wp2
    go_ret2
    exact ⟨rfl, rfl⟩
  · have k1 : decide (r < 1) = false := by simp; omega
    have k2 : decide (4096 < r) = true := by simp; omega
    have k3 : decide (r > 4096) = true := by simp; omega
    go_enter Try.func18, Try.ntmps18
    go_wp2
    go_ret2
    exact ⟨rfl, rfl⟩

theorem newI_ok (r : Int) (h1 : 1 ≤ r) (h2 : r ≤ 4096) (w : World) :
    Calls Try.prog 18 #[.int .i64 r] w fun e w' => e = .returned (.tuple #[.pointer (some ⟨w.heap.size + 1, 0, none⟩), .int .i64 0]) ∧ HasI w' (w.heap.size + 1) w.heap.size r 0 [] ∧ Below w.heap.size w w' := by
  have k1 : decide (r < 1) = false := by simp; omega
  have k2 : decide (4096 < r) = false := by simp; omega
  have k3 : decide (r > 4096) = false := by simp; omega
  have hmm := @run_makeMap Try.prog
  have hH : HasI ((w.alloc (.map #[] 0)).alloc (.cells #[.int .i64 r, .int .i64 0, .map (some w.heap.size)] 75)) (w.heap.size + 1) w.heap.size r 0 [] :=
    ⟨by simpa using heap_new (w.alloc (.map #[] 0)) (.cells #[.int .i64 r, .int .i64 0, .map (some w.heap.size)] 75), (Mp.made w _ _).kept (World.grownBy_alloc _ _ none) (by simp)⟩
  have hB := ((Below.refl w.heap.size w).alloc (Nat.le_refl _) (.map #[] 0)).alloc (by simp) (.cells #[.int .i64 r, .int .i64 0, .map (some w.heap.size)] 75)
  have HH := Lib.hid (And.intro hH hB)
  clear hH hB
  go_enter Try.func18, Try.ntmps18
  go_wp2
  go_ret2
  exact ⟨by simp, HH.out⟩

/-! ### a wheel that is none -/
theorem nilI_arm (k : Value) (t : Int) (w : World) : Calls Try.prog 19 #[.pointer none, k, .int .i64 t] w fun e w' => e = .returned (.int .i64 5) ∧ w' = w := by
  go_enter Try.func19, Try.ntmps19
  go_wp2
  go_ret
  exact ⟨rfl, rfl⟩
theorem nilI_cancel (k : Value) (w : World) : Calls Try.prog 23 #[.pointer none, k] w fun e w' => e = .returned (.bool false) ∧ w' = w := by
  go_enter Try.func23, Try.ntmps23
  go_wp2
  go_ret
  exact ⟨rfl, rfl⟩
theorem nilI_at (k : Value) (w : World) : Calls Try.prog 24 #[.pointer none, k] w fun e w' => e = .returned (.tuple #[.int .i64 0, .bool false]) ∧ w' = w := by
  go_enter Try.func24, Try.ntmps24
  go_wp2
  go_ret2
  exact ⟨rfl, rfl⟩
theorem nilI_next (w : World) : Calls Try.prog 22 #[.pointer none] w fun e w' => e = .returned (.tuple #[.int .i64 0, .bool false]) ∧ w' = w := by
  go_enter Try.func22, Try.ntmps22
  go_wp2
  go_ret2
  exact ⟨rfl, rfl⟩
theorem nilI_len (w : World) : Calls Try.prog 21 #[.pointer none] w fun e w' => e = .returned (.int .i64 0) ∧ w' = w := by
  go_enter Try.func21, Try.ntmps21
  go_wp2
  go_ret
  exact ⟨rfl, rfl⟩

end Go.Proofs.Ytplaconhpiojbaa
