/-
  The wheel at keys of type string: New, find, Len, At, Cancel, Arm. Contracts over the translated program.
-/
import Derived.Test.YtplaconhpiojbaaWhM
import Derived.Test.YtplaconhpiojbaaRows
import Derived.Test.YtplaconhpiojbaaKit
import Derived.Defers
import Derived.Recover
import Derived.RegionTactic
import Derived.StringKeys
import Derived.Deep.Cut
import Derived.Deep.QuietTactic
import Derived.BigQuiet
import Derived.StillTailTactics
namespace Go.Proofs.Ytplaconhpiojbaa
open Go Go.Maps Go.WideMaps
open Go.RowKit
set_option linter.unusedVariables false
set_option linter.unusedSimpArgs false

theorem und_KS : Try.prog.underlying 9 = some (.string) := by kernel_rfl
theorem und_MS : Try.prog.underlying 56 = some (.map 9 61) := by kernel_rfl
theorem law_KS : Keyed Try.prog 9 := string_keyed und_KS
theorem zero_TS (w : World) : (zeroValue 61).run Try.prog w = .ok (tmV (0, 0)) w := by kernel_rfl

/-- THE WHEEL AT BLOCK p: its room, how often one was armed, its timers (their map lies at block mb). -/
def HasS (w : World) (p mb : Nat) (room armed : Int) (L : List T3) : Prop :=
  w.heap[p]? = some (.cells #[.int .i64 room, .int .i64 armed, .map (some mb)] 58 (0, 0)) ∧ Mp w Try.prog 9 mb L

theorem HasS.c0 {w : World} {p mb : Nat} {room armed : Int} {L : List T3} (h : HasS w p mb room armed L) : w.cell? ⟨p, 0, none⟩ = some (.int .i64 room) := by simp [World.cell?, h.1]
theorem HasS.c1 {w : World} {p mb : Nat} {room armed : Int} {L : List T3} (h : HasS w p mb room armed L) : w.cell? ⟨p, 1, none⟩ = some (.int .i64 armed) := by simp [World.cell?, h.1]
theorem HasS.c2 {w : World} {p mb : Nat} {room armed : Int} {L : List T3} (h : HasS w p mb room armed L) : w.cell? ⟨p, 2, none⟩ = some (.map (some mb)) := by simp [World.cell?, h.1]
theorem HasS.fz {w : World} {p mb : Nat} {room armed : Int} {L : List T3} (h : HasS w p mb room armed L) (j : Nat) : w.frozen? ⟨p, j, none⟩ = false := by simp [World.frozen?, h.1]
theorem HasS.lt {w : World} {p mb : Nat} {room armed : Int} {L : List T3} (h : HasS w p mb room armed L) : p < w.heap.size := (Array.getElem?_eq_some_iff.1 h.1).1
theorem HasS.ne {w : World} {p mb : Nat} {room armed : Int} {L : List T3} (h : HasS w p mb room armed L) : mb ≠ p := by
  obtain ⟨h1, l, _, es, clock, h2, _⟩ := h
  intro e
  rw [e, h1] at h2
  cases h2
theorem HasS.ofHeap {w w' : World} {p mb : Nat} {room armed : Int} {L : List T3} (h : HasS w p mb room armed L) (h1 : w'.heap[p]? = w.heap[p]?) (h2 : w'.heap[mb]? = w.heap[mb]?) : HasS w' p mb room armed L :=
  ⟨h1.trans h.1, h.2.ofHeap h2⟩
theorem HasS.below {w w' : World} {p mb : Nat} {room armed : Int} {L : List T3} (h : HasS w p mb room armed L) (k : Below w.heap.size w w') : HasS w' p mb room armed L :=
  h.ofHeap (k.block p h.lt) (k.block mb h.2.lt)

/-- What a key reads as. -/
theorem keyS (s : ByteArray) (hs : s.size ≤ maxLen) : keyOf Try.prog 9 (.string s) = some (.string s.data.toList) := keyOf_string_mk und_KS hs

theorem idleS (a b c : Value) (w : World) :
    CallsD Try.prog 42 #[a, b, c] .returning w fun e u' w' => e = .returned (.tuple #[]) ∧ u' = .returning ∧ w' = w := by
  refine callsD_of_wpS Try.func42 rfl fun c₀ cs hu => ?_
  apply wpS_seq
  apply wpS_region
  simp [wpOpsS, go_sem, recoverD, hu, Try.ntmps42, Exit.thenS]
  refine wpS_cond (t := false) (by simp [Act.eval, Array.replicate]) ?_
  simp only [Bool.false_eq_true, if_false]
  refine wpS_of_wp (wp_skip ?_)
  cases c₀
  simp_all [bodyPostS, results, Try.results42]

theorem lenS_c {w : World} {p mb : Nat} {room armed : Int} {L : List T3} (h : HasS w p mb room armed L) :
    Calls Try.prog 12 #[.pointer (some ⟨p, 0, none⟩)] w fun e w' => e = .returned (.int .i64 L.length) ∧ w' = w := by
  have c2 := h.c2
  have hm := Lib.hid h.2
  clear h
  go_enter Try.func12, Try.ntmps12
  go_wp2_with (first | (at_len; refine wpList_len_mp _ rfl _ 56 rfl 9 61 und_MS mb L rfl hm.out ?_) | go_in)
  go_ret
  exact ⟨rfl, rfl⟩

set_option maxHeartbeats 4000000 in
set_option maxRecDepth 100000 in
theorem findS_c {w : World} {p mb : Nat} {room armed : Int} {L : List T3} (h : HasS w p mb room armed L) (s : ByteArray) (hs : s.size ≤ maxLen) :
    Calls Try.prog 31 #[.pointer (some ⟨p, 0, none⟩), .string s] w fun e w' =>
      e = .returned (.tuple #[.agg #[.int .i64 (getT L (.string s.data.toList)).1, .int .i64 (getT L (.string s.data.toList)).2], .bool (hasT L (.string s.data.toList)), .int .i64 0]) ∧ Below w.heap.size w w' := by
  have hmf : ∀ (fn : Fn) (first cap : Array Value) (w : World), (Instr.makeFunc fn first cap).run Try.prog w = .ok (.func fn first cap) w := fun _ _ _ _ => rfl
  have hkey := Lib.hid (keyS s hs)
  have hB : Below w.heap.size w (((w.alloc (.cells #[.int .i64 0, .int .i64 0] 61)).alloc (.cells #[.bool false] 4)).alloc (.cells #[.int .i64 0] 24)) :=
    (((Below.refl _ w).alloc (Nat.le_refl _) _).alloc (by simp) _).alloc (by simp; omega) _
  have hm := Lib.hid (h.below hB).2
  have c2 := (h.below hB).c2
  have hlt := Lib.hid h.lt
  have hBB := Lib.hid hB
  clear hB h
  go_enter_defers Try.func31, Try.ntmps31
  go_wp2_with (first | (at_lookup; refine wpList_look_mp _ rfl _ _ 56 rfl 9 61 law_KS und_MS (zero_TS _) mb L rfl hm.out _ _ rfl hkey.out ?_) | go_in)
  go_region
  go_wp2
  refine leaves_cons (f := 42) (args := #[.pointer (some ⟨w.heap.size, 0, none⟩), .pointer (some ⟨w.heap.size + 1, 0, none⟩), .pointer (some ⟨w.heap.size + 1 + 1, 0, none⟩)]) (by simp) (by simp [go_sem]) ?_
  refine (idleS _ _ _ _).mono ?_
  rintro e u' w'' ⟨rfl, rfl, rfl⟩
  have hB2 : Below w.heap.size w (((w.alloc (.cells #[.int .i64 (getT L (.string s.data.toList)).1, .int .i64 (getT L (.string s.data.toList)).2] 61)).alloc (.cells #[.bool (hasT L (.string s.data.toList))] 4)).alloc (.cells #[.int .i64 0] 24)).drew :=
    ((((Below.refl _ w).alloc (Nat.le_refl _) _).alloc (by simp) _).alloc (by simp; omega) _).drew
  simp [Leaves, settle, results, Try.results31, go_sem]
  exact hB2

set_option maxHeartbeats 4000000 in
set_option maxRecDepth 100000 in
theorem atS_c {w : World} {p mb : Nat} {room armed : Int} {L : List T3} (h : HasS w p mb room armed L) (s : ByteArray) (hs : s.size ≤ maxLen) :
    Calls Try.prog 13 #[.pointer (some ⟨p, 0, none⟩), .string s] w fun e w' =>
      e = .returned (.tuple #[.int .i64 (getT L (.string s.data.toList)).1, .bool (hasT L (.string s.data.toList))]) ∧ Below w.heap.size w w' := by
  have F := Lib.hid (findS_c h s hs)
  clear h
  go_enter Try.func13, Try.ntmps13
  go_wp2_with (go_at_call 31; refine F.out.mono ?_; rintro e w1 ⟨rfl, hb1⟩)
  go_ret2
  exact ⟨rfl, hb1.alloc hb1.size _⟩

theorem delS_turn {w w' : World} {p mb : Nat} {room armed : Int} {L L' : List T3} (h : HasS w p mb room armed L) (hm : Mp w' Try.prog 9 mb L') (ht : w.mapTurned w' mb) : HasS w' p mb room armed L' :=
  ⟨(ht.grown.block p h.lt (fun e => h.ne (by cases e; rfl))).trans h.1, hm⟩

set_option maxHeartbeats 4000000 in
set_option maxRecDepth 100000 in
theorem cancelS_c {w : World} {p mb : Nat} {room armed : Int} {L : List T3} (h : HasS w p mb room armed L) (s : ByteArray) (hs : s.size ≤ maxLen) :
    Calls Try.prog 16 #[.pointer (some ⟨p, 0, none⟩), .string s] w fun e w' =>
      e = .returned (.bool (hasT L (.string s.data.toList))) ∧ HasS w' p mb room armed (delT L (.string s.data.toList)) ∧ Tw w w' p mb := by
  have F := Lib.hid (findS_c h s hs)
  have hkey := Lib.hid (keyS s hs)
  have H := Lib.hid h
  clear h
  cases hh : hasT L (.string s.data.toList) with
  | false =>
    go_enter Try.func16, Try.ntmps16
    go_wp2_with (go_at_call 31; refine F.out.mono ?_; rintro e w1 ⟨rfl, hb1⟩)
    go_ret
    refine ⟨rfl, ?_, Tw.ofBelow (hb1.alloc hb1.size _)⟩
    rw [delT_not hh]
    exact H.out.below (hb1.alloc hb1.size _)
  | true =>
    go_enter Try.func16, Try.ntmps16
    go_upto_region 5 with (go_at_call 31; refine F.out.mono ?_; rintro e w1 ⟨rfl, hb1⟩)
    have hb2 := hb1.alloc hb1.size (.cells #[.int .i64 (getT L (.string s.data.toList)).1, .int .i64 (getT L (.string s.data.toList)).2] 61)
    clear hb1
    generalize w1.alloc (.cells #[.int .i64 (getT L (.string s.data.toList)).1, .int .i64 (getT L (.string s.data.toList)).2] 61) = w2 at hb2 ⊢
    have c2 := (H.out.below hb2).c2
    have hm := Lib.hid (H.out.below hb2).2
    go_wp2_with (first | (at_delete; refine wpList_delete_mp _ rfl _ _ 56 9 rfl 61 law_KS und_MS mb L rfl hm.out _ _ rfl hkey.out ?_; intro w3 hm3 ht3) | go_in)
    go_ret
    exact ⟨rfl, delS_turn (H.out.below hb2) hm3 ht3, (Tw.ofBelow hb2).trans (Tw.turned ht3)⟩

theorem put_len {L : List T3} {k : Lit} {q : Int × Int} : (putT L k q).length ≤ L.length + 1 := by
  unfold putT delT
  have := List.length_filter_le (fun x : T3 => !x.1.sameKey k) L
  simp
  exact this

/-- How often one was armed grows by one. -/
theorem storeS {w : World} {p mb : Nat} {room armed : Int} {L : List T3} (h : HasS w p mb room armed L) (u : Int) : HasS (w.setCell ⟨p, 1, none⟩ (.int .i64 u)) p mb room u L :=
  ⟨by simpa using heap_store (j := 1) (v := .int .i64 u) h.1, h.2.setCell h.ne _⟩

set_option maxHeartbeats 4000000 in
set_option maxRecDepth 100000 in
/-- THE LAST HALF OF Arm: there is room. -/
theorem armS_put {w : World} {p mb : Nat} {room armed : Int} {L : List T3} (h : HasS w p mb room armed L) (s : ByteArray) (hs : s.size ≤ maxLen) (t : Int) (ht : 0 ≤ t) (ha : 0 ≤ armed) (hb : armed < 1000000000000) (hl : L.length < 1000000000000)
    (hr : hasT L (.string s.data.toList) = true ∨ (L.length : Int) < room) :
    Calls Try.prog 15 #[.pointer (some ⟨p, 0, none⟩), .string s, .int .i64 t] w fun e w' =>
      e = .returned (.int .i64 0) ∧ HasS w' p mb room (armed + 1) (putT L (.string s.data.toList) (t, armed + 1)) ∧ Tw w w' p mb := by
  have F := Lib.hid (findS_c h s hs)
  have hkey := Lib.hid (keyS s hs)
  have H := Lib.hid h
  clear h
  have k1 : decide (t < 0) = false := by simp; omega
  cases hh : hasT L (.string s.data.toList) with
  | true =>
    go_enter Try.func15, Try.ntmps15
    go_upto_region 8 with (go_at_call 31; refine F.out.mono ?_; rintro e w1 ⟨rfl, hb1⟩)
    have hb2 := hb1.alloc hb1.size (.cells #[.int .i64 (getT L (.string s.data.toList)).1, .int .i64 (getT L (.string s.data.toList)).2] 61)
    clear hb1
    generalize w1.alloc (.cells #[.int .i64 (getT L (.string s.data.toList)).1, .int .i64 (getT L (.string s.data.toList)).2] 61) = w2 at hb2 ⊢
    go_quiet (fail)
    have hb3 := below_drewN hb2 nq
    clear hb2
    generalize w2.drewN nq = w3 at hb3 ⊢
    have H3 := Lib.hid (H.out.below hb3)
    have c1 := H3.out.c1
    have f1 := H3.out.fz 1
    go_upto_region 11 with (fail)
    have H4 := Lib.hid (storeS H3.out (armed + 1))
    have hT4 := Lib.hid ((Tw.ofBelow (p := p) (mb := mb) hb3).trans (Tw.setCell w3 p mb 1 (.int .i64 (armed + 1))))
    clear c1 f1 hb3
    generalize w3.setCell ⟨p, 1, none⟩ (.int .i64 (armed + 1)) = w4 at H4 hT4 ⊢
    have c1 := H4.out.c1
    have c2 := H4.out.c2
    go_still_tail 11, (by kernel_rfl)
    change wpList _ _ _ _ _ w4.drew
    have hm := Lib.hid (show Mp w4.drew Try.prog 9 mb L from H4.out.2)
    go_wp2_with (first | (at_mapUpdate; refine wpList_store_mp _ rfl _ _ _ 56 rfl 9 61 law_KS und_MS mb L rfl hm.out (by unfold maxLen; omega) _ _ _ _ rfl rfl hkey.out ?_; intro w5 hm5 ht5) | go_in)
    go_ret
    exact ⟨rfl, delS_turn (w := w4.drew) H4.out hm5 ht5, (hT4.out.trans (show Tw w4 w4.drew p mb from ⟨rfl, rfl, rfl, Nat.le_refl _, fun _ _ _ _ => rfl⟩)).trans (Tw.turned (w := w4.drew) ht5)⟩
  | false =>
    have hlen : decide (room ≤ (L.length : Int)) = false := by
      rcases hr with h | h
      · rw [hh] at h; cases h
      · simp; omega
    have hlen2 : (decide ((L.length : Int) ≥ room)) = false := hlen
    have LN := Lib.hid (fun (w' : World) (hb : Below w.heap.size w w') => lenS_c (H.out.below hb))
    go_enter Try.func15, Try.ntmps15
    go_upto_region 8 with (go_at_call 31; refine F.out.mono ?_; rintro e w1 ⟨rfl, hb1⟩)
    have hb2 := hb1.alloc hb1.size (.cells #[.int .i64 (getT L (.string s.data.toList)).1, .int .i64 (getT L (.string s.data.toList)).2] 61)
    clear hb1
    generalize w1.alloc (.cells #[.int .i64 (getT L (.string s.data.toList)).1, .int .i64 (getT L (.string s.data.toList)).2] 61) = w2 at hb2 ⊢
    have c0 := (H.out.below hb2).c0
    have LL := fun q => Lib.hid (LN.out _ (below_drewN hb2 q))
    go_quiet ((go_at_call 12; exact Calls.quiet_of_same (LL _).out))
    have hb3 := below_drewN hb2 nq
    clear hb2 LL c0
    generalize w2.drewN nq = w3 at hb3 ⊢
    have H3 := Lib.hid (H.out.below hb3)
    have c1 := H3.out.c1
    have f1 := H3.out.fz 1
    go_upto_region 11 with (fail)
    have H4 := Lib.hid (storeS H3.out (armed + 1))
    have hT4 := Lib.hid ((Tw.ofBelow (p := p) (mb := mb) hb3).trans (Tw.setCell w3 p mb 1 (.int .i64 (armed + 1))))
    clear c1 f1 hb3
    generalize w3.setCell ⟨p, 1, none⟩ (.int .i64 (armed + 1)) = w4 at H4 hT4 ⊢
    have c1 := H4.out.c1
    have c2 := H4.out.c2
    go_still_tail 11, (by kernel_rfl)
    change wpList _ _ _ _ _ w4.drew
    have hm := Lib.hid (show Mp w4.drew Try.prog 9 mb L from H4.out.2)
    go_wp2_with (first | (at_mapUpdate; refine wpList_store_mp _ rfl _ _ _ 56 rfl 9 61 law_KS und_MS mb L rfl hm.out (by unfold maxLen; omega) _ _ _ _ rfl rfl hkey.out ?_; intro w5 hm5 ht5) | go_in)
    go_ret
    exact ⟨rfl, delS_turn (w := w4.drew) H4.out hm5 ht5, (hT4.out.trans (show Tw w4 w4.drew p mb from ⟨rfl, rfl, rfl, Nat.le_refl _, fun _ _ _ _ => rfl⟩)).trans (Tw.turned (w := w4.drew) ht5)⟩

set_option maxHeartbeats 4000000 in
set_option maxRecDepth 100000 in
theorem armS_neg (p : Nat) (k : Value) (t : Int) (ht : t < 0) (w : World) :
    Calls Try.prog 15 #[.pointer (some ⟨p, 0, none⟩), k, .int .i64 t] w fun e w' => e = .returned (.int .i64 1) ∧ w' = w := by
  have k1 : decide (t < 0) = true := by simp; omega
  go_enter Try.func15, Try.ntmps15
  go_wp2
  go_ret
  exact ⟨rfl, rfl⟩

set_option maxHeartbeats 4000000 in
set_option maxRecDepth 100000 in
theorem armS_full {w : World} {p mb : Nat} {room armed : Int} {L : List T3} (h : HasS w p mb room armed L) (s : ByteArray) (hs : s.size ≤ maxLen) (t : Int) (ht : 0 ≤ t)
    (hh : hasT L (.string s.data.toList) = false) (hr : room ≤ (L.length : Int)) :
    Calls Try.prog 15 #[.pointer (some ⟨p, 0, none⟩), .string s, .int .i64 t] w fun e w' => e = .returned (.int .i64 5) ∧ Below w.heap.size w w' := by
  have F := Lib.hid (findS_c h s hs)
  have H := Lib.hid h
  clear h
  have k1 : decide (t < 0) = false := by simp; omega
  have hlen : decide (room ≤ (L.length : Int)) = true := by simp; omega
  have LN := Lib.hid (fun (w' : World) (hb : Below w.heap.size w w') => lenS_c (H.out.below hb))
  go_enter Try.func15, Try.ntmps15
  go_upto_region 8 with (go_at_call 31; refine F.out.mono ?_; rintro e w1 ⟨rfl, hb1⟩)
  have hb2 := hb1.alloc hb1.size (.cells #[.int .i64 (getT L (.string s.data.toList)).1, .int .i64 (getT L (.string s.data.toList)).2] 61)
  clear hb1
  generalize w1.alloc (.cells #[.int .i64 (getT L (.string s.data.toList)).1, .int .i64 (getT L (.string s.data.toList)).2] 61) = w2 at hb2 ⊢
  have c0 := (H.out.below hb2).c0
  have LL := fun q => Lib.hid (LN.out _ (below_drewN hb2 q))
  go_quiet ((go_at_call 12; exact Calls.quiet_of_same (LL _).out))
  go_wp2
  go_ret
  exact ⟨rfl, below_drewN hb2 nq⟩

theorem newS_no (r : Int) (hr : r < 1 ∨ 4096 < r) (w : World) :
    Calls Try.prog 9 #[.int .i64 r] w fun e w' => e = .returned (.tuple #[.pointer none, .int .i64 1]) ∧ w' = w := by
  by_cases h1 : r < 1
  · have k1 : decide (r < 1) = true := by simp; omega
    go_enter Try.func9, Try.ntmps9
    go_wp2
    go_ret2
    exact ⟨rfl, rfl⟩
  · have k1 : decide (r < 1) = false := by simp; omega
    have k2 : decide (4096 < r) = true := by simp; omega
    have k3 : decide (r > 4096) = true := by simp; omega
    go_enter Try.func9, Try.ntmps9
    go_wp2
    go_ret2
    exact ⟨rfl, rfl⟩

theorem newS_ok (r : Int) (h1 : 1 ≤ r) (h2 : r ≤ 4096) (w : World) :
    Calls Try.prog 9 #[.int .i64 r] w fun e w' => e = .returned (.tuple #[.pointer (some ⟨w.heap.size + 1, 0, none⟩), .int .i64 0]) ∧ HasS w' (w.heap.size + 1) w.heap.size r 0 [] ∧ Below w.heap.size w w' := by
  have k1 : decide (r < 1) = false := by simp; omega
  have k2 : decide (4096 < r) = false := by simp; omega
  have k3 : decide (r > 4096) = false := by simp; omega
  have hmm := @run_makeMap Try.prog
  have hH : HasS ((w.alloc (.map #[] 0)).alloc (.cells #[.int .i64 r, .int .i64 0, .map (some w.heap.size)] 58)) (w.heap.size + 1) w.heap.size r 0 [] :=
    ⟨by simpa using heap_new (w.alloc (.map #[] 0)) (.cells #[.int .i64 r, .int .i64 0, .map (some w.heap.size)] 58), (Mp.made w _ _).kept (World.grownBy_alloc _ _ none) (by simp)⟩
  have hB := ((Below.refl w.heap.size w).alloc (Nat.le_refl _) (.map #[] 0)).alloc (by simp) (.cells #[.int .i64 r, .int .i64 0, .map (some w.heap.size)] 58)
  have HH := Lib.hid (And.intro hH hB)
  clear hH hB
  go_enter Try.func9, Try.ntmps9
  go_wp2
  go_ret2
  exact ⟨by simp, HH.out⟩

/-! ### a wheel that is none -/
theorem nilS_arm (k : Value) (t : Int) (w : World) : Calls Try.prog 15 #[.pointer none, k, .int .i64 t] w fun e w' => e = .returned (.int .i64 5) ∧ w' = w := by
  go_enter Try.func15, Try.ntmps15
  go_wp2
  go_ret
  exact ⟨rfl, rfl⟩
theorem nilS_cancel (k : Value) (w : World) : Calls Try.prog 16 #[.pointer none, k] w fun e w' => e = .returned (.bool false) ∧ w' = w := by
  go_enter Try.func16, Try.ntmps16
  go_wp2
  go_ret
  exact ⟨rfl, rfl⟩
theorem nilS_at (k : Value) (w : World) : Calls Try.prog 13 #[.pointer none, k] w fun e w' => e = .returned (.tuple #[.int .i64 0, .bool false]) ∧ w' = w := by
  go_enter Try.func13, Try.ntmps13
  go_wp2
  go_ret2
  exact ⟨rfl, rfl⟩
theorem nilS_next (w : World) : Calls Try.prog 14 #[.pointer none] w fun e w' => e = .returned (.tuple #[.int .i64 0, .bool false]) ∧ w' = w := by
  go_enter Try.func14, Try.ntmps14
  go_wp2
  go_ret2
  exact ⟨rfl, rfl⟩
theorem nilS_len (w : World) : Calls Try.prog 12 #[.pointer none] w fun e w' => e = .returned (.int .i64 0) ∧ w' = w := by
  go_enter Try.func12, Try.ntmps12
  go_wp2
  go_ret
  exact ⟨rfl, rfl⟩

end Go.Proofs.Ytplaconhpiojbaa
