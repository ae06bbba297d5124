/-
  'router.New', 'has', 'old', 'Fix', 'Seen'. Contracts over the translated program.
-/
import Derived.Test.YtggbnkbhobbopaaRtK
import Derived.Test.YtggbnkbhobbopaaRtB
import Derived.Test.YtggbnkbhobbopaaRtM
import Derived.Test.YtggbnkbhobbopaaRows
import Derived.Test.YtggbnkbhobbopaaKit
import Derived.Test.YtggbnkbhobbopaaTst
import Derived.Defers
import Derived.RegionTactic
import Derived.Deep.Cut
import Derived.Deep.QuietTactic
import Derived.BigQuiet
import Derived.StillTailTactics
import Derived.LoopTactic
import Derived.OwnWalk
import Derived.OwnWalkIn
namespace Go.Proofs.Ytggbnkbhobbopaa
open Go Go.Maps Go.WideMaps
open Go.RowKit
set_option linter.unusedVariables false
set_option linter.unusedSimpArgs false

theorem und_MH : Try.prog.underlying 41 = some (.map 46 3) := by kernel_rfl
theorem und_MX : Try.prog.underlying 40 = some (.map 46 4) := by kernel_rfl
theorem zero_IH (w : World) : (zeroValue 3).run Try.prog w = .ok (tmV 0) w := by kernel_rfl
theorem zero_BX (w : World) : (zeroValue 4).run Try.prog w = .ok (MB.tmV false) w := by kernel_rfl

/-- THE PORTS AT BLOCK p: what is so for good at block fb, what was heard at block hb. -/
structure HasP (w : World) (p fb hb : Nat) (age : Int) (F : List MB.T3) (L : List T3) : Prop where
  own : w.heap[p]? = some (.cells #[.int .i64 age, .map (some fb), .map (some hb)] 43 (0, 0))
  fix : MB.Mp w Try.prog 46 fb F
  heard : Mp w Try.prog 46 hb L
  apart : fb ≠ hb
variable {w w' : World} {p fb hb : Nat} {age : Int} {F : List MB.T3} {L : List T3}
theorem HasP.lt (h : HasP w p fb hb age F L) : p < w.heap.size := (Array.getElem?_eq_some_iff.1 h.own).1
theorem HasP.c (h : HasP w p fb hb age F L) : w.cell? ⟨p, 0, none⟩ = some (.int .i64 age) ∧ w.cell? ⟨p, 1, none⟩ = some (.map (some fb)) ∧ w.cell? ⟨p, 2, none⟩ = some (.map (some hb)) := by
  have h' := h.own
  refine ⟨?_, ?_, ?_⟩ <;> simp [World.cell?, h']
theorem HasP.pf (h : HasP w p fb hb age F L) : p ≠ fb := by
  obtain ⟨l, _, es, clock, h2, _⟩ := h.fix
  intro e
  rw [← e, h.own] at h2
  cases h2
theorem HasP.ph (h : HasP w p fb hb age F L) : p ≠ hb := by
  obtain ⟨l, _, es, clock, h2, _⟩ := h.heard
  intro e
  rw [← e, h.own] at h2
  cases h2
theorem HasP.below (h : HasP w p fb hb age F L) (k : Below w.heap.size w w') : HasP w' p fb hb age F L :=
  ⟨(k.block p h.lt).trans h.own, h.fix.ofHeap (k.block fb h.fix.lt), h.heard.ofHeap (k.block hb h.heard.lt), h.apart⟩
theorem HasP.turnF {F' : List MB.T3} (h : HasP w p fb hb age F L) (hm : MB.Mp w' Try.prog 46 fb F') (ht : w.mapTurned w' fb) : HasP w' p fb hb age F' L :=
  ⟨((Tw.turned (p := fb) ht).block p h.lt h.pf h.pf).trans h.own, hm, h.heard.ofHeap ((Tw.turned (p := fb) ht).block hb h.heard.lt (Ne.symm h.apart) (Ne.symm h.apart)), h.apart⟩
theorem HasP.turnH {L' : List T3} (h : HasP w p fb hb age F L) (hm : Mp w' Try.prog 46 hb L') (ht : Tw w w' hb hb) : HasP w' p fb hb age F L' :=
  ⟨(ht.block p h.lt h.ph h.ph).trans h.own, h.fix.ofHeap (ht.block fb h.fix.lt h.apart h.apart), hm, h.apart⟩

/-- May a router be there? May a time be? -/
def okP (v port : Int) : Bool := decide (1 ≤ v) && decide (v ≤ 4094) && decide (0 ≤ port) && decide (port < 16)
def okN (now : Int) : Bool := decide (0 ≤ now) && decide (now ≤ 1099511627776)
theorem okP_iff {v port : Int} : okP v port = true ↔ 1 ≤ v ∧ v ≤ 4094 ∧ 0 ≤ port ∧ port < 16 := by
  unfold okP
  simp only [Bool.and_eq_true, decide_eq_true_iff]
  omega
theorem okP_wf {v port : Int} (h : okP v port = true) : WfP v port := by
  obtain ⟨h1, h2, h3, h4⟩ := okP_iff.1 h
  exact WfP.of (by omega) (by omega) (by omega) (by omega)

set_option maxHeartbeats 1000000 in
theorem new_no (r : Int) (hr : r < 1 ∨ 1000000 < r) (w : World) :
    Calls Try.prog 5 #[.int .i64 r] w fun e w' => e = .returned (.tuple #[.pointer none, .int .i64 1]) ∧ w' = w := by
  by_cases h1 : r < 1
  · have k1 : decide (r < 1) = true := by simp; omega
    go_enter Try.func5, Try.ntmps5
    go_wp2
    go_ret2
    exact ⟨rfl, rfl⟩
  · have k1 : decide (r < 1) = false := by simp; omega
    have k2 : decide (1000000 < r) = true := by simp; omega
    go_enter Try.func5, Try.ntmps5
    go_wp2
    go_ret2
    exact ⟨rfl, rfl⟩

set_option maxHeartbeats 2000000 in
theorem new_ok (r : Int) (h1 : 1 ≤ r) (h2 : r ≤ 1000000) (w : World) :
    Calls Try.prog 5 #[.int .i64 r] w fun e w' => ∃ p fb hb, e = .returned (.tuple #[.pointer (some ⟨p, 0, none⟩), .int .i64 0]) ∧ HasP w' p fb hb r [] [] ∧ w.heap.size ≤ fb ∧ w.heap.size ≤ hb ∧ Below w.heap.size w w' := by
  have k1 : decide (r < 1) = false := by simp; omega
  have k2 : decide (1000000 < r) = false := by simp; omega
  have hmm := @run_makeMap Try.prog
  have HH := Lib.hid (show HasP (((w.alloc (.map #[] 0)).alloc (.map #[] 0)).alloc (.cells #[.int .i64 r, .map (some w.heap.size), .map (some (w.heap.size + 1))] 43)) (w.heap.size + 1 + 1) w.heap.size (w.heap.size + 1) r [] [] from by
    have M1 := MB.Mp.made w Try.prog 46
    have M2 := Mp.made (w.alloc (.map #[] 0)) Try.prog 46
    have e1 : (w.alloc (.map #[] 0)).heap.size = w.heap.size + 1 := by simp
    rw [e1] at M2
    have h3 := heap_new ((w.alloc (.map #[] 0)).alloc (.map #[] 0)) (.cells #[.int .i64 r, .map (some w.heap.size), .map (some (w.heap.size + 1))] 43)
    have e2 : ((w.alloc (.map #[] 0)).alloc (.map #[] 0)).heap.size = w.heap.size + 1 + 1 := by simp
    rw [e2] at h3
    refine ⟨h3, M1.ofHeap ?_, M2.ofHeap ?_, by omega⟩
    · exact ((((Below.refl _ (w.alloc (.map #[] 0))).alloc (Nat.le_refl _) (.map #[] 0)).alloc (by simp) _).block _ (by simp))
    · exact ((Below.refl _ ((w.alloc (.map #[] 0)).alloc (.map #[] 0))).alloc (Nat.le_refl _) _).block _ (by simp))
  have KB := Lib.hid ((((Below.refl w.heap.size w).alloc (Nat.le_refl _) (.map #[] 0)).alloc (by simp) (.map #[] 0)).alloc (by simp; omega) (.cells #[.int .i64 r, .map (some w.heap.size), .map (some (w.heap.size + 1))] 43))
  clear h1 h2
  go_enter Try.func5, Try.ntmps5
  go_wp2
  go_ret2
  exact ⟨_, _, _, rfl, HH.out, Nat.le_refl _, by omega, KB.out⟩

set_option maxHeartbeats 2000000 in
theorem has_c (h : HasP w p fb hb age F L) (ha : age ≠ 0) (v port : Int) :
    Calls Try.prog 13 #[.pointer (some ⟨p, 0, none⟩), .int .i64 v, .int .i64 port] w fun e w' => e = .returned (.bool (okP v port)) ∧ w' = w := by
  obtain ⟨c0, c1, c2⟩ := h.c
  obtain ⟨a1, a2⟩ := ne_t ha
  clear h ha
  have V := Lib.hid (show okP v port = (decide (1 ≤ v) && decide (v ≤ 4094) && decide (0 ≤ port) && decide (port < 16)) from rfl)
  generalize okP v port = b at V ⊢
  rcases Bool.eq_false_or_eq_true (decide (1 ≤ v)) with d1 | d1
  · rcases Bool.eq_false_or_eq_true (decide (v ≤ 4094)) with d2 | d2
    · rcases Bool.eq_false_or_eq_true (decide (0 ≤ port)) with d3 | d3
      · rcases Bool.eq_false_or_eq_true (decide (port < 16)) with d4 | d4
        · go_enter Try.func13, Try.ntmps13
          go_wp2
          go_ret
          exact ⟨by rw [V.out]; simp only [d1, d2, d3, d4]; rfl, rfl⟩
        · go_enter Try.func13, Try.ntmps13
          go_wp2
          go_ret
          exact ⟨by rw [V.out]; simp only [d1, d2, d3, d4]; rfl, rfl⟩
      · go_enter Try.func13, Try.ntmps13
        go_wp2
        go_ret
        exact ⟨by rw [V.out]; simp only [d1, d2, d3]; rfl, rfl⟩
    · go_enter Try.func13, Try.ntmps13
      go_wp2
      go_ret
      exact ⟨by rw [V.out]; simp only [d1, d2]; rfl, rfl⟩
  · go_enter Try.func13, Try.ntmps13
    go_wp2
    go_ret
    exact ⟨by rw [V.out]; simp only [d1]; rfl, rfl⟩

theorem has_nil (v port : Int) (w : World) : Calls Try.prog 13 #[.pointer none, .int .i64 v, .int .i64 port] w fun e w' => e = .returned (.bool false) ∧ w' = w := by
  go_enter Try.func13, Try.ntmps13
  go_wp2
  go_ret
  exact ⟨rfl, rfl⟩

set_option maxHeartbeats 2000000 in
theorem old_c (h : HasP w p fb hb age F L) (a1 : 1 ≤ age) (a2 : age ≤ 1000000) (t now : Int) (t1 : 0 ≤ t) (t2 : t ≤ 1099511627776) :
    Calls Try.prog 14 #[.pointer (some ⟨p, 0, none⟩), .int .i64 t, .int .i64 now] w fun e w' => e = .returned (.bool (decide (t + age ≤ now))) ∧ w' = w := by
  obtain ⟨c0, c1, c2⟩ := h.c
  clear h
  go_enter Try.func14, Try.ntmps14
  go_wp2
  go_ret
  exact ⟨rfl, rfl⟩

set_option maxHeartbeats 2000000 in
theorem fix_no (h : HasP w p fb hb age F L) (ha : age ≠ 0) (v port : Int) (hk : okP v port = false) :
    Calls Try.prog 6 #[.pointer (some ⟨p, 0, none⟩), .int .i64 v, .int .i64 port] w fun e w' => e = .returned (.int .i64 1) ∧ w' = w := by
  have A := has_c h ha v port
  rw [hk] at A
  replace A := Lib.hid A
  clear h hk
  go_enter Try.func6, Try.ntmps6
  go_wp2_with (first | (go_at_call 13; refine A.out.mono ?_; rintro e w' ⟨rfl, rfl⟩) | go_in)
  go_ret
  exact ⟨rfl, rfl⟩
theorem fix_nil (v port : Int) (w : World) : Calls Try.prog 6 #[.pointer none, .int .i64 v, .int .i64 port] w fun e w' => e = .returned (.int .i64 1) ∧ w' = w := by
  have A := Lib.hid (has_nil v port w)
  go_enter Try.func6, Try.ntmps6
  go_wp2_with (first | (go_at_call 13; refine A.out.mono ?_; rintro e w' ⟨rfl, rfl⟩) | go_in)
  go_ret
  exact ⟨rfl, rfl⟩

set_option maxHeartbeats 2000000 in
set_option maxRecDepth 100000 in
theorem fix_yes (h : HasP w p fb hb age F L) (ha : age ≠ 0) (v port : Int) (hk : okP v port = true) (hl : F.length < 1000000) :
    Calls Try.prog 6 #[.pointer (some ⟨p, 0, none⟩), .int .i64 v, .int .i64 port] w fun e w' => e = .returned (.int .i64 0) ∧ HasP w' p fb hb age (MB.putT F (litP v port) true) L ∧ Tw w w' fb hb := by
  have A := has_c h ha v port
  rw [hk] at A
  replace A := Lib.hid A
  have hkey := Lib.hid (keyP v port (okP_wf hk))
  have HLN := Lib.hid (show F.length < maxLen by unfold maxLen; omega)
  obtain ⟨c0, c1, c2⟩ := h.c
  have HF := Lib.hid h.fix
  have HH := Lib.hid (show ∀ w5, MB.Mp w5 Try.prog 46 fb (MB.putT F (litP v port) true) → w.mapTurned w5 fb → HasP w5 p fb hb age (MB.putT F (litP v port) true) L ∧ Tw w w5 fb hb from fun w5 hm ht => ⟨h.turnF hm ht, ⟨ht.grown.os, ht.grown.tape, ht.grown.output, ht.grown.size, fun k hk h1 _ => ht.grown.block k hk (fun e => h1 (by cases e; rfl))⟩⟩)
  clear h hk hl
  go_enter Try.func6, Try.ntmps6
  go_wp2_with (first | (go_at_call 13; refine A.out.mono ?_; rintro e w9 ⟨rfl, h9⟩; subst h9) | (at_mapUpdate; refine MB.wpList_store_mp _ rfl _ _ _ 40 rfl 46 4 law_PL und_MX fb F rfl HF.out HLN.out _ _ _ rfl rfl hkey.out ?_; intro w5 hm5 ht5) | go_in)
  go_ret
  exact ⟨rfl, HH.out _ hm5 ht5⟩

set_option maxHeartbeats 2000000 in
theorem seen_no (h : HasP w p fb hb age F L) (ha : age ≠ 0) (v port now : Int) (hk : (okP v port && okN now) = false) :
    Calls Try.prog 7 #[.pointer (some ⟨p, 0, none⟩), .int .i64 v, .int .i64 port, .int .i64 now] w fun e w' => e = .returned (.int .i64 1) ∧ w' = w := by
  have A := has_c h ha v port
  clear h
  rcases Bool.eq_false_or_eq_true (okP v port) with e0 | e0
  · rw [e0] at A hk
    rw [Bool.true_and] at hk
    replace A := Lib.hid A
    by_cases c1 : now < 0
    · have d1 : decide (now < 0) = true := decide_eq_true c1
      clear hk c1
      go_enter Try.func7, Try.ntmps7
      go_wp2_with (first | (go_at_call 13; refine A.out.mono ?_; rintro e w' ⟨rfl, rfl⟩) | go_in)
      go_ret
      exact ⟨rfl, rfl⟩
    · have d1 : decide (now < 0) = false := decide_eq_false c1
      have c2 : 1099511627776 < now := by
        unfold okN at hk
        rw [decide_eq_true (show 0 ≤ now by omega), Bool.true_and, decide_eq_false_iff_not] at hk
        omega
      have d2 : decide (1099511627776 < now) = true := decide_eq_true c2
      clear hk c1 c2
      go_enter Try.func7, Try.ntmps7
      go_wp2_with (first | (go_at_call 13; refine A.out.mono ?_; rintro e w' ⟨rfl, rfl⟩) | go_in)
      go_ret
      exact ⟨rfl, rfl⟩
  · rw [e0] at A
    replace A := Lib.hid A
    clear hk
    go_enter Try.func7, Try.ntmps7
    go_wp2_with (first | (go_at_call 13; refine A.out.mono ?_; rintro e w' ⟨rfl, rfl⟩) | go_in)
    go_ret
    exact ⟨rfl, rfl⟩
theorem seen_nil (v port now : Int) (w : World) : Calls Try.prog 7 #[.pointer none, .int .i64 v, .int .i64 port, .int .i64 now] w fun e w' => e = .returned (.int .i64 1) ∧ w' = w := by
  have A := Lib.hid (has_nil v port w)
  go_enter Try.func7, Try.ntmps7
  go_wp2_with (first | (go_at_call 13; refine A.out.mono ?_; rintro e w' ⟨rfl, rfl⟩) | go_in)
  go_ret
  exact ⟨rfl, rfl⟩

set_option maxHeartbeats 2000000 in
set_option maxRecDepth 100000 in
theorem seen_yes (h : HasP w p fb hb age F L) (ha : age ≠ 0) (v port now : Int) (hk : (okP v port && okN now) = true) (hl : L.length < 1000000) :
    Calls Try.prog 7 #[.pointer (some ⟨p, 0, none⟩), .int .i64 v, .int .i64 port, .int .i64 now] w fun e w' => e = .returned (.int .i64 0) ∧ HasP w' p fb hb age F (putT L (litP v port) now) ∧ Tw w w' fb hb := by
  rw [Bool.and_eq_true] at hk
  have A := has_c h ha v port
  rw [hk.1] at A
  replace A := Lib.hid A
  have hkey := Lib.hid (keyP v port (okP_wf hk.1))
  have HLN := Lib.hid (show L.length < maxLen by unfold maxLen; omega)
  have hN := hk.2
  unfold okN at hN
  rw [Bool.and_eq_true, decide_eq_true_iff, decide_eq_true_iff] at hN
  have d1 : decide (now < 0) = false := decide_eq_false (by omega)
  have d2 : decide (1099511627776 < now) = false := decide_eq_false (by omega)
  obtain ⟨c0, c1, c2⟩ := h.c
  have HM := Lib.hid h.heard
  have HH := Lib.hid (show ∀ w5, Mp w5 Try.prog 46 hb (putT L (litP v port) now) → w.mapTurned w5 hb → HasP w5 p fb hb age F (putT L (litP v port) now) ∧ Tw w w5 fb hb from fun w5 hm ht => ⟨h.turnH hm (Tw.turned (p := hb) ht), Tw.turned ht⟩)
  clear h hk hl hN
  go_enter Try.func7, Try.ntmps7
  go_wp2_with (first | (go_at_call 13; refine A.out.mono ?_; rintro e w9 ⟨rfl, h9⟩; subst h9) | (at_mapUpdate; refine wpList_store_mp _ rfl _ _ _ 41 rfl 46 3 law_PL und_MH hb L rfl HM.out HLN.out _ _ _ rfl rfl hkey.out ?_; intro w5 hm5 ht5) | go_in)
  go_ret
  exact ⟨rfl, HH.out _ hm5 ht5⟩
end Go.Proofs.Ytggbnkbhobbopaa
