/-
  The wheel's laws: siphonref10.Same of two lists that hold the same; live; Due at a wheel that is none.
-/
import Derived.Test.YtplaconhpiojbaaWhK
import Derived.Test.YtplaconhpiojbaaWhL
import Derived.LoopTactic
import Derived.BigQuiet
import Derived.Deep.QuietTactic
namespace Go.Proofs.Ytplaconhpiojbaa
open Go Go.Maps Go.WideMaps
open Go.RowKit
set_option linter.unusedVariables false
set_option linter.unusedSimpArgs false

/-- THE KEYS OF A SLICE. -/
def StrAt (w : World) (v : Value) (l : List ByteArray) : Prop :=
  ∃ p off cap, v = .slice (p.map fun g => ⟨g, off, none⟩) l.length cap ∧ ∀ i s, l[i]? = some s → ∃ g, p = some g ∧ g < w.heap.size ∧ w.cell? ⟨g, off + i, none⟩ = some (.string s)

theorem strAt_own {w : World} {base e n : Nat} {v : Value} {l : List ByteArray} (h : w.ownsRow base e 1 v n (l.map Value.string)) (hn : n = l.length) : StrAt w v l := by
  subst hn
  rcases h.2 with ⟨rfl, h0⟩ | ⟨g, cap, cur, rfl, _, hb, _, _, _, ht⟩
  · refine ⟨none, 0, 0, by rw [h0]; rfl, fun i s hs => ?_⟩
    rw [List.length_eq_zero_iff.1 h0] at hs
    simp at hs
  · refine ⟨some g, 0, cap, rfl, fun i s hs => ⟨g, rfl, (Array.getElem?_eq_some_iff.1 hb).1, ?_⟩⟩
    have hi : i < l.length := (List.getElem?_eq_some_iff.1 hs).1
    have h1 : (cur.toList.take (l.length * 1))[i]? = (l.map Value.string)[i]? := by rw [ht]
    rw [List.getElem?_take_of_lt (by omega), List.getElem?_map, hs] at h1
    simp only [World.cell?, hb, Nat.zero_add]
    rw [← Array.getElem?_toList, h1]
    rfl

theorem StrAt.below {w w' : World} {v : Value} {l : List ByteArray} (h : StrAt w v l) (k : Below w.heap.size w w') : StrAt w' v l := by
  obtain ⟨p, off, cap, e, hc⟩ := h
  refine ⟨p, off, cap, e, fun i s hs => ?_⟩
  obtain ⟨g, e1, e2, e3⟩ := hc i s hs
  exact ⟨g, e1, Nat.lt_of_lt_of_le e2 k.size, (k.cell (p := ⟨g, off + i, none⟩) e2).trans e3⟩

theorem StrAt.tw {w w' : World} {p mb : Nat} {room armed : Int} {L : List T3} {v : Value} {l : List ByteArray} (h : StrAt w v l) (H : HasS w p mb room armed L) (hne : ∀ g, v.ownBlock = some g → g ≠ p) (k : Tw w w' p mb) : StrAt w' v l := by
  obtain ⟨q, off, cap, e, hc⟩ := h
  refine ⟨q, off, cap, e, fun i s hs => ?_⟩
  obtain ⟨g, e1, e2, e3⟩ := hc i s hs
  have g1 : g ≠ p := hne g (by rw [e, e1]; rfl)
  have g2 : g ≠ mb := by
    intro e4
    obtain ⟨_, l0, _, es, clock, h5, _⟩ := H
    rw [e4] at e3
    simp [World.cell?, h5] at e3
  exact ⟨g, e1, Nat.lt_of_lt_of_le e2 k.size, (World.cell?_of_block (a := ⟨g, off + i, none⟩) (k.block g e2 g1 g2)).trans e3⟩

set_option maxHeartbeats 1000000 in
set_option maxRecDepth 100000 in
theorem same_c (v1 v2 : Value) (l : List ByteArray) (w : World) (hl : l.length ≤ 1000000000) (h1 : StrAt w v1 l) (h2 : StrAt w v2 l) :
    Calls Try.prog 25 #[v1, v2] w fun e w' => e = .returned (.bool true) ∧ ∃ n, w' = w.drewN n := by
  obtain ⟨p1, o1, c1, rfl, hc1⟩ := h1
  obtain ⟨p2, o2, c2, rfl, hc2⟩ := h2
  have HC1 := Lib.hid hc1
  have HC2 := Lib.hid hc2
  clear hc1 hc2
  go_enter Try.func25, Try.ntmps25
  go_wp2
  go_loopw [5] (fun i wr => ∃ k n : Nat, k ≤ l.length ∧ i = .int .i64 k ∧ wr = w.drewN n) (fun i _ => l.length - (intOf i).toNat)
  case atStart => exact ⟨0, 0, Nat.zero_le _, rfl, rfl⟩
  case round =>
    obtain ⟨k, n, hk, rfl, rfl⟩ := hrel
    by_cases hlt : k < l.length
    · have hs : l[k]? = some l[k] := List.getElem?_eq_getElem hlt
      obtain ⟨b1, rfl, _, x1⟩ := HC1.out k _ hs
      obtain ⟨b2, rfl, _, x2⟩ := HC2.out k _ hs
      generalize l[k] = s at x1 x2
      clear hs HC1 HC2
      simp only [Option.map_some]
      have hlt' : (k : Int) < (l.length : Int) := by omega
      go_wp2
      go_quiet (fail)
      go_wp2
      go_roundw
      case rel => exact ⟨k + 1, _, by omega, by go_num, rfl⟩
      case measure => simp [intOf]; omega
    · obtain rfl : k = l.length := by omega
      go_wp2
      go_ret
      exact ⟨rfl, _, rfl⟩

theorem strAt_lit1 (w : World) (b : Nat) (hb : b = w.heap.size) (x : ByteArray) (t : TypeId) : StrAt (w.alloc (.cells #[.string x] t)) (.slice (some ⟨b, 0, none⟩) 1 1) [x] := by
  subst hb
  refine ⟨some w.heap.size, 0, 1, rfl, fun i s hs => ⟨w.heap.size, rfl, by simp, ?_⟩⟩
  match i, hs with
  | 0, hs => simp at hs; subst hs; simp [go_sem]
  | i + 1, hs => simp at hs
theorem strAt_lit2 (w : World) (b : Nat) (hb : b = w.heap.size) (x y : ByteArray) (t : TypeId) : StrAt (w.alloc (.cells #[.string x, .string y] t)) (.slice (some ⟨b, 0, none⟩) 2 2) [x, y] := by
  subst hb
  refine ⟨some w.heap.size, 0, 2, rfl, fun i s hs => ⟨w.heap.size, rfl, by simp, ?_⟩⟩
  match i, hs with
  | 0, hs => simp at hs; subst hs; simp [go_sem]
  | 1, hs => simp at hs; subst hs; simp [go_sem]
  | i + 2, hs => simp at hs
theorem StrAt.drewN {w : World} {v : Value} {l : List ByteArray} (h : StrAt w v l) (n : Nat) : StrAt (w.drewN n) v l := h

/-- One sorted order there is, where the turns are apart. -/
theorem sorted_one {D D' : List T3} (hp : D.Perm D') (h1 : SortedT D) (h2 : SortedT D') (hu : ∀ x ∈ D, ∀ y ∈ D, x.2.2 = y.2.2 → x = y) : D' = D := by
  refine (List.Perm.eq_of_pairwise (le := fun x y => ¬ ltT y x) ?_ h1 h2 hp).symm
  intro a b ha hb h3 h4
  refine hu a ha b (hp.mem_iff.2 hb) ?_
  unfold ltT at h3 h4
  omega

def kA : Lit := .string [97]
def kB : Lit := .string [98]
def kC : Lit := .string [99]

theorem nilS_due (t : Int) (w : World) : Calls Try.prog 17 #[.pointer none, .int .i64 t] w fun e w' => e = .returned (.slice none 0 0) ∧ w' = w := by
  have HN := Lib.hid (nilS_next w)
  go_enter Try.func17, Try.ntmps17
  go_wp2_with (go_at_call 14; refine HN.out.mono ?_; rintro e w1 ⟨rfl, rfl⟩)
  go_ret
  exact ⟨rfl, rfl⟩

/-- One arming in a law: there is room. -/
theorem armS_step {w0 w : World} {p mb : Nat} {room armed : Int} {L : List T3} (h : HasS w p mb room armed L ∧ Below w0.heap.size w0 w ∧ w0.heap.size ≤ p ∧ w0.heap.size ≤ mb) (s : ByteArray) (hs : s.size ≤ maxLen) (t : Int) (ht : 0 ≤ t) (ha : 0 ≤ armed) (hb : armed < 1000000000000) (hl : L.length < 1000000000000)
    (hr : hasT L (.string s.data.toList) = true ∨ (L.length : Int) < room) {L' : List T3} (hL : putT L (.string s.data.toList) (t, armed + 1) = L') :
    Calls Try.prog 15 #[.pointer (some ⟨p, 0, none⟩), .string s, .int .i64 t] w fun e w' =>
      e = .returned (.int .i64 0) ∧ (HasS w' p mb room (armed + 1) L' ∧ Below w0.heap.size w0 w' ∧ w0.heap.size ≤ p ∧ w0.heap.size ≤ mb) := by
  subst hL
  obtain ⟨h1, h2, h3, h4⟩ := h
  refine (armS_put h1 s hs t ht ha hb hl hr).mono ?_
  rintro e w' ⟨rfl, a, b⟩
  exact ⟨rfl, a, h2.trans (b.below h3 h4 h2.size), h3, h4⟩

/-- One Due in a law. -/
theorem dueS_step {w0 w : World} {p mb : Nat} {room armed : Int} {L : List T3} (h : HasS w p mb room armed L ∧ Below w0.heap.size w0 w ∧ w0.heap.size ≤ p ∧ w0.heap.size ≤ mb) (now : Int) (hl : L.length < 1000000000) {D : List T3} {l : List ByteArray}
    (hd : dueL now L = D) (hs : SortedT D) (hu : ∀ x ∈ D, ∀ y ∈ D, x.2.2 = y.2.2 → x = y) (hk : D.map (fun x => x.1.value) = l.map Value.string) {L' : List T3} (hL : latL now L = L') :
    Calls Try.prog 17 #[.pointer (some ⟨p, 0, none⟩), .int .i64 now] w fun e w' => ∃ v mb', e = .returned v ∧ StrAt w' v l ∧ (∀ g, v.ownBlock = some g → g ≠ p) ∧
      (HasS w' p mb' room armed L' ∧ Below w0.heap.size w0 w' ∧ w0.heap.size ≤ p ∧ w0.heap.size ≤ mb') ∧ Tw w w' p mb := by
  subst hL
  obtain ⟨h1, h2, h3, h4⟩ := h
  refine (dueS_c h1 now hl).mono ?_
  rintro e w' ⟨v, D', mb', rfl, hp, hso, ho, hh, ht, hm⟩
  rw [hd] at hp
  obtain rfl := sorted_one hp hs hso hu
  have hln : D'.length = l.length := by have := congrArg List.length hk; simpa using this
  rw [hk] at ho
  have hlt := h1.lt
  exact ⟨v, mb', rfl, strAt_own ho hln, fun g hg e => by have := (ho.lt g hg).1; omega, ⟨hh, h2.trans (ht.below h3 h4 h2.size), h3, by have := h2.size; rcases hm with e | e <;> omega⟩, ht⟩

set_option maxHeartbeats 8000000 in
set_option maxRecDepth 100000 in
theorem live10_c (w : World) : Calls Try.prog 10 #[] w fun e w' => e = .returned (.bool true) ∧ Below w.heap.size w w' := by
  have N1 := Lib.hid (newS_ok 9 (by decide) (by decide) w)
  have N2 := fun W => Lib.hid (newI_no 0 (by decide) W)
  go_enter Try.func10, Try.ntmps10
  go_upto_region 5 with (first | (go_at_call 9; refine N1.out.mono ?_; rintro e w1 ⟨rfl, h1, b1⟩) | (go_at_call 18; refine (N2 _).out.mono ?_; rintro e wx ⟨rfl, rfl⟩))
  have I1 := Lib.hid (And.intro h1 (And.intro b1 (And.intro (Nat.le_succ w.heap.size) (Nat.le_refl w.heap.size))))
  clear h1 b1 N1 N2
  have A1 := Lib.hid (armS_step I1.out ⟨#[97]⟩ (by decide) 5 (by decide) (by decide) (by decide) (by decide) (Or.inr (by decide)) (L' := [(kA, 5, 1)]) rfl)
  go_upto_region 6 with (go_at_call 15; refine A1.out.mono ?_; rintro e w2 ⟨rfl, h2⟩)
  have I2 := Lib.hid h2
  clear h2 A1 I1
  have A2 := Lib.hid (armS_step I2.out ⟨#[98]⟩ (by decide) 3 (by decide) (by decide) (by decide) (by decide) (Or.inr (by decide)) (L' := [(kA, 5, 1), (kB, 3, 2)]) rfl)
  go_upto_region 7 with (go_at_call 15; refine A2.out.mono ?_; rintro e w3 ⟨rfl, h3⟩)
  have I3 := Lib.hid h3
  clear h3 A2 I2
  have A3 := Lib.hid (armS_step I3.out ⟨#[99]⟩ (by decide) 5 (by decide) (by decide) (by decide) (by decide) (Or.inr (by decide)) (L' := [(kA, 5, 1), (kB, 3, 2), (kC, 5, 3)]) rfl)
  go_upto_region 8 with (go_at_call 15; refine A3.out.mono ?_; rintro e w4 ⟨rfl, h4⟩)
  have I4 := Lib.hid h4
  clear h4 A3 I3
  have A4 := Lib.hid (armS_step I4.out ⟨#[97]⟩ (by decide) 5 (by decide) (by decide) (by decide) (by decide) (Or.inr (by decide)) (L' := [(kB, 3, 2), (kC, 5, 3), (kA, 5, 4)]) rfl)
  go_upto_region 9 with (go_at_call 15; refine A4.out.mono ?_; rintro e w5 ⟨rfl, h5⟩)
  have I5 := Lib.hid h5
  clear h5 A4 I4
  have D1 := Lib.hid (dueS_step I5.out 4 (by decide) (D := [(kB, 3, 2)]) (l := [⟨#[98]⟩]) rfl (by simp [SortedT]) (by intro x hx y hy _; simp at hx hy; rw [hx, hy]) rfl (L' := [(kC, 5, 3), (kA, 5, 4)]) rfl)
  go_upto_region 10 with (go_at_call 17; refine D1.out.mono ?_; rintro e w6 ⟨v1, m1, rfl, s1, n1, h6, _⟩)
  have I6 := Lib.hid h6
  have S1 := Lib.hid s1
  have E1 := Lib.hid n1
  clear h6 s1 n1 D1 I5
  have D2 := Lib.hid (dueS_step I6.out 9 (by decide) (D := [(kC, 5, 3), (kA, 5, 4)]) (l := [⟨#[99]⟩, ⟨#[97]⟩]) rfl (by simp [SortedT, ltT]) (by intro x hx y hy; simp at hx hy; rcases hx with rfl | rfl <;> rcases hy with rfl | rfl <;> simp) rfl (L' := []) rfl)
  go_upto_region 11 with (go_at_call 17; refine D2.out.mono ?_; rintro e w7 ⟨v2, m2, rfl, s2, n2, h7, t7⟩)
  have I7 := Lib.hid h7
  have S2 := Lib.hid s2
  have S1' := Lib.hid (S1.out.tw I6.out.1 E1.out t7)
  clear h7 s2 n2 t7 D2 I6 S1 E1
  have b1 := (Below.refl w7.heap.size w7).alloc (Nat.le_refl _) (.cells #[.string ⟨#[98]⟩] 9)
  have b2 := fun n => (below_drewN b1 n).alloc (by simp [World.drewN]) (.cells #[.string ⟨#[99]⟩, .string ⟨#[97]⟩] 9)
  have Q1 := Lib.hid (same_c v1 (.slice (some ⟨w7.heap.size, 0, none⟩) 1 1) [⟨#[98]⟩] (w7.alloc (.cells #[.string ⟨#[98]⟩] 9)) (by decide) (S1'.out.below b1) (strAt_lit1 w7 _ rfl _ _))
  have Q2 := Lib.hid (fun n => same_c v2 (.slice (some ⟨w7.heap.size + 1, 0, none⟩) 2 2) [⟨#[99]⟩, ⟨#[97]⟩] (((w7.alloc (.cells #[.string ⟨#[98]⟩] 9)).drewN n).alloc (.cells #[.string ⟨#[99]⟩, .string ⟨#[97]⟩] 9)) (by decide) (S2.out.below (b2 n)) (strAt_lit2 _ _ (by simp [World.drewN]) _ _ _))
  have Q3 := Lib.hid (fun n m => lenS_c (I7.out.1.below (below_drewN (b2 n) m)))
  have F := Lib.hid (fun n m => I7.out.2.1.trans ((below_drewN (b2 n) m).mono I7.out.2.1.size))
  clear b1 b2 S1' S2 I7
  have tok : True := trivial
  go_wp2_with (first
    | (go_at_call 25; have _t := tok; refine Q1.out.mono ?_; rintro e w8 ⟨rfl, q1, rfl⟩; clear tok)
    | (go_at_call 25; refine (Q2.out _).mono ?_; rintro e w9 ⟨rfl, q2, rfl⟩)
    | (go_at_call 12; refine (Q3.out _ _).mono ?_; rintro e w10 ⟨rfl, rfl⟩))
  go_ret
  exact ⟨rfl, F.out _ _⟩

end Go.Proofs.Ytplaconhpiojbaa
