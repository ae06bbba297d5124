/-
  Which messages are few (siphonlaw09.few). A contract over the translated program.
  The samples of layer 9 (siphonlaw09.live), and two boxes side by side. Contracts over the translated program.
-/
import Derived.Test.YtniahpbjfpmmhaaGreatIgBt
import Derived.Test.YtniahpbjfpmmhaaGreatMdRd
namespace Go.Proofs.YtniahpbjfpmmhaaGreat
open Go.RowKit
set_option linter.unusedVariables false

def few9B (ns : Nat) (L : List Rec) : Bool := decide (ns ≤ 100) && decide (L.length ≤ 40) && L.all (fun r => decide (r.srcs.length ≤ 100))
theorem few9_le {ns : Nat} {L : List Rec} (h : few9B ns L = true) : ns ≤ 100 ∧ L.length ≤ 40 := by
  unfold few9B at h
  simp only [Bool.and_eq_true, decide_eq_true_iff] at h
  exact h.1

set_option maxHeartbeats 1000000 in
set_option maxRecDepth 100000 in
theorem few9_c (k v : Int) (g : ByteArray) (mx : Int) (q : Bool) (rob ev : Int) (ps : Option Addr) (ns cs : Nat) (vr : Value) (L : List Rec) (w : World) (hl : L.length ≤ 9223372036854775807) (ha : RecsAt w vr L) :
    Calls Tryz.prog 4 #[.agg #[.int .i64 k, .int .i64 v, .string g, .int .i64 mx, .bool q, .int .i64 rob, .int .i64 ev, .slice ps ns cs, vr]] w fun e w' => e = .returned (.bool (few9B ns L)) ∧ Below w.heap.size w w' := by
  have HA := Lib.hid ha
  obtain ⟨p, cap, b, off, rfl, hp, hc⟩ := ha
  have HP := Lib.hid hp
  have HC := Lib.hid hc
  clear hp hc
  have HB := Lib.hid (Box.start w #[.int .i64 k, .int .i64 v, .string g, .int .i64 mx, .bool q, .int .i64 rob, .int .i64 ev, .slice ps ns cs, .slice p L.length cap] 28)
  by_cases h1 : 100 < ns
  · have V := Lib.hid (show few9B ns L = false by unfold few9B; rw [decide_eq_false (by omega)]; rfl)
    have d1 : decide ((100 : Int) < (ns : Int)) = true := decide_eq_true (by omega)
    clear h1
    go_enter Tryz.func4, Tryz.ntmps4
    go_wp2_with fail
    go_ret
    exact ⟨by rw [V.out]; rfl, HB.out.2⟩
  · have d1 : decide ((100 : Int) < (ns : Int)) = false := decide_eq_false (by omega)
    by_cases h2 : 40 < L.length
    · have V := Lib.hid (show few9B ns L = false by unfold few9B; rw [show decide (L.length ≤ 40) = false from decide_eq_false (by omega)]; simp)
      have d2 : decide ((40 : Int) < (L.length : Int)) = true := decide_eq_true (by omega)
      clear h1 h2
      go_enter Tryz.func4, Tryz.ntmps4
      go_wp2_with fail
      go_ret
      exact ⟨by rw [V.out]; rfl, HB.out.2⟩
    · have d2 : decide ((40 : Int) < (L.length : Int)) = false := decide_eq_false (by omega)
      have V1 := Lib.hid (show few9B ns L = L.all (fun r => decide (r.srcs.length ≤ 100)) by
        unfold few9B
        rw [show decide (ns ≤ 100) = true from decide_eq_true (by omega), show decide (L.length ≤ 40) = true from decide_eq_true (by omega)]; rfl)
      have h2i : (L.length : Int) ≤ 40 := by omega
      clear h1 h2
      go_enter Tryz.func4, Tryz.ntmps4
      go_wp2_with fail
      go_loop [3] (fun i => ∃ j : Nat, j ≤ L.length ∧ i = .int .i64 j ∧ Hid ((L.take j).all (fun r => decide (r.srcs.length ≤ 100)) = true)) (fun i => L.length - (intOf i).toNat)
      case atStart => exact ⟨0, Nat.zero_le _, rfl, Lib.hid rfl⟩
      case round =>
        obtain ⟨j, hj, rfl, hall⟩ := hrel
        by_cases hlt : j < L.length
        · have hne : L ≠ [] := by rintro rfl; simp at hlt
          obtain ⟨rfl, -⟩ := HP.out hne
          obtain ⟨-, -, vs, x2, xa⟩ := HC.out j _ (List.getElem?_eq_getElem hlt)
          have hT := Lib.hid (List.take_succ_eq_append_getElem hlt)
          have hM := Lib.hid (List.getElem_mem hlt)
          generalize L[j] = r at x2 xa hT hM
          obtain ⟨q', cq, rfl⟩ := xa.slice
          have y2 := cell_below HB.out.2 x2
          have hlt' : (j : Int) < (L.length : Int) := by omega
          clear hne x2 xa
          by_cases h3 : r.srcs.length ≤ 100
          · have d3 : decide ((100 : Int) < (r.srcs.length : Int)) = false := decide_eq_false (by omega)
            have hA2 := Lib.hid (show (L.take (j + 1)).all (fun r => decide (r.srcs.length ≤ 100)) = true by rw [hT.out, List.all_append, hall.out]; simp [h3])
            clear h3
            go_wp2_with fail
            go_round
            case rel => exact ⟨j + 1, by omega, by go_num, hA2⟩
            case measure => simp [intOf]; omega
          · have d3 : decide ((100 : Int) < (r.srcs.length : Int)) = true := decide_eq_true (by omega)
            have V := Lib.hid (show few9B ns L = false by
              rw [V1.out, List.all_eq_false]
              exact ⟨r, hM.out, by simpa using h3⟩)
            clear h3
            go_wp2_with fail
            go_ret
            exact ⟨by rw [V.out]; rfl, HB.out.2⟩
        · obtain rfl : j = L.length := by omega
          have V := Lib.hid (show few9B ns L = true by
            have h := hall.out
            rw [List.take_length] at h
            rw [V1.out, h])
          clear hlt
          go_wp2_with fail
          go_ret
          exact ⟨by rw [V.out]; rfl, HB.out.2⟩

/-- A way's box and a message's, behind w's end. -/
def B2 (w : World) (xs ys : Array Value) (W : World) : Prop :=
  W.heap[w.heap.size]? = some (.cells xs 24 (0, 0)) ∧ W.heap[w.heap.size + 1]? = some (.cells ys 28 (0, 0)) ∧ Below w.heap.size w W
theorem B2.start (w : World) (xs ys : Array Value) : B2 w xs ys ((w.alloc (.cells xs 24)).alloc (.cells ys 28)) := by
  have h1 := heap_new w (.cells xs 24)
  have b1 := (Below.refl w.heap.size w).alloc (Nat.le_refl _) (.cells xs 24)
  have hs : (w.alloc (.cells xs 24)).heap.size = w.heap.size + 1 := by simp
  have b2 := (Below.refl (w.alloc (.cells xs 24)).heap.size (w.alloc (.cells xs 24))).alloc (Nat.le_refl _) (.cells ys 28)
  have h2 := heap_new (w.alloc (.cells xs 24)) (.cells ys 28)
  rw [hs] at h2
  exact ⟨below_block b2 (lt_of_block h1) h1, h2, b1.trans (b2.mono (by omega))⟩
theorem B2.below {w W W' : World} {xs ys : Array Value} (h : B2 w xs ys W) (k : Below W.heap.size W W') : B2 w xs ys W' :=
  ⟨below_block k (lt_of_block h.1) h.1, below_block k (lt_of_block h.2.1) h.2.1, h.2.2.trans (k.mono h.2.2.size)⟩
theorem B2.x {w W : World} {xs ys : Array Value} (h : B2 w xs ys W) (j : Nat) {v : Value} (hj : xs[j]? = some v) : W.cell? ⟨w.heap.size, j, none⟩ = some v := cell_of_block h.1 hj
theorem B2.y {w W : World} {xs ys : Array Value} (h : B2 w xs ys W) (j : Nat) {v : Value} (hj : ys[j]? = some v) : W.cell? ⟨w.heap.size + 1, j, none⟩ = some v := cell_of_block h.2.1 hj

def l9O : ByteArray := ⟨#[48, 49, 50, 51, 52, 53, 54, 55, 56, 57, 97, 98, 99, 100, 101, 102]⟩
def l9G : ByteArray := ⟨#[255, 5, 0, 0, 0, 0, 0, 0, 0, 0, 0, 0, 0, 0, 0, 9]⟩
def l9S : ByteArray := ⟨#[131, 0, 79, 88, 0, 0, 0, 0, 255, 5, 0, 0, 0, 0, 0, 0, 0, 0, 0, 0, 0, 0, 0, 9]⟩
def l9X : ByteArray := ⟨#[97, 98, 99, 100]⟩
def l9M : Msg := ⟨2, 1, l9G, 0, false, 0, 0, [], []⟩
theorem l9_enc : encD l9O l9G l9M = (l9S, 0) := by decide +kernel
theorem l9_dec : decD l9O l9G l9S = (0, l9M) := by kernel_rfl
theorem l9_bad : decD l9G l9G l9S = (4, zeroM) := by kernel_rfl
theorem l9_no : encD l9O l9X l9M = (⟨#[]⟩, 1) := by decide +kernel

abbrev l9V (vs vr : Value) : Value := .agg #[.int .i64 2, .int .i64 1, .string l9G, .int .i64 0, .bool false, .int .i64 0, .int .i64 0, vs, vr]
theorem l91 (w : World) : Calls Tryz.prog 6 #[.string l9O, .string l9G, .agg #[.int .i64 2, .int .i64 1, .string l9G, .int .i64 0, .bool false, .int .i64 0, .int .i64 0, .slice none 0 0, .slice none 0 0]] w fun e w' => e = .returned (.tuple #[.string l9S, .int .i64 0]) ∧ Below w.heap.size w w' := by
  have h := menc_c l9O l9G l9M (.slice none 0 0) (.slice none 0 0) w (by decide) (by decide) (fun r hr => by simp [l9M] at hr) (AddrsG.nil _ _ _) (RecsG.nil _ _ _) (by decide) (by decide) (by decide) (by decide) (by decide)
  rw [l9_enc] at h
  exact h
theorem l92 (w : World) : Calls Tryz.prog 8 #[.string l9O, .string l9G, .string l9S] w fun e w' => ∃ p c p' c', e = .returned (.tuple #[.agg #[.int .i64 2, .int .i64 1, .string l9G, .int .i64 0, .bool false, .int .i64 0, .int .i64 0, .slice p 0 c, .slice p' 0 c'], .int .i64 0]) ∧ Below w.heap.size w w' := by
  refine (mdec_c l9O l9G l9S w (by decide)).mono ?_
  rintro e w' ⟨vs, vr, he, h1, h2, h3⟩
  rw [l9_dec] at he h1 h2
  obtain ⟨p, c, rfl⟩ := h1.slice
  obtain ⟨p', c', rfl⟩ := h2.slice
  exact ⟨_, _, _, _, he, h3⟩
theorem l93 (w : World) : Calls Tryz.prog 8 #[.string l9G, .string l9G, .string l9S] w fun e w' => ∃ p c p' c', e = .returned (.tuple #[.agg #[.int .i64 0, .int .i64 0, .string ⟨#[]⟩, .int .i64 0, .bool false, .int .i64 0, .int .i64 0, .slice p 0 c, .slice p' 0 c'], .int .i64 4]) ∧ Below w.heap.size w w' := by
  refine (mdec_c l9G l9G l9S w (by decide)).mono ?_
  rintro e w' ⟨vs, vr, he, h1, h2, h3⟩
  rw [l9_bad] at he h1 h2
  obtain ⟨p, c, rfl⟩ := h1.slice
  obtain ⟨p', c', rfl⟩ := h2.slice
  exact ⟨_, _, _, _, he, h3⟩
theorem nil_addrs (w : World) (p : Option Addr) (c : Nat) : AddrsAt w (.slice p 0 c) [] := ⟨p, c, 0, 0, rfl, fun h => absurd rfl h, fun j s hj => by simp at hj⟩
theorem nil_recs (w : World) (p : Option Addr) (c : Nat) : RecsAt w (.slice p 0 c) [] := ⟨p, c, 0, 0, rfl, fun h => absurd rfl h, fun j s hj => by simp at hj⟩
theorem l94 (p : Option Addr) (c : Nat) (p' : Option Addr) (c' : Nat) (w : World) : Calls Tryz.prog 6 #[.string l9O, .string l9X, .agg #[.int .i64 2, .int .i64 1, .string l9G, .int .i64 0, .bool false, .int .i64 0, .int .i64 0, .slice p 0 c, .slice p' 0 c']] w fun e w' => e = .returned (.tuple #[.string ⟨#[]⟩, .int .i64 1]) ∧ Below w.heap.size w w' := by
  have h := menc_c l9O l9X l9M (.slice p 0 c) (.slice p' 0 c') w (by decide) (by decide) (fun r hr => by simp [l9M] at hr) (nil_addrs _ _ _) (nil_recs _ _ _) (by decide) (by decide) (by decide) (by decide) (by decide)
  rw [l9_no] at h
  exact h

set_option maxHeartbeats 1000000 in
set_option maxRecDepth 100000 in
theorem live9_c (w : World) : Calls Tryz.prog 5 #[] w fun e w' => e = .returned (.bool true) ∧ Below w.heap.size w w' := by
  have h1 := Lib.hid l91
  have h2 := Lib.hid l92
  have h3 := Lib.hid l93
  have h4 := Lib.hid fun p c p' c' U => l94 p c p' c' U
  have t1 : (l9S.size : Int) = 24 := by decide
  have t2 : (l9G.toList == [255, 5, 0, 0, 0, 0, 0, 0, 0, 0, 0, 0, 0, 0, 0, 9]) = true := by decide +kernel
  go_enter Tryz.func5, Tryz.ntmps5
  go_wp2_with fail
  refine (h1.out _).mono ?_
  rintro e w1 ⟨rfl, b1⟩
  go_wp2_with fail
  refine (h2.out _).mono ?_
  rintro e w2 ⟨p, c, p', c', rfl, b2⟩
  have D2 := Lib.hid (b1.trans (b2.mono b1.size))
  clear b1 b2
  go_wp2_with fail
  have B := Lib.hid (Box.start w2 #[.int .i64 2, .int .i64 1, .string l9G, .int .i64 0, .bool false, .int .i64 0, .int .i64 0, .slice p 0 c, .slice p' 0 c'] 28)
  refine (h3.out _).mono ?_
  rintro e w3 ⟨q, d, q', d', rfl, b3⟩
  replace B := Lib.hid (B.out.below b3)
  clear b3
  go_upto_region 4 with fail
  replace B := Lib.hid (B.out.below ((Below.refl _ w3).alloc (Nat.le_refl _) (.cells #[.int .i64 0, .int .i64 0, .string ⟨#[]⟩, .int .i64 0, .bool false, .int .i64 0, .int .i64 0, .slice q 0 d, .slice q' 0 d'] 28)))
  generalize w3.alloc (.cells #[.int .i64 0, .int .i64 0, .string ⟨#[]⟩, .int .i64 0, .bool false, .int .i64 0, .int .i64 0, .slice q 0 d, .slice q' 0 d'] 28) = W3 at B ⊢
  have c0 := B.out.cell 0 rfl
  have c1 := B.out.cell 1 rfl
  have c2 := B.out.cell 2 rfl
  have c3 := B.out.cell 3 rfl
  have c4 := B.out.cell 4 rfl
  have c5 := B.out.cell 5 rfl
  have c6 := B.out.cell 6 rfl
  have c7 := B.out.cell 7 rfl
  have c8 := B.out.cell 8 rfl
  go_wp2_with fail
  refine (h4.out _ _ _ _ _).mono ?_
  rintro e w4 ⟨rfl, b4⟩
  replace B := Lib.hid (B.out.below b4)
  clear b4 c0 c1 c2 c3 c4 c5 c6 c7 c8
  have c0 := B.out.cell 0 rfl
  have c2 := B.out.cell 2 rfl
  go_wp2_with fail
  go_ret
  exact ⟨rfl, D2.out.trans (B.out.2.mono D2.out.size)⟩

end Go.Proofs.YtniahpbjfpmmhaaGreat
