/-
  filter.Check. A contract over the translated program.
-/
import Derived.Test.YthpafojeadbjlaaFlD
import Derived.Test.YthpafojeadbjlaaFlF
import Derived.Test.YthpafojeadbjlaaSame
namespace Go.Proofs.Ythpafojeadbjlaa
open Go.RowKit
set_option linter.unusedVariables false

theorem geq_of {x y : ByteArray} {r : Bool} (h : (!sl x y) = r) (t : TypeId) : binOp .geq t (.string x) (.string y) = pure (.bool r) := by
  rw [← h]
  simp [binOp, Op.stringOp, sl]
theorem up_snoc2 (l : List ByteArray) (k : Nat) (h1 : 0 < k) (h : k < l.length) (hu : Up (l.take k)) (hs : sl (l[k - 1]'(by omega)) l[k] = true) : Up (l.take (k + 1)) := by
  rw [List.take_succ_eq_append_getElem h]
  refine List.pairwise_append.2 ⟨hu, by simp, fun a ha b hb => ?_⟩
  obtain rfl : b = l[k] := by simpa using hb
  obtain ⟨i, hi, rfl⟩ := List.getElem_of_mem ha
  rw [List.length_take] at hi
  rw [List.getElem_take]
  by_cases e : i = k - 1
  · subst e; exact hs
  · have := List.pairwise_iff_getElem.1 hu i (k - 1) (by rw [List.length_take]; omega) (by rw [List.length_take]; omega) (by omega)
    rw [List.getElem_take, List.getElem_take] at this
    exact sl_trans this hs
theorem up_no (l : List ByteArray) (k : Nat) (h1 : 0 < k) (h : k < l.length) (hs : sl (l[k - 1]'(by omega)) l[k] = false) : upB l = false := by
  rw [Bool.eq_false_iff, ne_eq, upB_iff]
  intro hu
  have := List.pairwise_iff_getElem.1 hu (k - 1) k (by omega) h (by omega)
  rw [hs] at this
  cases this

set_option maxHeartbeats 2000000 in
set_option maxRecDepth 100000 in
theorem check_c (ex : Bool) (v : Value) (l : List ByteArray) (w : World) (hl : l.length ≤ 1000000) (ha : AddrsAt w v l) :
    Calls Try.prog 71 #[.agg #[.bool ex, v]] w fun e w' => e = .returned (.int .i64 (chkF ⟨ex, l⟩)) ∧ Below w.heap.size w w' := by
  obtain ⟨p, cap, b, off, rfl, hp, hc⟩ := ha
  have HP := Lib.hid hp
  have HC := Lib.hid hc
  have B := Lib.hid (show KQ w (w.alloc (.cells #[.bool ex, .slice p l.length cap] 28)) #[.bool ex, .slice p l.length cap] 28 from ⟨heap_new _ _, boxed_below _ _⟩)
  have V0 := Lib.hid (show chkF ⟨ex, l⟩ = if upB l then 0 else 3 from rfl)
  clear hp hc
  go_enter Try.func71, Try.ntmps71
  go_wp2_with fail
  go_loopw [3] (fun i wr => ∃ k : Nat, 1 ≤ k ∧ k ≤ l.length + 1 ∧ i = .int .i64 k ∧ Hid (Up (l.take k)) ∧ Hid (KQ w wr #[.bool ex, .slice p l.length cap] 28)) (fun i _ => l.length + 1 - (intOf i).toNat)
  case atStart =>
    refine ⟨1, Nat.le_refl _, by omega, rfl, Lib.hid ?_, B⟩
    rcases l with _ | ⟨x, t⟩
    · exact List.Pairwise.nil
    · simp [Up]
  case round =>
    clear B
    obtain ⟨k, hk1, hk, rfl, hup, B⟩ := hrel
    have x1 := B.out.cell0 1 rfl
    by_cases hlt : k < l.length
    · have hne : l ≠ [] := by rintro rfl; simp at hlt
      obtain ⟨rfl, -⟩ := HP.out hne
      obtain ⟨j, rfl⟩ : ∃ j, k = j + 1 := ⟨k - 1, by omega⟩
      have y1 := cell_below B.out.bel (HC.out (j + 1) _ (List.getElem?_eq_getElem hlt))
      have y2 := cell_below B.out.bel (HC.out j _ (List.getElem?_eq_getElem (by omega)))
      have S1 := Lib.hid (up_snoc2 l (j + 1) (by omega) hlt hup.out)
      have S2 := Lib.hid (up_no l (j + 1) (by omega) hlt)
      simp only [Nat.add_sub_cancel] at S1 S2
      generalize l[j + 1] = y at y1 S1 S2
      generalize l[j] = x at y2 S1 S2
      have hw : IntKind.i64.wrap (((j + 1 : Nat) : Int) - 1) = (j : Int) := by rw [show ((j + 1 : Nat) : Int) - 1 = (j : Int) from by omega]; exact IntWalk.i64_in _ (by omega)
      have hn : ((j : Int)).toNat = j := by omega
      have hj0 : (0 : Int) ≤ (j : Int) := by omega
      have hj1 : (j : Int) < (l.length : Int) := by omega
      have hlt' : ((j + 1 : Nat) : Int) < (l.length : Int) := by omega
      clear hne hk1
      rcases h : sl x y with _ | _
      · have V := Lib.hid (S2.out h)
        have g1 := fun t => geq_of (x := x) (y := y) (r := true) (by rw [h]; rfl) t
        clear h
        go_wp2_with fail
        go_quiet (fail)
        go_wp2_with fail
        go_ret
        exact ⟨by rw [V0.out, V.out]; rfl, below_drewN B.out.bel _⟩
      · have A2 := Lib.hid (S1.out h)
        have g1 := fun t => geq_of (x := x) (y := y) (r := false) (by rw [h]; rfl) t
        clear h
        go_wp2_with fail
        go_quiet (fail)
        go_wp2_with fail
        go_roundw
        case rel => exact ⟨j + 1 + 1, by omega, by omega, by go_num, A2, Lib.hid ⟨B.out.1, below_drewN B.out.2 _⟩⟩
        case measure => simp [intOf]; omega
    · have V := Lib.hid (show upB l = true by
        have h := hup.out
        rw [List.take_of_length_le (by omega)] at h
        exact (upB_iff l).2 h)
      have hlt' : ¬ (k : Int) < (l.length : Int) := by omega
      have d1 : decide ((k : Int) < (l.length : Int)) = false := decide_eq_false hlt'
      have d2 : decide (k < l.length) = false := decide_eq_false hlt
      go_wp2_with fail
      go_ret
      exact ⟨by rw [V0.out, V.out]; rfl, B.out.bel⟩

end Go.Proofs.Ythpafojeadbjlaa
