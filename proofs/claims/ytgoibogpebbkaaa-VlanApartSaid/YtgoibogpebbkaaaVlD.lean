/-
  VLANs: whether ports may be: vlan.Check and the document's. Contracts over the translated program.
-/
import Derived.Test.YtgoibogpebbkaaaVlC
namespace Go.Proofs.Ytgoibogpebbkaaa
open Go.RowKit
set_option linter.unusedVariables false

/-- A list of ports whose lists are not too long. -/
def PtsL (L : List Pt) : Prop := ∀ r ∈ L, r.tag.length < 4611686018427387904 ∧ r.pln.length < 4611686018427387904

theorem chkB_no (L : List Pt) (h : ¬ (1 ≤ L.length ∧ L.length ≤ 16)) : chkI L = 3 := by
  unfold chkI chkB
  rcases Decidable.em (1 ≤ L.length) with h1 | h1
  · rw [show decide (L.length ≤ 16) = false from decide_eq_false (by omega)]; simp
  · rw [show decide (1 ≤ L.length) = false from decide_eq_false h1]; simp
theorem chkB_at (L : List Pt) (h : 1 ≤ L.length ∧ L.length ≤ 16) : chkI L = if allB L then 0 else 3 := by
  unfold chkI chkB
  rw [decide_eq_true h.1, decide_eq_true h.2]
  rfl
theorem all_step (L : List Pt) (k : Nat) (h : k < L.length) (ha : allB (L.take k) = true) : (ptB L[k] = true → allB (L.take (k + 1)) = true) ∧ (ptB L[k] = false → allB L = false) := by
  refine ⟨fun hp => by rw [List.take_succ_eq_append_getElem h, allB_snoc, ha, hp]; rfl, fun hp => ?_⟩
  have := allB_no (L.take k) L[k] (L.drop (k + 1)) hp
  rw [← List.take_append_drop k L, List.drop_eq_getElem_cons h]
  exact this

set_option maxHeartbeats 2000000 in
set_option maxRecDepth 100000 in
theorem chk_c (u : Value) (L : List Pt) (w : World) (hl : L.length ≤ 9223372036854775807) (hp : PtsL L) (ha : PtsAt w u L) :
    Calls Try.prog 11 #[u] w fun e w' => e = .returned (.int .i64 (chkI L)) ∧ Below w.heap.size w w' := by
  obtain ⟨p, cap, b, off, rfl, hpp, hc⟩ := ha
  have HP := Lib.hid hpp
  have HC := Lib.hid hc
  have HL := Lib.hid hp
  clear hpp hc hp
  by_cases h0 : L.length < 1
  · have V := Lib.hid (chkB_no L (by omega))
    have d1 : decide ((L.length : Int) < 1) = true := decide_eq_true (by omega)
    go_enter Try.func11, Try.ntmps11
    go_wp2_with fail
    go_ret
    exact ⟨by rw [V.out]; rfl, Below.refl _ _⟩
  · have d1 : decide ((L.length : Int) < 1) = false := decide_eq_false (by omega)
    by_cases h16 : 16 < L.length
    · have V := Lib.hid (chkB_no L (by omega))
      have d2 : decide ((16 : Int) < (L.length : Int)) = true := decide_eq_true (by omega)
      go_enter Try.func11, Try.ntmps11
      go_wp2_with fail
      go_ret
      exact ⟨by rw [V.out]; rfl, Below.refl _ _⟩
    · have d2 : decide ((16 : Int) < (L.length : Int)) = false := decide_eq_false (by omega)
      have V0 := Lib.hid (chkB_at L ⟨by omega, by omega⟩)
      clear h0 h16
      go_enter Try.func11, Try.ntmps11
      go_wp2_with fail
      go_loopw [4, 15] (fun _ i wr => ∃ k : Nat, k ≤ L.length ∧ i = .int .i64 k ∧ Hid (allB (L.take k) = true) ∧ Hid (Below w.heap.size w wr)) (fun _ i _ => L.length - (intOf i).toNat)
      case atStart => exact ⟨0, Nat.zero_le _, rfl, Lib.hid rfl, Lib.hid (Below.refl _ _)⟩
      case round =>
        obtain ⟨k, hk, rfl, hall, hb⟩ := hrel
        by_cases hlt : k < L.length
        · have hne : L ≠ [] := by rintro rfl; simp at hlt
          obtain rfl := HP.out hne
          obtain ⟨y0, vt, vp, y1, y2, a1, a2⟩ := HC.out k _ (List.getElem?_eq_getElem hlt)
          have hS := Lib.hid (all_step L k hlt hall.out)
          have hM := Lib.hid (HL.out _ (List.getElem_mem hlt))
          generalize L[k] = r at y0 y1 y2 a1 a2 hS hM
          have z0 := y0
          have z1 := y1
          have z2 := y2
          have x0 : wr.cell? ⟨b, off + k * 3, none⟩ = some (.int .i64 r.dft) := (icell_below (w := w) hb.out y0)
          have x1 : wr.cell? ⟨b, off + k * 3 + 1, none⟩ = some vt := (icell_below (w := w) hb.out y1)
          have x2 : wr.cell? ⟨b, off + k * 3 + 2, none⟩ = some vp := (icell_below (w := w) hb.out y2)
          have HQ := Lib.hid fun (U : World) (hU : Below wr.heap.size wr U) => ptmay_c r vt vp U hM.out.1 (by have := hM.out.2; omega) ((a1.below hb.out).below hU) ((a2.below hb.out).below hU)
          have B0 := Lib.hid fun o => (Below.refl wr.heap.size wr).alloc (Nat.le_refl _) o
          obtain ⟨p1, c1, rfl⟩ := a1.slice
          obtain ⟨p2, c2, rfl⟩ := a2.slice
          generalize r.dft = d at x0 y0 HQ
          generalize r.tag.length = n1 at *
          generalize r.pln.length = n2 at *
          have hlt' : (k : Int) < (L.length : Int) := by omega
          clear hne y0 y1 y2 z0 z1 z2 a1 a2
          rcases hz : ptB r with _ | _
          · have V := Lib.hid (show chkI L = 3 by rw [V0.out, hS.out.2 hz]; rfl)
            rw [hz] at HQ
            clear hz
            go_wp2_with fail
            ((with_reducible refine (HQ.out _ (B0.out _)).mono ?_); rintro e w1 ⟨rfl, h1⟩)
            go_wp2_with fail
            go_ret
            exact ⟨by rw [V.out]; rfl, hb.out.trans (((B0.out _).trans (h1.mono (B0.out _).size)).mono hb.out.size)⟩
          · have A2 := Lib.hid (hS.out.1 hz)
            rw [hz] at HQ
            clear hz
            go_wp2_with fail
            ((with_reducible refine (HQ.out _ (B0.out _)).mono ?_); rintro e w1 ⟨rfl, h1⟩)
            have HB := Lib.hid (hb.out.trans (((B0.out _).trans (h1.mono (B0.out _).size)).mono hb.out.size))
            clear h1
            go_wp2_with fail
            go_roundw
            case rel => exact ⟨k + 1, by omega, by go_num, A2, HB⟩
            case measure => simp [intOf]; omega
        · obtain rfl : k = L.length := by omega
          have V := Lib.hid (show chkI L = 0 by have h := hall.out; rw [List.take_length] at h; rw [V0.out, h]; rfl)
          clear hlt
          go_wp2_with fail
          go_ret
          exact ⟨by rw [V.out]; rfl, hb.out⟩

end Go.Proofs.Ytgoibogpebbkaaa
