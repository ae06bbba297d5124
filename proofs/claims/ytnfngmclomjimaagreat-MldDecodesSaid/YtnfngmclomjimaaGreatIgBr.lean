/-
  Writing records, the document's answer: siphonref08.sized, joined. Contracts over the translated program.
-/
import Derived.Test.YtnfngmclomjimaaGreatIgBe
import Derived.Test.YtnfngmclomjimaaGreatIgH
import Derived.Test.YtnfngmclomjimaaGreatRefP
import Derived.Deep.RegionHeld3
namespace Go.Proofs.YtnfngmclomjimaaGreat
open Go.RowKit
set_option linter.unusedVariables false

set_option maxHeartbeats 1000000 in
set_option maxRecDepth 100000 in
theorem rsized_c (v : Value) (L : List ByteArray) (size : Int) (w : World) (hl : L.length ≤ 9223372036854775807) (ha : AddrsAt w v L) :
    Calls Tryz.prog 86 #[v, .int .i64 size] w fun e w' => e = .returned (.bool (srcsB L size)) ∧ w = w' := by
  obtain ⟨p, cap, b, off, rfl, hp, hc⟩ := ha
  have HP := Lib.hid hp
  have HC := Lib.hid hc
  clear hp hc
  by_cases h60 : 60 < L.length
  · have V := Lib.hid (show srcsB L size = false by unfold srcsB; rw [show decide (L.length ≤ 60) = false from decide_eq_false (by omega)]; simp)
    have h60' : (60 : Int) < (L.length : Int) := by omega
    clear h60
    go_enter Tryz.func86, Tryz.ntmps86
    go_wp2_with fail
    go_ret
    exact ⟨by rw [V.out]; rfl, rfl⟩
  · have h60' : (L.length : Int) ≤ 60 := by omega
    have h60n := Lib.hid h60
    clear h60
    go_enter Tryz.func86, Tryz.ntmps86
    go_wp2_with fail
    go_loop [5] (fun i => ∃ k : Nat, k ≤ L.length ∧ i = .int .i64 k ∧ Hid ((L.take k).all (fun a => decide ((a.size : Int) = size)) = true)) (fun i => L.length - (intOf i).toNat)
    case atStart => exact ⟨0, Nat.zero_le _, rfl, Lib.hid rfl⟩
    case round =>
      obtain ⟨k, hk, rfl, hall⟩ := hrel
      by_cases hlt : k < L.length
      · have hne : L ≠ [] := by rintro rfl; simp at hlt
        obtain ⟨rfl, -⟩ := HP.out hne
        have x1 := HC.out k _ (List.getElem?_eq_getElem hlt)
        have hT := Lib.hid (List.take_succ_eq_append_getElem hlt)
        have hM := Lib.hid (List.getElem_mem hlt)
        generalize L[k] = a at x1 hT hM
        have hlt' : (k : Int) < (L.length : Int) := by omega
        clear hne
        by_cases hz : (a.size : Int) = size
        · obtain ⟨q1, q2⟩ := eq_t hz
          have hA2 := Lib.hid (show (L.take (k + 1)).all (fun a => decide ((a.size : Int) = size)) = true by rw [hT.out, List.all_append, hall.out]; simp [hz])
          clear hz
          go_wp2_with fail
          go_round
          case rel => exact ⟨k + 1, by omega, by go_num, hA2⟩
          case measure => simp [intOf]; omega
        · obtain ⟨q1, q2⟩ := ne_t hz
          have V := Lib.hid (show srcsB L size = false by
            unfold srcsB
            have : L.all (fun a => decide ((a.size : Int) = size)) = false := by
              rw [List.all_eq_false]
              exact ⟨a, hM.out, by simpa using hz⟩
            rw [this]; rfl)
          clear hz
          go_wp2_with fail
          go_ret
          exact ⟨by rw [V.out]; rfl, rfl⟩
      · obtain rfl : k = L.length := by omega
        have V := Lib.hid (show srcsB L size = true by
          have h := hall.out
          rw [List.take_length] at h
          unfold srcsB
          rw [h, decide_eq_true (by have := h60n.out; omega)]; rfl)
        clear hlt
        go_wp2_with fail
        go_ret
        exact ⟨by rw [V.out]; rfl, rfl⟩

theorem add_flat (l : List UInt8) (a : ByteArray) : (⟨l.toArray⟩ : ByteArray) ++ a = ⟨(l ++ a.data.toList).toArray⟩ := by
  apply ByteArray.ext
  apply Array.toList_inj.1
  simp [ByteArray.data_append]

set_option maxHeartbeats 1000000 in
set_option maxRecDepth 100000 in
theorem rjoin_c (v : Value) (L : List ByteArray) (w : World) (hl : L.length ≤ 9223372036854775807) (hf : (flatL L).length ≤ 1000000) (ha : AddrsAt w v L) :
    Calls Tryz.prog 87 #[v] w fun e w' => e = .returned (.string ⟨(flatL L).toArray⟩) ∧ w = w' := by
  obtain ⟨p, cap, b, off, rfl, hp, hc⟩ := ha
  have HP := Lib.hid hp
  have HC := Lib.hid hc
  clear hp hc
  go_enter Tryz.func87, Tryz.ntmps87
  go_wp2_with fail
  go_loop [3, 4] (fun s i => ∃ (k : Nat) (X : ByteArray), k ≤ L.length ∧ i = .int .i64 k ∧ s = .string X ∧ Hid (X = ⟨(flatL (L.take k)).toArray⟩)) (fun _ i => L.length - (intOf i).toNat)
  case atStart => exact ⟨0, ⟨#[]⟩, Nat.zero_le _, rfl, rfl, Lib.hid (by rw [List.take_zero]; rfl)⟩
  case round =>
    obtain ⟨k, X, hk, rfl, rfl, hX⟩ := hrel
    by_cases hlt : k < L.length
    · have hne : L ≠ [] := by rintro rfl; simp at hlt
      obtain ⟨rfl, -⟩ := HP.out hne
      have x1 := HC.out k _ (List.getElem?_eq_getElem hlt)
      have hT := Lib.hid (flatL_take L k hlt)
      have hU := flatL_len L k hlt
      generalize L[k] = a at x1 hT hU
      have hlt' : (k : Int) < (L.length : Int) := by omega
      have hXz : X.size = (flatL (L.take k)).length := by rw [hX.out, ByteArray.size_mk', List.size_toArray]
      have hsz : X.size + a.size ≤ 1000000 := by omega
      have hX2 := Lib.hid (show X ++ a = ⟨(flatL (L.take (k + 1))).toArray⟩ by rw [hX.out, add_flat, hT.out])
      clear hne hXz hU
      go_wp2_with fail
      go_round
      case rel => exact ⟨k + 1, _, by omega, by go_num, rfl, hX2⟩
      case measure => simp [intOf]; omega
    · obtain rfl : k = L.length := by omega
      have hX2 := Lib.hid (show X = ⟨(flatL L).toArray⟩ by have := hX.out; rw [List.take_length] at this; exact this)
      clear hX hlt
      go_wp2_with fail
      go_ret
      exact ⟨by rw [← hX2.out]; rfl, rfl⟩

end Go.Proofs.YtnfngmclomjimaaGreat
