/-
  Records' bytes at every argument: igmp.Body; which messages are few (siphonlaw08.few).
-/
import Derived.Test.YtfdiaaggmjlkbaaIgBde
namespace Go.Proofs.Ytfdiaaggmjlkbaa
open Go.RowKit
set_option linter.unusedVariables false

set_option maxHeartbeats 1000000 in
set_option maxRecDepth 100000 in
theorem body_c (v : Value) (L : List Rec) (size : Int) (w : World) (hl : L.length ≤ 9223372036854775807) (hs : ∀ r ∈ L, r.srcs.length ≤ 9223372036854775807) (ha : RecsAt w v L) :
    Calls Try.prog 55 #[v, .int .i64 size] w (BodyPost (bodyI L size) w) := by
  rcases hz : sizeB size with _ | _
  · have V := Lib.hid (show bodyI L size = (1, ⟨#[]⟩) by unfold bodyI; rw [if_pos (.inl hz)])
    have HZ := Lib.hid fun U => issize_c size U
    rw [hz] at HZ
    clear hz ha
    go_enter Try.func55, Try.ntmps55
    go_wp2_with fail
    ((with_reducible refine (HZ.out _).mono ?_); rintro e w1 ⟨rfl, rfl⟩)
    go_wp2_with fail
    go_ret2
    unfold BodyPost
    rw [V.out]
    exact ⟨rfl, Below.refl _ _⟩
  · by_cases h30 : 30 < L.length
    · have V := Lib.hid (show bodyI L size = (1, ⟨#[]⟩) by unfold bodyI; rw [if_pos (.inr h30)])
      have HZ := Lib.hid fun U => issize_c size U
      rw [hz] at HZ
      obtain ⟨p, cap, rfl⟩ := ha.slice
      have h30' : (30 : Int) < (L.length : Int) := by omega
      clear hz ha h30
      go_enter Try.func55, Try.ntmps55
      go_wp2_with fail
      ((with_reducible refine (HZ.out _).mono ?_); rintro e w1 ⟨rfl, rfl⟩)
      go_wp2_with fail
      go_ret2
      unfold BodyPost
      rw [V.out]
      exact ⟨rfl, Below.refl _ _⟩
    · exact body_go v L size w hz (by omega) hs ha

def fewB (ns : Nat) (L : List Rec) : Bool := decide (ns ≤ 100) && decide (L.length ≤ 40) && L.all (fun r => decide (r.srcs.length ≤ 100))

set_option maxHeartbeats 1000000 in
set_option maxRecDepth 100000 in
theorem few_c (k v : Int) (g : ByteArray) (mx : Int) (q : Bool) (rob ev : Int) (ps : Option Addr) (ns cs : Nat) (vr : Value) (L : List Rec) (w : World) (hl : L.length ≤ 9223372036854775807) (ha : RecsAt w vr L) :
    Calls Try.prog 4 #[.agg #[.int .i64 k, .int .i64 v, .string g, .int .i64 mx, .bool q, .int .i64 rob, .int .i64 ev, .slice ps ns cs, vr]] w fun e w' => e = .returned (.bool (fewB ns L)) ∧ Below w.heap.size w w' := by
  have HA := Lib.hid ha
  obtain ⟨p, cap, b, off, rfl, hp, hc⟩ := ha
  have HP := Lib.hid hp
  have HC := Lib.hid hc
  clear hp hc
  have HB := Lib.hid (Box.start w #[.int .i64 k, .int .i64 v, .string g, .int .i64 mx, .bool q, .int .i64 rob, .int .i64 ev, .slice ps ns cs, .slice p L.length cap] 26)
  by_cases h1 : 100 < ns
  · have V := Lib.hid (show fewB ns L = false by unfold fewB; rw [decide_eq_false (by omega)]; rfl)
    have d1 : decide ((100 : Int) < (ns : Int)) = true := decide_eq_true (by omega)
    clear h1
    go_enter Try.func4, Try.ntmps4
    go_wp2_with fail
    go_ret
    exact ⟨by rw [V.out]; rfl, HB.out.2⟩
  · have d1 : decide ((100 : Int) < (ns : Int)) = false := decide_eq_false (by omega)
    by_cases h2 : 40 < L.length
    · have V := Lib.hid (show fewB ns L = false by unfold fewB; rw [show decide (L.length ≤ 40) = false from decide_eq_false (by omega)]; simp)
      have d2 : decide ((40 : Int) < (L.length : Int)) = true := decide_eq_true (by omega)
      clear h1 h2
      go_enter Try.func4, Try.ntmps4
      go_wp2_with fail
      go_ret
      exact ⟨by rw [V.out]; rfl, HB.out.2⟩
    · have d2 : decide ((40 : Int) < (L.length : Int)) = false := decide_eq_false (by omega)
      have V1 := Lib.hid (show fewB ns L = L.all (fun r => decide (r.srcs.length ≤ 100)) by
        unfold fewB
        rw [show decide (ns ≤ 100) = true from decide_eq_true (by omega), show decide (L.length ≤ 40) = true from decide_eq_true (by omega)]; rfl)
      have h2i : (L.length : Int) ≤ 40 := by omega
      clear h1 h2
      go_enter Try.func4, Try.ntmps4
      go_wp2_with fail
      go_loop [3] (fun i => ∃ j : Nat, j ≤ L.length ∧ i = .int .i64 j ∧ Hid ((L.take j).all (fun r => decide (r.srcs.length ≤ 100)) = true)) (fun i => L.length - (intOf i).toNat)
      case atStart => exact ⟨0, Nat.zero_le _, rfl, Lib.hid rfl⟩
      case round =>
        obtain ⟨j, hj, rfl, hall⟩ := hrel
        by_cases hlt : j < L.length
        · have hne : L ≠ [] := by rintro rfl; simp at hlt
          obtain ⟨rfl, -⟩ := HP.out hne
          obtain ⟨-, -, vs, x2, xa⟩ := HC.out j _ (List.getElem?_eq_getElem hlt)
          have hT := Lib.hid (List.take_succ_eq_append_getElem hlt)
          have hM := Lib.hid (List.getElem_mem hlt)
          generalize L[j] = r at x2 xa hT hM
          obtain ⟨q', cq, rfl⟩ := xa.slice
          have y2 := cell_below HB.out.2 x2
          have hlt' : (j : Int) < (L.length : Int) := by omega
          clear hne x2 xa
          by_cases h3 : r.srcs.length ≤ 100
          · have d3 : decide ((100 : Int) < (r.srcs.length : Int)) = false := decide_eq_false (by omega)
            have hA2 := Lib.hid (show (L.take (j + 1)).all (fun r => decide (r.srcs.length ≤ 100)) = true by rw [hT.out, List.all_append, hall.out]; simp [h3])
            clear h3
            go_wp2_with fail
            go_round
            case rel => exact ⟨j + 1, by omega, by go_num, hA2⟩
            case measure => simp [intOf]; omega
          · have d3 : decide ((100 : Int) < (r.srcs.length : Int)) = true := decide_eq_true (by omega)
            have V := Lib.hid (show fewB ns L = false by
              rw [V1.out, List.all_eq_false]
              exact ⟨r, hM.out, by simpa using h3⟩)
            clear h3
            go_wp2_with fail
            go_ret
            exact ⟨by rw [V.out]; rfl, HB.out.2⟩
        · obtain rfl : j = L.length := by omega
          have V := Lib.hid (show fewB ns L = true by
            have h := hall.out
            rw [List.take_length] at h
            rw [V1.out, h])
          clear hlt
          go_wp2_with fail
          go_ret
          exact ⟨by rw [V.out]; rfl, HB.out.2⟩

end Go.Proofs.Ytfdiaaggmjlkbaa
