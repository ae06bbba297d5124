/-
  VLANs: lists of numbers: slices.Index, Contains at []int, vlan.rise; the document's Has, rises, SameInts. Contracts over the translated program.
-/
import Derived.Test.YtpaehbmhdjnofaaMemI
import Derived.Test.YtpaehbmhdjnofaaBase
import Derived.Deep.QuietTactic
import Derived.BigQuiet
import Derived.Deep.Cut
namespace Go.Proofs.Ytpaehbmhdjnofaa
open Go.RowKit
set_option linter.unusedVariables false

theorem viet {a b : Int} (h : a = b) : (a == b) = true ∧ (a != b) = false := by subst h; simp
theorem vint {a b : Int} (h : a ≠ b) : (a == b) = false ∧ (a != b) = true := by simp [h]

def IdxPost (b : Bool) (w : World) (e : Ending) (w' : World) : Prop := ∃ i : Int, e = .returned (.int .i64 i) ∧ decide (0 ≤ i) = b ∧ w = w'

theorem has_take_snoc (l : List Int) (k : Nat) (h : k < l.length) (v : Int) : hasB (l.take (k + 1)) v = (hasB (l.take k) v || decide (l[k] = v)) := by
  rw [List.take_succ_eq_append_getElem h, hasB_snoc]
theorem has_at (l : List Int) (k : Nat) (h : k < l.length) (v : Int) (e : l[k] = v) : hasB l v = true := (hasB_iff l v).2 (e ▸ List.getElem_mem h)

set_option maxHeartbeats 1000000 in
set_option maxRecDepth 100000 in
theorem rhas_c (u : Value) (l : List Int) (v : Int) (w : World) (hl : l.length ≤ 9223372036854775807) (ha : IntsAt w u l) :
    Calls Try.prog 18 #[u, .int .i64 v] w fun e w' => e = .returned (.bool (hasB l v)) ∧ w = w' := by
  obtain ⟨p, cap, b, off, rfl, hp, hc⟩ := ha
  have HP := Lib.hid hp
  have HC := Lib.hid hc
  clear hp hc
  go_enter Try.func18, Try.ntmps18
  go_wp2_with fail
  go_loop [5] (fun i => ∃ k : Nat, k ≤ l.length ∧ i = .int .i64 k ∧ Hid (hasB (l.take k) v = false)) (fun i => l.length - (intOf i).toNat)
  case atStart => exact ⟨0, Nat.zero_le _, rfl, Lib.hid rfl⟩
  case round =>
    obtain ⟨k, hk, rfl, hall⟩ := hrel
    by_cases hlt : k < l.length
    · have hne : l ≠ [] := by rintro rfl; simp at hlt
      obtain rfl := HP.out hne
      have x1 := HC.out k _ (List.getElem?_eq_getElem hlt)
      have hT := Lib.hid (has_take_snoc l k hlt v)
      have hM := Lib.hid (has_at l k hlt v)
      generalize l[k] = x at x1 hT hM
      have hlt' : (k : Int) < (l.length : Int) := by omega
      clear hne
      by_cases hz : x = v
      · have V := Lib.hid (hM.out hz)
        obtain ⟨q1, q2⟩ := viet hz
        clear hz
        go_wp2_with fail
        go_ret
        exact ⟨by rw [V.out]; rfl, rfl⟩
      · have hA2 := Lib.hid (show hasB (l.take (k + 1)) v = false by rw [hT.out, hall.out, decide_eq_false hz]; rfl)
        obtain ⟨q1, q2⟩ := vint hz
        clear hz
        go_wp2_with fail
        go_round
        case rel => exact ⟨k + 1, by omega, by go_num, hA2⟩
        case measure => simp [intOf]; omega
    · obtain rfl : k = l.length := by omega
      have V := Lib.hid (show hasB l v = false by have h := hall.out; rw [List.take_length] at h; exact h)
      clear hlt
      go_wp2_with fail
      go_ret
      exact ⟨by rw [V.out]; rfl, rfl⟩

/-- One step of a list that rises. -/
theorem ris_step (l : List Int) (k : Nat) (h : k < l.length) (hr : risGo 0 (l.take k) = true) :
    (lastGo 0 (l.take (k + 1)) = l[k]) ∧ (lastGo 0 (l.take k) < l[k] → l[k] ≤ 4094 → risGo 0 (l.take (k + 1)) = true) ∧ (¬ (lastGo 0 (l.take k) < l[k] ∧ l[k] ≤ 4094) → risB l = false) := by
  have hT := List.take_succ_eq_append_getElem h
  refine ⟨by rw [hT, lastGo_snoc], fun h1 h2 => by rw [hT, risGo_snoc, hr, decide_eq_true h1, decide_eq_true h2]; rfl, fun hn => ?_⟩
  have hs := risGo_snoc (l.take k) 0 l[k]
  have hf : risGo 0 (l.take k ++ [l[k]]) = false := by
    rw [hs, hr, Bool.true_and, Bool.eq_false_iff]
    intro hc
    simp only [Bool.and_eq_true, decide_eq_true_iff] at hc
    exact hn hc
  have := risGo_false _ 0 _ (l.drop (k + 1)) hf
  unfold risB
  rw [← List.take_append_drop k l, List.drop_eq_getElem_cons h]
  exact this
theorem ris_lo (l : List Int) (k : Nat) (hr : risGo 0 (l.take k) = true) : 0 ≤ lastGo 0 (l.take k) := lastGo_ge _ 0 hr

end Go.Proofs.Ytpaehbmhdjnofaa
