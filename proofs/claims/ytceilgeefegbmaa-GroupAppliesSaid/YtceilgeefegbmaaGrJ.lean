/-
  The change's sources. A contract over the translated program.
-/
import Derived.Test.YtceilgeefegbmaaGrI
namespace Go.Proofs.Ytceilgeefegbmaa
open Go Go.Maps Go.Sort Go.Shelf
open Go.RowKit
set_option linter.unusedVariables false
set_option linter.unusedSimpArgs false

set_option maxHeartbeats 2000000 in
set_option maxRecDepth 100000 in
/-- The keys of the change's map, in their order, in a new row. -/
theorem sources_c {w : World} {c mb : Nat} {ex : Bool} {tm : Int} {tv av : Value} {ag : Bool} {L : List T3} (h : Ch w c mb ex tm tv ag av L) (hn : L.length ≤ 1000000) : Calls Try.prog 43 #[.pointer (some ⟨c, 0, none⟩)] w fun e w' =>
    ∃ (v : Value) (ss : List (List UInt8)) (l : List (Lit × DataW Unit)), e = .returned v ∧ l.Perm (L.map enc3) ∧ ss.Perm (strKeys (DataW.map l)) ∧ w'.ownsRow (w.heap.size + 1) 25 1 v ss.length ((ss.mergeSort (fun x y => decide (x ≤ y))).map encStr) ∧ Below w.heap.size w w' := by
  have c2 := h.c2
  have SC := Lib.hid (sortedOf_c h.2 hn)
  have KB := Lib.hid (show Below w.heap.size w (w.alloc (.cells #[.map (some mb)] 69)) from (Below.refl _ w).alloc (Nat.le_refl _) _)
  have HS := Lib.hid (show (w.alloc (.cells #[.map (some mb)] 69)).heap.size = w.heap.size + 1 by simp)
  clear h hn
  go_enter Try.func43, Try.ntmps43
  go_wp2_with (first | (go_at_call 59; refine (keysOf_c _ _).mono ?_; rintro e w1 ⟨rfl, rfl⟩) | (go_at_call 58; refine SC.out.mono ?_; rintro e w3 ⟨v, ss, l, rfl, hp, hS, hrow, hb⟩))
  rw [HS.out] at hrow hb
  have K3 := KB.out.trans (hb.mono (by omega))
  go_ret
  exact ⟨_, ss, l, rfl, hp, hS, hrow, K3⟩
end Go.Proofs.Ytceilgeefegbmaa
