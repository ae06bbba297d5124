/-
  Filters: Admits, Check; the law's few and same. Contracts over the translated program.
-/
import Derived.Test.YthpafojeadbjlaaFlA
import Derived.Test.YthpafojeadbjlaaFlSh
import Derived.BigQuiet
import Derived.Deep.QuietTactic
namespace Go.Proofs.Ythpafojeadbjlaa
open Go.RowKit
set_option linter.unusedVariables false

theorem containsS_eq (l : List ByteArray) (s : ByteArray) : Lib.containsS l s = hasS l s := by
  rw [Bool.eq_iff_iff, Lib.containsS_iff, hasS_iff]
theorem contains_c (v : Value) (l : List ByteArray) (s : ByteArray) (w : World) (hl : l.length ≤ 9223372036854775807) (ha : AddrsAt w v l) :
    Calls Try.prog 34 #[v, .string s] w fun e w' => e = .returned (.bool (hasS l s)) ∧ w' = w := by
  obtain ⟨p, cap, b, off, rfl, hp, hc⟩ := ha
  by_cases h0 : l = []
  · subst h0
    exact AnyG.slices_Contains_string_empty lay_laysContains p cap s w
  · obtain rfl := (hp h0).1
    refine (AnyG.slices_Contains_string lay_laysContains b off l.length cap l s w (Nat.le_refl _) hl (fun j hj => ?_)).mono fun e w' h => ?_
    · rw [hc j _ (List.getElem?_eq_getElem hj)]
      simp [List.getD, hj]
    · rw [List.take_length, containsS_eq] at h
      exact h

theorem boxed_below (w : World) (o : Obj) : Below w.heap.size w (w.alloc o) := (Below.refl _ w).alloc (Nat.le_refl _) o

set_option maxHeartbeats 1000000 in
set_option maxRecDepth 100000 in
theorem admits_c (ex : Bool) (v : Value) (l : List ByteArray) (s : ByteArray) (w : World) (hl : l.length ≤ 9223372036854775807) (ha : AddrsAt w v l) :
    Calls Try.prog 17 #[.agg #[.bool ex, v], .string s] w fun e w' => e = .returned (.bool (admB ⟨ex, l⟩ s)) ∧ Below w.heap.size w w' := by
  obtain ⟨p, cp, rfl⟩ := ha.slice
  have HC := Lib.hid fun n => contains_c (.slice p l.length cp) l s ((w.alloc (.cells #[.bool ex, .slice p l.length cp] 28)).drewN n) hl (ha.below (below_drewN (boxed_below _ _) n))
  have V := Lib.hid (show admB ⟨ex, l⟩ s = (hasS l s != ex) from rfl)
  generalize admB ⟨ex, l⟩ s = r at V ⊢
  generalize hasS l s = h at HC V
  generalize l.length = n at *
  clear ha
  go_enter Try.func17, Try.ntmps17
  go_wp2_with fail
  go_quiet ((go_at_call 34; exact Calls.quiet_of_same (HC.out _)))
  go_wp2_with fail
  go_ret
  exact ⟨by rw [V.out]; rfl, below_drewN (boxed_below _ _) _⟩

def fewA (f g : List ByteArray) : Bool := decide (f.length ≤ 100) && decide (g.length ≤ 100)
end Go.Proofs.Ythpafojeadbjlaa
