/-
  Writing group messages: the writer's number, code, addrs. Contracts over the translated program.
-/
import Derived.Test.YtniahpbjfpmmhaaGreatBldW
import Derived.Test.YtniahpbjfpmmhaaGreatMemL
import Derived.Test.YtniahpbjfpmmhaaGreatTxt
import Derived.Test.YtniahpbjfpmmhaaGreatCodeA
namespace Go.Proofs.YtniahpbjfpmmhaaGreat
open Go.RowKit
set_option linter.unusedVariables false

/-- What a writer's call leaves: its block b holds l; what lies below b, and what is no row of bytes, is as it was. -/
def WPost (b : Nat) (l : List UInt8) (w : World) (e : Ending) (w' : World) : Prop :=
  e = .returned (.tuple #[]) ∧ Wr.Bld b l w' ∧ Below b w w' ∧ Wr.KeptO b w w'

theorem wput_len (n k : Int) : (putSpec n k).1.data.toList.length ≤ 4 := by
  unfold putSpec
  split
  · exact Nat.zero_le _
  · show (bytesOf n.toNat k.toNat).length ≤ 4
    rw [bytesOf_length]; omega

set_option maxHeartbeats 1000000 in
set_option maxRecDepth 100000 in
theorem wnum_c (b : Nat) (l : List UInt8) (n k : Int) (w : World) (h : Wr.Bld b l w) (hl : l.length + 4 ≤ 140737488355328) (n1 : -9223372036854775808 ≤ n) (n2 : n ≤ 9223372036854775807) :
    Calls Tryz.prog 107 #[.pointer (some ⟨b, 0, none⟩), .int .i64 n, .int .i64 k] w (WPost b (l ++ (putSpec n k).1.data.toList) w) := by
  have H1 := Lib.hid fun U => put_c n k U n1 n2
  have hz := wput_len n k
  generalize (putSpec n k).1 = X at *
  generalize (putSpec n k).2 = E at *
  have hX := vlen X
  have HS := Lib.hid h
  clear h
  go_enter Tryz.func107, Tryz.ntmps107
  go_wp2_with fail
  ((with_reducible refine (H1.out _).mono ?_); rintro e w1 ⟨rfl, h1⟩)
  have B1 := Lib.hid (HS.out.below h1)
  have K1 := Lib.hid (Wr.KeptO.of_below (b := b) h1)
  have D1 := Lib.hid (h1.mono (Nat.le_of_lt HS.out.lt))
  clear h1
  go_wp2_with fail
  refine (Wr.wstr_k b l X w1 B1.out (by omega)).mono ?_
  rintro e w2 ⟨rfl, b2, h2, o2⟩
  go_wp2_with fail
  go_end0
  exact ⟨rfl, b2, D1.out.trans h2, K1.out.trans o2⟩

/-- A list that a writer at b may read while it writes. -/
def AddrsW (b : Nat) (w : World) (v : Value) (L : List ByteArray) : Prop :=
  ∃ (p : Option Addr) (cap blk off : Nat), v = .slice p L.length cap ∧ (L ≠ [] → p = some ⟨blk, off, none⟩ ∧ (blk < b ∨ (blk ≠ b ∧ ∃ cs f, w.heap[blk]? = some (.cells cs 22 f)))) ∧ ∀ j s, L[j]? = some s → w.cell? ⟨blk, off + j, none⟩ = some (.string s)
theorem AddrsW.keep {b : Nat} {w w' : World} {v : Value} {L : List ByteArray} (h : AddrsW b w v L) (k : Below b w w') (o : Wr.KeptO b w w') : AddrsW b w' v L := by
  obtain ⟨p, cap, blk, off, hv, hp, hc⟩ := h
  by_cases hL : L = []
  · subst hL
    exact ⟨p, cap, blk, off, hv, fun h => absurd rfl h, fun j s hj => by simp at hj⟩
  · obtain ⟨h1, h2⟩ := hp hL
    rcases h2 with h2 | ⟨h2, cs, f, h3⟩
    · exact ⟨p, cap, blk, off, hv, fun _ => ⟨h1, .inl h2⟩, fun j s hj => ((below_cells k).1 blk _ h2).trans (hc j s hj)⟩
    · have h4 := o blk cs _ f h2 (by decide) h3
      exact ⟨p, cap, blk, off, hv, fun _ => ⟨h1, .inr ⟨h2, cs, f, h4⟩⟩, fun j s hj => (World.cell?_of_block (w := w) (a := ⟨blk, off + j, none⟩) (h4.trans h3.symm)).trans (hc j s hj)⟩

def flatL (L : List ByteArray) : List UInt8 := L.flatMap fun a => a.data.toList
theorem flatL_take (L : List ByteArray) (k : Nat) (h : k < L.length) : flatL (L.take (k + 1)) = flatL (L.take k) ++ L[k].data.toList := by
  unfold flatL
  rw [List.take_succ_eq_append_getElem h, List.flatMap_append]
  simp
theorem flatL_len (L : List ByteArray) (k : Nat) (h : k < L.length) : (flatL (L.take k)).length + L[k].size ≤ (flatL L).length := by
  have h1 : flatL L = flatL (L.take (k + 1)) ++ flatL (L.drop (k + 1)) := by
    unfold flatL
    rw [← List.flatMap_append, List.take_append_drop]
  rw [h1, flatL_take L k h]
  have := vlen L[k]
  simp only [List.length_append]
  omega

set_option maxHeartbeats 1000000 in
set_option maxRecDepth 100000 in
theorem waddrs_c (b : Nat) (l : List UInt8) (v : Value) (L : List ByteArray) (w : World) (h : Wr.Bld b l w) (ha : AddrsW b w v L) (hL : L.length ≤ 9223372036854775807) (hl : l.length + (flatL L).length ≤ 140737488355328) :
    Calls Tryz.prog 108 #[.pointer (some ⟨b, 0, none⟩), v] w (WPost b (l ++ flatL L) w) := by
  have HA := Lib.hid ha
  obtain ⟨p, cap, blk, off, rfl, -⟩ := ha
  have HS := Lib.hid h
  clear h
  go_enter Tryz.func108, Tryz.ntmps108
  go_wp2_with fail
  go_loopw [5, 8] (fun _ i wr => ∃ k : Nat, k ≤ L.length ∧ i = .int .i64 k ∧ Hid (Wr.Bld b (l ++ flatL (L.take k)) wr) ∧ Hid (AddrsW b wr (.slice p L.length cap) L) ∧ Hid (Below b w wr) ∧ Hid (Wr.KeptO b w wr)) (fun _ i _ => L.length - (intOf i).toNat)
  case atStart => exact ⟨0, Nat.zero_le _, rfl, Lib.hid (by rw [List.take_zero]; show Wr.Bld b (l ++ []) w; rw [List.append_nil]; exact HS.out), HA, Lib.hid (Below.refl _ _), Lib.hid (Wr.KeptO.refl _ _)⟩
  case round =>
    obtain ⟨k, hk, rfl, hB, hA, hD, hK⟩ := hrel
    by_cases hlt : k < L.length
    · have hne : L ≠ [] := by rintro rfl; simp at hlt
      have hA0 := hA.out
      obtain ⟨p', cap', blk', off', hv, hp, hc⟩ := hA0
      obtain ⟨rfl, hcap⟩ : p = p' ∧ cap = cap' := by cases hv; exact ⟨rfl, rfl⟩
      obtain ⟨rfl, -⟩ := hp hne
      have x1 := hc k _ (List.getElem?_eq_getElem hlt)
      have hT := Lib.hid (flatL_take L k hlt)
      have hU := flatL_len L k hlt
      generalize L[k] = a at x1 hT hU
      have hlt' : (k : Int) < (L.length : Int) := by omega
      clear hc hp hv hne hcap HA HS
      go_wp2_with fail
      refine (Wr.wstr_k b _ a wr hB.out (by rw [List.length_append]; omega)).mono ?_
      rintro e w2 ⟨rfl, b2, h2, o2⟩
      have HB2 := Lib.hid (show Wr.Bld b (l ++ flatL (L.take (k + 1))) w2 by rw [hT.out, ← List.append_assoc]; exact b2)
      have HA2 := Lib.hid (hA.out.keep h2 o2)
      have HD2 := Lib.hid (hD.out.trans h2)
      have HK2 := Lib.hid (hK.out.trans o2)
      clear b2 h2 o2
      go_wp2_with fail
      go_roundw
      case rel => exact ⟨k + 1, by omega, by go_num, HB2, HA2, HD2, HK2⟩
      case measure => simp [intOf]; omega
    · obtain rfl : k = L.length := by omega
      go_wp2_with fail
      go_end0
      rw [List.take_length] at hB
      exact ⟨rfl, hB.out, hD.out, hK.out⟩

/-- A list of one text in a block of its own. -/
theorem AddrsW.one (b : Nat) (w : World) (a : ByteArray) (hb : b < w.heap.size) : AddrsW b (w.alloc (.cells #[.string a] 22)) (.slice (some ⟨w.heap.size, 0, none⟩) 1 1) [a] := by
  refine ⟨_, 1, w.heap.size, 0, rfl, fun _ => ⟨rfl, .inr ⟨by omega, _, _, heap_new _ _⟩⟩, fun j s hj => ?_⟩
  obtain ⟨rfl, rfl⟩ := one_at hj
  exact cell_of_block (heap_new _ _) rfl

end Go.Proofs.YtniahpbjfpmmhaaGreat
