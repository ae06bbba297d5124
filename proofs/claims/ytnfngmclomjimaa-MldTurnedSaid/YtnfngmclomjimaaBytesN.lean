/-
  Bytes of a text in new memory, and a text of the first bytes of a block (for every program).
-/
import Derived.Test.YtnfngmclomjimaaKit
import Derived.Lib.BufferWrite
import Derived.WalkKit
import Derived.BigQuiet
import Derived.Deep.QuietTactic
import Derived.Deep.DeepCutAuto
namespace Go.Proofs.Ytnfngmclomjimaa
open Go.RowKit

/-- '[]byte(s)': the bytes, and room. -/
theorem bytes_new {P : Program} (w : World) (src dst e : TypeId) (s : ByteArray) (hs : P.underlying src = some .string) (hd : P.underlying dst = some (.slice e)) (he : P.underlying e = some (.int .u8)) :
    ∃ (cap : Nat) (sp : List UInt8), (convert src dst (.string s)).run P w = .ok (.slice (some ⟨w.heap.size, 0, none⟩) s.size cap)
      (w.drew.alloc (.cells (byteRow (s.data.toList ++ sp)) e ((s.data.toList ++ sp).length, (s.data.toList ++ sp).length + 1))) := by
  refine ⟨grownCap w s.size 0 e, List.replicate (grownCap w s.size 0 e - s.size) 0, ?_⟩
  have hb : bytesRow s (grownCap w s.size 0 e) = byteRow (s.data.toList ++ List.replicate (grownCap w s.size 0 e - s.size) 0) := by
    unfold bytesRow byteRow
    apply Array.ext'
    simp
  have h := run_bytes_of_string (P := P) w src dst e s hs hd he
  rw [hb, byteRow_size] at h
  exact h

theorem free_below {w : World} {b j : Nat} {xs : Array Value} {t : TypeId} {f g : Nat} (h : w.heap[b]? = some (.cells xs t (f, g))) (hj : j < f) :
    w.frozen? ⟨b, j, none⟩ = false := by simp [World.frozen?, h]; omega

/-- 'string(b)' of the first bytes of a block. -/
theorem run_string_of_prefix {P : Program} {w : World} {b cap : Nat} {l sp : List UInt8} {t : TypeId} {f : Nat × Nat} (src dst e : TypeId) (h : w.heap[b]? = some (.cells (byteRow (l ++ sp)) t f))
    (hs : P.underlying src = some (.slice e)) (he : P.underlying e = some (.int .u8)) (hd : P.underlying dst = some .string) (n : Nat) (hn : n = l.length) :
    (convert src dst (.slice (some ⟨b, 0, none⟩) n cap)).run P w = .ok (.string ⟨l.toArray⟩) w := by
  subst hn
  refine run_convert_bytes_back w src dst e _ cap l hs he hd fun j hj => ?_
  have : (⟨b, 0, none⟩ : Addr).add j = ⟨b, j, none⟩ := by unfold Addr.add; split <;> simp_all
  rw [this]
  refine cell_of_block h ?_
  rw [byteRow_at _ j (by rw [List.length_append]; omega), List.getElem_append_left hj]

end Go.Proofs.Ytnfngmclomjimaa
