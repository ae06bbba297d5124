/-
  WriteString beside other cells: what is neither the builder nor a row of bytes stays as it is.
-/
import Derived.Test.YtcahhkmbigjhlaaBld
namespace Go.Proofs.Ytcahhkmbigjhlaa
open Go.RowKit
set_option linter.unusedVariables false

theorem ccheck_k (B b : Nat) (bs : List Value) (w : World) (h : Lib.IsBuilderF 53 5 B b bs w) :
    Calls Try.prog 39 #[.pointer (some ⟨b, 0, none⟩)] w fun e w' => e = .returned (.tuple #[]) ∧ Lib.BuilderAtF 53 5 B b (.pointer (some ⟨b, 0, none⟩)) bs w' ∧ Below B w w' ∧ ∀ k, k ≠ b → w'.heap[k]? = w.heap[k]? := by
  rcases h with h | h
  · refine (ccheck_fresh b w h.cell0 h.shape h.frozen0).mono ?_
    rintro e w' ⟨rfl, rfl⟩
    exact ⟨rfl, h.used _, (Below.refl B w).setCell (p := ⟨b, 0, none⟩) h.1 _, fun k hk => Below.heap_setCell _ _ _ _ hk⟩
  · refine (ccheck_used b w h.cell0).mono ?_
    rintro e w' ⟨rfl, rfl⟩
    exact ⟨rfl, h, Below.refl B _, fun k hk => rfl⟩

/-- Block k holds no row of bytes and is not block b: it stays. -/
def KeptO (b : Nat) (w w' : World) : Prop := ∀ k c t f, k ≠ b → t ≠ 5 → w.heap[k]? = some (.cells c t f) → w'.heap[k]? = some (.cells c t f)
theorem KeptO.refl (b : Nat) (w : World) : KeptO b w w := fun _ _ _ _ _ _ h => h
theorem KeptO.trans {b : Nat} {w w1 w2 : World} (h : KeptO b w w1) (k : KeptO b w1 w2) : KeptO b w w2 := fun i c t f h1 h2 h3 => k i c t f h1 h2 (h i c t f h1 h2 h3)
theorem KeptO.of_below {b : Nat} {w w1 : World} (h : Below w.heap.size w w1) : KeptO b w w1 := fun i c t f h1 h2 h3 => (h.block i (lt_of_block h3)).trans h3

set_option maxHeartbeats 2000000 in
set_option maxRecDepth 100000 in
/-- WriteString. -/
theorem wstr_k (b : Nat) (l : List UInt8) (s : ByteArray) (w : World) (h : Bld b l w) (hlen : l.length + s.size ≤ 140737488355328) :
    Calls Try.prog 25 #[.pointer (some ⟨b, 0, none⟩), .string s] w fun e w' => e = .returned (.tuple #[.int .i64 s.size, .nilIface]) ∧ Bld b (l ++ s.data.toList) w' ∧ Below b w w' ∧ KeptO b w w' := by
  have hbw : b ≤ w.heap.size := Nat.le_of_lt h.lt
  obtain ⟨i0, hi, hz0, hz1, hz2⟩ := info_parts info_u8
  go_enter Try.func25, Try.ntmps25
  go_wp2_with (go_at_call 39; refine (ccheck_k b b _ _ h).mono ?_)
  rintro e w1 ⟨rfl, h1, hb1, hk1⟩
  obtain ⟨hB, v, hbk, hown, hne⟩ := h1
  have c0 : w1.cell? ⟨b, 0, none⟩ = some (.pointer (some ⟨b, 0, none⟩)) := by rw [Lib.cell_of_heap hbk]; rfl
  have c1 : w1.cell? ⟨b, 1, none⟩ = some v := by rw [Lib.cell_of_heap hbk]; rfl
  have hll : (Lib.byteCells l).length = l.length := Lib.byteCells_length l
  go_wp2_with (at_builtin; refine Lib.wpList_append_own_stringF _ rfl _ _ 36 9 rfl b 5 i0 Try.underlying36 Try.underlying9 hi hz0 hz1 hz2 _ _ _ rfl hown s rfl ?c3 ?c4 ?c5 ?_)
  case c3 => unfold maxLen; omega
  case c4 => omega
  case c5 => have := hb1.size; omega
  intro v' w2 hown' hgrow _
  have hlt : b < w1.heap.size := lt_of_block hbk
  have hb2 : w2.heap[b]? = some (.cells #[.pointer (some ⟨b, 0, none⟩), v] 53 (0, 0)) := by
    rw [hgrow.block b hlt (fun e => hne e.symm)]
    exact hbk
  have d0 : w2.cell? ⟨b, 0, none⟩ = some (.pointer (some ⟨b, 0, none⟩)) := by rw [Lib.cell_of_heap hb2]; rfl
  have d1 : w2.cell? ⟨b, 1, none⟩ = some v := by rw [Lib.cell_of_heap hb2]; rfl
  have f1 : w2.frozen? ⟨b, 1, none⟩ = false := Lib.frozen_of_heap hb2 1
  have hkeep : ∀ k c t f, k ≠ b → t ≠ 5 → w1.heap[k]? = some (.cells c t f) → w2.heap[k]? = some (.cells c t f) := by
    intro k c t f hk ht hw
    refine (hgrow.block k (lt_of_block hw) fun e => ?_).trans hw
    rcases hown.2 with ⟨hv, _⟩ | ⟨g, cap, cur, fz, hv, hbg, hg, _⟩
    · rw [hv] at e; simp [Value.ownBlock] at e
    · rw [hv] at e
      have e' : k = g := by simpa [Value.ownBlock] using e
      subst e'
      rw [hg] at hw
      cases hw
      exact ht rfl
  obtain ⟨ao, n', cap, rfl⟩ : ∃ ao n' cap, v' = .slice ao n' cap := by
    rcases hown'.2 with ⟨hv, _⟩ | ⟨g, cap, cur, fz, hv, _⟩
    · exact ⟨_, _, _, hv⟩
    · exact ⟨_, _, _, hv⟩
  go_wp2
  go_ret2
  refine ⟨rfl, Or.inr ?_, ?_, ?_⟩
  · rw [Lib.byteCells_append, ← strCells_eq]
    exact Lib.BuilderAtF.put (T := 53) (e := 5) hB hb2 (bs' := Lib.byteCells l ++ Lib.strCells s) (by simpa [Lib.strCells_length, Lib.byteCells_length] using hown') (by decide)
  · exact (hb1.grown hgrow (by have := hb1.size; omega) (fun k hk => (hown.lt k hk).1)).setCell (p := ⟨b, 1, none⟩) hB _
  · intro k c t f hk ht hw
    exact heap_store_other (hkeep k c t f hk ht ((hk1 k hk).trans hw)) hk

theorem bldAt_far {B b c j : Nat} {p v' : Value} {bs : List Value} {w : World} {xs : Array Value} {t : TypeId} {f : Nat × Nat} (h : Lib.BuilderAtF 53 5 B b p bs w) (hc : c ≠ b) (hcell : w.heap[c]? = some (.cells xs t f)) (ht : t ≠ 5) :
    Lib.BuilderAtF 53 5 B b p bs (w.setCell ⟨c, j, none⟩ v') := by
  obtain ⟨hB, v, hb, hown, hne⟩ := h
  refine ⟨hB, v, heap_store_other hb (Ne.symm hc), hown.kept (row := some c) (Lib.grownBy_setCell w c j v') ?_, hne⟩
  rcases hown.2 with ⟨hv, _⟩ | ⟨g, cap, cur, fz, hv, hbg, hg, _⟩
  · rw [hv]; exact .inl rfl
  · rw [hv]
    refine .inr fun e => ?_
    have e' : g = c := by simpa [Value.ownBlock] using e
    subst e'
    rw [hcell] at hg
    cases hg
    exact ht rfl
/-- A store elsewhere leaves a builder as it is. -/
theorem Bld.far {b c j : Nat} {v' : Value} {l : List UInt8} {w : World} {xs : Array Value} {t : TypeId} {f : Nat × Nat} (h : Bld b l w) (hc : c ≠ b) (hcell : w.heap[c]? = some (.cells xs t f)) (ht : t ≠ 5) :
    Bld b l (w.setCell ⟨c, j, none⟩ v') := by
  rcases h with h | h
  · exact .inl (bldAt_far h hc hcell ht)
  · exact .inr (bldAt_far h hc hcell ht)

end Go.Proofs.Ytcahhkmbigjhlaa
