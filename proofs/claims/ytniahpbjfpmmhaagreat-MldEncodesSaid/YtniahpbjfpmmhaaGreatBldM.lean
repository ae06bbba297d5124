/-
  The writer of group messages of IPv6: a struct of an error and a strings.Builder: copyCheck, WriteString and String on it. No condition but sizes.
-/
import Derived.Test.YtniahpbjfpmmhaaGreatOctB
import Derived.Test.YtniahpbjfpmmhaaGreatBase
import Derived.Lib.FrozenHead2
import Derived.Lib.OthersKept
import Derived.Lib.Builder
import Derived.RegionTactic
namespace Go.Proofs.YtniahpbjfpmmhaaGreat.Wm
open Go.RowKit
set_option linter.unusedVariables false

/-- Block b is a writer of the call's own: its error is e, its builder holds the bytes l. -/
def Bld (b : Nat) (e : Int) (l : List UInt8) (w : World) : Prop :=
  ∃ p v, (p = .pointer none ∨ p = .pointer (some ⟨b, 1, none⟩)) ∧ w.heap[b]? = some (.cells #[.int .i64 e, p, v] 46 (0, 0)) ∧ w.ownsRowF b 5 1 v l.length (Lib.byteCells l) ∧ (v = .slice none 0 0 ↔ l = [])

theorem wt_ne : (46 : TypeId) ≠ 5 := by decide
theorem Bld.fresh (w : World) : Bld w.heap.size 0 [] (w.alloc (.cells #[.int .i64 0, .pointer none, .slice none 0 0] 46)) :=
  ⟨_, _, .inl rfl, heap_new _ _, World.ownsRowF_nil _ _ _ _, by simp⟩
theorem Bld.lt {b : Nat} {e : Int} {l : List UInt8} {w : World} (h : Bld b e l w) : b < w.heap.size := by
  obtain ⟨p, v, -, h, -⟩ := h
  exact lt_of_block h
theorem Bld.cell {b : Nat} {e : Int} {l : List UInt8} {w : World} (h : Bld b e l w) : w.cell? ⟨b, 0, none⟩ = some (.int .i64 e) := by
  obtain ⟨p, v, -, h, -⟩ := h
  exact cell_of_block h rfl
theorem Bld.free {b : Nat} {e : Int} {l : List UInt8} {w : World} (h : Bld b e l w) : w.frozen? ⟨b, 0, none⟩ = false := by
  obtain ⟨p, v, -, h, -⟩ := h
  exact free_of_block h
theorem own_ne {b : Nat} {l : List UInt8} {v : Value} {cs : Array Value} {f : Nat × Nat} {w : World} (hown : w.ownsRowF b 5 1 v l.length (Lib.byteCells l)) (hb : w.heap[b]? = some (.cells cs 46 f)) : v.ownBlock ≠ some b :=
  Lib.ownBlock_neF hown hb wt_ne
theorem Bld.below {b : Nat} {e : Int} {l : List UInt8} {w w' : World} (h : Bld b e l w) (k : Below w.heap.size w w') : Bld b e l w' := by
  have hlt := h.lt
  obtain ⟨p, v, hp, hb, hown, h0⟩ := h
  refine ⟨p, v, hp, (k.block b hlt).trans hb, hown.kept (row := none) ⟨k.os, k.tape, k.output, k.size, fun j hj _ => k.block j hj⟩ ?_, h0⟩
  rcases hv : v.ownBlock with _ | g
  · exact .inl rfl
  · exact .inr (by simp)
theorem Bld.alloc {b : Nat} {e : Int} {l : List UInt8} {w : World} (h : Bld b e l w) (o : Obj) : Bld b e l (w.alloc o) := h.below ((Below.refl _ w).alloc (Nat.le_refl _) _)
theorem Bld.drew {b : Nat} {e : Int} {l : List UInt8} {w : World} (h : Bld b e l w) : Bld b e l w.drew := h
/-- The error is set. -/
theorem Bld.set {b : Nat} {e : Int} {l : List UInt8} {w : World} (h : Bld b e l w) (e' : Int) : Bld b e' l (w.setCell ⟨b, 0, none⟩ (.int .i64 e')) := by
  obtain ⟨p, v, hp, hb, hown, h0⟩ := h
  refine ⟨p, v, hp, by simp [World.setCell, Array.getElem?_modify, hb], ?_, h0⟩
  exact hown.kept (row := some b) ⟨rfl, rfl, rfl, by simp [World.setCell], fun k _ hk => Below.heap_setCell _ _ _ _ (fun e => hk (by simp [e]))⟩ (.inr (own_ne hown hb))

/-- Block k holds no row of bytes and is not block b: it stays. -/
def KeptO (b : Nat) (w w' : World) : Prop := ∀ k c t f, k ≠ b → t ≠ 5 → w.heap[k]? = some (.cells c t f) → w'.heap[k]? = some (.cells c t f)
theorem KeptO.refl (b : Nat) (w : World) : KeptO b w w := fun _ _ _ _ _ _ h => h
theorem KeptO.trans {b : Nat} {w w1 w2 : World} (h : KeptO b w w1) (k : KeptO b w1 w2) : KeptO b w w2 := fun i c t f h1 h2 h3 => k i c t f h1 h2 (h i c t f h1 h2 h3)
theorem KeptO.of_below {b : Nat} {w w1 : World} (h : Below w.heap.size w w1) : KeptO b w w1 := fun i c t f h1 h2 h3 => (h.block i (lt_of_block h3)).trans h3
theorem KeptO.setCell {b : Nat} (w : World) (j : Nat) (u : Value) : KeptO b w (w.setCell ⟨b, j, none⟩ u) := fun i c t f h1 h2 h3 => (Below.heap_setCell _ _ _ _ h1).trans h3

theorem bld_info : (Tryz.prog.info? 44).map (fun i => i.size) = some 2 := by kernel_rfl

set_option maxHeartbeats 1000000 in
set_option maxRecDepth 100000 in
theorem ccheck_used (b : Nat) (w : World) (h0 : w.cell? ⟨b, 1, none⟩ = some (.pointer (some ⟨b, 1, none⟩))) :
    Calls Tryz.prog 105 #[.pointer (some ⟨b, 1, none⟩)] w fun e w' => e = .returned (.tuple #[]) ∧ w' = w := by
  obtain ⟨j, hj, _⟩ := Option.map_eq_some_iff.1 bld_info
  go_enter Tryz.func105, Tryz.ntmps105
  go_wp2
  rw [Lib.run_neq_ptr_same w _ Tryz.underlying41 hj]
  go_wp2
  go_end0
  exact ⟨rfl, rfl⟩

set_option maxHeartbeats 1000000 in
set_option maxRecDepth 100000 in
theorem ccheck_fresh (b : Nat) (w : World) (h0 : w.cell? ⟨b, 1, none⟩ = some (.pointer none)) (hsh : w.shape? b = some (46, 3)) (hfz : w.frozen? ⟨b, 1, none⟩ = false) :
    Calls Tryz.prog 105 #[.pointer (some ⟨b, 1, none⟩)] w fun e w' => e = .returned (.tuple #[]) ∧ w' = w.setCell ⟨b, 1, none⟩ (.pointer (some ⟨b, 1, none⟩)) := by
  obtain ⟨j, hj, hjs⟩ := Option.map_eq_some_iff.1 bld_info
  go_enter Tryz.func105, Tryz.ntmps105
  go_wp2
  rw [Lib.run_to_unsafe w ⟨b, 1, none⟩ Tryz.underlying41 Tryz.underlying126 hj (by rw [hjs]; decide) hsh (show 1 < 3 by omega)]
  simp only [Result.andThen]
  rw [Oper.upon_value]
  go_wp2
  rw [run_callFunc_extern Tryz.func111 (by kernel_rfl) (by kernel_rfl) (by kernel_rfl) (e := Extern.AbiNoEscape.same) (by kernel_rfl)]
  rw [Lib.run_noEscape]
  simp only [Result.andThen]
  rw [Oper.upon_value]
  go_wp2
  rw [Lib.run_from_unsafe w ⟨b, 1, none⟩ Tryz.underlying126 Tryz.underlying41 hj hsh (by kernel_rfl)]
  simp only [Result.andThen]
  rw [Oper.upon_value]
  go_wp2
  go_end0
  exact ⟨rfl, rfl⟩

theorem ccheck_k (b : Nat) (e0 : Int) (l : List UInt8) (w : World) (h : Bld b e0 l w) :
    Calls Tryz.prog 105 #[.pointer (some ⟨b, 1, none⟩)] w fun e w' => e = .returned (.tuple #[]) ∧ (∃ v, w'.heap[b]? = some (.cells #[.int .i64 e0, .pointer (some ⟨b, 1, none⟩), v] 46 (0, 0)) ∧ w'.ownsRowF b 5 1 v l.length (Lib.byteCells l) ∧ (v = .slice none 0 0 ↔ l = [])) ∧ Below b w w' ∧ ∀ k, k ≠ b → w'.heap[k]? = w.heap[k]? := by
  obtain ⟨p, v, hp, hb, hown, h0⟩ := h
  rcases hp with rfl | rfl
  · refine (ccheck_fresh b w (cell_of_block hb rfl) (by simp [World.shape?, hb]) (by simp [World.frozen?, hb])).mono ?_
    rintro e w' ⟨rfl, rfl⟩
    refine ⟨rfl, ⟨v, by simp [World.setCell, Array.getElem?_modify, hb], ?_, h0⟩, (Below.refl b w).setCell (p := ⟨b, 1, none⟩) (Nat.le_refl _) _, fun k hk => Below.heap_setCell _ _ _ _ hk⟩
    exact hown.kept (row := some b) ⟨rfl, rfl, rfl, by simp [World.setCell], fun k _ hk => Below.heap_setCell _ _ _ _ (fun e => hk (by simp [e]))⟩ (.inr (own_ne hown hb))
  · refine (ccheck_used b w (cell_of_block hb rfl)).mono ?_
    rintro e w' ⟨rfl, rfl⟩
    exact ⟨rfl, ⟨v, hb, hown, h0⟩, Below.refl b _, fun k hk => rfl⟩

theorem strCells_eq (s : ByteArray) : Lib.strCells s = Lib.byteCells s.data.toList := rfl

set_option maxHeartbeats 2000000 in
set_option maxRecDepth 100000 in
/-- WriteString. -/
theorem wstr_k (b : Nat) (e0 : Int) (l : List UInt8) (s : ByteArray) (w : World) (h : Bld b e0 l w) (hlen : l.length + s.size ≤ 140737488355328) :
    Calls Tryz.prog 93 #[.pointer (some ⟨b, 1, none⟩), .string s] w fun e w' => e = .returned (.tuple #[.int .i64 s.size, .nilIface]) ∧ Bld b e0 (l ++ s.data.toList) w' ∧ Below b w w' ∧ KeptO b w w' := by
  have hbw : b ≤ w.heap.size := Nat.le_of_lt h.lt
  obtain ⟨i0, hi, hz0, hz1, hz2⟩ := info_parts info_u8
  have hll : (Lib.byteCells l).length = l.length := Lib.byteCells_length l
  go_enter Tryz.func93, Tryz.ntmps93
  go_wp2_with (go_at_call 105; refine (ccheck_k b e0 l _ h).mono ?_)
  rintro e w1 ⟨rfl, ⟨v, hbk, hown, h0⟩, hb1, hk1⟩
  have c0 : w1.cell? ⟨b, 1, none⟩ = some (.pointer (some ⟨b, 1, none⟩)) := by rw [Lib.cell_of_heap hbk]; rfl
  have c1 : w1.cell? ⟨b, 2, none⟩ = some v := by rw [Lib.cell_of_heap hbk]; rfl
  go_wp2_with (at_builtin; refine Lib.wpList_append_own_stringF _ rfl _ _ 42 9 rfl b 5 i0 Tryz.underlying42 Tryz.underlying9 hi hz0 hz1 hz2 _ _ _ rfl hown s rfl ?c3 ?c4 ?c5 ?_)
  case c3 => unfold maxLen; omega
  case c4 => omega
  case c5 => have := hb1.size; omega
  intro v' w2 hown' hgrow hnil
  have hlt : b < w1.heap.size := lt_of_block hbk
  have hne := own_ne hown hbk
  have hb2 : w2.heap[b]? = some (.cells #[.int .i64 e0, .pointer (some ⟨b, 1, none⟩), v] 46 (0, 0)) := by
    rw [hgrow.block b hlt (fun e => hne e.symm)]
    exact hbk
  have d0 : w2.cell? ⟨b, 1, none⟩ = some (.pointer (some ⟨b, 1, none⟩)) := by rw [Lib.cell_of_heap hb2]; rfl
  have d1 : w2.cell? ⟨b, 2, none⟩ = some v := by rw [Lib.cell_of_heap hb2]; rfl
  have f1 : w2.frozen? ⟨b, 2, none⟩ = false := Lib.frozen_of_heap hb2 2
  obtain ⟨ao, n', cap, rfl⟩ : ∃ ao n' cap, v' = .slice ao n' cap := by
    rcases hown'.2 with ⟨hv, _⟩ | ⟨g, cap, cur, fz, hv, _⟩
    · exact ⟨_, _, _, hv⟩
    · exact ⟨_, _, _, hv⟩
  have hown2 : w2.ownsRowF b 5 1 (.slice ao n' cap) (l ++ s.data.toList).length (Lib.byteCells (l ++ s.data.toList)) := by
    rw [Lib.byteCells_append, ← strCells_eq, List.length_append, show s.data.toList.length = s.size from by simp]
    exact hown'
  have hne2 := Lib.ownBlock_neF hown2 hb2 wt_ne
  have hB : Bld b e0 (l ++ s.data.toList) (w2.setCell ⟨b, 2, none⟩ (.slice ao n' cap)) := by
    refine ⟨_, .slice ao n' cap, .inr rfl, by simp [World.setCell, Array.getElem?_modify, hb2], ?_, ?_⟩
    · exact hown2.kept (row := some b) ⟨rfl, rfl, rfl, by simp [World.setCell], fun k _ hk => Below.heap_setCell _ _ _ _ (fun e => hk (by simp [e]))⟩ (.inr hne2)
    · rw [hnil]
      constructor
      · rintro ⟨h1, h2⟩
        subst h2
        first
          | (rw [h1]; rfl)
          | (rw [h0.1 h1]; rfl)
      · intro h
        have h1 := congrArg List.length h
        rw [List.length_append, List.length_nil] at h1
        have h2 : s.data.toList.length = s.size := by simp
        have h3 : l = [] := List.eq_nil_of_length_eq_zero (by omega)
        have h4 : s = ByteArray.empty := ByteArray.ext (Array.toList_inj.1 (List.eq_nil_of_length_eq_zero (by omega)))
        first
          | exact ⟨h3, h4⟩
          | exact ⟨h0.2 h3, h4⟩
  have hD : Below b w (w2.setCell ⟨b, 2, none⟩ (.slice ao n' cap)) := (hb1.grown hgrow (by have := hb1.size; omega) (fun k hk => (hown.lt k hk).1)).setCell (p := ⟨b, 2, none⟩) (Nat.le_refl _) _
  have hK : KeptO b w (w2.setCell ⟨b, 2, none⟩ (.slice ao n' cap)) := by
    intro k c t f h1 h2 h3
    rw [Below.heap_setCell _ _ _ _ h1]
    have h4 : w1.heap[k]? = some (.cells c t f) := (hk1 k h1).trans h3
    rw [hgrow.block k (lt_of_block h4) ?_]
    · exact h4
    · intro e
      rcases hown.2 with ⟨rfl, _⟩ | ⟨g, cap', cur, fz, rfl, _, hg, _⟩
      · simp [Value.ownBlock] at e
      · simp only [Value.ownBlock, Option.some.injEq] at e
        subst e
        rw [hg] at h4
        simp only [Option.some.injEq, Obj.cells.injEq] at h4
        exact h2 h4.2.1.symm
  clear hown hown' hown2 hgrow hnil h0 hne hne2 hk1 hb1
  go_wp2
  go_ret2
  exact ⟨rfl, hB, hD, hK⟩

theorem heap_freeze (w : World) (g n b : Nat) (h : g ≠ b) : (w.freeze ⟨g, 0, none⟩ n).heap[b]? = w.heap[b]? := by
  unfold World.freeze
  split
  · rfl
  · simp [Array.getElem?_modify, h]

set_option maxHeartbeats 1000000 in
set_option maxRecDepth 100000 in
/-- String. -/
theorem bstr_c (b : Nat) (e0 : Int) (l : List UInt8) (w : World) (h : Bld b e0 l w) :
    Calls Tryz.prog 10 #[.pointer (some ⟨b, 1, none⟩)] w fun e w' => e = .returned (.string ⟨l.toArray⟩) ∧ w'.heap[b]? = w.heap[b]? ∧ Below b w w' := by
  obtain ⟨p, v, hp, hbk, hown, h00⟩ := h
  by_cases h0 : l = []
  · subst h0
    obtain rfl := h00.2 rfl
    have c1 : w.drew.cell? ⟨b, 2, none⟩ = some (.slice none 0 0) := cell_of_block (w := w.drew) hbk rfl
    have c1' : w.cell? ⟨b, 2, none⟩ = some (.slice none 0 0) := cell_of_block hbk rfl
    have hSD : ∀ U : World, (Builtin.unsafeSliceData_ #[42] 60 #[.slice none 0 0]).run Tryz.prog U = .ok (.pointer none) U := fun U => Lib.run_unsafeSliceData_nil _ _ _ _ _
    have hUS : ∀ U : World, (Builtin.unsafeString_ #[60, 3] 9 #[.pointer none, .int .i64 0]).run Tryz.prog U = .ok (.string .empty) U := fun U => Lib.run_unsafeString_none _ _ _ _ _
    go_enter Tryz.func10, Tryz.ntmps10
    go_wp2
    go_region
    all_goals (go_wp2; go_ret; exact ⟨rfl, rfl, (Below.refl _ w).drew⟩)
  have hl0 : l.length ≠ 0 := by simpa using h0
  have hne := own_ne hown hbk
  obtain ⟨g, cap, cur, fz, rfl, hbg, hg, hfz, hnc, hcm, hcs, htake⟩ : ∃ g cap cur fz, v = .slice (some ⟨g, 0, none⟩) l.length cap ∧ b ≤ g ∧ w.heap[g]? = some (.cells cur 5 fz) ∧ fz.2 ≤ l.length * 1 ∧ l.length ≤ cap ∧ cap ≤ maxLen ∧ cur.size = cap * 1 ∧ cur.toList.take (l.length * 1) = Lib.byteCells l := by
    rcases hown.2 with ⟨_, hz⟩ | ⟨g, cap, cur, fz, hv, r⟩
    · exact absurd hz hl0
    · exact ⟨g, cap, cur, fz, hv, r⟩
  have hgb : g ≠ b := fun e => hne (by simp [Value.ownBlock, e])
  have c1 : w.drew.cell? ⟨b, 2, none⟩ = some (.slice (some ⟨g, 0, none⟩) l.length cap) := by
    have : w.drew.heap[b]? = some (.cells #[.int .i64 e0, p, .slice (some ⟨g, 0, none⟩) l.length cap] 46 (0, 0)) := hbk
    rw [Lib.cell_of_heap this]; rfl
  have hSD : (Builtin.unsafeSliceData_ #[42] 60 #[.slice (some ⟨g, 0, none⟩) l.length cap]).run Tryz.prog w.drew = .ok (.pointer (some ⟨g, 0, none⟩)) w.drew :=
    Lib.run_unsafeSliceData_row _ _ _ _ _ _ (by omega)
  obtain ⟨i0, hi, hz0, hz1, hz2⟩ := info_parts info_u8
  have hUS : (Builtin.unsafeString_ #[60, 3] 9 #[.pointer (some ⟨g, 0, none⟩), .int .i64 l.length]).run Tryz.prog w.drew = .ok (.string ⟨l.toArray⟩) (w.drew.freeze ⟨g, 0, none⟩ l.length) := by
    refine Lib.run_unsafeString_row w.drew 60 3 9 5 Tryz.underlying60 (by simp [Program.cellsOf, hi, hz1]) g cur.size (by have hg' : w.drew.heap[g]? = some (.cells cur 5 fz) := hg; simp [World.shape?, hg']) l h0 (by omega) (by unfold maxLen at hcm; omega) ?_
    intro j x hx
    exact hown.cells (g := g) rfl j (.int .u8 x.toNat) (by simp [Lib.byteCells, hx])
  have hk := Lib.hid (show (w.drew.freeze ⟨g, 0, none⟩ l.length).heap[b]? = w.heap[b]? from heap_freeze w.drew g l.length b hgb)
  clear h00 hown hne
  go_enter Tryz.func10, Tryz.ntmps10
  go_wp2
  go_region
  all_goals (go_wp2; go_ret; exact ⟨rfl, hk.out, Lib.below_freeze (Below.drew (Below.refl b w)) (p := ⟨g, 0, none⟩) hbg _⟩)

end Go.Proofs.YtniahpbjfpmmhaaGreat.Wm
