/-
  filter.Norm: its list may be written over. Contracts over the translated program.
-/
import Derived.Test.YthpafojeadbjlaaFlD
namespace Go.Proofs.Ythpafojeadbjlaa
open Go.RowKit Go.Sort
set_option linter.unusedVariables false
set_option linter.unusedSimpArgs false

/-- The block of a list may be written over. -/
def FreeR (w : World) (v : Value) (l : List ByteArray) : Prop := l ≠ [] → ∃ b off c cs, v = .slice (some ⟨b, off, none⟩) l.length c ∧ w.heap[b]? = some (.cells cs 35 (0, 0))
def CoPost2 (B : Nat) (l : List ByteArray) (w : World) (e : Ending) (w' : World) : Prop := ∃ v, e = .returned v ∧ AddrsG B true w' v l ∧ Below B w w' ∧ CapOk v l ∧ FreeR w' v l
theorem compact2_c (B : Nat) (v : Value) (l : List ByteArray) (w : World) (hB : B ≤ w.heap.size) (hl : l.length ≤ 1000000) (ho : OwnS B w v l) :
    Calls Try.prog 70 #[v] w (CoPost2 B (toB (Lib.compact (toL l))) w) := by
  obtain ⟨p, cap, rfl, ho⟩ := ho
  rcases ho with rfl | ⟨g, cur, rfl, hg, hb, h1, h2, h3, h4⟩
  · refine (AnyG.slices_Compact_string_empty lay_laysCompact p cap w).mono fun e w' h => ⟨_, h.1, ?_, by rw [h.2]; exact Below.refl _ _, ⟨p, cap, rfl, Nat.zero_le _⟩, fun h => absurd rfl h⟩
    have : toB (Lib.compact (toL ([] : List ByteArray))) = [] := rfl
    rw [this]
    exact AddrsG.empty _ _ _ _ _
  · have hH : Holds encStr w g 0 (toL l).toArray := holds_of_block hb (by rw [toL_len, enc_toL]; exact h4)
    have hlt : g < w.heap.size := (Array.getElem?_eq_some_iff.1 hb).1
    have hc := AnyG.slices_Compact_string lay_laysCompact g 0 cap (toL l) w hH (by rw [toL_len]; omega) (by rw [toL_len]; omega)
    have hk := compact_le (toL l)
    rw [toL_len] at hc hk
    refine hc.mono fun e w' h => ?_
    obtain ⟨he, q, rfl⟩ := h
    have hlen : (Lib.compact (toL l) ++ List.replicate (l.length - (Lib.compact (toL l)).length) []).length = l.length := by simp; omega
    have hh := heap_sorted (w := w) (g := g) (n := q) (os := #[]) (Lib.compact (toL l) ++ List.replicate (l.length - (Lib.compact (toL l)).length) []).toArray hb
    have hgr := grownBy_sorted (w := w) (g := g) (n := q) (os := #[]) (Lib.compact (toL l) ++ List.replicate (l.length - (Lib.compact (toL l)).length) []).toArray
    rw [grow_empty] at hh hgr
    generalize hX : Lib.compact (toL l) ++ List.replicate (l.length - (Lib.compact (toL l)).length) [] = X at hlen hh hgr ⊢
    refine ⟨_, he, ⟨_, cap, g, 0, by rw [toB_len], fun _ => ⟨rfl, hg, fun _ => ⟨_, _, hh⟩⟩, fun j s hj => ?_⟩, (Below.refl _ _).grown hgr hB (fun k hk => by cases hk; exact hg), ⟨_, cap, by rw [toB_len], by rw [toB_len]; omega⟩, fun _ => ⟨g, 0, cap, _, by rw [toB_len], hh⟩⟩
    have ht := take_putCells cur X (by rw [hlen]; omega)
    have hjl : j < (Lib.compact (toL l)).length := by
      have := (List.getElem?_eq_some_iff.1 hj).1
      rwa [toB_len] at this
    have e1 : ((putCells encStr 0 X.toArray cur).toList.take X.length)[j]? = some (Value.string s) := by
      rw [ht, ← hX, List.map_append, List.getElem?_append_left (by simpa using hjl), enc_toB, List.getElem?_map, hj]
      rfl
    rw [List.getElem?_take_of_lt (by omega), Array.getElem?_toList] at e1
    rw [Nat.zero_add]
    exact cell_of_block hh e1


def LPost2 (l : List ByteArray) (w : World) (e : Ending) (w' : World) : Prop := ∃ v, e = .returned v ∧ AddrsG w.heap.size true w' v l ∧ Below w.heap.size w w' ∧ CapOk v l ∧ FreeR w' v l

set_option maxHeartbeats 1000000 in
set_option maxRecDepth 100000 in
theorem rising2_c (v : Value) (l : List ByteArray) (w : World) (hl : l.length ≤ 1000000) (ha : AddrsAt w v l) :
    Calls Try.prog 48 #[v] w (LPost2 (ris l) w) := by
  have H1 := Lib.hid (clone_c v l w hl ha)
  have H2 := Lib.hid fun v1 U (hB : w.heap.size ≤ U.heap.size) h => sort_c w.heap.size v1 l U hB hl h
  have H3 := Lib.hid fun v1 U (hB : w.heap.size ≤ U.heap.size) h => compact2_c w.heap.size v1 (toB (srt l)) U hB (by rw [toB_len, srt_len]; exact hl) h
  rw [toL_toB, ris_eq] at H3
  have hsl : (toB (srt l)).length = l.length := by rw [toB_len, srt_len]
  generalize toB (srt l) = sl at H2 H3 hsl
  generalize ris l = rl at H3 ⊢
  obtain ⟨p, cp, rfl⟩ := ha.slice
  unfold LPost2
  unfold ClPost at H1
  unfold SoPost at H2
  unfold CoPost2 at H3
  clear ha hl
  go_enter Try.func48, Try.ntmps48
  go_wp2_with fail
  ((with_reducible refine H1.out.mono ?_); rintro e w1 ⟨v1, rfl, o1, h1⟩)
  have O1 := Lib.hid o1
  have K1 := Lib.hid h1
  obtain ⟨p1, c1, rfl⟩ := o1.slice
  have hs1 := h1.size
  clear o1 h1
  go_wp2_with fail
  ((with_reducible refine (H2.out _ _ hs1 O1.out).mono ?_); rintro e w2 ⟨rfl, o2, h2⟩)
  have O2 := Lib.hid o2
  have K2 := Lib.hid (K1.out.trans h2)
  have hs2 := K2.out.size
  clear o2 h2 hs1
  go_wp2_with fail
  ((with_reducible refine (H3.out _ _ hs2 O2.out).mono ?_); rintro e w3 ⟨v3, rfl, a3, h3, k3, f3⟩)
  have A3 := Lib.hid a3
  have C3 := Lib.hid k3
  have F3 := Lib.hid f3
  clear k3 f3
  have K3 := Lib.hid (K2.out.trans h3)
  clear a3 h3 hs2
  go_wp2_with fail
  go_ret
  exact ⟨v3, rfl, A3.out, K3.out, C3.out, F3.out⟩


def FPost2 (f : Fl) (w : World) (e : Ending) (w' : World) : Prop := ∃ v, e = .returned (.agg #[.bool f.ex, v]) ∧ AddrsG w.heap.size true w' v f.src ∧ Below w.heap.size w w' ∧ FreeR w' v f.src

set_option maxHeartbeats 4000000 in
set_option maxRecDepth 100000 in
theorem norm2_c (ex : Bool) (vs : Value) (l : List ByteArray) (w : World) (hl : l.length ≤ 1000000) (ha : AddrsAt w vs l) :
    Calls Try.prog 27 #[.agg #[.bool ex, vs]] w (FPost2 (normF ⟨ex, l⟩) w) := by
  have HA := Lib.hid ha
  obtain ⟨p, cp, rfl⟩ := ha.slice
  have B := Lib.hid (KS.start w #[.bool ex, .slice p l.length cp] #[.bool false, .slice none 0 0] 28)
  have HR := Lib.hid fun U (hU : Below w.heap.size w U) => rising2_c _ l U hl (HA.out.below hU)
  unfold FPost2 normF
  simp only
  generalize ris l = rl at HR ⊢
  unfold LPost2 at HR
  generalize l.length = n at *
  clear ha hl
  go_enter Try.func27, Try.ntmps27
  go_wp2_with fail
  generalize (w.alloc (.cells #[.bool ex, .slice p n cp] 28)).alloc (.cells #[.bool false, .slice none 0 0] 28) = W at B ⊢
  have HRa := Lib.hid (HR.out _ B.out.bel)
  have HRb := Lib.hid (HR.out _ B.out.bel.drew)
  have KF := Lib.hid fun (U : World) (k : KQ w U #[.bool ex, .slice p n cp] 28) => (⟨k.cell0 0 rfl, k.cell0 1 rfl⟩ : U.cell? ⟨w.heap.size, 0, none⟩ = some (.bool ex) ∧ U.cell? ⟨w.heap.size, 1, none⟩ = some (.slice p n cp))
  have k0 := B.out.kq
  obtain ⟨x0, x1⟩ := KF.out W k0
  clear HR HA HRa
  go_region_held3 (fun U => U.cell? ⟨w.heap.size, 0, none⟩ = some (.bool ex) ∧ U.cell? ⟨w.heap.size, 1, none⟩ = some (.slice p n cp))
    (first
      | with_reducible exact KF.out _ ((k3.set _ _).set _ _)
      | with_reducible exact KF.out _ (k3.drew.set _ _ |>.set _ _)
      | with_reducible exact KF.out _ k3
      | with_reducible exact KF.out _ k3.drew
      | with_reducible exact KF.out _ k0
      | with_reducible exact KF.out _ k0.drew)
    (first | (go_at_call 48; (with_reducible refine HRb.out.mono ?_); rintro e w3 ⟨v3, rfl, a3, h3, -, f3⟩; have B3 := Lib.hid (show KS w w3 #[.bool ex, .slice p n cp] #[.bool false, .slice none 0 0] 28 from KS.below B.out.drew h3); have A3 := Lib.hid a3; have F3 := Lib.hid f3; have k3 := B3.out.kq; obtain ⟨p3, c3, rfl⟩ := a3.slice; have y0 := B3.out.cell1 0 rfl; have y1 := B3.out.cell1 1 rfl; have fr := (fun j => B3.out.free1 j); have hz := B3.out.lt; clear a3 h3 f3))
  all_goals
    go_wp2_with fail
    refine bodyPost_ret (v := .agg #[.bool ex, .slice p3 rl.length c3]) (by simp [results, Try.results27, go_sem, y0, y1]) rfl ⟨_, rfl, ?_, ?_, ?_⟩
    · exact (((A3.out.mono (B' := w.heap.size + 1 + 1) B.out.drew.lt id).store (c := w.heap.size + 1) (by omega)).store (c := w.heap.size + 1) (by omega)).mono (by omega) id
    · exact (B3.out.bel.setCell (p := ⟨w.heap.size + 1, 0, none⟩) (Nat.le_succ _) _).setCell (p := ⟨w.heap.size + 1, 1, none⟩) (Nat.le_succ _) _
    · intro hne
      obtain ⟨b, o, c', cs, hv, hb⟩ := F3.out hne
      obtain ⟨q9, cap9, b9, o9, hv9, hp9, -⟩ := A3.out
      have hlt : w.heap.size + 1 < b := by
        obtain ⟨e1, e2, -⟩ := hp9 hne
        rw [hv9] at hv
        simp only [Value.slice.injEq] at hv
        rw [hv.1] at e1
        simp only [Option.some.injEq, Addr.mk.injEq, and_true] at e1
        have := B.out.drew.lt
        omega
      exact ⟨b, o, c', cs, hv, heap_store_other (heap_store_other hb (by omega)) (by omega)⟩

end Go.Proofs.Ythpafojeadbjlaa
