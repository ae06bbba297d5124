/-
  Filters: filter.rising. A contract over the translated program.
-/
import Derived.Test.YthpafojeadbjlaaFlT
import Derived.Test.YthpafojeadbjlaaFlSh
import Derived.Test.YthpafojeadbjlaaTst
import Derived.Sort.OwnSorted
namespace Go.Proofs.Ythpafojeadbjlaa
open Go.RowKit Go.Sort
set_option linter.unusedVariables false

/-- A list of texts that the call owns, in a row from B on. -/
def OwnS (B : Nat) (w : World) (v : Value) (l : List ByteArray) : Prop :=
  ∃ p cap, v = .slice p l.length cap ∧ (l = [] ∨ ∃ g cur, p = some ⟨g, 0, none⟩ ∧ B ≤ g ∧ w.heap[g]? = some (.cells cur 35 (0, 0)) ∧ l.length ≤ cap ∧ cap ≤ maxLen ∧ cur.size = cap * 1 ∧ cur.toList.take l.length = l.map Value.string)
theorem OwnS.slice {B : Nat} {w : World} {v : Value} {l : List ByteArray} (h : OwnS B w v l) : ∃ p cap, v = .slice p l.length cap := by
  obtain ⟨p, cap, hv, _⟩ := h
  exact ⟨p, cap, hv⟩
theorem OwnS.of_owns {B n : Nat} {w : World} {v : Value} {l : List ByteArray} (h : w.ownsRow B 35 1 v n (l.map Value.string)) : OwnS B w v l := by
  have hn : l.length = n := by have := h.1; simpa using this
  rcases h.2 with ⟨rfl, h0⟩ | ⟨g, cap, cur, rfl, hb, hg, h1, h2, h3, h4⟩
  · have : l = [] := List.eq_nil_of_length_eq_zero (by omega)
    subst this
    exact ⟨none, 0, rfl, .inl rfl⟩
  · subst hn
    exact ⟨_, cap, rfl, .inr ⟨g, cur, rfl, hb, hg, h1, h2, h3, by simpa using h4⟩⟩
theorem AddrsG.empty (B : Nat) (ty : Bool) (w : World) (p : Option Addr) (c : Nat) : AddrsG B ty w (.slice p 0 c) [] := ⟨p, c, 0, 0, rfl, fun h => absurd rfl h, fun j s hj => by simp at hj⟩

def ClPost (l : List ByteArray) (w : World) (e : Ending) (w' : World) : Prop := ∃ v, e = .returned v ∧ OwnS w.heap.size w' v l ∧ Below w.heap.size w w'
theorem clone_c (v : Value) (l : List ByteArray) (w : World) (hl : l.length ≤ 1000000) (ha : AddrsAt w v l) :
    Calls Try.prog 67 #[v] w (ClPost l w) := by
  obtain ⟨p, cap, b, off, rfl, hp, hc⟩ := ha
  rcases p with _ | ad
  · have h0 : l = [] := by
      rcases l with _ | ⟨y, ys⟩
      · rfl
      · exact absurd (hp (by simp)).1 (by simp)
    subst h0
    exact (AnyG.slices_Clone_string_nil lay_laysClone 0 cap w).mono fun e w' h => ⟨_, h.1, ⟨none, 0, rfl, .inl rfl⟩, by rw [h.2]; exact Below.refl _ _⟩
  · by_cases h0 : l = []
    · subst h0
      refine (AnyG.slices_Clone_string_zero lay_laysClone ad cap w).mono fun e w' h => ?_
      obtain ⟨v', h1, h2, -, h4⟩ := h
      exact ⟨v', h1, OwnS.of_owns h2, h4⟩
    · obtain rfl : ad = ⟨b, off, none⟩ := by have := (hp h0).1; simpa using this
      refine (AnyG.slices_Clone_string lay_laysClone b off l.length cap l w (Nat.le_refl _) (by omega) (fun j hj => ?_)).mono fun e w' h => ?_
      · rw [hc j _ (List.getElem?_eq_getElem hj)]
        simp [List.getD, hj]
      · obtain ⟨v', h1, h2, -, h4⟩ := h
        rw [List.take_length] at h2
        exact ⟨v', h1, OwnS.of_owns h2, h4⟩

def SoPost (B : Nat) (v : Value) (l : List ByteArray) (w : World) (e : Ending) (w' : World) : Prop := e = .returned (.tuple #[]) ∧ OwnS B w' v l ∧ Below B w w'
theorem sort_c (B : Nat) (v : Value) (l : List ByteArray) (w : World) (hB : B ≤ w.heap.size) (hl : l.length ≤ 1000000) (ho : OwnS B w v l) :
    Calls Try.prog 69 #[v] w (SoPost B v (toB (srt l)) w) := by
  obtain ⟨p, cap, rfl, ho⟩ := ho
  have hsl : (toB (srt l)).length = l.length := by rw [toB_len, srt_len]
  rcases ho with rfl | ⟨g, cur, rfl, hg, hb, h1, h2, h3, h4⟩
  · refine (AnyG.slices_Sort_string_none lay_laysSort p cap w).mono fun e w' h => ⟨h.1, ?_, by rw [h.2]; exact Below.refl _ _⟩
    have : toB (srt ([] : List ByteArray)) = [] := List.eq_nil_of_length_eq_zero hsl
    rw [this]
    exact ⟨p, cap, rfl, .inl rfl⟩
  · have hH : Holds encStr w g 0 (toL l).toArray := holds_of_block hb (by rw [toL_len, enc_toL]; exact h4)
    have hlt : g < w.heap.size := (Array.getElem?_eq_some_iff.1 hb).1
    have hc := AnyG.slices_Sort_string lay_laysSort g 0 cap (toL l) w hH hlt (by rw [toL_len]; omega)
    rw [toL_len] at hc
    refine hc.mono fun e w' h => ?_
    obtain ⟨he, n, os, rfl⟩ := h
    refine ⟨he, ⟨_, cap, by rw [hsl], .inr ⟨g, _, rfl, hg, heap_sorted _ hb, by rw [hsl]; exact h1, h2, by simp [putCells, h3], ?_⟩⟩, (Below.refl _ _).grown (grownBy_sorted _) hB (fun k hk => by cases hk; exact hg)⟩
    rw [toB_len, ← enc_toB]
    exact take_putCells cur (srt l) (by rw [srt_len]; omega)

/-- A slice that has room for its list. -/
def CapOk (v : Value) (l : List ByteArray) : Prop := ∃ p c, v = .slice p l.length c ∧ l.length ≤ c
def CoPost (B : Nat) (l : List ByteArray) (w : World) (e : Ending) (w' : World) : Prop := ∃ v, e = .returned v ∧ AddrsG B true w' v l ∧ Below B w w' ∧ CapOk v l
theorem compact_c (B : Nat) (v : Value) (l : List ByteArray) (w : World) (hB : B ≤ w.heap.size) (hl : l.length ≤ 1000000) (ho : OwnS B w v l) :
    Calls Try.prog 70 #[v] w (CoPost B (toB (Lib.compact (toL l))) w) := by
  obtain ⟨p, cap, rfl, ho⟩ := ho
  rcases ho with rfl | ⟨g, cur, rfl, hg, hb, h1, h2, h3, h4⟩
  · refine (AnyG.slices_Compact_string_empty lay_laysCompact p cap w).mono fun e w' h => ⟨_, h.1, ?_, by rw [h.2]; exact Below.refl _ _, ⟨p, cap, rfl, Nat.zero_le _⟩⟩
    have : toB (Lib.compact (toL ([] : List ByteArray))) = [] := rfl
    rw [this]
    exact AddrsG.empty _ _ _ _ _
  · have hH : Holds encStr w g 0 (toL l).toArray := holds_of_block hb (by rw [toL_len, enc_toL]; exact h4)
    have hlt : g < w.heap.size := (Array.getElem?_eq_some_iff.1 hb).1
    have hc := AnyG.slices_Compact_string lay_laysCompact g 0 cap (toL l) w hH (by rw [toL_len]; omega) (by rw [toL_len]; omega)
    have hk := compact_le (toL l)
    rw [toL_len] at hc hk
    refine hc.mono fun e w' h => ?_
    obtain ⟨he, q, rfl⟩ := h
    have hlen : (Lib.compact (toL l) ++ List.replicate (l.length - (Lib.compact (toL l)).length) []).length = l.length := by simp; omega
    have hh := heap_sorted (w := w) (g := g) (n := q) (os := #[]) (Lib.compact (toL l) ++ List.replicate (l.length - (Lib.compact (toL l)).length) []).toArray hb
    have hgr := grownBy_sorted (w := w) (g := g) (n := q) (os := #[]) (Lib.compact (toL l) ++ List.replicate (l.length - (Lib.compact (toL l)).length) []).toArray
    rw [grow_empty] at hh hgr
    generalize hX : Lib.compact (toL l) ++ List.replicate (l.length - (Lib.compact (toL l)).length) [] = X at hlen hh hgr ⊢
    refine ⟨_, he, ⟨_, cap, g, 0, by rw [toB_len], fun _ => ⟨rfl, hg, fun _ => ⟨_, _, hh⟩⟩, fun j s hj => ?_⟩, (Below.refl _ _).grown hgr hB (fun k hk => by cases hk; exact hg), ⟨_, cap, by rw [toB_len], by rw [toB_len]; omega⟩⟩
    have ht := take_putCells cur X (by rw [hlen]; omega)
    have hjl : j < (Lib.compact (toL l)).length := by
      have := (List.getElem?_eq_some_iff.1 hj).1
      rwa [toB_len] at this
    have e1 : ((putCells encStr 0 X.toArray cur).toList.take X.length)[j]? = some (Value.string s) := by
      rw [ht, ← hX, List.map_append, List.getElem?_append_left (by simpa using hjl), enc_toB, List.getElem?_map, hj]
      rfl
    rw [List.getElem?_take_of_lt (by omega), Array.getElem?_toList] at e1
    rw [Nat.zero_add]
    exact cell_of_block hh e1

/-- What makes a list of texts answers. -/
def LPost (l : List ByteArray) (w : World) (e : Ending) (w' : World) : Prop := ∃ v, e = .returned v ∧ AddrsG w.heap.size true w' v l ∧ Below w.heap.size w w' ∧ CapOk v l

set_option maxHeartbeats 1000000 in
set_option maxRecDepth 100000 in
theorem rising_c (v : Value) (l : List ByteArray) (w : World) (hl : l.length ≤ 1000000) (ha : AddrsAt w v l) :
    Calls Try.prog 48 #[v] w (LPost (ris l) w) := by
  have H1 := Lib.hid (clone_c v l w hl ha)
  have H2 := Lib.hid fun v1 U (hB : w.heap.size ≤ U.heap.size) h => sort_c w.heap.size v1 l U hB hl h
  have H3 := Lib.hid fun v1 U (hB : w.heap.size ≤ U.heap.size) h => compact_c w.heap.size v1 (toB (srt l)) U hB (by rw [toB_len, srt_len]; exact hl) h
  rw [toL_toB, ris_eq] at H3
  have hsl : (toB (srt l)).length = l.length := by rw [toB_len, srt_len]
  generalize toB (srt l) = sl at H2 H3 hsl
  generalize ris l = rl at H3 ⊢
  obtain ⟨p, cp, rfl⟩ := ha.slice
  unfold LPost
  unfold ClPost at H1
  unfold SoPost at H2
  unfold CoPost at H3
  clear ha hl
  go_enter Try.func48, Try.ntmps48
  go_wp2_with fail
  ((with_reducible refine H1.out.mono ?_); rintro e w1 ⟨v1, rfl, o1, h1⟩)
  have O1 := Lib.hid o1
  have K1 := Lib.hid h1
  obtain ⟨p1, c1, rfl⟩ := o1.slice
  have hs1 := h1.size
  clear o1 h1
  go_wp2_with fail
  ((with_reducible refine (H2.out _ _ hs1 O1.out).mono ?_); rintro e w2 ⟨rfl, o2, h2⟩)
  have O2 := Lib.hid o2
  have K2 := Lib.hid (K1.out.trans h2)
  have hs2 := K2.out.size
  clear o2 h2 hs1
  go_wp2_with fail
  ((with_reducible refine (H3.out _ _ hs2 O2.out).mono ?_); rintro e w3 ⟨v3, rfl, a3, h3, k3⟩)
  have A3 := Lib.hid a3
  have C3 := Lib.hid k3
  clear k3
  have K3 := Lib.hid (K2.out.trans h3)
  clear a3 h3 hs2
  go_wp2_with fail
  go_ret
  exact ⟨v3, rfl, A3.out, K3.out, C3.out⟩

end Go.Proofs.Ythpafojeadbjlaa
