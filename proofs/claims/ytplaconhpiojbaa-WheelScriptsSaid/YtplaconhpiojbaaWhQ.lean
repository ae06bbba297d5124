/-
  The wheel's laws: Due at a wheel that was armed from a list of times; what is due in two parts.
-/
import Derived.Test.YtplaconhpiojbaaWhP
namespace Go.Proofs.Ytplaconhpiojbaa
open Go Go.Maps Go.WideMaps
open Go.RowKit
set_option linter.unusedVariables false
set_option linter.unusedSimpArgs false

def kNum (x : T3) : Int := match x.1 with
  | .int _ n => n
  | _ => 0

theorem stL_turn (A : List Int) : ∀ k, ∀ x ∈ stL A k, ∀ y ∈ stL A k, x.2.2 = y.2.2 → x = y
  | 0, x, hx, _, _, _ => by simp [stL] at hx
  | k + 1, x, hx, y, hy, e => by
    have hm := stL_mem A k
    unfold stL at hx hy
    split at hx
    · next h0 =>
      rw [if_pos h0] at hy
      rcases List.mem_append.1 hx with hx | hx
      · rcases List.mem_append.1 hy with hy | hy
        · exact stL_turn A k x hx y hy e
        · simp at hy
          obtain ⟨_, _, _, _, _, _, h⟩ := hm x hx
          rw [hy] at e
          simp at e
          omega
      · rcases List.mem_append.1 hy with hy | hy
        · simp at hx
          obtain ⟨_, _, _, _, _, _, h⟩ := hm y hy
          rw [hx] at e
          simp at e
          omega
        · simp at hx hy
          rw [hx, hy]
    · next h0 =>
      rw [if_neg h0] at hy
      exact stL_turn A k x hx y hy e

/-- Lists in which each key is a number, each turn of one timer alone. -/
def GoodL (L : List T3) : Prop := (∀ x ∈ L, x.1.value = .int .i64 (kNum x)) ∧ ∀ x ∈ L, ∀ y ∈ L, x.2.2 = y.2.2 → x = y

theorem good_stL (A : List Int) (k : Nat) : GoodL (stL A k) := by
  refine ⟨fun x hx => ?_, stL_turn A k⟩
  obtain ⟨j, _, e, _⟩ := stL_mem A k x hx
  unfold kNum
  rw [e]
  rfl

theorem GoodL.sub {L M : List T3} (h : GoodL L) (hs : ∀ x ∈ M, x ∈ L) : GoodL M := ⟨fun x hx => h.1 x (hs x hx), fun x hx y hy e => h.2 x (hs x hx) y (hs y hy) e⟩

theorem keys_int {D : List T3} (h : ∀ x ∈ D, x.1.value = .int .i64 (kNum x)) : D.map (fun x => x.1.value) = (D.map kNum).map (Value.int .i64) := by
  rw [List.map_map]
  exact List.map_congr_left (fun x hx => h x hx)

theorem ints_tw {w w' : World} {p mb : Nat} {room armed : Int} {L : List T3} {v : Value} {l : List Int} (h : IntsAt w v l) (H : HasI w p mb room armed L) (hne : ∀ g, v.ownBlock = some g → g ≠ p) (k : Tw w w' p mb) : IntsAt w' v l := by
  obtain ⟨q, cap, b, off, e, hp, hc⟩ := h
  refine ⟨q, cap, b, off, e, hp, fun j x hj => ?_⟩
  have c0 := hc j x hj
  have hl : l ≠ [] := by rintro rfl; simp at hj
  have g1 : b ≠ p := hne b (by rw [e, hp hl]; rfl)
  have g2 : b ≠ mb := by
    intro e4
    obtain ⟨_, l0, _, es, clock, h5, _⟩ := H
    rw [e4] at c0
    simp [World.cell?, h5] at c0
  exact (World.cell?_of_block (a := ⟨b, off + j, none⟩) (k.block b (icell_lt c0) g1 g2)).trans c0

/-- Due, in a law. -/
theorem dueI_law {w : World} {p m : Nat} {arm : Int} {L : List T3} (h : HasI w p m 60 arm L) (now : Int) (hl : L.length ≤ 60) (hg : GoodL L) :
    Calls Try.prog 20 #[.pointer (some ⟨p, 0, none⟩), .int .i64 now] w fun e w' => ∃ v D m', e = .returned v ∧ Hid ((dueL now L).Perm D) ∧ Hid (SortedT D) ∧ Hid (IntsAt w' v (D.map kNum)) ∧ Hid (∀ g, v.ownBlock = some g → w.heap.size ≤ g) ∧
      Hid (HasI w' p m' 60 arm (latL now L)) ∧ Hid (Tw w w' p m) ∧ Hid (m' = m ∨ w.heap.size ≤ m') := by
  refine (dueI_c h now (by omega)).mono ?_
  rintro e w' ⟨v, D, m', rfl, hp, hs, ho, hh, ht, hm⟩
  have hk := keys_int (D := D) (fun x hx => hg.1 x (List.mem_filter.1 (hp.mem_iff.2 hx)).1)
  rw [hk] at ho
  exact ⟨v, D, m', rfl, Lib.hid hp, Lib.hid hs, Lib.hid (IntsAt.of_owns ho), Lib.hid (fun g hg => (ho.lt g hg).1), Lib.hid hh, Lib.hid ht, Lib.hid hm⟩

theorem sorted_append {a b : List T3} {one : Int} (ha : SortedT a) (hb : SortedT b) (h1 : ∀ x ∈ a, x.2.1 ≤ one) (h2 : ∀ x ∈ b, one < x.2.1) : SortedT (a ++ b) := by
  unfold SortedT at *
  rw [List.pairwise_append]
  refine ⟨ha, hb, fun x hx y hy => ?_⟩
  have := h1 x hx
  have := h2 y hy
  unfold ltT
  omega

theorem parts_eq {L a b c : List T3} {one two : Int} (ho : one ≤ two) (hg : GoodL L) (pa : (dueL one L).Perm a) (sa : SortedT a) (pb : (dueL two (latL one L)).Perm b) (sb : SortedT b) (pc : (dueL two L).Perm c) (sc : SortedT c) : c = a ++ b := by
  have e1 : (dueL two L).filter (fun x => decide (x.2.1 ≤ one)) = dueL one L := by
    unfold dueL
    rw [List.filter_filter]
    refine List.filter_congr (fun x _ => ?_)
    by_cases h : x.2.1 ≤ one
    · simp [h, Int.le_trans h ho]
    · simp [h]
  have e2 : (dueL two L).filter (fun x => !decide (x.2.1 ≤ one)) = dueL two (latL one L) := by
    unfold dueL latL
    rw [List.filter_filter, List.filter_filter]
    refine List.filter_congr (fun x _ => ?_)
    rw [Bool.and_comm]
  have hp : (a ++ b).Perm (dueL two L) := by
    have := List.filter_append_perm (fun x : T3 => decide (x.2.1 ≤ one)) (dueL two L)
    rw [e1, e2] at this
    exact (pa.symm.append pb.symm).trans this
  have ha : ∀ x ∈ a, x.2.1 ≤ one := fun x hx => by simpa using (List.mem_filter.1 (pa.mem_iff.2 hx)).2
  have hb : ∀ x ∈ b, one < x.2.1 := fun x hx => by
    have := (List.mem_filter.1 (List.mem_filter.1 (pb.mem_iff.2 hx)).1).2
    simp at this
    exact this
  have hu := (hg.sub (M := a ++ b) (fun x hx => (List.mem_filter.1 (hp.mem_iff.1 hx)).1)).2
  exact sorted_one (hp.trans pc) (sorted_append sa sb ha hb) sc hu

theorem lat_lat {L : List T3} {one two : Int} (ho : one ≤ two) : latL two (latL one L) = latL two L := by
  unfold latL
  rw [List.filter_filter]
  refine List.filter_congr (fun x _ => ?_)
  by_cases h : x.2.1 ≤ two
  · simp [h]
  · have : ¬ x.2.1 ≤ one := by omega
    simp [h, this]

/-- One arming of the list's. -/
theorem armI_all {w : World} {p mb k : Nat} {A : List Int} {a : Int} (h : HasI w p mb 60 (stL A k).length (stL A k)) (hk : k < 60) (ha : A[k]? = some a) :
    Calls Try.prog 19 #[.pointer (some ⟨p, 0, none⟩), .int .i64 k, .int .i64 a] w fun e w' => ∃ n, e = .returned (.int .i64 n) ∧ HasI w' p mb 60 (stL A (k + 1)).length (stL A (k + 1)) ∧ Tw w w' p mb := by
  by_cases h0 : 0 ≤ a
  · exact (armI_pos h hk ha h0).mono (fun e w' h => ⟨0, h⟩)
  · exact (armI_min h ha (by omega)).mono (fun e w' h => ⟨1, h⟩)

end Go.Proofs.Ytplaconhpiojbaa
