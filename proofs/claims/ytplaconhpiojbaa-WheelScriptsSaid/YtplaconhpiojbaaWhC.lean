/-
  The wheel at keys of type string: Next, split. Contracts over the translated program.
-/
import Derived.Test.YtplaconhpiojbaaWhA
namespace Go.Proofs.Ytplaconhpiojbaa
open Go Go.Maps Go.WideMaps
open Go.RowKit
set_option linter.unusedVariables false
set_option linter.unusedSimpArgs false

/-- f is the least time of D, where D has any. -/
def Best (D : List T3) (f : Int) (hb : Bool) : Prop := (hb = false ∧ f = 0 ∧ D = []) ∨ (hb = true ∧ (∃ x ∈ D, x.2.1 = f) ∧ ∀ x ∈ D, f ≤ x.2.1)

theorem best_nil : Best [] 0 false := Or.inl ⟨rfl, rfl, rfl⟩
theorem best_perm {D L : List T3} {f : Int} {hb : Bool} (hp : L.Perm D) (h : Best D f hb) : Best L f hb := by
  rcases h with ⟨h1, h2, h3⟩ | ⟨h1, ⟨x, hx, hf⟩, h3⟩
  · subst h3
    exact Or.inl ⟨h1, h2, hp.eq_nil⟩
  · exact Or.inr ⟨h1, ⟨x, hp.mem_iff.2 hx, hf⟩, fun y hy => h3 y (hp.mem_iff.1 hy)⟩
theorem best_first {D : List T3} {f : Int} {x : T3} (h : Best D f false) : Best (D ++ [x]) x.2.1 true := by
  rcases h with ⟨_, _, h3⟩ | ⟨h1, _⟩
  · subst h3
    exact Or.inr ⟨rfl, ⟨x, by simp, rfl⟩, fun y hy => by simp at hy; rw [hy]; exact Int.le_refl _⟩
  · cases h1
theorem best_less {D : List T3} {f : Int} {x : T3} (h : Best D f true) (hq : x.2.1 < f) : Best (D ++ [x]) x.2.1 true := by
  rcases h with ⟨h1, _⟩ | ⟨_, _, h3⟩
  · cases h1
  · refine Or.inr ⟨rfl, ⟨x, by simp, rfl⟩, fun y hy => ?_⟩
    rcases List.mem_append.1 hy with hy | hy
    · have := h3 y hy
      omega
    · simp at hy
      rw [hy]
      exact Int.le_refl _
theorem best_more {D : List T3} {f : Int} {x : T3} (h : Best D f true) (hq : f ≤ x.2.1) : Best (D ++ [x]) f true := by
  rcases h with ⟨h1, _⟩ | ⟨_, ⟨z, hz, hf⟩, h3⟩
  · cases h1
  · refine Or.inr ⟨rfl, ⟨z, by simp [hz], hf⟩, fun y hy => ?_⟩
    rcases List.mem_append.1 hy with hy | hy
    · exact h3 y hy
    · simp at hy
      rw [hy]
      exact hq
theorem best_one {D : List T3} {f g : Int} {a b : Bool} (h : Best D f a) (k : Best D g b) : f = g ∧ a = b := by
  rcases h with ⟨h1, h2, h3⟩ | ⟨h1, ⟨x, hx, hf⟩, h3⟩
  · subst h3
    rcases k with ⟨k1, k2, _⟩ | ⟨_, ⟨y, hy, _⟩, _⟩
    · exact ⟨h2.trans k2.symm, h1.trans k1.symm⟩
    · cases hy
  · rcases k with ⟨k1, k2, k3⟩ | ⟨k1, ⟨y, hy, hg⟩, k3⟩
    · subst k3; cases hx
    · have a1 := h3 y hy
      have a2 := k3 x hx
      exact ⟨by omega, h1.trans k1.symm⟩

theorem invS (key : Value) (kl : Lit) (h : keyOf Try.prog 9 key = some kl) : ∃ s, key = Value.string s := by
  obtain ⟨s, h1, _⟩ := string_of_keyOf und_KS h
  exact ⟨s, h1⟩

set_option maxHeartbeats 4000000 in
set_option maxRecDepth 100000 in
theorem nextS_c {w : World} {p mb : Nat} {room armed : Int} {L : List T3} (h : HasS w p mb room armed L) :
    Calls Try.prog 14 #[.pointer (some ⟨p, 0, none⟩)] w fun e w' => ∃ f hb, e = .returned (.tuple #[.int .i64 f, .bool hb]) ∧ Best L f hb ∧ Below w.heap.size w w' := by
  have c2 := h.c2
  have hm := Lib.hid h.2
  clear h
  go_enter Try.func14, Try.ntmps14
  go_wp2_with (first
    | (at_range; refine wpList_range_mp _ rfl _ 56 rfl 9 61 law_KS und_MS mb L rfl hm.out ?_; intro w0 hrg0 hg0 hs0)
    | go_in)
  go_frame
  have HG0 := Lib.hid (And.intro hrg0 hg0)
  clear hrg0 hg0 hs0
  go_loopw [4, 5, 7] (fun s4 s5 _ wr => ∃ f hb D S cnt, s4 = .int .i64 f ∧ s5 = .bool hb ∧ Hid (L.Perm (D ++ S)) ∧ Hid (Best D f hb) ∧ Hid (Rg wr Try.prog 9 mb w.heap.size L S cnt) ∧ Hid (Below w.heap.size w wr))
    (fun _ _ _ wr => wr.rangeLeft mb w.heap.size)
  case atStart => exact ⟨0, false, [], L, L.length, rfl, rfl, Lib.hid (List.Perm.refl _), Lib.hid best_nil, Lib.hid HG0.out.1, Lib.hid ((Below.refl _ w).grown HG0.out.2 (Nat.le_refl _) (fun j hj => by cases hj))⟩
  case round =>
    obtain ⟨f, hb, D, S, cnt, rfl, rfl, hP, hBe, hR, hB⟩ := hrel
    go_wp2_with (first
      | (at_next; refine wpList_next_mp _ rfl _ rfl 9 law_KS Value.string invS mb w.heap.size L S cnt rfl hR.out ?_ ?_)
      | go_in)
    · intro h0
      go_wp2
      go_ret2
      refine ⟨f, hb, rfl, ?_, hB.out⟩
      have := hP.out
      rw [h0, List.append_nil] at this
      exact best_perm this hBe.out
    · intro x p1 p2 kl S' w1 cnt1 hkey hpm hrg1 hlt hg1 hs1 hen
      have E1 := Lib.hid (And.intro hpm (And.intro hrg1 (And.intro hlt (And.intro hg1 hs1))))
      clear hkey hpm hrg1 hlt hg1 hs1
      have hB1 := Lib.hid (hB.out.grown E1.out.2.2.2.1 hB.out.size (fun j hj => by cases hj; exact Nat.le_refl _))
      have hR2 := fun o => Lib.hid (Rg.kept E1.out.2.1 (World.grownBy_alloc w1 o none) (by simp) (by simp))
      have hB2 := fun o => Lib.hid (hB1.out.alloc hB1.out.size o)
      have hPP := Lib.hid (show L.Perm ((D ++ [(kl, p1, p2)]) ++ S') by
        refine hP.out.trans ((List.Perm.append_left D E1.out.1).trans ?_)
        simp)
      cases hb with
      | false =>
        have hBe1 := Lib.hid (best_first (x := (kl, p1, p2)) hBe.out)
        clear hBe hP hB
        go_wp2
        go_roundw
        case rel => exact ⟨_, _, _, _, _, rfl, rfl, hPP, hBe1, hR2 _, hB2 _⟩
        case measure => rw [(hR2 _).out.left_eq, hR.out.left_eq]; exact E1.out.2.2.1
      | true =>
        by_cases hq : p1 < f
        · have hBe1 := Lib.hid (best_less (x := (kl, p1, p2)) hBe.out hq)
          have k1 : decide (p1 < f) = true := by simp; omega
          clear hBe hP hB
          go_wp2
          go_roundw
          case rel => exact ⟨_, _, _, _, _, rfl, rfl, hPP, hBe1, hR2 _, hB2 _⟩
          case measure => rw [(hR2 _).out.left_eq, hR.out.left_eq]; exact E1.out.2.2.1
        · have hBe1 := Lib.hid (best_more (x := (kl, p1, p2)) hBe.out (by simpa using hq))
          have k1 : decide (p1 < f) = false := by simp; omega
          clear hBe hP hB
          go_wp2
          go_roundw
          case rel => exact ⟨_, _, _, _, _, rfl, rfl, hPP, hBe1, hR2 _, hB2 _⟩
          case measure => rw [(hR2 _).out.left_eq, hR.out.left_eq]; exact E1.out.2.2.1

end Go.Proofs.Ytplaconhpiojbaa
