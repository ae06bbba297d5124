/-
  A part of one port that heard one message, plainly. It speaks of no program.
-/
import Derived.Test.YtdjeifbbbpbhoaaRsJ
namespace Go.Proofs.Ytdjeifbbbpbhoaa
open Go.RowKit
set_option linter.unusedVariables false
set_option linter.unusedSimpArgs false

/-- What Forgets is about. -/
structure Fgt (b r c g q k : Int) : Prop where
  lt : r < b
  ne : g ≠ b
  c0 : 0 ≤ c
  c1 : c ≤ 1000000
  k0 : 1 ≤ k
  k1 : k ≤ 1000000

def fgt (b r c g q k now : Int) : Part := ⟨b, now, [⟨k, true, some ⟨(r, c, g, q), 0, 10⟩, 1, 10, false, false⟩], (r, c + k, g, q), 0⟩
def fgtEnd (b r c g q k : Int) : Part := ⟨b, 16, [⟨k, true, none, 2, 10, false, false⟩], ownV b, 0⟩

section
variable {b r c g q k : Int}
theorem fgt_best (h : Fgt b r c g q k) : bestL b [(true, r, c, g, q, k)] = (0, r, c + k, g, q) := by
  have h1 := h.lt
  have h2 := h.ne
  have h3 := h.c0
  have h4 := h.c1
  have h5 := h.k0
  have h6 := h.k1
  have e1 : leadB b (true, r, c, g, q, k) = true := by unfold leadB badW; simp; omega
  have e2 : leadV (true, r, c, g, q, k) = (r, c + k, g, q) := by unfold leadV thrV vecH costH farC; simp; omega
  have e3 : cmpV (r, c + k, g, q) (ownV b) < 0 := by unfold cmpV fst4 ownV cmpN; simp; omega
  show stepB b 0 (true, r, c, g, q, k) (-1, ownV b) = _
  unfold stepB
  rw [e1, e2]
  simp [e3]
theorem fgt_roles (h : Fgt b r c g q k) : rolesL b [(true, r, c, g, q, k)] = [1] := by
  show [roleH b (bestL b [(true, r, c, g, q, k)]) 0 (true, r, c, g, q, k)] = [1]
  rw [fgt_best h]
  rfl
theorem fgt_right (h : Fgt b r c g q k) {now : Int} (n1 : now ≤ 15) {rl : Int} (hr : rl = 1 ∨ rl = 2) {le fw : Bool} (v : V4) (n0 : 10 ≤ now) : (⟨b, now, [⟨k, true, some ⟨(r, c, g, q), 0, 10⟩, rl, 10, le, fw⟩], v, 0⟩ : Part).right = fgt b r c g q k now := by
  have e0 : oldM ⟨(r, c, g, q), 0, 10⟩ now = false := by unfold oldM; simp; omega
  have e1 : (⟨b, now, [⟨k, true, some ⟨(r, c, g, q), 0, 10⟩, rl, 10, le, fw⟩], v, 0⟩ : Part).forget = ⟨b, now, [⟨k, true, some ⟨(r, c, g, q), 0, 10⟩, rl, 10, le, fw⟩], v, 0⟩ := by
    unfold Part.forget Prt.forget
    simp [e0]
  have e2 : (⟨b, now, [⟨k, true, some ⟨(r, c, g, q), 0, 10⟩, rl, 10, le, fw⟩], v, 0⟩ : Part).hds = [(true, r, c, g, q, k)] := rfl
  have e3 : actv rl = true := by unfold actv; rcases hr with rfl | rfl <;> rfl
  have e4 : (⟨k, true, some ⟨(r, c, g, q), 0, 10⟩, rl, 10, le, fw⟩ : Prt).play now 1 = ⟨k, true, some ⟨(r, c, g, q), 0, 10⟩, 1, 10, false, false⟩ := by
    unfold Prt.play
    simp only [if_true, e3]
    have d1 : decide ((15 : Int) ≤ now - 10) = false := decide_eq_false (by omega)
    have d2 : decide ((30 : Int) ≤ now - 10) = false := decide_eq_false (by omega)
    simp [actv, d1, d2]
  unfold Part.right
  simp only [e1, e2, fgt_roles h, fgt_best h, List.zipWith_cons_cons, List.zipWith_nil_right, e4]
  unfold fgt Prt.fresh
  simp only [e4]
  rfl
theorem fgt_hear (h : Fgt b r c g q k) (ch le fw : Bool) : (((newPart b [k]).link 0 true 10).hear 0 ⟨(r, c, g, q), 0, false, le, fw⟩ 10) = fgt b r c g q k 10 := by
  have h0 : ((newPart b [k]).link 0 true 10) = ⟨b, 10, [⟨k, true, none, 2, 10, false, false⟩], ownV b, 0⟩ := rfl
  rw [h0]
  have e : (⟨b, 10, [⟨k, true, none, 2, 10, false, false⟩], ownV b, 0⟩ : Part).hear 0 ⟨(r, c, g, q), 0, false, le, fw⟩ 10 = (⟨b, 10, [⟨k, true, some ⟨(r, c, g, q), 0, 10⟩, 2, 10, false, false⟩], ownV b, 0⟩ : Part).right := rfl
  rw [e]
  exact fgt_right h (by omega) (Or.inr rfl) _ (by omega)
theorem fgt_tick (h : Fgt b r c g q k) {m now : Int} (m0 : 10 ≤ m) (m1 : m ≤ now) (n1 : now ≤ 15) : (fgt b r c g q k m).tick now = fgt b r c g q k now := by
  have e1 : timeR now = true := by unfold timeR; simp; omega
  have e2 : max m now = now := by omega
  unfold Part.tick Part.goOn
  rw [e1, if_pos rfl]
  show (⟨b, max m now, _, _, _⟩ : Part).right = _
  rw [e2]
  exact fgt_right h n1 (Or.inl rfl) _ (by omega)
theorem fgt_end (h : Fgt b r c g q k) {m : Int} (m0 : 10 ≤ m) (m1 : m ≤ 15) : (fgt b r c g q k m).tick 16 = fgtEnd b r c g q k := by
  have e2 : max m 16 = 16 := by omega
  unfold Part.tick Part.goOn
  rw [show timeR 16 = true from rfl, if_pos rfl]
  show (⟨b, max m 16, _, _, _⟩ : Part).right = _
  rw [e2]
  rfl
end

end Go.Proofs.Ytdjeifbbbpbhoaa
