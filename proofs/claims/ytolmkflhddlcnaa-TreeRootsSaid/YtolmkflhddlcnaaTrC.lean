/-
  Ids in the same order give the same roles; a lone bridge changes nothing. It speaks of no program.
-/
import Derived.Test.YtolmkflhddlcnaaTrO
namespace Go.Proofs.Ytolmkflhddlcnaa
set_option linter.unusedVariables false
set_option linter.unusedSimpArgs false

def phi (x : Int) : Int := 2 * (x + 1)
def phiV (v : V4) : V4 := (phi v.1, v.2.1, phi v.2.2.1, v.2.2.2)
def phiH (h : Hd) : Hd := if h.1 then (h.1, phi h.2.1, h.2.2.1, phi h.2.2.2.1, h.2.2.2.2.1, h.2.2.2.2.2) else h
theorem cmpN_phi (a b : Int) : cmpN (phi a) (phi b) = cmpN a b := by
  unfold cmpN phi
  repeat' split
  all_goals omega
theorem cmpV_phi (a b : V4) : cmpV (phiV a) (phiV b) = cmpV a b := by
  unfold cmpV phiV
  simp only [cmpN_phi]
theorem phi_inj {a b : Int} : phi a = phi b ↔ a = b := by unfold phi; omega
theorem lead_phi (b : Int) (h : Hd) : leadB (phi b) (phiH h) = leadB b h := by
  unfold leadB phiH
  by_cases hh : h.1 = true
  · simp only [hh, if_true]
    congr 2
    exact decide_eq_decide.2 (not_congr phi_inj)
  · have : h.1 = false := by simpa using hh
    simp [this]
theorem leadV_phi (h : Hd) (hh : h.1 = true) : leadV (phiH h) = phiV (leadV h) := by
  unfold leadV phiH
  simp only [hh, if_true]
  rfl
theorem step_phi (b i : Int) (h : Hd) (s : Bst) : stepB (phi b) i (phiH h) (s.1, phiV s.2) = ((stepB b i h s).1, phiV (stepB b i h s).2) := by
  unfold stepB
  rw [lead_phi]
  by_cases hl : leadB b h = true
  · have hh : h.1 = true := by unfold leadB at hl; simp at hl; exact hl.1.1
    rw [leadV_phi h hh, cmpV_phi, hl]
    simp only [Bool.true_and, decide_eq_true_eq]
    split <;> rfl
  · have : leadB b h = false := by simpa using hl
    rw [this]
    rfl
theorem bestGo_phi (b : Int) : ∀ (L : List Hd) (i : Int) (s : Bst), bestGo (phi b) i (L.map phiH) (s.1, phiV s.2) = ((bestGo b i L s).1, phiV (bestGo b i L s).2)
  | [], i, s => rfl
  | h :: L, i, s => by
    show bestGo (phi b) (i + 1) (L.map phiH) (stepB (phi b) i (phiH h) (s.1, phiV s.2)) = _
    rw [step_phi]
    exact bestGo_phi b L (i + 1) (stepB b i h s)
theorem bestL_phi (b : Int) (L : List Hd) : bestL (phi b) (L.map phiH) = ((bestL b L).1, phiV (bestL b L).2) := bestGo_phi b L 0 (-1, ownV b)
theorem role_phi (b : Int) (s : Bst) (i : Int) (h : Hd) : roleH (phi b) (s.1, phiV s.2) i (phiH h) = roleH b s i h := by
  unfold roleH
  by_cases hh : h.1 = true
  · have e : cmpV ((phiV s.2).1, (phiV s.2).2.1, phi b, i) (vecH (phiH h)) = cmpV (s.2.1, s.2.2.1, b, i) (vecH h) := by
      have e1 : vecH (phiH h) = phiV (vecH h) := by unfold phiH; simp only [hh, if_true]; rfl
      rw [e1, ← cmpV_phi (s.2.1, s.2.2.1, b, i)]
      rfl
    have e2 : (phiH h).1 = true := by unfold phiH; simp [hh]
    simp only [hh, e2, e]
  · have hf : h.1 = false := by simpa using hh
    have e2 : (phiH h).1 = false := by unfold phiH; simp [hf]
    simp only [hf, e2, Bool.not_false, Bool.true_or]
theorem rolesGo_phi (b : Int) (s : Bst) : ∀ (L : List Hd) (i : Int), rolesGo (phi b) (s.1, phiV s.2) i (L.map phiH) = rolesGo b s i L
  | [], i => rfl
  | h :: L, i => by
    show roleH (phi b) (s.1, phiV s.2) i (phiH h) :: rolesGo (phi b) (s.1, phiV s.2) (i + 1) (L.map phiH) = _
    rw [role_phi, rolesGo_phi b s L (i + 1)]
    rfl
theorem rolesL_phi (b : Int) (L : List Hd) : rolesL (phi b) (L.map phiH) = rolesL b L := by
  unfold rolesL
  rw [bestL_phi]
  exact rolesGo_phi b (bestL b L) L 0

section
variable {ids : List Int} {L : List Lk}
theorem hds_phi (hM : MayT ids L) {id' : Nat → Int} {bst bst' : Nat → V4} (hi : ∀ b, b < ids.length → id' b = phi (idAt ids b)) (hb : ∀ b, b < ids.length → rc (bst' b) = rc (phiV (bst b))) (b : Nat) : hdsT id' (endsL L) bst' b = (hdsT (idAt ids) (endsL L) bst b).map phiH := by
  unfold hdsT
  rw [List.map_map]
  refine List.map_congr_left fun p _ => ?_
  show hdAt id' (endsL L) bst' b p = phiH (hdAt (idAt ids) (endsL L) bst b p)
  unfold hdAt
  cases hf : (endsL L).find? (fun e => e.1 == (b : Int) && e.2.1 == (p : Int)) with
  | none => rfl
  | some e =>
    have ho := end_ok hM (List.mem_of_find?_eq_some hf)
    have hto : e.2.2.1.toNat < ids.length := by have := ho.t0; have := ho.t1; omega
    show hearH id' bst' e = phiH (hearH (idAt ids) bst e)
    unfold hearH phiH
    obtain ⟨r1, r2⟩ := rc_two (hb _ hto)
    simp only [if_true, hi _ hto, r1, r2]
    rfl
theorem bst_phi (hM : MayT ids L) {id' : Nat → Int} (hi : ∀ b, b < ids.length → id' b = phi (idAt ids b)) : ∀ t b, b < ids.length → bstT id' (endsL L) t b = phiV (bstT (idAt ids) (endsL L) t b)
  | 0, b, hb => by
    show ownV (id' b) = phiV (ownV (idAt ids b))
    rw [hi b hb]
    rfl
  | t + 1, b, hb => by
    show (bestL (id' b) (hdsT id' (endsL L) (bstT id' (endsL L) t) b)).2 = phiV (bestL (idAt ids b) (hdsT (idAt ids) (endsL L) (bstT (idAt ids) (endsL L) t) b)).2
    rw [hds_phi hM hi (fun c hc => by rw [bst_phi hM hi t c hc]), hi b hb, bestL_phi]
/-- THE SAME ORDER, THE SAME ROLES; a round more or less is nothing. -/
theorem role_scaled (hM : MayT ids L) (hid : ∀ x ∈ ids, 0 ≤ x) {more : List Int} (hi : ∀ b, b < ids.length → idAt more b = phi (idAt ids b)) (hn : more.length = ids.length ∨ more.length = ids.length + 1) {e : En} (he : e ∈ endsL L) : roleE more L e = roleE ids L e := by
  have ho := end_ok hM he
  have hat : e.1.toNat < ids.length := by have := ho.a0; have := ho.a1; omega
  unfold roleE restH
  have hb : ∀ b, b < ids.length → rc (restB more L b) = rc (phiV (restB ids L b)) := by
    intro b hb
    unfold restB
    rw [bst_phi hM hi _ b hb]
    rcases hn with h | h
    · rw [h]
    · rw [h]
      obtain ⟨r1, r2⟩ := rc_two (rest_more hM hid hb)
      unfold rc phiV
      simp only
      rw [r1, r2]
  rw [hds_phi hM hi hb, hi _ hat, rolesL_phi]
theorem rest_scaled (hM : MayT ids L) (hid : ∀ x ∈ ids, 0 ≤ x) {more : List Int} (hi : ∀ b, b < ids.length → idAt more b = phi (idAt ids b)) (hn : more.length = ids.length ∨ more.length = ids.length + 1) : restL more L = restL ids L := by
  unfold restL
  refine List.map_congr_left fun l hl => ?_
  rw [role_scaled hM hid hi hn (mem_ends.2 ⟨l, hl, Or.inl rfl⟩), role_scaled hM hid hi hn (mem_ends.2 ⟨l, hl, Or.inr rfl⟩)]
theorem scaled_may (hM : MayT ids L) : MayT (ids.map phi) L := by
  refine ⟨by rw [List.length_map]; exact hM.n1, by rw [List.length_map]; exact hM.n12, hM.l40, ?_, by rw [List.length_map]; exact hM.ok, hM.keys⟩
  rw [List.Nodup, List.pairwise_map]
  exact hM.nd.imp fun h k => h (phi_inj.1 k)
theorem more_may (hM : MayT ids L) (hid : ∀ x ∈ ids, 0 ≤ x) (hn : ids.length ≤ 11) : MayT (ids.map phi ++ [1]) L := by
  have h := scaled_may hM
  refine ⟨by simp, by simp; omega, hM.l40, ?_, fun e he => ?_, hM.keys⟩
  · rw [List.nodup_append]
    refine ⟨h.nd, by simp, fun a ha b hb => ?_⟩
    obtain ⟨x, hx, rfl⟩ := List.mem_map.1 ha
    simp at hb
    have := hid x hx
    unfold phi
    omega
  · obtain ⟨h1, h2, h3⟩ := okE_iff.1 (hM.ok e he)
    exact okE_iff.2 ⟨h1, by simp; omega, h3⟩
theorem scaled_id (b : Nat) (hb : b < ids.length) : idAt (ids.map phi) b = phi (idAt ids b) := by
  unfold idAt
  rw [List.getElem?_map, List.getElem?_eq_getElem hb]
  rfl
theorem more_id (b : Nat) (hb : b < ids.length) : idAt (ids.map phi ++ [1]) b = phi (idAt ids b) := by
  rw [← scaled_id b hb]
  unfold idAt
  rw [List.getElem?_append_left (by rw [List.length_map]; exact hb)]
end

end Go.Proofs.Ytolmkflhddlcnaa
