/-
  VLANs: what came in goes out, and comes in again: plain laws of the answers.
-/
import Derived.Test.YtgoibogpebbkaaaVlI
namespace Go.Proofs.Ytgoibogpebbkaaa
open Go.RowKit
set_option linter.unusedVariables false

theorem mem_range (P : Pt) (v : Int) (hp : ptB P = true) (hm : memB P v = true) : 1 ≤ v ∧ v ≤ 4094 := by
  unfold ptB at hp
  simp only [Bool.and_eq_true] at hp
  unfold memB at hm
  rw [Bool.or_eq_true, hasB_iff, hasB_iff] at hm
  rcases hm with h | h
  · exact risB_range _ hp.1.1.1 v h
  · exact risB_range _ hp.1.1.2 v h
theorem chk_at (L : List Pt) (h : chkB L = true) (N : Nat) (hN : N < L.length) : ptB L[N] = true := by
  unfold chkB at h
  simp only [Bool.and_eq_true] at h
  exact allB_at L h.2 _ (List.getElem_mem hN)
theorem ok_in (f : Fr) (v : Int) (h : f.ok = true) (h1 : 1 ≤ v) (h2 : v ≤ 4094) : Fr.ok ⟨f.d, f.s, true, v, f.p, f.y, f.x⟩ = true := by
  obtain ⟨d, s, t, u, p, y, x⟩ := f
  unfold Fr.ok at h ⊢
  simp only at h ⊢
  rw [okF_tagged]
  cases t
  · rw [okF_plain] at h
    omega
  · rw [okF_tagged] at h
    omega
theorem ok_out (f : Fr) (h : f.ok = true) (k : Fr.ok ⟨f.d, f.s, false, 0, 0, f.y, f.x⟩ = false) : f.y = 33024 := by
  obtain ⟨d, s, t, u, p, y, x⟩ := f
  unfold Fr.ok at h k
  simp only at h k ⊢
  rw [Bool.eq_false_iff, ne_eq, okF_plain] at k
  cases t
  · rw [okF_plain] at h
    omega
  · rw [okF_tagged] at h
    omega
theorem fault_zero (L : List Pt) (N : Nat) (f : Fr) (h : chkB L = true) (hN : N < L.length) (hf : f.ok = true) : faultI L N f = 0 := by
  unfold faultI
  rw [if_neg (by simp [h]), if_neg]
  rintro (h | h | h)
  · omega
  · omega
  · rw [hf] at h; cases h

theorem in_facts (L : List Pt) (i : Int) (f : Fr) : (∃ n, n ≠ 0 ∧ inI L i f = (.zero, n)) ∨ ∃ (N : Nat) (v : Int) (hN : N < L.length), i = N ∧ chkB L = true ∧ v ≠ 0 ∧ memB L[N] v = true ∧ inI L i f = (⟨f.d, f.s, true, v, f.p, f.y, f.x⟩, 0) ∧ Fr.ok ⟨f.d, f.s, true, v, f.p, f.y, f.x⟩ = true := by
  rcases fault_kind L i f with ⟨h, -⟩ | ⟨h, -⟩ | ⟨h, hc, h0, h1, hok⟩
  · exact .inl ⟨3, by decide, by rw [inI_fault L i f (by omega), h]⟩
  · exact .inl ⟨1, by decide, by rw [inI_fault L i f (by omega), h]⟩
  · by_cases k : inV L i f = 0 ∨ memB (ptAt L i) (inV L i f) = false
    · exact .inl ⟨6, by decide, inI_none L i f h k⟩
    · refine .inr ?_
      have hv : inV L i f ≠ 0 := fun e => k (.inl e)
      have hm : memB (ptAt L i) (inV L i f) = true := by
        rcases hm : memB (ptAt L i) (inV L i f) with _ | _
        · exact absurd (.inr hm) k
        · rfl
      have hin := inI_ok L i f h k
      generalize inV L i f = v at hv hm hin
      obtain ⟨N, rfl⟩ := Int.eq_ofNat_of_zero_le h0
      have hN : N < L.length := by omega
      rw [ptAt_nat L N hN] at hm
      have hr := mem_range _ v (chk_at L hc N hN) hm
      exact ⟨N, v, hN, rfl, hc, hv, hm, hin, ok_in f v hok hr.1 hr.2⟩

/-- What goes out of a port. -/
theorem out_facts (L : List Pt) (N : Nat) (hN : N < L.length) (a : Fr) (hc : chkB L = true) (ha : a.ok = true) (hv : a.v ≠ 0) :
    (memB L[N] a.v = false ∧ outI L N a = (.zero, 6)) ∨ (memB L[N] a.v = true ∧ ((outI L N a = (a, 0)) ∨ (Fr.ok ⟨a.d, a.s, false, 0, 0, a.y, a.x⟩ = true ∧ outI L N a = (⟨a.d, a.s, false, 0, 0, a.y, a.x⟩, 0)) ∨ (a.y = 33024 ∧ outI L N a = (.zero, 6)))) := by
  have hf := fault_zero L N a hc hN ha
  have e := ptAt_nat L N hN
  rcases hm : memB L[N] a.v with _ | _
  · exact .inl ⟨rfl, outI_none L N a hf hv (by rw [e]; exact hm)⟩
  · refine .inr ⟨rfl, ?_⟩
    rcases ht : hasB L[N].tag a.v with _ | _
    · have hs : strip (ptAt L N) a = ⟨a.d, a.s, false, 0, 0, a.y, a.x⟩ := strip_out _ a (by rw [e]; exact ht)
      rcases ho : Fr.ok ⟨a.d, a.s, false, 0, 0, a.y, a.x⟩ with _ | _
      · exact .inr (.inr ⟨ok_out a ha ho, outI_bad L N a hf hv (by rw [e]; exact hm) (by rw [hs]; exact ho)⟩)
      · exact .inr (.inl ⟨rfl, by rw [outI_ok L N a hf hv (by rw [e]; exact hm) (by rw [hs]; exact ho), hs]⟩)
    · have hs : strip (ptAt L N) a = a := strip_in _ a (by rw [e]; exact ht)
      exact .inl (by rw [outI_ok L N a hf hv (by rw [e]; exact hm) (by rw [hs]; exact ha), hs])

theorem in_again (L : List Pt) (N : Nat) (hN : N < L.length) (a : Fr) (hc : chkB L = true) (ha : a.ok = true) (hv : a.v ≠ 0) (hm : memB L[N] a.v = true) : inI L N a = (⟨a.d, a.s, true, a.v, a.p, a.y, a.x⟩, 0) := by
  have e : inV L N a = a.v := by unfold inV; rw [if_neg hv]
  have := inI_ok L N a (fault_zero L N a hc hN ha) (by rw [e, ptAt_nat L N hN]; rintro (h | h); exact hv h; rw [hm] at h; cases h)
  rw [this, e]
theorem in_plain (L : List Pt) (N : Nat) (hN : N < L.length) (d s : ByteArray) (y : Int) (x : ByteArray) (v : Int) (hc : chkB L = true) (ha : Fr.ok ⟨d, s, false, 0, 0, y, x⟩ = true) (hd : L[N].dft = v) (hv : v ≠ 0) (hm : memB L[N] v = true) : inI L N ⟨d, s, false, 0, 0, y, x⟩ = (⟨d, s, true, v, 0, y, x⟩, 0) := by
  have e : inV L N ⟨d, s, false, 0, 0, y, x⟩ = v := by unfold inV; rw [if_pos rfl, ptAt_nat L N hN, hd]
  have := inI_ok L N ⟨d, s, false, 0, 0, y, x⟩ (fault_zero L N _ hc hN ha) (by rw [e, ptAt_nat L N hN]; rintro (h | h); exact hv h; rw [hm] at h; cases h)
  rw [this, e]

/-- There, out, and in again. -/
theorem back12 (L : List Pt) (N : Nat) (hN : N < L.length) (d s : ByteArray) (v q y : Int) (x : ByteArray) (hc : chkB L = true) (hv : v ≠ 0) (hm : memB L[N] v = true) (ho : Fr.ok ⟨d, s, true, v, q, y, x⟩ = true) :
    (outI L N ⟨d, s, true, v, q, y, x⟩ = (⟨d, s, true, v, q, y, x⟩, 0) ∧ inI L N ⟨d, s, true, v, q, y, x⟩ = (⟨d, s, true, v, q, y, x⟩, 0)) ∨
    (outI L N ⟨d, s, true, v, q, y, x⟩ = (⟨d, s, false, 0, 0, y, x⟩, 0) ∧ (L[N].dft = v → inI L N ⟨d, s, false, 0, 0, y, x⟩ = (⟨d, s, true, v, 0, y, x⟩, 0))) ∨
    (outI L N ⟨d, s, true, v, q, y, x⟩ = (.zero, 6) ∧ y = 33024) := by
  rcases out_facts L N hN ⟨d, s, true, v, q, y, x⟩ hc ho hv with ⟨h, -⟩ | ⟨-, h | ⟨h1, h2⟩ | ⟨h1, h2⟩⟩
  · simp only at h
    rw [hm] at h
    cases h
  · exact .inl ⟨h, in_again L N hN ⟨d, s, true, v, q, y, x⟩ hc ho hv hm⟩
  · exact .inr (.inl ⟨h2, fun hd => in_plain L N hN d s y x v hc h1 hd hv hm⟩)
  · exact .inr (.inr ⟨h2, h1⟩)

end Go.Proofs.Ytgoibogpebbkaaa
