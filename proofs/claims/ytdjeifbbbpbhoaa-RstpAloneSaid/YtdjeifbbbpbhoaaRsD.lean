/-
  rstp: forgetOld, age, hasNews. Contracts over the translated program.
-/
import Derived.Test.YtdjeifbbbpbhoaaRsC
namespace Go.Proofs.Ytdjeifbbbpbhoaa
open Go.RowKit
set_option linter.unusedVariables false
set_option linter.unusedSimpArgs false

/-- Behind a step that turned nothing. -/
theorem forget_none {p : Prt} {t : Int} (h : p.kept = none) : p.forget t = p := by unfold Prt.forget; rw [h]
theorem forget_some {p : Prt} {t : Int} {m : Msg} (h : p.kept = some m) : p.forget t = if oldM m t then { p with kept := none } else p := by unfold Prt.forget; rw [h]

def mixF (T : Part) (k : Nat) : Part := { T with ps := mix (T.ps.map (Prt.forget T.time)) T.ps k }
theorem mixF_zero (T : Part) : mixF T 0 = T := by unfold mixF; rw [mix_zero]
theorem mixF_all (T : Part) : mixF T T.ps.length = T.forget := by unfold mixF Part.forget; rw [mix_all _ _ (by simp)]
theorem mixF_at {T : Part} {k : Nat} {p : Prt} (h : T.ps[k]? = some p) : (mixF T k).ps[k]? = some p := (mix_at (by simp) (List.getElem?_eq_some_iff.1 h).1).trans h
theorem mixF_put {T : Part} {k : Nat} {p : Prt} (h : T.ps[k]? = some p) : (mixF T k).put k (p.forget T.time) = mixF T (k + 1) := by
  unfold mixF Part.put
  simp only
  rw [mix_set (by simp) (List.getElem?_eq_some_iff.1 h).1 (by rw [List.getElem?_map, h]; rfl)]
theorem mixF_same {T : Part} {k : Nat} {p : Prt} (h : T.ps[k]? = some p) (e : p.forget T.time = p) : mixF T k = mixF T (k + 1) := by
  rw [← mixF_put h, e]
  have := mixF_at h
  generalize mixF T k = S at this ⊢
  obtain ⟨b, t, ps, v, c⟩ := S
  simp only at this
  unfold Part.put
  simp only
  congr 1
  obtain ⟨hk, e⟩ := List.getElem?_eq_some_iff.1 this
  rw [← e, List.set_getElem_self]

section
variable {w : World} {B t rb cap : Nat} {A : List Nat} {T : Part}
set_option maxHeartbeats 2000000 in
set_option maxRecDepth 100000 in
theorem forget_c (h : HasS w B t rb cap A T) : Calls Try.prog 32 #[.pointer (some ⟨t, 0, none⟩)] w fun e w' => e = .returned (.tuple #[]) ∧ HasS w' B t rb cap A T.forget ∧ Tt isS B w w' := by
  have hl := h.n16
  have x2 := h.c2
  have t0 := h.good.t0
  have t1 := h.good.t1
  have HG := Lib.hid h.good.ps
  have HL := Lib.hid h.len
  have H := Lib.hid h
  clear h
  go_enter Try.func32, Try.ntmps32
  go_wp2
  clear x2
  go_loopw [3, 9] (fun _ i wr => ∃ k : Nat, k ≤ A.length ∧ i = .int .i64 k ∧ Hid (HasS wr B t rb cap A (mixF T k)) ∧ Hid (Tt isS B w wr)) (fun _ i _ => A.length - (intOf i).toNat)
  case atStart => exact ⟨0, Nat.zero_le _, rfl, Lib.hid (by rw [mixF_zero]; exact H.out), Lib.hid (Tt.refl _ _ _)⟩
  case round =>
    obtain ⟨k, hk, rfl, HS, HT⟩ := hrel
    by_cases hlt : k < A.length
    · obtain ⟨a, p, ha, hp, -⟩ := H.out.pair hlt
      obtain ⟨kv, hb, hkv⟩ := HS.out.ports k a p ha (mixF_at hp)
      have hgp := HG.out p (List.mem_of_getElem? hp)
      have xr := HS.out.rowc ha
      have x1 : wr.cell? ⟨t, 1, none⟩ = some (.int .i64 T.time) := HS.out.c1
      have y2 := prt_c2 hb
      have f2 := free_of_block (j := 2) hb
      have HP := Lib.hid hp
      have HA := Lib.hid ha
      have HB := Lib.hid hb
      clear hp ha hb
      cases hkk : p.kept with
      | none =>
        rw [hkk] at hkv
        obtain rfl : kv = .pointer none := hkv
        have E := Lib.hid (mixF_same HP.out (forget_none hkk))
        clear hkk hgp
        go_wp2
        go_quiet (fail)
        go_wp2
        go_roundw
        case rel => exact ⟨k + 1, by omega, by go_num, Lib.hid (by rw [← E.out]; exact HS.out.drewN _), Lib.hid (HT.out.drewN _)⟩
        case measure => simp [intOf]; omega
      | some m =>
        rw [hkk] at hkv
        obtain ⟨mb, rfl, hm⟩ := hkv
        obtain ⟨a0, a1, a2⟩ := hgp.m m hkk
        have HO := Lib.hid fun n => old_c (w := wr.drewN n) hm T.time t0 t1 a0 a1
        cases ho : oldM m T.time with
        | false =>
          rw [ho] at HO
          have E := Lib.hid (mixF_same HP.out (by rw [forget_some hkk, ho]; rfl))
          clear hkk hgp hm ho a0 a1 a2
          go_wp2
          go_quiet ((go_at_call 46; refine (HO.out _).mono ?_; rintro e w'' ⟨rfl, rfl⟩; exact ⟨rfl, _, rfl⟩))
          go_wp2
          go_roundw
          case rel => exact ⟨k + 1, by omega, by go_num, Lib.hid (by rw [← E.out]; exact HS.out.drewN _), Lib.hid (HT.out.drewN _)⟩
          case measure => simp [intOf]; omega
        | true =>
          rw [ho] at HO
          have E := Lib.hid (show p.forget T.time = { p with kept := none } by rw [forget_some hkk, ho]; rfl)
          clear hkk hgp hm ho a0 a1 a2
          go_wp2
          go_quiet ((go_at_call 46; refine (HO.out _).mono ?_; rintro e w'' ⟨rfl, rfl⟩; exact ⟨rfl, _, rfl⟩))
          go_wp2
          have hx := (Only.setCell (wr.drewN nq) a 2 (.pointer none)).drewL 0
          have hs := heap_store (w := wr.drewN nq) (j := 2) (v := .pointer none) HB.out
          have HS2 := Lib.hid ((HS.out.drewN nq).port HA.out hx (p := { p with kept := none }) ⟨.pointer none, hs, rfl⟩ ⟨(HG.out p (List.mem_of_getElem? HP.out)).s0, (HG.out p (List.mem_of_getElem? HP.out)).s1, fun m e => by cases e⟩)
          have HT2 := Lib.hid ((HT.out.drewN nq).trans ((HS.out.drewN nq).ttP HA.out hx))
          clear hx hs
          go_roundw
          case rel => exact ⟨k + 1, by omega, by go_num, Lib.hid (by rw [← mixF_put HP.out, E.out]; exact HS2.out), HT2⟩
          case measure => simp [intOf]; omega
    · obtain rfl : k = A.length := by omega
      clear hlt
      go_wp2
      go_end0
      exact ⟨rfl, by rw [← mixF_all, HL.out]; exact HS.out, HT.out⟩
end

end Go.Proofs.Ytdjeifbbbpbhoaa
