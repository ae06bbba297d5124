/-
  The document's part: drop, goes, Learns. Contracts over the translated program.
-/
import Derived.Test.YtdjeifbbbpbhoaaRrM
namespace Go.Proofs.Ytdjeifbbbpbhoaa
open Go.RowKit
set_option linter.unusedVariables false
set_option linter.unusedSimpArgs false

def mixD (R : RPart) (k : Nat) : RPart := { R with ps := mix (R.ps.map (RPrt.drop R.now)) R.ps k }
theorem mixD_zero (R : RPart) : mixD R 0 = R := by unfold mixD; rw [mix_zero]
theorem mixD_all (R : RPart) : mixD R R.ps.length = R.dropAll := by unfold mixD RPart.dropAll; rw [mix_all _ _ (by simp)]
theorem mixD_len (R : RPart) (k : Nat) : (mixD R k).ps.length = R.ps.length := mix_len (by simp) k
theorem mixD_at {R : RPart} {k : Nat} {p : RPrt} (h : R.ps[k]? = some p) : (mixD R k).ps[k]? = some p := (mix_at (by simp) (List.getElem?_eq_some_iff.1 h).1).trans h
theorem mixD_put {R : RPart} {k : Nat} {p : RPrt} (h : R.ps[k]? = some p) : (mixD R k).put k (p.drop R.now) = mixD R (k + 1) := by
  unfold mixD RPart.put
  simp only
  rw [mix_set (by simp) (List.getElem?_eq_some_iff.1 h).1 (by rw [List.getElem?_map, h]; rfl)]
theorem mixD_same {R : RPart} {k : Nat} {p : RPrt} (h : R.ps[k]? = some p) (e : p.drop R.now = p) : mixD R k = mixD R (k + 1) := by
  rw [← mixD_put h, e, put_self (mixD_at h)]

section
variable {w : World} {B q rb cap : Nat} {R : RPart}
set_option maxHeartbeats 2000000 in
set_option maxRecDepth 100000 in
theorem drop_c (h : HasR w B q rb cap R) : Calls Try.prog 40 #[.pointer (some ⟨q, 0, none⟩)] w fun e w' => e = .returned (.tuple #[]) ∧ HasR w' B q rb cap R.dropAll ∧ Tt isR B w w' := by
  have hl := h.n16
  have HG := Lib.hid h.good.ps
  have H := Lib.hid h
  obtain ⟨n, hn⟩ : ∃ n, n = R.ps.length := ⟨_, rfl⟩
  rw [← hn] at hl
  have HN := Lib.hid hn
  clear h hn
  go_enter Try.func40, Try.ntmps40
  go_wp2
  go_loopw [2, 3] (fun i _ wr => ∃ k : Nat, k ≤ n ∧ i = .int .i64 k ∧ Hid (HasR wr B q rb cap (mixD R k)) ∧ Hid (Tt isR B w wr)) (fun i _ _ => n - (intOf i).toNat)
  case atStart => exact ⟨0, Nat.zero_le _, rfl, Lib.hid (by rw [mixD_zero]; exact H.out), Lib.hid (Tt.refl _ _ _)⟩
  case round =>
    obtain ⟨k, hk, rfl, HS, HT⟩ := hrel
    have c1 : wr.cell? ⟨q, 1, none⟩ = some (.slice (some ⟨rb, 0, none⟩) n cap) := by have := HS.out.c1; rw [mixD_len, ← HN.out] at this; exact this
    by_cases hlt : k < n
    · obtain ⟨p, hp⟩ : ∃ p, R.ps[k]? = some p := ⟨_, List.getElem?_eq_getElem (by rw [← HN.out]; exact hlt)⟩
      have hq := mixD_at hp
      have g := HG.out p (List.mem_of_getElem? hp)
      have g0 := g.o0
      have g1 := g.o1
      have x2 : wr.cell? ⟨q, 2, none⟩ = some (.int .i64 R.now) := HS.out.c2
      have y2 := HS.out.p2 hq
      have y7 := HS.out.p7 hq
      have y8 := HS.out.p8 hq
      have f2 := HS.out.fz (k * 12 + 2)
      have hk1 : decide (n ≤ k) = false := decide_eq_false (by omega)
      have hs : IntKind.i64.wrap (p.on + 6) = p.on + 6 := IntWalk.i64_in _ (by omega)
      have hs' : wrap64 (p.on + 6) = p.on + 6 := by unfold wrap64; omega
      have HP := Lib.hid hp
      have HQ := Lib.hid hq
      have GP := Lib.hid g
      clear hp hq g
      cases hkp : p.keeps with
      | false =>
        rw [hkp] at y2
        have E := Lib.hid (mixD_same HP.out (by unfold RPrt.drop; rw [hkp]; rfl))
        clear hkp
        go_wp2
        go_quiet (fail)
        go_wp2
        go_roundw
        case rel => exact ⟨k + 1, by omega, by go_num, Lib.hid (by rw [← E.out]; exact HS.out.drewN _), Lib.hid (HT.out.drewN _)⟩
        case measure => simp [intOf]; omega
      | true =>
        rw [hkp] at y2
        cases d1 : decide (p.on + 6 ≤ R.now) with
        | true =>
          have E := Lib.hid (show p.drop R.now = { p with keeps := false } by unfold RPrt.drop RPrt.isOld; rw [hkp, d1]; rfl)
          clear hkp
          go_wp2
          go_quiet (fail)
          go_wp2
          have HS2 := Lib.hid ((HS.out.drewN nq).set HQ.out 2 (p' := { p with keeps := false }) (u := .bool false) (by decide) rfl ⟨GP.out.o0, GP.out.o1, GP.out.s0, GP.out.s1, GP.out.a0⟩)
          have HT2 := Lib.hid ((HT.out.drewN nq).trans ((HS.out.drewN nq).ttB (Only.setCell (wr.drewN nq) rb (k * 12 + 2) (.bool false))))
          go_roundw
          case rel => exact ⟨k + 1, by omega, by go_num, Lib.hid (by rw [← mixD_put HP.out, E.out]; exact HS2.out), HT2⟩
          case measure => simp [intOf]; omega
        | false =>
          cases d2 : decide (20 ≤ p.age) with
          | true =>
            have E := Lib.hid (show p.drop R.now = { p with keeps := false } by unfold RPrt.drop RPrt.isOld; rw [hkp, d1, d2]; rfl)
            clear hkp
            go_wp2
            go_quiet (fail)
            go_wp2
            have HS2 := Lib.hid ((HS.out.drewN nq).set HQ.out 2 (p' := { p with keeps := false }) (u := .bool false) (by decide) rfl ⟨GP.out.o0, GP.out.o1, GP.out.s0, GP.out.s1, GP.out.a0⟩)
            have HT2 := Lib.hid ((HT.out.drewN nq).trans ((HS.out.drewN nq).ttB (Only.setCell (wr.drewN nq) rb (k * 12 + 2) (.bool false))))
            go_roundw
            case rel => exact ⟨k + 1, by omega, by go_num, Lib.hid (by rw [← mixD_put HP.out, E.out]; exact HS2.out), HT2⟩
            case measure => simp [intOf]; omega
          | false =>
            have E := Lib.hid (mixD_same HP.out (by unfold RPrt.drop RPrt.isOld; rw [hkp, d1, d2]; rfl))
            clear hkp
            go_wp2
            go_quiet (fail)
            go_wp2
            go_roundw
            case rel => exact ⟨k + 1, by omega, by go_num, Lib.hid (by rw [← E.out]; exact HS.out.drewN _), Lib.hid (HT.out.drewN _)⟩
            case measure => simp [intOf]; omega
    · obtain rfl : k = n := by omega
      clear hlt
      go_wp2
      go_end0
      exact ⟨rfl, by rw [← mixD_all, ← HN.out]; exact HS.out, HT.out⟩

set_option maxRecDepth 100000 in
theorem goes_no (h : HasR w B q rb cap R) (n now : Int) (hb : timeR now = false ∨ n < 0 ∨ (R.ps.length : Int) ≤ n) : Calls Try.prog 37 #[.pointer (some ⟨q, 0, none⟩), .int .i64 n, .int .i64 now] w fun e w' => e = .returned (.bool false) ∧ w = w' := by
  have c1 := h.c1
  have hl := h.n16
  have HT := Lib.hid fun U => rtime_c now U
  clear h
  generalize R.ps.length = m at c1 hl hb
  cases ht : timeR now with
  | false =>
    rw [ht] at HT
    clear hb ht
    go_enter Try.func37, Try.ntmps37
    go_wp2_with fail
    ((with_reducible refine (HT.out _).mono ?_); rintro e w1 ⟨rfl, rfl⟩)
    go_wp2_with fail
    go_ret
    exact ⟨rfl, rfl⟩
  | true =>
    rw [ht] at HT
    rw [ht] at hb
    by_cases h1 : n < 0
    · have d1 : decide (n < 0) = true := decide_eq_true h1
      clear hb h1 ht
      go_enter Try.func37, Try.ntmps37
      go_wp2_with fail
      ((with_reducible refine (HT.out _).mono ?_); rintro e w1 ⟨rfl, rfl⟩)
      go_wp2_with fail
      go_ret
      exact ⟨rfl, rfl⟩
    · have d1 : decide (n < 0) = false := decide_eq_false h1
      have d2 : decide ((m : Int) ≤ n) = true := decide_eq_true (by simp at hb; omega)
      clear hb h1 ht
      go_enter Try.func37, Try.ntmps37
      go_wp2_with fail
      ((with_reducible refine (HT.out _).mono ?_); rintro e w1 ⟨rfl, rfl⟩)
      go_wp2_with fail
      go_ret
      exact ⟨rfl, rfl⟩
theorem goes_good (h : R.Good) {now : Int} (ht : timeR now = true) : (R.goes now).Good := by
  unfold timeR at ht
  simp at ht
  have h0 := h.n0
  have h1 := h.n1
  exact ⟨by show 0 ≤ max R.now now; omega, by show max R.now now ≤ _; omega, h.c0, h.c1, h.ps⟩
set_option maxRecDepth 100000 in
theorem goes_yes (h : HasR w B q rb cap R) (n now : Int) (ht : timeR now = true) (n0 : 0 ≤ n) (n1 : n < (R.ps.length : Int)) : Calls Try.prog 37 #[.pointer (some ⟨q, 0, none⟩), .int .i64 n, .int .i64 now] w fun e w' => e = .returned (.bool true) ∧ HasR w' B q rb cap (R.goes now) ∧ Tt isR B w w' := by
  have hg := goes_good h.good ht
  have c1 := h.c1
  have c2 := h.c2
  have f2 := free_of_block (j := 2) h.tree
  have hl := h.n16
  have H := Lib.hid h
  have hs := Lib.hid (heap_store (j := 2) (v := .int .i64 (max R.now now)) h.tree)
  have HT := Lib.hid fun U => rtime_c now U
  have d1 : decide (n < 0) = false := decide_eq_false (by omega)
  have d2 : decide ((R.ps.length : Int) ≤ n) = false := decide_eq_false (by omega)
  rw [ht] at HT
  clear h ht
  go_enter Try.func37, Try.ntmps37
  go_wp2_with fail
  ((with_reducible refine (HT.out _).mono ?_); rintro e w1 ⟨rfl, rfl⟩)
  go_wp2_with fail
  · have hm : max R.now now = now := by omega
    have hs' := hs.out
    rw [hm] at hs'
    go_ret
    have hx := Only.setCell w q 2 (.int .i64 now)
    exact ⟨rfl, H.out.own hx (by rw [hs']; simp [rpartC, RPart.goes, hm]) rfl hg, H.out.ttQ hx⟩
  · have hm : max R.now now = R.now := by omega
    have hs' := hs.out
    rw [hm] at hs'
    go_ret
    have hx := Only.setCell w q 2 (.int .i64 R.now)
    exact ⟨rfl, H.out.own hx (by rw [hs']; simp [rpartC, RPart.goes, hm]) rfl hg, H.out.ttQ hx⟩

set_option maxRecDepth 100000 in
theorem rlearns_no (h : HasR w B q rb cap R) (n : Int) (hn : n < 0 ∨ (R.ps.length : Int) ≤ n) : Calls Try.prog 25 #[.pointer (some ⟨q, 0, none⟩), .int .i64 n] w fun e w' => e = .returned (.bool false) ∧ ∃ m, w' = w.drewN m := by
  have c1 := h.c1
  have hl := h.n16
  clear h
  generalize R.ps.length = m at c1 hl hn
  by_cases h1 : n < 0
  · have d1 : decide (0 ≤ n) = false := decide_eq_false (by omega)
    clear hn h1
    go_enter Try.func25, Try.ntmps25
    go_wp2
    go_quiet (fail)
    go_wp2
    go_ret
    exact ⟨rfl, _, rfl⟩
  · have d1 : decide (0 ≤ n) = true := decide_eq_true (by omega)
    have d2 : decide (n < (m : Int)) = false := decide_eq_false (by omega)
    clear hn h1
    go_enter Try.func25, Try.ntmps25
    go_wp2
    go_quiet (fail)
    go_wp2
    go_ret
    exact ⟨rfl, _, rfl⟩
set_option maxHeartbeats 1000000 in
set_option maxRecDepth 100000 in
theorem rlearns_yes (h : HasR w B q rb cap R) {k : Nat} {p : RPrt} (hp : R.ps[k]? = some p) : Calls Try.prog 25 #[.pointer (some ⟨q, 0, none⟩), .int .i64 k] w fun e w' => e = .returned (.bool (p.learns R.now)) ∧ ∃ m, w' = w.drewN m := by
  have c1 := h.c1
  have c2 := h.c2
  have y10 := h.p10 hp
  have g := h.good.ps p (List.mem_of_getElem? hp)
  have g0 := g.s0
  have g1 := g.s1
  have hl := h.n16
  have hk := (List.getElem?_eq_some_iff.1 hp).1
  have d1 : decide (0 ≤ (k : Int)) = true := decide_eq_true (by omega)
  have d2 : decide ((k : Int) < (R.ps.length : Int)) = true := decide_eq_true (by omega)
  have d3 : decide (k < R.ps.length) = true := decide_eq_true hk
  have d4 : decide (R.ps.length ≤ k) = false := decide_eq_false (by omega)
  have hs : IntKind.i64.wrap (p.since + 15) = p.since + 15 := IntWalk.i64_in _ (by omega)
  have hs' : wrap64 (p.since + 15) = p.since + 15 := by unfold wrap64; omega
  unfold RPrt.learns
  replace hp := Lib.hid hp
  clear h g
  cases e1 : decide (0 ≤ p.since) with
  | false =>
    go_enter Try.func25, Try.ntmps25
    go_wp2
    go_quiet (fail)
    go_wp2
    go_ret
    exact ⟨by rw [Bool.false_and]; rfl, _, rfl⟩
  | true =>
    go_enter Try.func25, Try.ntmps25
    go_wp2
    go_quiet (fail)
    go_wp2
    go_ret
    exact ⟨by rw [Bool.true_and]; rfl, _, rfl⟩
end

end Go.Proofs.Ytdjeifbbbpbhoaa
