/-
  The document's part: Link, Hear. Contracts over the translated program.
-/
import Derived.Test.YtdjeifbbbpbhoaaRrB
namespace Go.Proofs.Ytdjeifbbbpbhoaa
open Go.RowKit
set_option linter.unusedVariables false
set_option linter.unusedSimpArgs false

theorem rat_some {R : RPart} {n : Int} {p : RPrt} (h : R.at? n = some p) : ∃ k : Nat, n = k ∧ R.ps[k]? = some p := by
  unfold RPart.at? at h
  split at h
  · exact ⟨n.toNat, by omega, h⟩
  · cases h
theorem rat_none {R : RPart} {n : Int} (h : R.at? n = none) : n < 0 ∨ (R.ps.length : Int) ≤ n := by
  unfold RPart.at? at h
  split at h
  · rw [List.getElem?_eq_none_iff] at h
    omega
  · omega
theorem rat_no {R : RPart} {n : Int} (h : n < 0 ∨ (R.ps.length : Int) ≤ n) : R.at? n = none := by
  unfold RPart.at?
  split
  · rw [List.getElem?_eq_none_iff]
    omega
  · rfl
theorem rlink_no {R : RPart} {n : Int} {now : Int} (h : timeR now = false ∨ n < 0 ∨ (R.ps.length : Int) ≤ n) (up : Bool) : R.link n up now = R := by
  unfold RPart.link
  rcases h with h | h
  · cases R.at? n <;> simp [h]
  · rw [rat_no h]
theorem rlink_on {R : RPart} {n : Int} {p : RPrt} {now : Int} (h : R.at? n = some p) (ht : timeR now = true) (up : Bool) : R.link n up now = ((R.goes now).put n.toNat (p.link up)).right := by
  unfold RPart.link
  rw [h]
  simp [ht]
theorem rhear_none {R : RPart} {n : Int} (h : R.at? n = none) (b : Tell) (now : Int) : R.hear n b now = R := by unfold RPart.hear; rw [h]
theorem rhear_time {R : RPart} {n : Int} {now : Int} (h : timeR now = false) (b : Tell) : R.hear n b now = R := by unfold RPart.hear; cases R.at? n <;> simp [h]
theorem rhear_off {R : RPart} {n : Int} {p : RPrt} (h : R.at? n = some p) (b : Tell) (now : Int) (k : p.up = false) : R.hear n b now = R := by
  unfold RPart.hear
  rw [h]
  simp [k]
theorem rhear_old {R : RPart} {n : Int} {p : RPrt} (h : R.at? n = some p) {b : Tell} {now : Int} (hu : p.up = true) (ht : timeR now = true) (k : (p.drop (R.goes now).now).takes b.v = false) : R.hear n b now = (R.goes now).dropAll.right := by
  have k' : (p.drop (R.goes now).dropAll.now).takes b.v = false := k
  unfold RPart.hear
  rw [h]
  simp [hu, ht, k']
theorem rhear_new {R : RPart} {n : Int} {p : RPrt} (h : R.at? n = some p) {b : Tell} {now : Int} (hu : p.up = true) (ht : timeR now = true) (k : (p.drop (R.goes now).now).takes b.v = true) (hc : (b.chg && b.v.2.2.1 != R.br) = false) : R.hear n b now = ((R.goes now).dropAll.put n.toNat { p.drop (R.goes now).now with keeps := true, v := b.v, age := b.age, on := (R.goes now).now }).right := by
  have k' : (p.drop (R.goes now).dropAll.now).takes b.v = true := k
  unfold RPart.hear
  rw [h]
  simp only [hu, ht, k', hc, Bool.and_self, if_true, Bool.false_eq_true, if_false]
  rfl
theorem rhear_news {R : RPart} {n : Int} {p : RPrt} (h : R.at? n = some p) {b : Tell} {now : Int} (hu : p.up = true) (ht : timeR now = true) (k : (p.drop (R.goes now).now).takes b.v = true) (hc : (b.chg && b.v.2.2.1 != R.br) = true) : R.hear n b now = ((R.goes now).dropAll.put n.toNat { p.drop (R.goes now).now with keeps := true, v := b.v, age := b.age, on := (R.goes now).now }).note.right := by
  have k' : (p.drop (R.goes now).dropAll.now).takes b.v = true := k
  unfold RPart.hear
  rw [h]
  simp only [hu, ht, k', hc, Bool.and_self, if_true]
  rfl
theorem rdrop_good {p : RPrt} (h : p.Good) (t : Int) : (p.drop t).Good := by
  unfold RPrt.drop
  split
  · exact ⟨h.o0, h.o1, h.s0, h.s1, h.a0⟩
  · exact h
theorem rtake_1 {p : RPrt} {v : V4} (h : p.keeps = false) : p.takes v = true := by unfold RPrt.takes; rw [h]; rfl
theorem rtake_2 {p : RPrt} {v : V4} (h : (v.2.2.1 == p.v.2.2.1 && v.2.2.2 == p.v.2.2.2) = true) : p.takes v = true := by unfold RPrt.takes; rw [h]; simp
theorem rtake_3 {p : RPrt} {v : V4} (h : p.keeps = true) (k : (v.2.2.1 == p.v.2.2.1 && v.2.2.2 == p.v.2.2.2) = false) : p.takes v = decide (cmpV v p.v ≤ 0) := by unfold RPrt.takes; rw [h, k]; simp

section
variable {w : World} {B q rb cap : Nat} {R : RPart}

set_option maxHeartbeats 2000000 in
set_option maxRecDepth 100000 in
theorem rlink_c (h : HasR w B q rb cap R) (n : Int) (up : Bool) (now : Int) : Calls Try.prog 26 #[.pointer (some ⟨q, 0, none⟩), .int .i64 n, .bool up, .int .i64 now] w fun e w' => e = .returned (.tuple #[]) ∧ HasR w' B q rb cap (R.link n up now) ∧ Tt isR B w w' := by
  by_cases hb : timeR now = false ∨ n < 0 ∨ (R.ps.length : Int) ≤ n
  · have HG := Lib.hid (goes_no h n now hb)
    have E := Lib.hid (rlink_no hb up)
    have H := Lib.hid h
    clear h hb
    go_enter Try.func26, Try.ntmps26
    go_wp2_with fail
    ((with_reducible refine HG.out.mono ?_); rintro e w1 ⟨rfl, rfl⟩)
    go_wp2_with fail
    exact bodyPost_ret (v := .tuple #[]) (by simp [results, Try.results26, go_sem]) rfl ⟨rfl, by rw [E.out]; exact H.out, Tt.refl _ _ _⟩
  · have ht : timeR now = true := by
      cases h1 : timeR now with
      | true => rfl
      | false => exact absurd (Or.inl h1) hb
    have hn0 : 0 ≤ n := by omega
    have hn1 : n < (R.ps.length : Int) := by omega
    obtain ⟨k, rfl⟩ : ∃ k : Nat, n = k := ⟨n.toNat, by omega⟩
    have hk : k < R.ps.length := by omega
    have hp : R.ps[k]? = some R.ps[k] := List.getElem?_eq_getElem hk
    generalize R.ps[k] = p at hp
    have HG := Lib.hid (goes_yes h (k : Int) now ht hn0 hn1)
    have E := Lib.hid (show R.link k up now = ((R.goes now).put k (p.link up)).right by
      have := rlink_on (R := R) (n := (k : Int)) (p := p) (by unfold RPart.at?; rw [if_pos (by omega), Int.toNat_natCast]; exact hp) ht up
      rwa [Int.toNat_natCast] at this)
    have HP := Lib.hid (show (R.goes now).ps[k]? = some p from hp)
    have d1 : decide (0 ≤ (k : Int)) = true := decide_eq_true (by omega)
    have d2 : decide ((k : Int) < (R.ps.length : Int)) = true := decide_eq_true (by omega)
    have d3 : decide (k < R.ps.length) = true := decide_eq_true hk
    have d4 : decide (R.ps.length ≤ k) = false := decide_eq_false (by omega)
    have hl := h.n16
    have HL := Lib.hid (show (R.goes now).ps.length = R.ps.length from rfl)
    clear h hb ht hn0 hn1 hp
    go_enter Try.func26, Try.ntmps26
    go_wp2_with fail
    ((with_reducible refine HG.out.mono ?_); rintro e w1 ⟨rfl, h1, k1⟩)
    have c1 : w1.cell? ⟨q, 1, none⟩ = some (.slice (some ⟨rb, 0, none⟩) R.ps.length cap) := h1.c1
    have f1 := h1.fz (k * 12 + 1)
    have f2 := h1.fz (k * 12 + 2)
    have y1 := h1.p1 HP.out
    have y2 := h1.p2 HP.out
    have hne := h1.neB
    have hne2 : q ≠ rb := fun e => hne e.symm
    have GP := Lib.hid (h1.good.ps p (List.mem_of_getElem? HP.out))
    have H1 := Lib.hid h1
    have K1 := Lib.hid k1
    clear h1 k1 HG
    generalize R.goes now = S at H1 HP E
    cases up with
    | true =>
      go_upto_region 4 with fail
      have HS2 := Lib.hid (H1.out.set HP.out 1 (p' := p.link true) (u := .bool true) (by decide) rfl ⟨GP.out.o0, GP.out.o1, GP.out.s0, GP.out.s1, GP.out.a0⟩)
      have HT2 := Lib.hid (K1.out.trans (H1.out.ttB (Only.setCell w1 rb (k * 12 + 1) (.bool true))))
      clear c1 f1 f2 y1 y2 hne hne2
      generalize w1.setCell ⟨rb, k * 12 + 1, none⟩ (.bool true) = W at HS2 HT2 ⊢
      have HR := Lib.hid (rright_c HS2.out)
      go_wp2_with fail
      ((with_reducible refine HR.out.mono ?_); rintro e w3 ⟨rfl, h3, t3⟩)
      go_wp2_with fail
      go_end0
      exact ⟨rfl, by rw [E.out]; exact h3, HT2.out.trans t3⟩
    | false =>
      go_upto_region 4 with fail
      have h2 := H1.out.set HP.out 1 (p' := { p with up := false }) (u := .bool false) (by decide) rfl ⟨GP.out.o0, GP.out.o1, GP.out.s0, GP.out.s1, GP.out.a0⟩
      have h3 := h2.set (put_at HP.out) 2 (p' := p.link false) (u := .bool false) (by decide) rfl ⟨GP.out.o0, GP.out.o1, GP.out.s0, GP.out.s1, GP.out.a0⟩
      rw [put_put] at h3
      have HS2 := Lib.hid h3
      have HT2 := Lib.hid (K1.out.trans (H1.out.ttB ((Only.setCell w1 rb (k * 12 + 1) (.bool false)).set (k * 12 + 2) (.bool false))))
      clear c1 f1 f2 y1 y2 h2 h3 hne hne2
      generalize (w1.setCell ⟨rb, k * 12 + 1, none⟩ (.bool false)).setCell ⟨rb, k * 12 + 2, none⟩ (.bool false) = W at HS2 HT2 ⊢
      have HR := Lib.hid (rright_c HS2.out)
      go_wp2_with fail
      ((with_reducible refine HR.out.mono ?_); rintro e w3 ⟨rfl, h3, t3⟩)
      go_wp2_with fail
      go_end0
      exact ⟨rfl, by rw [E.out]; exact h3, HT2.out.trans t3⟩

set_option maxHeartbeats 4000000 in
set_option maxRecDepth 100000 in
theorem rhear_no (h : HasR w B q rb cap R) (n : Int) (r c g z age : Int) (ch le fw : Bool) (now : Int) (hb : timeR now = false ∨ R.at? n = none ∨ ∃ p, R.at? n = some p ∧ p.up = false) : Calls Try.prog 27 #[.pointer (some ⟨q, 0, none⟩), .int .i64 n, .agg #[.int .u64 r, .int .i64 c, .int .u64 g, .int .i64 z, .int .i64 age, .bool ch, .bool le, .bool fw], .int .i64 now] w fun e w' => e = .returned (.tuple #[]) ∧ HasR w' B q rb cap (R.hear n ⟨(r, c, g, z), age, ch, le, fw⟩ now) ∧ Tt isR B w w' := by
  have K0 := Lib.hid (Tt.ofBelow (P := isR) (B := B) ((Below.refl w.heap.size w).alloc (Nat.le_refl _) (.cells #[.int .u64 r, .int .i64 c, .int .u64 g, .int .i64 z, .int .i64 age, .bool ch, .bool le, .bool fw] 38)))
  have h0 := h.below ((Below.refl w.heap.size w).alloc (Nat.le_refl _) (.cells #[.int .u64 r, .int .i64 c, .int .u64 g, .int .i64 z, .int .i64 age, .bool ch, .bool le, .bool fw] 38))
  have HT := Lib.hid fun U => rtime_c now U
  have H := Lib.hid h0
  have E := Lib.hid (show R.hear n ⟨(r, c, g, z), age, ch, le, fw⟩ now = R by
    rcases hb with hb | hb | ⟨p, hb, hu⟩
    · exact rhear_time hb _
    · exact rhear_none hb _ _
    · exact rhear_off hb _ _ hu)
  have hl := h.n16
  clear h h0
  cases ht : timeR now with
  | false =>
    rw [ht] at HT
    clear hb ht
    go_enter Try.func27, Try.ntmps27
    go_upto_region 1 with fail
    generalize (w.alloc (.cells #[.int .u64 r, .int .i64 c, .int .u64 g, .int .i64 z, .int .i64 age, .bool ch, .bool le, .bool fw] 38)) = W at K0 H ⊢
    go_wp2_with fail
    ((with_reducible refine (HT.out _).mono ?_); rintro e w1 ⟨rfl, rfl⟩)
    go_wp2_with fail
    exact bodyPost_ret (v := .tuple #[]) (by simp [results, Try.results27, go_sem]) rfl ⟨rfl, by rw [E.out]; exact H.out, K0.out⟩
  | true =>
    rw [ht] at HT
    by_cases h1 : n < 0
    · have d1 : decide (n < 0) = true := decide_eq_true h1
      clear hb ht h1
      go_enter Try.func27, Try.ntmps27
      go_upto_region 1 with fail
      generalize (w.alloc (.cells #[.int .u64 r, .int .i64 c, .int .u64 g, .int .i64 z, .int .i64 age, .bool ch, .bool le, .bool fw] 38)) = W at K0 H ⊢
      go_wp2_with fail
      ((with_reducible refine (HT.out _).mono ?_); rintro e w1 ⟨rfl, rfl⟩)
      go_wp2_with fail
      exact bodyPost_ret (v := .tuple #[]) (by simp [results, Try.results27, go_sem]) rfl ⟨rfl, by rw [E.out]; exact H.out, K0.out⟩
    · have d1 : decide (n < 0) = false := decide_eq_false h1
      by_cases h2 : (R.ps.length : Int) ≤ n
      · have d2 : decide ((R.ps.length : Int) ≤ n) = true := decide_eq_true h2
        clear hb ht h1 h2
        go_enter Try.func27, Try.ntmps27
        go_upto_region 1 with fail
        have c1 : (w.alloc (.cells #[.int .u64 r, .int .i64 c, .int .u64 g, .int .i64 z, .int .i64 age, .bool ch, .bool le, .bool fw] 38)).cell? ⟨q, 1, none⟩ = some (.slice (some ⟨rb, 0, none⟩) R.ps.length cap) := H.out.c1
        generalize (w.alloc (.cells #[.int .u64 r, .int .i64 c, .int .u64 g, .int .i64 z, .int .i64 age, .bool ch, .bool le, .bool fw] 38)) = W at K0 H c1 ⊢
        go_wp2_with fail
        ((with_reducible refine (HT.out _).mono ?_); rintro e w1 ⟨rfl, rfl⟩)
        go_wp2_with fail
        exact bodyPost_ret (v := .tuple #[]) (by simp [results, Try.results27, go_sem]) rfl ⟨rfl, by rw [E.out]; exact H.out, K0.out⟩
      · have d2 : decide ((R.ps.length : Int) ≤ n) = false := decide_eq_false h2
        obtain ⟨k, rfl⟩ : ∃ k : Nat, n = k := ⟨n.toNat, by omega⟩
        have hk : k < R.ps.length := by omega
        obtain ⟨p, hp, hu⟩ : ∃ p, R.ps[k]? = some p ∧ p.up = false := by
          rcases hb with hb | hb | ⟨p, hb, hu⟩
          · rw [ht] at hb; cases hb
          · have := rat_none hb; omega
          · obtain ⟨k', e1, e2⟩ := rat_some hb
            have : k = k' := by omega
            subst this
            exact ⟨p, e2, hu⟩
        have d3 : decide (k < R.ps.length) = true := decide_eq_true hk
        have d4 : decide (R.ps.length ≤ k) = false := decide_eq_false (by omega)
        have y1 := H.out.p1 hp
        rw [hu] at y1
        clear hb ht h1 h2 hp hu
        go_enter Try.func27, Try.ntmps27
        go_upto_region 1 with fail
        have c1 : (w.alloc (.cells #[.int .u64 r, .int .i64 c, .int .u64 g, .int .i64 z, .int .i64 age, .bool ch, .bool le, .bool fw] 38)).cell? ⟨q, 1, none⟩ = some (.slice (some ⟨rb, 0, none⟩) R.ps.length cap) := H.out.c1
        generalize (w.alloc (.cells #[.int .u64 r, .int .i64 c, .int .u64 g, .int .i64 z, .int .i64 age, .bool ch, .bool le, .bool fw] 38)) = W at K0 H c1 y1 ⊢
        go_wp2_with fail
        ((with_reducible refine (HT.out _).mono ?_); rintro e w1 ⟨rfl, rfl⟩)
        go_wp2_with fail
        exact bodyPost_ret (v := .tuple #[]) (by simp [results, Try.results27, go_sem]) rfl ⟨rfl, by rw [E.out]; exact H.out, K0.out⟩

set_option maxHeartbeats 8000000 in
set_option maxRecDepth 100000 in
theorem rhear_yes (h : HasR w B q rb cap R) (k : Nat) (p : RPrt) (r c g z age : Int) (ch le fw : Bool) (now : Int) (ht : timeR now = true) (hp : R.ps[k]? = some p) (hu : p.up = true) (ha0 : -9223372036854775808 ≤ age) : Calls Try.prog 27 #[.pointer (some ⟨q, 0, none⟩), .int .i64 (k : Int), .agg #[.int .u64 r, .int .i64 c, .int .u64 g, .int .i64 z, .int .i64 age, .bool ch, .bool le, .bool fw], .int .i64 now] w fun e w' => e = .returned (.tuple #[]) ∧ HasR w' B q rb cap (R.hear (k : Int) ⟨(r, c, g, z), age, ch, le, fw⟩ now) ∧ Tt isR B w w' := by
  have K0 := Lib.hid (Tt.ofBelow (P := isR) (B := B) ((Below.refl w.heap.size w).alloc (Nat.le_refl _) (.cells #[.int .u64 r, .int .i64 c, .int .u64 g, .int .i64 z, .int .i64 age, .bool ch, .bool le, .bool fw] 38)))
  have h0 := h.below ((Below.refl w.heap.size w).alloc (Nat.le_refl _) (.cells #[.int .u64 r, .int .i64 c, .int .u64 g, .int .i64 z, .int .i64 age, .bool ch, .bool le, .bool fw] 38))
  have HT := Lib.hid fun U => rtime_c now U
  have hb0 := Lib.hid (heap_new w (.cells #[.int .u64 r, .int .i64 c, .int .u64 g, .int .i64 z, .int .i64 age, .bool ch, .bool le, .bool fw] 38))
  have HNE := Lib.hid (show ∀ U, Tt isR B (w.alloc (.cells #[.int .u64 r, .int .i64 c, .int .u64 g, .int .i64 z, .int .i64 age, .bool ch, .bool le, .bool fw] 38)) U → U.heap[w.heap.size]? = some (.cells #[.int .u64 r, .int .i64 c, .int .u64 g, .int .i64 z, .int .i64 age, .bool ch, .bool le, .bool fw] 38 (0, 0)) from fun U kz => kz.cells hb0.out (by decide))
  have hat : R.at? (k : Int) = some p := by unfold RPart.at?; rw [if_pos (by omega), Int.toNat_natCast]; exact hp
  have EO := Lib.hid fun e => rhear_old hat (b := ⟨(r, c, g, z), age, ch, le, fw⟩) hu ht e
  have EN := Lib.hid fun e => rhear_new hat (b := ⟨(r, c, g, z), age, ch, le, fw⟩) hu ht e
  have EM := Lib.hid fun e => rhear_news hat (b := ⟨(r, c, g, z), age, ch, le, fw⟩) hu ht e
  have hk : k < R.ps.length := (List.getElem?_eq_some_iff.1 hp).1
  have HG := Lib.hid (goes_yes h0 (k : Int) now ht (by omega) (by omega))
  have HQ := Lib.hid (show (R.goes now).dropAll.ps[k]? = some (p.drop (R.goes now).now) by
    show (R.ps.map (RPrt.drop (R.goes now).now))[k]? = _
    rw [List.getElem?_map, hp]
    rfl)
  have d1 : decide ((k : Int) < 0) = false := decide_eq_false (by omega)
  have d2 : decide ((R.ps.length : Int) ≤ (k : Int)) = false := decide_eq_false (by omega)
  have d3 : decide (k < R.ps.length) = true := decide_eq_true hk
  have d4 : decide (R.ps.length ≤ k) = false := decide_eq_false (by omega)
  have HPG := Lib.hid (rdrop_good (h.good.ps p (List.mem_of_getElem? hp)) (R.goes now).now)
  have y1 := h0.p1 hp
  have c1 := h0.c1
  rw [hu] at y1
  rw [ht] at HT
  have hl := h.n16
  have HLD := Lib.hid (show (R.goes now).dropAll.ps.length = R.ps.length by unfold RPart.dropAll; rw [List.length_map]; rfl)
  clear h h0 ht hp hu hat
  go_enter Try.func27, Try.ntmps27
  go_upto_region 1 with fail
  generalize (w.alloc (.cells #[.int .u64 r, .int .i64 c, .int .u64 g, .int .i64 z, .int .i64 age, .bool ch, .bool le, .bool fw] 38)) = W at K0 HNE HG y1 c1 ⊢
  generalize w.heap.size = bb at HNE hb0 ⊢
  go_wp2_with fail
  ((with_reducible refine (HT.out _).mono ?_); rintro e w1 ⟨rfl, rfl⟩)
  go_wp2_with fail
  ((with_reducible refine HG.out.mono ?_); rintro e w1 ⟨rfl, h1, k1⟩)
  have HD := Lib.hid (drop_c h1)
  have K1 := Lib.hid k1
  clear h1 k1 HG y1 c1 hb0 HT
  go_wp2_with fail
  ((with_reducible refine HD.out.mono ?_); rintro e w2 ⟨rfl, h2, k2⟩)
  have H2 := Lib.hid h2
  have K2 := Lib.hid (K1.out.trans k2)
  clear HD h2 k2 K1
  generalize p.drop (R.goes now).now = p2 at HQ HPG EO EN EM
  have HNO := Lib.hid (show (R.goes now).now = (R.goes now).dropAll.now from rfl)
  rw [HNO.out] at EN EM
  have HBR := Lib.hid (show R.br = (R.goes now).dropAll.br from rfl)
  rw [HBR.out] at EN EM
  generalize (R.goes now).dropAll = S at H2 HQ EO EN EM HLD
  have c1 : w2.cell? ⟨q, 1, none⟩ = some (.slice (some ⟨rb, 0, none⟩) R.ps.length cap) := by have := H2.out.c1; rwa [HLD.out] at this
  have c2 := H2.out.c2
  have y2 := H2.out.p2 HQ.out
  have y3 := H2.out.p3 HQ.out
  have y4 := H2.out.p4 HQ.out
  have y5 := H2.out.p5 HQ.out
  have y6 := H2.out.p6 HQ.out
  have hbb := HNE.out w2 K2.out
  have z0 : w2.cell? ⟨bb, 0, none⟩ = some (.int .u64 r) := cell_of_block hbb rfl
  have z1 : w2.cell? ⟨bb, 1, none⟩ = some (.int .i64 c) := cell_of_block hbb rfl
  have z2 : w2.cell? ⟨bb, 2, none⟩ = some (.int .u64 g) := cell_of_block hbb rfl
  have z3 : w2.cell? ⟨bb, 3, none⟩ = some (.int .i64 z) := cell_of_block hbb rfl
  clear hbb
  have OLD := Lib.hid (show ∀ (htk : p2.takes (r, c, g, z) = false) (U : World), HasR U B q rb cap S → Tt isR B W U → Calls Try.prog 38 #[.pointer (some ⟨q, 0, none⟩)] U fun e w' => e = .returned (.tuple #[]) ∧ HasR w' B q rb cap (R.hear (k : Int) ⟨(r, c, g, z), age, ch, le, fw⟩ now) ∧ Tt isR B w w' from fun htk U hU kU => (rright_c hU).mono (by rintro e w' ⟨rfl, hr, kr⟩; exact ⟨rfl, by rw [EO.out htk]; exact hr, K0.out.trans (kU.trans kr)⟩))
  by_cases e1 : g = p2.v.2.2.1
  · obtain ⟨a1, a2⟩ := eq_t e1
    by_cases e2 : z = p2.v.2.2.2
    · obtain ⟨b1, b2⟩ := eq_t e2
      have SM := Lib.hid (show ((r, c, g, z) : V4).2.2.1 == p2.v.2.2.1 && ((r, c, g, z) : V4).2.2.2 == p2.v.2.2.2 by simp [e1, e2])
      clear e1 e2
      go_wp2
      go_quiet (fail)
      have H3 := Lib.hid (H2.out.drewN nq)
      have K3 := Lib.hid (K2.out.drewN nq)
      clear H2 K2 c1 c2 y2 y3 y4 y5 y6 z0 z1 z2 z3
      generalize w2.drewN nq = w3 at H3 K3 ⊢
      have y2 := H3.out.p2 HQ.out
      have y3 := H3.out.p3 HQ.out
      have y4 := H3.out.p4 HQ.out
      have y5 := H3.out.p5 HQ.out
      have y6 := H3.out.p6 HQ.out
      have hbb := HNE.out w3 K3.out
      have z0 : w3.cell? ⟨bb, 0, none⟩ = some (.int .u64 r) := cell_of_block hbb rfl
      have z1 : w3.cell? ⟨bb, 1, none⟩ = some (.int .i64 c) := cell_of_block hbb rfl
      have z2 : w3.cell? ⟨bb, 2, none⟩ = some (.int .u64 g) := cell_of_block hbb rfl
      have z3 : w3.cell? ⟨bb, 3, none⟩ = some (.int .i64 z) := cell_of_block hbb rfl
      clear hbb
      cases hkp : p2.keeps with
      | false =>
        rw [hkp] at y2
        have htk := Lib.hid (rtake_1 (v := (r, c, g, z)) hkp)
        replace hkp := Lib.hid hkp
        go_wp2
        go_quiet (fail)
        have HV := Lib.hid (H3.out.drewN nq)
        have KV := Lib.hid (K3.out.drewN nq)
        clear H3 K3 y2 y3 y4 y5 y6 z0 z1 z2 z3 OLD EO
        generalize w3.drewN nq = V at HV KV ⊢
        have c1 : V.cell? ⟨q, 1, none⟩ = some (.slice (some ⟨rb, 0, none⟩) R.ps.length cap) := by have := HV.out.c1; rwa [HLD.out] at this
        have f2 := HV.out.fz (k * 12 + 2)
        have y2 := HV.out.p2 HQ.out
        go_upto_region 8 with fail
        have h0 := HV.out.set HQ.out 2 (p' := { p2 with keeps := true }) (u := .bool true) (by decide) rfl ⟨HPG.out.o0, HPG.out.o1, HPG.out.s0, HPG.out.s1, HPG.out.a0⟩
        have H6 := Lib.hid h0
        have K6 := Lib.hid (KV.out.trans (HV.out.ttB (Only.setCell V rb (k * 12 + 2) (.bool true))))
        have HQ6 := Lib.hid (put_at (R := S) (p' := { p2 with keeps := true }) HQ.out)
        have HL6 := Lib.hid (show (S.put k { p2 with keeps := true }).ps.length = R.ps.length from List.length_set.trans HLD.out)
        clear f2 y2 h0 c1
        generalize V.setCell ⟨rb, k * 12 + 2, none⟩ (.bool true) = V6 at H6 K6 ⊢
        have hbb := HNE.out V6 K6.out
        have z0 : V6.cell? ⟨bb, 0, none⟩ = some (.int .u64 r) := cell_of_block hbb rfl
        have z1 : V6.cell? ⟨bb, 1, none⟩ = some (.int .i64 c) := cell_of_block hbb rfl
        have z2 : V6.cell? ⟨bb, 2, none⟩ = some (.int .u64 g) := cell_of_block hbb rfl
        have z3 : V6.cell? ⟨bb, 3, none⟩ = some (.int .i64 z) := cell_of_block hbb rfl
        have z4 : V6.cell? ⟨bb, 4, none⟩ = some (.int .i64 age) := cell_of_block hbb rfl
        have hne : bb ≠ rb := by
          rintro rfl
          obtain ⟨cs, hx⟩ := H6.out.blk
          have e := hbb.symm.trans hx
          simp at e
        have hneq : q ≠ rb := fun e => H6.out.neB e.symm
        have c1 : V6.cell? ⟨q, 1, none⟩ = some (.slice (some ⟨rb, 0, none⟩) R.ps.length cap) := by have := H6.out.c1; rwa [HL6.out] at this
        have c2 : V6.cell? ⟨q, 2, none⟩ = some (.int .i64 S.now) := H6.out.c2
        have f3 := H6.out.fz (k * 12 + 3)
        have y3 := H6.out.p3 HQ6.out
        have f4 := H6.out.fz (k * 12 + 4)
        have y4 := H6.out.p4 HQ6.out
        have f5 := H6.out.fz (k * 12 + 5)
        have y5 := H6.out.p5 HQ6.out
        have f6 := H6.out.fz (k * 12 + 6)
        have y6 := H6.out.p6 HQ6.out
        have f7 := H6.out.fz (k * 12 + 7)
        have y7 := H6.out.p7 HQ6.out
        have f8 := H6.out.fz (k * 12 + 8)
        have y8 := H6.out.p8 HQ6.out
        clear hbb
        go_upto_region 11 with fail
        have n0 := HV.out.good.n0
        have n1 := HV.out.good.n1
        have h0 := H6.out.set HQ6.out 3 (p' := { p2 with keeps := true, v := (r, p2.v.2.1, p2.v.2.2.1, p2.v.2.2.2) }) (u := .int .u64 r) (by decide) rfl ⟨HPG.out.o0, HPG.out.o1, HPG.out.s0, HPG.out.s1, HPG.out.a0⟩
        rw [put_put] at h0
        have q0 := put_at (R := S) (p' := { p2 with keeps := true, v := (r, p2.v.2.1, p2.v.2.2.1, p2.v.2.2.2) }) HQ.out
        have h1 := h0.set q0 4 (p' := { p2 with keeps := true, v := (r, c, p2.v.2.2.1, p2.v.2.2.2) }) (u := .int .i64 c) (by decide) rfl ⟨HPG.out.o0, HPG.out.o1, HPG.out.s0, HPG.out.s1, HPG.out.a0⟩
        rw [put_put] at h1
        have q1 := put_at (R := S) (p' := { p2 with keeps := true, v := (r, c, p2.v.2.2.1, p2.v.2.2.2) }) HQ.out
        have h2 := h1.set q1 5 (p' := { p2 with keeps := true, v := (r, c, g, p2.v.2.2.2) }) (u := .int .u64 g) (by decide) rfl ⟨HPG.out.o0, HPG.out.o1, HPG.out.s0, HPG.out.s1, HPG.out.a0⟩
        rw [put_put] at h2
        have q2 := put_at (R := S) (p' := { p2 with keeps := true, v := (r, c, g, p2.v.2.2.2) }) HQ.out
        have h3 := h2.set q2 6 (p' := { p2 with keeps := true, v := (r, c, g, z) }) (u := .int .i64 z) (by decide) rfl ⟨HPG.out.o0, HPG.out.o1, HPG.out.s0, HPG.out.s1, HPG.out.a0⟩
        rw [put_put] at h3
        have q3 := put_at (R := S) (p' := { p2 with keeps := true, v := (r, c, g, z) }) HQ.out
        have h4 := h3.set q3 7 (p' := { p2 with keeps := true, v := (r, c, g, z), age := age }) (u := .int .i64 age) (by decide) rfl ⟨HPG.out.o0, HPG.out.o1, HPG.out.s0, HPG.out.s1, ha0⟩
        rw [put_put] at h4
        have q4 := put_at (R := S) (p' := { p2 with keeps := true, v := (r, c, g, z), age := age }) HQ.out
        have h5 := h4.set q4 8 (p' := { p2 with keeps := true, v := (r, c, g, z), age := age, on := S.now }) (u := .int .i64 S.now) (by decide) rfl ⟨n0, n1, HPG.out.s0, HPG.out.s1, ha0⟩
        rw [put_put] at h5
        have q5 := put_at (R := S) (p' := { p2 with keeps := true, v := (r, c, g, z), age := age, on := S.now }) HQ.out
        have H5 := Lib.hid h5
        have K5 := Lib.hid (K6.out.trans (H6.out.ttB ((((((Only.setCell V6 rb (k * 12 + 3) (.int .u64 r)).set (k * 12 + 4) (.int .i64 c)).set (k * 12 + 5) (.int .u64 g)).set (k * 12 + 6) (.int .i64 z)).set (k * 12 + 7) (.int .i64 age)).set (k * 12 + 8) (.int .i64 S.now))))
        clear c1 c2 z0 z1 z2 z3 z4 hne hneq f3 f4 f5 f6 f7 f8 y3 y4 y5 y6 y7 y8 n0 n1 H6 K6 HQ6 HL6 h0 q0 h1 q1 h2 q2 h3 q3 h4 q4 h5 q5
        generalize ((((((V6.setCell ⟨rb, k * 12 + 3, none⟩ (.int .u64 r)).setCell ⟨rb, k * 12 + 4, none⟩ (.int .i64 c)).setCell ⟨rb, k * 12 + 5, none⟩ (.int .u64 g)).setCell ⟨rb, k * 12 + 6, none⟩ (.int .i64 z)).setCell ⟨rb, k * 12 + 7, none⟩ (.int .i64 age)).setCell ⟨rb, k * 12 + 8, none⟩ (.int .i64 S.now)) = W5 at H5 K5 ⊢
        have hbb := HNE.out W5 K5.out
        have x2 : W5.cell? ⟨bb, 2, none⟩ = some (.int .u64 g) := cell_of_block hbb rfl
        have x5 : W5.cell? ⟨bb, 5, none⟩ = some (.bool ch) := cell_of_block hbb rfl
        have x0 : W5.cell? ⟨q, 0, none⟩ = some (.int .u64 S.br) := H5.out.c0
        have x3 : W5.cell? ⟨q, 2, none⟩ = some (.int .i64 S.now) := H5.out.c2
        have x8 := H5.out.c8
        have f8 := free_of_block (j := 5) H5.out.tree
        clear hbb HV KV
        cases ch with
        | false =>
          have E := Lib.hid (EN.out htk.out rfl)
          have HR := Lib.hid fun n => rright_c (H5.out.drewN n)
          go_wp2
          go_quiet (fail)
          go_wp2_with fail
          ((with_reducible refine (HR.out _).mono ?_); rintro e w6 ⟨rfl, h6, k6⟩)
          go_wp2_with fail
          go_end0
          exact ⟨rfl, by rw [E.out]; exact h6, K0.out.trans ((K5.out.drewN _).trans k6)⟩
        | true =>
          by_cases hg : g = S.br
          · obtain ⟨g1, g2⟩ := eq_t hg
            have E := Lib.hid (EN.out htk.out (by simp [hg]))
            clear hg
            have HR := Lib.hid fun n => rright_c (H5.out.drewN n)
            go_wp2
            go_quiet (fail)
            go_wp2_with fail
            ((with_reducible refine (HR.out _).mono ?_); rintro e w6 ⟨rfl, h6, k6⟩)
            go_wp2_with fail
            go_end0
            exact ⟨rfl, by rw [E.out]; exact h6, K0.out.trans ((K5.out.drewN _).trans k6)⟩
          · obtain ⟨g1, g2⟩ := ne_t hg
            have E := Lib.hid (EM.out htk.out (by simp [hg]))
            have fq := free_of_block (j := 8) H5.out.tree
            clear hg
            go_wp2
            go_quiet (fail)
            go_upto_region 13 with fail
            have H7 := Lib.hid (show HasR ((W5.drewN nq).setCell ⟨q, 8, none⟩ (.int .i64 S.now)) B q rb cap _ from (H5.out.drewN nq).note)
            have K7 := Lib.hid ((K5.out.drewN nq).trans ((H5.out.drewN nq).ttQ (Only.setCell (W5.drewN nq) q 8 (.int .i64 S.now))))
            have HR := Lib.hid (rright_c H7.out)
            go_wp2_with fail
            ((with_reducible refine HR.out.mono ?_); rintro e w6 ⟨rfl, h6, k6⟩)
            go_wp2_with fail
            go_end0
            exact ⟨rfl, by rw [E.out]; exact h6, K0.out.trans (K7.out.trans k6)⟩
      | true =>
        rw [hkp] at y2
        have htk := Lib.hid (rtake_2 (p := p2) (v := (r, c, g, z)) SM.out)
        replace hkp := Lib.hid hkp
        go_wp2
        go_quiet (fail)
        have HV := Lib.hid (H3.out.drewN nq)
        have KV := Lib.hid (K3.out.drewN nq)
        clear H3 K3 y2 y3 y4 y5 y6 z0 z1 z2 z3 OLD EO
        generalize w3.drewN nq = V at HV KV ⊢
        have c1 : V.cell? ⟨q, 1, none⟩ = some (.slice (some ⟨rb, 0, none⟩) R.ps.length cap) := by have := HV.out.c1; rwa [HLD.out] at this
        have f2 := HV.out.fz (k * 12 + 2)
        have y2 := HV.out.p2 HQ.out
        go_upto_region 8 with fail
        have h0 := HV.out.set HQ.out 2 (p' := { p2 with keeps := true }) (u := .bool true) (by decide) rfl ⟨HPG.out.o0, HPG.out.o1, HPG.out.s0, HPG.out.s1, HPG.out.a0⟩
        have H6 := Lib.hid h0
        have K6 := Lib.hid (KV.out.trans (HV.out.ttB (Only.setCell V rb (k * 12 + 2) (.bool true))))
        have HQ6 := Lib.hid (put_at (R := S) (p' := { p2 with keeps := true }) HQ.out)
        have HL6 := Lib.hid (show (S.put k { p2 with keeps := true }).ps.length = R.ps.length from List.length_set.trans HLD.out)
        clear f2 y2 h0 c1
        generalize V.setCell ⟨rb, k * 12 + 2, none⟩ (.bool true) = V6 at H6 K6 ⊢
        have hbb := HNE.out V6 K6.out
        have z0 : V6.cell? ⟨bb, 0, none⟩ = some (.int .u64 r) := cell_of_block hbb rfl
        have z1 : V6.cell? ⟨bb, 1, none⟩ = some (.int .i64 c) := cell_of_block hbb rfl
        have z2 : V6.cell? ⟨bb, 2, none⟩ = some (.int .u64 g) := cell_of_block hbb rfl
        have z3 : V6.cell? ⟨bb, 3, none⟩ = some (.int .i64 z) := cell_of_block hbb rfl
        have z4 : V6.cell? ⟨bb, 4, none⟩ = some (.int .i64 age) := cell_of_block hbb rfl
        have hne : bb ≠ rb := by
          rintro rfl
          obtain ⟨cs, hx⟩ := H6.out.blk
          have e := hbb.symm.trans hx
          simp at e
        have hneq : q ≠ rb := fun e => H6.out.neB e.symm
        have c1 : V6.cell? ⟨q, 1, none⟩ = some (.slice (some ⟨rb, 0, none⟩) R.ps.length cap) := by have := H6.out.c1; rwa [HL6.out] at this
        have c2 : V6.cell? ⟨q, 2, none⟩ = some (.int .i64 S.now) := H6.out.c2
        have f3 := H6.out.fz (k * 12 + 3)
        have y3 := H6.out.p3 HQ6.out
        have f4 := H6.out.fz (k * 12 + 4)
        have y4 := H6.out.p4 HQ6.out
        have f5 := H6.out.fz (k * 12 + 5)
        have y5 := H6.out.p5 HQ6.out
        have f6 := H6.out.fz (k * 12 + 6)
        have y6 := H6.out.p6 HQ6.out
        have f7 := H6.out.fz (k * 12 + 7)
        have y7 := H6.out.p7 HQ6.out
        have f8 := H6.out.fz (k * 12 + 8)
        have y8 := H6.out.p8 HQ6.out
        clear hbb
        go_upto_region 11 with fail
        have n0 := HV.out.good.n0
        have n1 := HV.out.good.n1
        have h0 := H6.out.set HQ6.out 3 (p' := { p2 with keeps := true, v := (r, p2.v.2.1, p2.v.2.2.1, p2.v.2.2.2) }) (u := .int .u64 r) (by decide) rfl ⟨HPG.out.o0, HPG.out.o1, HPG.out.s0, HPG.out.s1, HPG.out.a0⟩
        rw [put_put] at h0
        have q0 := put_at (R := S) (p' := { p2 with keeps := true, v := (r, p2.v.2.1, p2.v.2.2.1, p2.v.2.2.2) }) HQ.out
        have h1 := h0.set q0 4 (p' := { p2 with keeps := true, v := (r, c, p2.v.2.2.1, p2.v.2.2.2) }) (u := .int .i64 c) (by decide) rfl ⟨HPG.out.o0, HPG.out.o1, HPG.out.s0, HPG.out.s1, HPG.out.a0⟩
        rw [put_put] at h1
        have q1 := put_at (R := S) (p' := { p2 with keeps := true, v := (r, c, p2.v.2.2.1, p2.v.2.2.2) }) HQ.out
        have h2 := h1.set q1 5 (p' := { p2 with keeps := true, v := (r, c, g, p2.v.2.2.2) }) (u := .int .u64 g) (by decide) rfl ⟨HPG.out.o0, HPG.out.o1, HPG.out.s0, HPG.out.s1, HPG.out.a0⟩
        rw [put_put] at h2
        have q2 := put_at (R := S) (p' := { p2 with keeps := true, v := (r, c, g, p2.v.2.2.2) }) HQ.out
        have h3 := h2.set q2 6 (p' := { p2 with keeps := true, v := (r, c, g, z) }) (u := .int .i64 z) (by decide) rfl ⟨HPG.out.o0, HPG.out.o1, HPG.out.s0, HPG.out.s1, HPG.out.a0⟩
        rw [put_put] at h3
        have q3 := put_at (R := S) (p' := { p2 with keeps := true, v := (r, c, g, z) }) HQ.out
        have h4 := h3.set q3 7 (p' := { p2 with keeps := true, v := (r, c, g, z), age := age }) (u := .int .i64 age) (by decide) rfl ⟨HPG.out.o0, HPG.out.o1, HPG.out.s0, HPG.out.s1, ha0⟩
        rw [put_put] at h4
        have q4 := put_at (R := S) (p' := { p2 with keeps := true, v := (r, c, g, z), age := age }) HQ.out
        have h5 := h4.set q4 8 (p' := { p2 with keeps := true, v := (r, c, g, z), age := age, on := S.now }) (u := .int .i64 S.now) (by decide) rfl ⟨n0, n1, HPG.out.s0, HPG.out.s1, ha0⟩
        rw [put_put] at h5
        have q5 := put_at (R := S) (p' := { p2 with keeps := true, v := (r, c, g, z), age := age, on := S.now }) HQ.out
        have H5 := Lib.hid h5
        have K5 := Lib.hid (K6.out.trans (H6.out.ttB ((((((Only.setCell V6 rb (k * 12 + 3) (.int .u64 r)).set (k * 12 + 4) (.int .i64 c)).set (k * 12 + 5) (.int .u64 g)).set (k * 12 + 6) (.int .i64 z)).set (k * 12 + 7) (.int .i64 age)).set (k * 12 + 8) (.int .i64 S.now))))
        clear c1 c2 z0 z1 z2 z3 z4 hne hneq f3 f4 f5 f6 f7 f8 y3 y4 y5 y6 y7 y8 n0 n1 H6 K6 HQ6 HL6 h0 q0 h1 q1 h2 q2 h3 q3 h4 q4 h5 q5
        generalize ((((((V6.setCell ⟨rb, k * 12 + 3, none⟩ (.int .u64 r)).setCell ⟨rb, k * 12 + 4, none⟩ (.int .i64 c)).setCell ⟨rb, k * 12 + 5, none⟩ (.int .u64 g)).setCell ⟨rb, k * 12 + 6, none⟩ (.int .i64 z)).setCell ⟨rb, k * 12 + 7, none⟩ (.int .i64 age)).setCell ⟨rb, k * 12 + 8, none⟩ (.int .i64 S.now)) = W5 at H5 K5 ⊢
        have hbb := HNE.out W5 K5.out
        have x2 : W5.cell? ⟨bb, 2, none⟩ = some (.int .u64 g) := cell_of_block hbb rfl
        have x5 : W5.cell? ⟨bb, 5, none⟩ = some (.bool ch) := cell_of_block hbb rfl
        have x0 : W5.cell? ⟨q, 0, none⟩ = some (.int .u64 S.br) := H5.out.c0
        have x3 : W5.cell? ⟨q, 2, none⟩ = some (.int .i64 S.now) := H5.out.c2
        have x8 := H5.out.c8
        have f8 := free_of_block (j := 5) H5.out.tree
        clear hbb HV KV
        cases ch with
        | false =>
          have E := Lib.hid (EN.out htk.out rfl)
          have HR := Lib.hid fun n => rright_c (H5.out.drewN n)
          go_wp2
          go_quiet (fail)
          go_wp2_with fail
          ((with_reducible refine (HR.out _).mono ?_); rintro e w6 ⟨rfl, h6, k6⟩)
          go_wp2_with fail
          go_end0
          exact ⟨rfl, by rw [E.out]; exact h6, K0.out.trans ((K5.out.drewN _).trans k6)⟩
        | true =>
          by_cases hg : g = S.br
          · obtain ⟨g1, g2⟩ := eq_t hg
            have E := Lib.hid (EN.out htk.out (by simp [hg]))
            clear hg
            have HR := Lib.hid fun n => rright_c (H5.out.drewN n)
            go_wp2
            go_quiet (fail)
            go_wp2_with fail
            ((with_reducible refine (HR.out _).mono ?_); rintro e w6 ⟨rfl, h6, k6⟩)
            go_wp2_with fail
            go_end0
            exact ⟨rfl, by rw [E.out]; exact h6, K0.out.trans ((K5.out.drewN _).trans k6)⟩
          · obtain ⟨g1, g2⟩ := ne_t hg
            have E := Lib.hid (EM.out htk.out (by simp [hg]))
            have fq := free_of_block (j := 8) H5.out.tree
            clear hg
            go_wp2
            go_quiet (fail)
            go_upto_region 13 with fail
            have H7 := Lib.hid (show HasR ((W5.drewN nq).setCell ⟨q, 8, none⟩ (.int .i64 S.now)) B q rb cap _ from (H5.out.drewN nq).note)
            have K7 := Lib.hid ((K5.out.drewN nq).trans ((H5.out.drewN nq).ttQ (Only.setCell (W5.drewN nq) q 8 (.int .i64 S.now))))
            have HR := Lib.hid (rright_c H7.out)
            go_wp2_with fail
            ((with_reducible refine HR.out.mono ?_); rintro e w6 ⟨rfl, h6, k6⟩)
            go_wp2_with fail
            go_end0
            exact ⟨rfl, by rw [E.out]; exact h6, K0.out.trans (K7.out.trans k6)⟩
    · obtain ⟨b1, b2⟩ := ne_t e2
      have SM := Lib.hid (show (((r, c, g, z) : V4).2.2.1 == p2.v.2.2.1 && ((r, c, g, z) : V4).2.2.2 == p2.v.2.2.2) = false by simp [e2])
      clear e1 e2
      go_wp2
      go_quiet (fail)
      have H3 := Lib.hid (H2.out.drewN nq)
      have K3 := Lib.hid (K2.out.drewN nq)
      clear H2 K2 c1 c2 y2 y3 y4 y5 y6 z0 z1 z2 z3
      generalize w2.drewN nq = w3 at H3 K3 ⊢
      have y2 := H3.out.p2 HQ.out
      have y3 := H3.out.p3 HQ.out
      have y4 := H3.out.p4 HQ.out
      have y5 := H3.out.p5 HQ.out
      have y6 := H3.out.p6 HQ.out
      have hbb := HNE.out w3 K3.out
      have z0 : w3.cell? ⟨bb, 0, none⟩ = some (.int .u64 r) := cell_of_block hbb rfl
      have z1 : w3.cell? ⟨bb, 1, none⟩ = some (.int .i64 c) := cell_of_block hbb rfl
      have z2 : w3.cell? ⟨bb, 2, none⟩ = some (.int .u64 g) := cell_of_block hbb rfl
      have z3 : w3.cell? ⟨bb, 3, none⟩ = some (.int .i64 z) := cell_of_block hbb rfl
      clear hbb
      cases hkp : p2.keeps with
      | false =>
        rw [hkp] at y2
        have htk := Lib.hid (rtake_1 (v := (r, c, g, z)) hkp)
        replace hkp := Lib.hid hkp
        go_wp2
        go_quiet (fail)
        have HV := Lib.hid (H3.out.drewN nq)
        have KV := Lib.hid (K3.out.drewN nq)
        clear H3 K3 y2 y3 y4 y5 y6 z0 z1 z2 z3 OLD EO
        generalize w3.drewN nq = V at HV KV ⊢
        have c1 : V.cell? ⟨q, 1, none⟩ = some (.slice (some ⟨rb, 0, none⟩) R.ps.length cap) := by have := HV.out.c1; rwa [HLD.out] at this
        have f2 := HV.out.fz (k * 12 + 2)
        have y2 := HV.out.p2 HQ.out
        go_upto_region 8 with fail
        have h0 := HV.out.set HQ.out 2 (p' := { p2 with keeps := true }) (u := .bool true) (by decide) rfl ⟨HPG.out.o0, HPG.out.o1, HPG.out.s0, HPG.out.s1, HPG.out.a0⟩
        have H6 := Lib.hid h0
        have K6 := Lib.hid (KV.out.trans (HV.out.ttB (Only.setCell V rb (k * 12 + 2) (.bool true))))
        have HQ6 := Lib.hid (put_at (R := S) (p' := { p2 with keeps := true }) HQ.out)
        have HL6 := Lib.hid (show (S.put k { p2 with keeps := true }).ps.length = R.ps.length from List.length_set.trans HLD.out)
        clear f2 y2 h0 c1
        generalize V.setCell ⟨rb, k * 12 + 2, none⟩ (.bool true) = V6 at H6 K6 ⊢
        have hbb := HNE.out V6 K6.out
        have z0 : V6.cell? ⟨bb, 0, none⟩ = some (.int .u64 r) := cell_of_block hbb rfl
        have z1 : V6.cell? ⟨bb, 1, none⟩ = some (.int .i64 c) := cell_of_block hbb rfl
        have z2 : V6.cell? ⟨bb, 2, none⟩ = some (.int .u64 g) := cell_of_block hbb rfl
        have z3 : V6.cell? ⟨bb, 3, none⟩ = some (.int .i64 z) := cell_of_block hbb rfl
        have z4 : V6.cell? ⟨bb, 4, none⟩ = some (.int .i64 age) := cell_of_block hbb rfl
        have hne : bb ≠ rb := by
          rintro rfl
          obtain ⟨cs, hx⟩ := H6.out.blk
          have e := hbb.symm.trans hx
          simp at e
        have hneq : q ≠ rb := fun e => H6.out.neB e.symm
        have c1 : V6.cell? ⟨q, 1, none⟩ = some (.slice (some ⟨rb, 0, none⟩) R.ps.length cap) := by have := H6.out.c1; rwa [HL6.out] at this
        have c2 : V6.cell? ⟨q, 2, none⟩ = some (.int .i64 S.now) := H6.out.c2
        have f3 := H6.out.fz (k * 12 + 3)
        have y3 := H6.out.p3 HQ6.out
        have f4 := H6.out.fz (k * 12 + 4)
        have y4 := H6.out.p4 HQ6.out
        have f5 := H6.out.fz (k * 12 + 5)
        have y5 := H6.out.p5 HQ6.out
        have f6 := H6.out.fz (k * 12 + 6)
        have y6 := H6.out.p6 HQ6.out
        have f7 := H6.out.fz (k * 12 + 7)
        have y7 := H6.out.p7 HQ6.out
        have f8 := H6.out.fz (k * 12 + 8)
        have y8 := H6.out.p8 HQ6.out
        clear hbb
        go_upto_region 11 with fail
        have n0 := HV.out.good.n0
        have n1 := HV.out.good.n1
        have h0 := H6.out.set HQ6.out 3 (p' := { p2 with keeps := true, v := (r, p2.v.2.1, p2.v.2.2.1, p2.v.2.2.2) }) (u := .int .u64 r) (by decide) rfl ⟨HPG.out.o0, HPG.out.o1, HPG.out.s0, HPG.out.s1, HPG.out.a0⟩
        rw [put_put] at h0
        have q0 := put_at (R := S) (p' := { p2 with keeps := true, v := (r, p2.v.2.1, p2.v.2.2.1, p2.v.2.2.2) }) HQ.out
        have h1 := h0.set q0 4 (p' := { p2 with keeps := true, v := (r, c, p2.v.2.2.1, p2.v.2.2.2) }) (u := .int .i64 c) (by decide) rfl ⟨HPG.out.o0, HPG.out.o1, HPG.out.s0, HPG.out.s1, HPG.out.a0⟩
        rw [put_put] at h1
        have q1 := put_at (R := S) (p' := { p2 with keeps := true, v := (r, c, p2.v.2.2.1, p2.v.2.2.2) }) HQ.out
        have h2 := h1.set q1 5 (p' := { p2 with keeps := true, v := (r, c, g, p2.v.2.2.2) }) (u := .int .u64 g) (by decide) rfl ⟨HPG.out.o0, HPG.out.o1, HPG.out.s0, HPG.out.s1, HPG.out.a0⟩
        rw [put_put] at h2
        have q2 := put_at (R := S) (p' := { p2 with keeps := true, v := (r, c, g, p2.v.2.2.2) }) HQ.out
        have h3 := h2.set q2 6 (p' := { p2 with keeps := true, v := (r, c, g, z) }) (u := .int .i64 z) (by decide) rfl ⟨HPG.out.o0, HPG.out.o1, HPG.out.s0, HPG.out.s1, HPG.out.a0⟩
        rw [put_put] at h3
        have q3 := put_at (R := S) (p' := { p2 with keeps := true, v := (r, c, g, z) }) HQ.out
        have h4 := h3.set q3 7 (p' := { p2 with keeps := true, v := (r, c, g, z), age := age }) (u := .int .i64 age) (by decide) rfl ⟨HPG.out.o0, HPG.out.o1, HPG.out.s0, HPG.out.s1, ha0⟩
        rw [put_put] at h4
        have q4 := put_at (R := S) (p' := { p2 with keeps := true, v := (r, c, g, z), age := age }) HQ.out
        have h5 := h4.set q4 8 (p' := { p2 with keeps := true, v := (r, c, g, z), age := age, on := S.now }) (u := .int .i64 S.now) (by decide) rfl ⟨n0, n1, HPG.out.s0, HPG.out.s1, ha0⟩
        rw [put_put] at h5
        have q5 := put_at (R := S) (p' := { p2 with keeps := true, v := (r, c, g, z), age := age, on := S.now }) HQ.out
        have H5 := Lib.hid h5
        have K5 := Lib.hid (K6.out.trans (H6.out.ttB ((((((Only.setCell V6 rb (k * 12 + 3) (.int .u64 r)).set (k * 12 + 4) (.int .i64 c)).set (k * 12 + 5) (.int .u64 g)).set (k * 12 + 6) (.int .i64 z)).set (k * 12 + 7) (.int .i64 age)).set (k * 12 + 8) (.int .i64 S.now))))
        clear c1 c2 z0 z1 z2 z3 z4 hne hneq f3 f4 f5 f6 f7 f8 y3 y4 y5 y6 y7 y8 n0 n1 H6 K6 HQ6 HL6 h0 q0 h1 q1 h2 q2 h3 q3 h4 q4 h5 q5
        generalize ((((((V6.setCell ⟨rb, k * 12 + 3, none⟩ (.int .u64 r)).setCell ⟨rb, k * 12 + 4, none⟩ (.int .i64 c)).setCell ⟨rb, k * 12 + 5, none⟩ (.int .u64 g)).setCell ⟨rb, k * 12 + 6, none⟩ (.int .i64 z)).setCell ⟨rb, k * 12 + 7, none⟩ (.int .i64 age)).setCell ⟨rb, k * 12 + 8, none⟩ (.int .i64 S.now)) = W5 at H5 K5 ⊢
        have hbb := HNE.out W5 K5.out
        have x2 : W5.cell? ⟨bb, 2, none⟩ = some (.int .u64 g) := cell_of_block hbb rfl
        have x5 : W5.cell? ⟨bb, 5, none⟩ = some (.bool ch) := cell_of_block hbb rfl
        have x0 : W5.cell? ⟨q, 0, none⟩ = some (.int .u64 S.br) := H5.out.c0
        have x3 : W5.cell? ⟨q, 2, none⟩ = some (.int .i64 S.now) := H5.out.c2
        have x8 := H5.out.c8
        have f8 := free_of_block (j := 5) H5.out.tree
        clear hbb HV KV
        cases ch with
        | false =>
          have E := Lib.hid (EN.out htk.out rfl)
          have HR := Lib.hid fun n => rright_c (H5.out.drewN n)
          go_wp2
          go_quiet (fail)
          go_wp2_with fail
          ((with_reducible refine (HR.out _).mono ?_); rintro e w6 ⟨rfl, h6, k6⟩)
          go_wp2_with fail
          go_end0
          exact ⟨rfl, by rw [E.out]; exact h6, K0.out.trans ((K5.out.drewN _).trans k6)⟩
        | true =>
          by_cases hg : g = S.br
          · obtain ⟨g1, g2⟩ := eq_t hg
            have E := Lib.hid (EN.out htk.out (by simp [hg]))
            clear hg
            have HR := Lib.hid fun n => rright_c (H5.out.drewN n)
            go_wp2
            go_quiet (fail)
            go_wp2_with fail
            ((with_reducible refine (HR.out _).mono ?_); rintro e w6 ⟨rfl, h6, k6⟩)
            go_wp2_with fail
            go_end0
            exact ⟨rfl, by rw [E.out]; exact h6, K0.out.trans ((K5.out.drewN _).trans k6)⟩
          · obtain ⟨g1, g2⟩ := ne_t hg
            have E := Lib.hid (EM.out htk.out (by simp [hg]))
            have fq := free_of_block (j := 8) H5.out.tree
            clear hg
            go_wp2
            go_quiet (fail)
            go_upto_region 13 with fail
            have H7 := Lib.hid (show HasR ((W5.drewN nq).setCell ⟨q, 8, none⟩ (.int .i64 S.now)) B q rb cap _ from (H5.out.drewN nq).note)
            have K7 := Lib.hid ((K5.out.drewN nq).trans ((H5.out.drewN nq).ttQ (Only.setCell (W5.drewN nq) q 8 (.int .i64 S.now))))
            have HR := Lib.hid (rright_c H7.out)
            go_wp2_with fail
            ((with_reducible refine HR.out.mono ?_); rintro e w6 ⟨rfl, h6, k6⟩)
            go_wp2_with fail
            go_end0
            exact ⟨rfl, by rw [E.out]; exact h6, K0.out.trans (K7.out.trans k6)⟩
      | true =>
        rw [hkp] at y2
        have TK := Lib.hid (rtake_3 (v := (r, c, g, z)) hkp SM.out)
        replace hkp := Lib.hid hkp
        have HC := Lib.hid fun U => rcmp_c r c g z p2.v.1 p2.v.2.1 p2.v.2.2.1 p2.v.2.2.2 U
        replace TK : Hid (p2.takes (r, c, g, z) = decide (cmpV (r, c, g, z) (p2.v.1, p2.v.2.1, p2.v.2.2.1, p2.v.2.2.2) ≤ 0)) := TK
        generalize cmpV (r, c, g, z) (p2.v.1, p2.v.2.1, p2.v.2.2.1, p2.v.2.2.2) = cc at HC TK
        go_wp2
        go_still_tail 15, (by kernel_rfl)
        change wpList _ _ _ _ _ w3.drew
        go_wp2_with fail
        ((with_reducible refine (HC.out _).mono ?_); rintro e w4 ⟨rfl, k4⟩)
        have HV0 := Lib.hid ((H3.out.drewN 1).below k4)
        have KV0 := Lib.hid ((K3.out.drewN 1).grow k4)
        clear H3 K3 y2 y3 y4 y5 y6 z0 z1 z2 z3 k4 HC
        cases dcc : decide (cc ≤ 0) with
        | true =>
          rw [dcc] at TK
          have htk := TK
          clear EO OLD
          have HV := HV0
          have KV := KV0
          clear HV0 KV0
          generalize w4 = V at HV KV ⊢
          have c1 : V.cell? ⟨q, 1, none⟩ = some (.slice (some ⟨rb, 0, none⟩) R.ps.length cap) := by have := HV.out.c1; rwa [HLD.out] at this
          have f2 := HV.out.fz (k * 12 + 2)
          have y2 := HV.out.p2 HQ.out
          go_upto_region 8 with fail
          have h0 := HV.out.set HQ.out 2 (p' := { p2 with keeps := true }) (u := .bool true) (by decide) rfl ⟨HPG.out.o0, HPG.out.o1, HPG.out.s0, HPG.out.s1, HPG.out.a0⟩
          have H6 := Lib.hid h0
          have K6 := Lib.hid (KV.out.trans (HV.out.ttB (Only.setCell V rb (k * 12 + 2) (.bool true))))
          have HQ6 := Lib.hid (put_at (R := S) (p' := { p2 with keeps := true }) HQ.out)
          have HL6 := Lib.hid (show (S.put k { p2 with keeps := true }).ps.length = R.ps.length from List.length_set.trans HLD.out)
          clear f2 y2 h0 c1
          generalize V.setCell ⟨rb, k * 12 + 2, none⟩ (.bool true) = V6 at H6 K6 ⊢
          have hbb := HNE.out V6 K6.out
          have z0 : V6.cell? ⟨bb, 0, none⟩ = some (.int .u64 r) := cell_of_block hbb rfl
          have z1 : V6.cell? ⟨bb, 1, none⟩ = some (.int .i64 c) := cell_of_block hbb rfl
          have z2 : V6.cell? ⟨bb, 2, none⟩ = some (.int .u64 g) := cell_of_block hbb rfl
          have z3 : V6.cell? ⟨bb, 3, none⟩ = some (.int .i64 z) := cell_of_block hbb rfl
          have z4 : V6.cell? ⟨bb, 4, none⟩ = some (.int .i64 age) := cell_of_block hbb rfl
          have hne : bb ≠ rb := by
            rintro rfl
            obtain ⟨cs, hx⟩ := H6.out.blk
            have e := hbb.symm.trans hx
            simp at e
          have hneq : q ≠ rb := fun e => H6.out.neB e.symm
          have c1 : V6.cell? ⟨q, 1, none⟩ = some (.slice (some ⟨rb, 0, none⟩) R.ps.length cap) := by have := H6.out.c1; rwa [HL6.out] at this
          have c2 : V6.cell? ⟨q, 2, none⟩ = some (.int .i64 S.now) := H6.out.c2
          have f3 := H6.out.fz (k * 12 + 3)
          have y3 := H6.out.p3 HQ6.out
          have f4 := H6.out.fz (k * 12 + 4)
          have y4 := H6.out.p4 HQ6.out
          have f5 := H6.out.fz (k * 12 + 5)
          have y5 := H6.out.p5 HQ6.out
          have f6 := H6.out.fz (k * 12 + 6)
          have y6 := H6.out.p6 HQ6.out
          have f7 := H6.out.fz (k * 12 + 7)
          have y7 := H6.out.p7 HQ6.out
          have f8 := H6.out.fz (k * 12 + 8)
          have y8 := H6.out.p8 HQ6.out
          clear hbb
          go_upto_region 11 with fail
          have n0 := HV.out.good.n0
          have n1 := HV.out.good.n1
          have h0 := H6.out.set HQ6.out 3 (p' := { p2 with keeps := true, v := (r, p2.v.2.1, p2.v.2.2.1, p2.v.2.2.2) }) (u := .int .u64 r) (by decide) rfl ⟨HPG.out.o0, HPG.out.o1, HPG.out.s0, HPG.out.s1, HPG.out.a0⟩
          rw [put_put] at h0
          have q0 := put_at (R := S) (p' := { p2 with keeps := true, v := (r, p2.v.2.1, p2.v.2.2.1, p2.v.2.2.2) }) HQ.out
          have h1 := h0.set q0 4 (p' := { p2 with keeps := true, v := (r, c, p2.v.2.2.1, p2.v.2.2.2) }) (u := .int .i64 c) (by decide) rfl ⟨HPG.out.o0, HPG.out.o1, HPG.out.s0, HPG.out.s1, HPG.out.a0⟩
          rw [put_put] at h1
          have q1 := put_at (R := S) (p' := { p2 with keeps := true, v := (r, c, p2.v.2.2.1, p2.v.2.2.2) }) HQ.out
          have h2 := h1.set q1 5 (p' := { p2 with keeps := true, v := (r, c, g, p2.v.2.2.2) }) (u := .int .u64 g) (by decide) rfl ⟨HPG.out.o0, HPG.out.o1, HPG.out.s0, HPG.out.s1, HPG.out.a0⟩
          rw [put_put] at h2
          have q2 := put_at (R := S) (p' := { p2 with keeps := true, v := (r, c, g, p2.v.2.2.2) }) HQ.out
          have h3 := h2.set q2 6 (p' := { p2 with keeps := true, v := (r, c, g, z) }) (u := .int .i64 z) (by decide) rfl ⟨HPG.out.o0, HPG.out.o1, HPG.out.s0, HPG.out.s1, HPG.out.a0⟩
          rw [put_put] at h3
          have q3 := put_at (R := S) (p' := { p2 with keeps := true, v := (r, c, g, z) }) HQ.out
          have h4 := h3.set q3 7 (p' := { p2 with keeps := true, v := (r, c, g, z), age := age }) (u := .int .i64 age) (by decide) rfl ⟨HPG.out.o0, HPG.out.o1, HPG.out.s0, HPG.out.s1, ha0⟩
          rw [put_put] at h4
          have q4 := put_at (R := S) (p' := { p2 with keeps := true, v := (r, c, g, z), age := age }) HQ.out
          have h5 := h4.set q4 8 (p' := { p2 with keeps := true, v := (r, c, g, z), age := age, on := S.now }) (u := .int .i64 S.now) (by decide) rfl ⟨n0, n1, HPG.out.s0, HPG.out.s1, ha0⟩
          rw [put_put] at h5
          have q5 := put_at (R := S) (p' := { p2 with keeps := true, v := (r, c, g, z), age := age, on := S.now }) HQ.out
          have H5 := Lib.hid h5
          have K5 := Lib.hid (K6.out.trans (H6.out.ttB ((((((Only.setCell V6 rb (k * 12 + 3) (.int .u64 r)).set (k * 12 + 4) (.int .i64 c)).set (k * 12 + 5) (.int .u64 g)).set (k * 12 + 6) (.int .i64 z)).set (k * 12 + 7) (.int .i64 age)).set (k * 12 + 8) (.int .i64 S.now))))
          clear c1 c2 z0 z1 z2 z3 z4 hne hneq f3 f4 f5 f6 f7 f8 y3 y4 y5 y6 y7 y8 n0 n1 H6 K6 HQ6 HL6 h0 q0 h1 q1 h2 q2 h3 q3 h4 q4 h5 q5
          generalize ((((((V6.setCell ⟨rb, k * 12 + 3, none⟩ (.int .u64 r)).setCell ⟨rb, k * 12 + 4, none⟩ (.int .i64 c)).setCell ⟨rb, k * 12 + 5, none⟩ (.int .u64 g)).setCell ⟨rb, k * 12 + 6, none⟩ (.int .i64 z)).setCell ⟨rb, k * 12 + 7, none⟩ (.int .i64 age)).setCell ⟨rb, k * 12 + 8, none⟩ (.int .i64 S.now)) = W5 at H5 K5 ⊢
          have hbb := HNE.out W5 K5.out
          have x2 : W5.cell? ⟨bb, 2, none⟩ = some (.int .u64 g) := cell_of_block hbb rfl
          have x5 : W5.cell? ⟨bb, 5, none⟩ = some (.bool ch) := cell_of_block hbb rfl
          have x0 : W5.cell? ⟨q, 0, none⟩ = some (.int .u64 S.br) := H5.out.c0
          have x3 : W5.cell? ⟨q, 2, none⟩ = some (.int .i64 S.now) := H5.out.c2
          have x8 := H5.out.c8
          have f8 := free_of_block (j := 5) H5.out.tree
          clear hbb HV KV
          cases ch with
          | false =>
            have E := Lib.hid (EN.out htk.out rfl)
            have HR := Lib.hid fun n => rright_c (H5.out.drewN n)
            go_wp2
            go_quiet (fail)
            go_wp2_with fail
            ((with_reducible refine (HR.out _).mono ?_); rintro e w6 ⟨rfl, h6, k6⟩)
            go_wp2_with fail
            go_end0
            exact ⟨rfl, by rw [E.out]; exact h6, K0.out.trans ((K5.out.drewN _).trans k6)⟩
          | true =>
            by_cases hg : g = S.br
            · obtain ⟨g1, g2⟩ := eq_t hg
              have E := Lib.hid (EN.out htk.out (by simp [hg]))
              clear hg
              have HR := Lib.hid fun n => rright_c (H5.out.drewN n)
              go_wp2
              go_quiet (fail)
              go_wp2_with fail
              ((with_reducible refine (HR.out _).mono ?_); rintro e w6 ⟨rfl, h6, k6⟩)
              go_wp2_with fail
              go_end0
              exact ⟨rfl, by rw [E.out]; exact h6, K0.out.trans ((K5.out.drewN _).trans k6)⟩
            · obtain ⟨g1, g2⟩ := ne_t hg
              have E := Lib.hid (EM.out htk.out (by simp [hg]))
              have fq := free_of_block (j := 8) H5.out.tree
              clear hg
              go_wp2
              go_quiet (fail)
              go_upto_region 13 with fail
              have H7 := Lib.hid (show HasR ((W5.drewN nq).setCell ⟨q, 8, none⟩ (.int .i64 S.now)) B q rb cap _ from (H5.out.drewN nq).note)
              have K7 := Lib.hid ((K5.out.drewN nq).trans ((H5.out.drewN nq).ttQ (Only.setCell (W5.drewN nq) q 8 (.int .i64 S.now))))
              have HR := Lib.hid (rright_c H7.out)
              go_wp2_with fail
              ((with_reducible refine HR.out.mono ?_); rintro e w6 ⟨rfl, h6, k6⟩)
              go_wp2_with fail
              go_end0
              exact ⟨rfl, by rw [E.out]; exact h6, K0.out.trans (K7.out.trans k6)⟩
        | false =>
          rw [dcc] at TK
          have HR := Lib.hid (OLD.out TK.out w4 HV0.out KV0.out)
          go_wp2_with fail
          ((with_reducible refine HR.out.mono ?_); rintro e w6 ⟨rfl, h6, k6⟩)
          go_wp2_with fail
          go_end0
          exact ⟨rfl, h6, k6⟩
  · obtain ⟨a1, a2⟩ := ne_t e1
    have SM := Lib.hid (show (((r, c, g, z) : V4).2.2.1 == p2.v.2.2.1 && ((r, c, g, z) : V4).2.2.2 == p2.v.2.2.2) = false by simp [e1])
    clear e1
    go_wp2
    go_quiet (fail)
    have H3 := Lib.hid (H2.out.drewN nq)
    have K3 := Lib.hid (K2.out.drewN nq)
    clear H2 K2 c1 c2 y2 y3 y4 y5 y6 z0 z1 z2 z3
    generalize w2.drewN nq = w3 at H3 K3 ⊢
    have y2 := H3.out.p2 HQ.out
    have y3 := H3.out.p3 HQ.out
    have y4 := H3.out.p4 HQ.out
    have y5 := H3.out.p5 HQ.out
    have y6 := H3.out.p6 HQ.out
    have hbb := HNE.out w3 K3.out
    have z0 : w3.cell? ⟨bb, 0, none⟩ = some (.int .u64 r) := cell_of_block hbb rfl
    have z1 : w3.cell? ⟨bb, 1, none⟩ = some (.int .i64 c) := cell_of_block hbb rfl
    have z2 : w3.cell? ⟨bb, 2, none⟩ = some (.int .u64 g) := cell_of_block hbb rfl
    have z3 : w3.cell? ⟨bb, 3, none⟩ = some (.int .i64 z) := cell_of_block hbb rfl
    clear hbb
    cases hkp : p2.keeps with
    | false =>
      rw [hkp] at y2
      have htk := Lib.hid (rtake_1 (v := (r, c, g, z)) hkp)
      replace hkp := Lib.hid hkp
      go_wp2
      go_quiet (fail)
      have HV := Lib.hid (H3.out.drewN nq)
      have KV := Lib.hid (K3.out.drewN nq)
      clear H3 K3 y2 y3 y4 y5 y6 z0 z1 z2 z3 OLD EO
      generalize w3.drewN nq = V at HV KV ⊢
      have c1 : V.cell? ⟨q, 1, none⟩ = some (.slice (some ⟨rb, 0, none⟩) R.ps.length cap) := by have := HV.out.c1; rwa [HLD.out] at this
      have f2 := HV.out.fz (k * 12 + 2)
      have y2 := HV.out.p2 HQ.out
      go_upto_region 8 with fail
      have h0 := HV.out.set HQ.out 2 (p' := { p2 with keeps := true }) (u := .bool true) (by decide) rfl ⟨HPG.out.o0, HPG.out.o1, HPG.out.s0, HPG.out.s1, HPG.out.a0⟩
      have H6 := Lib.hid h0
      have K6 := Lib.hid (KV.out.trans (HV.out.ttB (Only.setCell V rb (k * 12 + 2) (.bool true))))
      have HQ6 := Lib.hid (put_at (R := S) (p' := { p2 with keeps := true }) HQ.out)
      have HL6 := Lib.hid (show (S.put k { p2 with keeps := true }).ps.length = R.ps.length from List.length_set.trans HLD.out)
      clear f2 y2 h0 c1
      generalize V.setCell ⟨rb, k * 12 + 2, none⟩ (.bool true) = V6 at H6 K6 ⊢
      have hbb := HNE.out V6 K6.out
      have z0 : V6.cell? ⟨bb, 0, none⟩ = some (.int .u64 r) := cell_of_block hbb rfl
      have z1 : V6.cell? ⟨bb, 1, none⟩ = some (.int .i64 c) := cell_of_block hbb rfl
      have z2 : V6.cell? ⟨bb, 2, none⟩ = some (.int .u64 g) := cell_of_block hbb rfl
      have z3 : V6.cell? ⟨bb, 3, none⟩ = some (.int .i64 z) := cell_of_block hbb rfl
      have z4 : V6.cell? ⟨bb, 4, none⟩ = some (.int .i64 age) := cell_of_block hbb rfl
      have hne : bb ≠ rb := by
        rintro rfl
        obtain ⟨cs, hx⟩ := H6.out.blk
        have e := hbb.symm.trans hx
        simp at e
      have hneq : q ≠ rb := fun e => H6.out.neB e.symm
      have c1 : V6.cell? ⟨q, 1, none⟩ = some (.slice (some ⟨rb, 0, none⟩) R.ps.length cap) := by have := H6.out.c1; rwa [HL6.out] at this
      have c2 : V6.cell? ⟨q, 2, none⟩ = some (.int .i64 S.now) := H6.out.c2
      have f3 := H6.out.fz (k * 12 + 3)
      have y3 := H6.out.p3 HQ6.out
      have f4 := H6.out.fz (k * 12 + 4)
      have y4 := H6.out.p4 HQ6.out
      have f5 := H6.out.fz (k * 12 + 5)
      have y5 := H6.out.p5 HQ6.out
      have f6 := H6.out.fz (k * 12 + 6)
      have y6 := H6.out.p6 HQ6.out
      have f7 := H6.out.fz (k * 12 + 7)
      have y7 := H6.out.p7 HQ6.out
      have f8 := H6.out.fz (k * 12 + 8)
      have y8 := H6.out.p8 HQ6.out
      clear hbb
      go_upto_region 11 with fail
      have n0 := HV.out.good.n0
      have n1 := HV.out.good.n1
      have h0 := H6.out.set HQ6.out 3 (p' := { p2 with keeps := true, v := (r, p2.v.2.1, p2.v.2.2.1, p2.v.2.2.2) }) (u := .int .u64 r) (by decide) rfl ⟨HPG.out.o0, HPG.out.o1, HPG.out.s0, HPG.out.s1, HPG.out.a0⟩
      rw [put_put] at h0
      have q0 := put_at (R := S) (p' := { p2 with keeps := true, v := (r, p2.v.2.1, p2.v.2.2.1, p2.v.2.2.2) }) HQ.out
      have h1 := h0.set q0 4 (p' := { p2 with keeps := true, v := (r, c, p2.v.2.2.1, p2.v.2.2.2) }) (u := .int .i64 c) (by decide) rfl ⟨HPG.out.o0, HPG.out.o1, HPG.out.s0, HPG.out.s1, HPG.out.a0⟩
      rw [put_put] at h1
      have q1 := put_at (R := S) (p' := { p2 with keeps := true, v := (r, c, p2.v.2.2.1, p2.v.2.2.2) }) HQ.out
      have h2 := h1.set q1 5 (p' := { p2 with keeps := true, v := (r, c, g, p2.v.2.2.2) }) (u := .int .u64 g) (by decide) rfl ⟨HPG.out.o0, HPG.out.o1, HPG.out.s0, HPG.out.s1, HPG.out.a0⟩
      rw [put_put] at h2
      have q2 := put_at (R := S) (p' := { p2 with keeps := true, v := (r, c, g, p2.v.2.2.2) }) HQ.out
      have h3 := h2.set q2 6 (p' := { p2 with keeps := true, v := (r, c, g, z) }) (u := .int .i64 z) (by decide) rfl ⟨HPG.out.o0, HPG.out.o1, HPG.out.s0, HPG.out.s1, HPG.out.a0⟩
      rw [put_put] at h3
      have q3 := put_at (R := S) (p' := { p2 with keeps := true, v := (r, c, g, z) }) HQ.out
      have h4 := h3.set q3 7 (p' := { p2 with keeps := true, v := (r, c, g, z), age := age }) (u := .int .i64 age) (by decide) rfl ⟨HPG.out.o0, HPG.out.o1, HPG.out.s0, HPG.out.s1, ha0⟩
      rw [put_put] at h4
      have q4 := put_at (R := S) (p' := { p2 with keeps := true, v := (r, c, g, z), age := age }) HQ.out
      have h5 := h4.set q4 8 (p' := { p2 with keeps := true, v := (r, c, g, z), age := age, on := S.now }) (u := .int .i64 S.now) (by decide) rfl ⟨n0, n1, HPG.out.s0, HPG.out.s1, ha0⟩
      rw [put_put] at h5
      have q5 := put_at (R := S) (p' := { p2 with keeps := true, v := (r, c, g, z), age := age, on := S.now }) HQ.out
      have H5 := Lib.hid h5
      have K5 := Lib.hid (K6.out.trans (H6.out.ttB ((((((Only.setCell V6 rb (k * 12 + 3) (.int .u64 r)).set (k * 12 + 4) (.int .i64 c)).set (k * 12 + 5) (.int .u64 g)).set (k * 12 + 6) (.int .i64 z)).set (k * 12 + 7) (.int .i64 age)).set (k * 12 + 8) (.int .i64 S.now))))
      clear c1 c2 z0 z1 z2 z3 z4 hne hneq f3 f4 f5 f6 f7 f8 y3 y4 y5 y6 y7 y8 n0 n1 H6 K6 HQ6 HL6 h0 q0 h1 q1 h2 q2 h3 q3 h4 q4 h5 q5
      generalize ((((((V6.setCell ⟨rb, k * 12 + 3, none⟩ (.int .u64 r)).setCell ⟨rb, k * 12 + 4, none⟩ (.int .i64 c)).setCell ⟨rb, k * 12 + 5, none⟩ (.int .u64 g)).setCell ⟨rb, k * 12 + 6, none⟩ (.int .i64 z)).setCell ⟨rb, k * 12 + 7, none⟩ (.int .i64 age)).setCell ⟨rb, k * 12 + 8, none⟩ (.int .i64 S.now)) = W5 at H5 K5 ⊢
      have hbb := HNE.out W5 K5.out
      have x2 : W5.cell? ⟨bb, 2, none⟩ = some (.int .u64 g) := cell_of_block hbb rfl
      have x5 : W5.cell? ⟨bb, 5, none⟩ = some (.bool ch) := cell_of_block hbb rfl
      have x0 : W5.cell? ⟨q, 0, none⟩ = some (.int .u64 S.br) := H5.out.c0
      have x3 : W5.cell? ⟨q, 2, none⟩ = some (.int .i64 S.now) := H5.out.c2
      have x8 := H5.out.c8
      have f8 := free_of_block (j := 5) H5.out.tree
      clear hbb HV KV
      cases ch with
      | false =>
        have E := Lib.hid (EN.out htk.out rfl)
        have HR := Lib.hid fun n => rright_c (H5.out.drewN n)
        go_wp2
        go_quiet (fail)
        go_wp2_with fail
        ((with_reducible refine (HR.out _).mono ?_); rintro e w6 ⟨rfl, h6, k6⟩)
        go_wp2_with fail
        go_end0
        exact ⟨rfl, by rw [E.out]; exact h6, K0.out.trans ((K5.out.drewN _).trans k6)⟩
      | true =>
        by_cases hg : g = S.br
        · obtain ⟨g1, g2⟩ := eq_t hg
          have E := Lib.hid (EN.out htk.out (by simp [hg]))
          clear hg
          have HR := Lib.hid fun n => rright_c (H5.out.drewN n)
          go_wp2
          go_quiet (fail)
          go_wp2_with fail
          ((with_reducible refine (HR.out _).mono ?_); rintro e w6 ⟨rfl, h6, k6⟩)
          go_wp2_with fail
          go_end0
          exact ⟨rfl, by rw [E.out]; exact h6, K0.out.trans ((K5.out.drewN _).trans k6)⟩
        · obtain ⟨g1, g2⟩ := ne_t hg
          have E := Lib.hid (EM.out htk.out (by simp [hg]))
          have fq := free_of_block (j := 8) H5.out.tree
          clear hg
          go_wp2
          go_quiet (fail)
          go_upto_region 13 with fail
          have H7 := Lib.hid (show HasR ((W5.drewN nq).setCell ⟨q, 8, none⟩ (.int .i64 S.now)) B q rb cap _ from (H5.out.drewN nq).note)
          have K7 := Lib.hid ((K5.out.drewN nq).trans ((H5.out.drewN nq).ttQ (Only.setCell (W5.drewN nq) q 8 (.int .i64 S.now))))
          have HR := Lib.hid (rright_c H7.out)
          go_wp2_with fail
          ((with_reducible refine HR.out.mono ?_); rintro e w6 ⟨rfl, h6, k6⟩)
          go_wp2_with fail
          go_end0
          exact ⟨rfl, by rw [E.out]; exact h6, K0.out.trans (K7.out.trans k6)⟩
    | true =>
      rw [hkp] at y2
      have TK := Lib.hid (rtake_3 (v := (r, c, g, z)) hkp SM.out)
      replace hkp := Lib.hid hkp
      have HC := Lib.hid fun U => rcmp_c r c g z p2.v.1 p2.v.2.1 p2.v.2.2.1 p2.v.2.2.2 U
      replace TK : Hid (p2.takes (r, c, g, z) = decide (cmpV (r, c, g, z) (p2.v.1, p2.v.2.1, p2.v.2.2.1, p2.v.2.2.2) ≤ 0)) := TK
      generalize cmpV (r, c, g, z) (p2.v.1, p2.v.2.1, p2.v.2.2.1, p2.v.2.2.2) = cc at HC TK
      go_wp2
      go_still_tail 15, (by kernel_rfl)
      change wpList _ _ _ _ _ w3.drew
      go_wp2_with fail
      ((with_reducible refine (HC.out _).mono ?_); rintro e w4 ⟨rfl, k4⟩)
      have HV0 := Lib.hid ((H3.out.drewN 1).below k4)
      have KV0 := Lib.hid ((K3.out.drewN 1).grow k4)
      clear H3 K3 y2 y3 y4 y5 y6 z0 z1 z2 z3 k4 HC
      cases dcc : decide (cc ≤ 0) with
      | true =>
        rw [dcc] at TK
        have htk := TK
        clear EO OLD
        have HV := HV0
        have KV := KV0
        clear HV0 KV0
        generalize w4 = V at HV KV ⊢
        have c1 : V.cell? ⟨q, 1, none⟩ = some (.slice (some ⟨rb, 0, none⟩) R.ps.length cap) := by have := HV.out.c1; rwa [HLD.out] at this
        have f2 := HV.out.fz (k * 12 + 2)
        have y2 := HV.out.p2 HQ.out
        go_upto_region 8 with fail
        have h0 := HV.out.set HQ.out 2 (p' := { p2 with keeps := true }) (u := .bool true) (by decide) rfl ⟨HPG.out.o0, HPG.out.o1, HPG.out.s0, HPG.out.s1, HPG.out.a0⟩
        have H6 := Lib.hid h0
        have K6 := Lib.hid (KV.out.trans (HV.out.ttB (Only.setCell V rb (k * 12 + 2) (.bool true))))
        have HQ6 := Lib.hid (put_at (R := S) (p' := { p2 with keeps := true }) HQ.out)
        have HL6 := Lib.hid (show (S.put k { p2 with keeps := true }).ps.length = R.ps.length from List.length_set.trans HLD.out)
        clear f2 y2 h0 c1
        generalize V.setCell ⟨rb, k * 12 + 2, none⟩ (.bool true) = V6 at H6 K6 ⊢
        have hbb := HNE.out V6 K6.out
        have z0 : V6.cell? ⟨bb, 0, none⟩ = some (.int .u64 r) := cell_of_block hbb rfl
        have z1 : V6.cell? ⟨bb, 1, none⟩ = some (.int .i64 c) := cell_of_block hbb rfl
        have z2 : V6.cell? ⟨bb, 2, none⟩ = some (.int .u64 g) := cell_of_block hbb rfl
        have z3 : V6.cell? ⟨bb, 3, none⟩ = some (.int .i64 z) := cell_of_block hbb rfl
        have z4 : V6.cell? ⟨bb, 4, none⟩ = some (.int .i64 age) := cell_of_block hbb rfl
        have hne : bb ≠ rb := by
          rintro rfl
          obtain ⟨cs, hx⟩ := H6.out.blk
          have e := hbb.symm.trans hx
          simp at e
        have hneq : q ≠ rb := fun e => H6.out.neB e.symm
        have c1 : V6.cell? ⟨q, 1, none⟩ = some (.slice (some ⟨rb, 0, none⟩) R.ps.length cap) := by have := H6.out.c1; rwa [HL6.out] at this
        have c2 : V6.cell? ⟨q, 2, none⟩ = some (.int .i64 S.now) := H6.out.c2
        have f3 := H6.out.fz (k * 12 + 3)
        have y3 := H6.out.p3 HQ6.out
        have f4 := H6.out.fz (k * 12 + 4)
        have y4 := H6.out.p4 HQ6.out
        have f5 := H6.out.fz (k * 12 + 5)
        have y5 := H6.out.p5 HQ6.out
        have f6 := H6.out.fz (k * 12 + 6)
        have y6 := H6.out.p6 HQ6.out
        have f7 := H6.out.fz (k * 12 + 7)
        have y7 := H6.out.p7 HQ6.out
        have f8 := H6.out.fz (k * 12 + 8)
        have y8 := H6.out.p8 HQ6.out
        clear hbb
        go_upto_region 11 with fail
        have n0 := HV.out.good.n0
        have n1 := HV.out.good.n1
        have h0 := H6.out.set HQ6.out 3 (p' := { p2 with keeps := true, v := (r, p2.v.2.1, p2.v.2.2.1, p2.v.2.2.2) }) (u := .int .u64 r) (by decide) rfl ⟨HPG.out.o0, HPG.out.o1, HPG.out.s0, HPG.out.s1, HPG.out.a0⟩
        rw [put_put] at h0
        have q0 := put_at (R := S) (p' := { p2 with keeps := true, v := (r, p2.v.2.1, p2.v.2.2.1, p2.v.2.2.2) }) HQ.out
        have h1 := h0.set q0 4 (p' := { p2 with keeps := true, v := (r, c, p2.v.2.2.1, p2.v.2.2.2) }) (u := .int .i64 c) (by decide) rfl ⟨HPG.out.o0, HPG.out.o1, HPG.out.s0, HPG.out.s1, HPG.out.a0⟩
        rw [put_put] at h1
        have q1 := put_at (R := S) (p' := { p2 with keeps := true, v := (r, c, p2.v.2.2.1, p2.v.2.2.2) }) HQ.out
        have h2 := h1.set q1 5 (p' := { p2 with keeps := true, v := (r, c, g, p2.v.2.2.2) }) (u := .int .u64 g) (by decide) rfl ⟨HPG.out.o0, HPG.out.o1, HPG.out.s0, HPG.out.s1, HPG.out.a0⟩
        rw [put_put] at h2
        have q2 := put_at (R := S) (p' := { p2 with keeps := true, v := (r, c, g, p2.v.2.2.2) }) HQ.out
        have h3 := h2.set q2 6 (p' := { p2 with keeps := true, v := (r, c, g, z) }) (u := .int .i64 z) (by decide) rfl ⟨HPG.out.o0, HPG.out.o1, HPG.out.s0, HPG.out.s1, HPG.out.a0⟩
        rw [put_put] at h3
        have q3 := put_at (R := S) (p' := { p2 with keeps := true, v := (r, c, g, z) }) HQ.out
        have h4 := h3.set q3 7 (p' := { p2 with keeps := true, v := (r, c, g, z), age := age }) (u := .int .i64 age) (by decide) rfl ⟨HPG.out.o0, HPG.out.o1, HPG.out.s0, HPG.out.s1, ha0⟩
        rw [put_put] at h4
        have q4 := put_at (R := S) (p' := { p2 with keeps := true, v := (r, c, g, z), age := age }) HQ.out
        have h5 := h4.set q4 8 (p' := { p2 with keeps := true, v := (r, c, g, z), age := age, on := S.now }) (u := .int .i64 S.now) (by decide) rfl ⟨n0, n1, HPG.out.s0, HPG.out.s1, ha0⟩
        rw [put_put] at h5
        have q5 := put_at (R := S) (p' := { p2 with keeps := true, v := (r, c, g, z), age := age, on := S.now }) HQ.out
        have H5 := Lib.hid h5
        have K5 := Lib.hid (K6.out.trans (H6.out.ttB ((((((Only.setCell V6 rb (k * 12 + 3) (.int .u64 r)).set (k * 12 + 4) (.int .i64 c)).set (k * 12 + 5) (.int .u64 g)).set (k * 12 + 6) (.int .i64 z)).set (k * 12 + 7) (.int .i64 age)).set (k * 12 + 8) (.int .i64 S.now))))
        clear c1 c2 z0 z1 z2 z3 z4 hne hneq f3 f4 f5 f6 f7 f8 y3 y4 y5 y6 y7 y8 n0 n1 H6 K6 HQ6 HL6 h0 q0 h1 q1 h2 q2 h3 q3 h4 q4 h5 q5
        generalize ((((((V6.setCell ⟨rb, k * 12 + 3, none⟩ (.int .u64 r)).setCell ⟨rb, k * 12 + 4, none⟩ (.int .i64 c)).setCell ⟨rb, k * 12 + 5, none⟩ (.int .u64 g)).setCell ⟨rb, k * 12 + 6, none⟩ (.int .i64 z)).setCell ⟨rb, k * 12 + 7, none⟩ (.int .i64 age)).setCell ⟨rb, k * 12 + 8, none⟩ (.int .i64 S.now)) = W5 at H5 K5 ⊢
        have hbb := HNE.out W5 K5.out
        have x2 : W5.cell? ⟨bb, 2, none⟩ = some (.int .u64 g) := cell_of_block hbb rfl
        have x5 : W5.cell? ⟨bb, 5, none⟩ = some (.bool ch) := cell_of_block hbb rfl
        have x0 : W5.cell? ⟨q, 0, none⟩ = some (.int .u64 S.br) := H5.out.c0
        have x3 : W5.cell? ⟨q, 2, none⟩ = some (.int .i64 S.now) := H5.out.c2
        have x8 := H5.out.c8
        have f8 := free_of_block (j := 5) H5.out.tree
        clear hbb HV KV
        cases ch with
        | false =>
          have E := Lib.hid (EN.out htk.out rfl)
          have HR := Lib.hid fun n => rright_c (H5.out.drewN n)
          go_wp2
          go_quiet (fail)
          go_wp2_with fail
          ((with_reducible refine (HR.out _).mono ?_); rintro e w6 ⟨rfl, h6, k6⟩)
          go_wp2_with fail
          go_end0
          exact ⟨rfl, by rw [E.out]; exact h6, K0.out.trans ((K5.out.drewN _).trans k6)⟩
        | true =>
          by_cases hg : g = S.br
          · obtain ⟨g1, g2⟩ := eq_t hg
            have E := Lib.hid (EN.out htk.out (by simp [hg]))
            clear hg
            have HR := Lib.hid fun n => rright_c (H5.out.drewN n)
            go_wp2
            go_quiet (fail)
            go_wp2_with fail
            ((with_reducible refine (HR.out _).mono ?_); rintro e w6 ⟨rfl, h6, k6⟩)
            go_wp2_with fail
            go_end0
            exact ⟨rfl, by rw [E.out]; exact h6, K0.out.trans ((K5.out.drewN _).trans k6)⟩
          · obtain ⟨g1, g2⟩ := ne_t hg
            have E := Lib.hid (EM.out htk.out (by simp [hg]))
            have fq := free_of_block (j := 8) H5.out.tree
            clear hg
            go_wp2
            go_quiet (fail)
            go_upto_region 13 with fail
            have H7 := Lib.hid (show HasR ((W5.drewN nq).setCell ⟨q, 8, none⟩ (.int .i64 S.now)) B q rb cap _ from (H5.out.drewN nq).note)
            have K7 := Lib.hid ((K5.out.drewN nq).trans ((H5.out.drewN nq).ttQ (Only.setCell (W5.drewN nq) q 8 (.int .i64 S.now))))
            have HR := Lib.hid (rright_c H7.out)
            go_wp2_with fail
            ((with_reducible refine HR.out.mono ?_); rintro e w6 ⟨rfl, h6, k6⟩)
            go_wp2_with fail
            go_end0
            exact ⟨rfl, by rw [E.out]; exact h6, K0.out.trans (K7.out.trans k6)⟩
      | false =>
        rw [dcc] at TK
        have HR := Lib.hid (OLD.out TK.out w4 HV0.out KV0.out)
        go_wp2_with fail
        ((with_reducible refine HR.out.mono ?_); rintro e w6 ⟨rfl, h6, k6⟩)
        go_wp2_with fail
        go_end0
        exact ⟨rfl, h6, k6⟩

theorem rhear_c (h : HasR w B q rb cap R) (n : Int) (r c g z age : Int) (ch le fw : Bool) (now : Int) (ha0 : -9223372036854775808 ≤ age) : Calls Try.prog 27 #[.pointer (some ⟨q, 0, none⟩), .int .i64 n, .agg #[.int .u64 r, .int .i64 c, .int .u64 g, .int .i64 z, .int .i64 age, .bool ch, .bool le, .bool fw], .int .i64 now] w fun e w' => e = .returned (.tuple #[]) ∧ HasR w' B q rb cap (R.hear n ⟨(r, c, g, z), age, ch, le, fw⟩ now) ∧ Tt isR B w w' := by
  cases ht : timeR now with
  | false => exact rhear_no h n r c g z age ch le fw now (Or.inl ht)
  | true =>
    cases hat : R.at? n with
    | none => exact rhear_no h n r c g z age ch le fw now (Or.inr (Or.inl hat))
    | some p =>
      cases hu : p.up with
      | false => exact rhear_no h n r c g z age ch le fw now (Or.inr (Or.inr ⟨p, hat, hu⟩))
      | true =>
        obtain ⟨k, rfl, hp⟩ := rat_some hat
        exact rhear_yes h k p r c g z age ch le fw now ht hp hu ha0
end

end Go.Proofs.Ytdjeifbbbpbhoaa
