/-
  The wheel at keys of type int: split. A contract over the translated program.
-/
import Derived.Test.YtplaconhpiojbaaWhD
import Derived.Test.YtplaconhpiojbaaWhE
namespace Go.Proofs.Ytplaconhpiojbaa
open Go Go.Maps Go.WideMaps
open Go.RowKit
set_option linter.unusedVariables false
set_option linter.unusedSimpArgs false

theorem und_EI : Try.prog.underlying 77 = some (.slice 82) := by kernel_rfl
theorem info_EI : (Try.prog.info? 82).map (fun i => (i.size, i.bytes)) = some (3, 24) := by kernel_rfl
theorem info_ZI : (Try.prog.info? 82).bind (fun i => i.zero) = some (.agg #[.int .i64 0, .int .i64 0, .int .i64 0]) := by kernel_rfl

theorem litofI {x : Int} {kl : Lit} (h : keyOf Try.prog 3 (.int .i64 x) = some kl) : kl.value = .int .i64 x := by
  obtain ⟨s, h1, h2, _⟩ := Maps.keyOf_int_inv und_KI h
  cases h1
  subst h2
  rfl

set_option maxHeartbeats 8000000 in
set_option maxRecDepth 100000 in
theorem splitI_c {w : World} {p mb : Nat} {room armed : Int} {L : List T3} (h : HasI w p mb room armed L) (now : Int) (hl : L.length < 1000000000) :
    Calls Try.prog 38 #[.pointer (some ⟨p, 0, none⟩), .int .i64 now] w fun e w' => ∃ v D, e = .returned (.tuple #[v, .map (some w.heap.size)]) ∧ L.Perm D ∧
      w'.ownsRow (w.heap.size + 2) 82 3 v (dueL now D).length (rowOf (dueL now D)) ∧ Mp w' Try.prog 3 w.heap.size (latL now D) ∧ Below w.heap.size w w' := by
  have hmm := @run_makeMap Try.prog
  have hap := Lib.hid (h.2.apart law_KI)
  obtain ⟨i0, hi, hz1, hz2⟩ : ∃ i, Try.prog.info? 82 = some i ∧ i.size = 3 ∧ i.bytes = 24 := by
    obtain ⟨i, hi, hzz⟩ := Option.map_eq_some_iff.1 info_EI
    simp only [Prod.mk.injEq] at hzz
    exact ⟨i, hi, hzz.1, hzz.2⟩
  have hz0 : i0.zero = some (.agg #[.int .i64 0, .int .i64 0, .int .i64 0]) := by
    have h := info_ZI
    rw [hi] at h
    simpa using h
  have hB0 := (Below.refl w.heap.size w).alloc (Nat.le_refl _) (.map #[] 0)
  have c2 := (h.below hB0).c2
  have hm := Lib.hid (h.below hB0).2
  have hlb := Lib.hid (Mp.made w Try.prog 3)
  have hlt := Lib.hid h.2.lt
  have HB0 := Lib.hid hB0
  have e1 : (w.alloc (.map #[] 0)).heap.size = w.heap.size + 1 := by simp
  clear h hB0
  go_enter Try.func38, Try.ntmps38
  go_wp2_with (first
    | (at_range; refine wpList_range_mp _ rfl _ 73 rfl 3 61 law_KI und_MI mb L rfl hm.out ?_; intro w0 hrg0 hg0 hs0)
    | go_in)
  go_frame
  rw [e1] at hrg0 hs0 ⊢
  have HG0 := Lib.hid (And.intro hrg0 (And.intro hg0 hs0))
  clear hrg0 hg0 hs0 e1
  go_loopw [6, 8, 9] (fun v _ _ wr => ∃ D S cnt, Hid (L.Perm (D ++ S)) ∧ Hid (wr.ownsRow (w.heap.size + 2) 82 3 v (dueL now D).length (rowOf (dueL now D))) ∧ Hid (Mp wr Try.prog 3 w.heap.size (latL now D)) ∧ Hid (Rg wr Try.prog 3 mb (w.heap.size + 1) L S cnt) ∧ Hid (Below w.heap.size w wr) ∧ Hid (w.heap.size + 2 ≤ wr.heap.size))
    (fun _ _ _ wr => wr.rangeLeft mb (w.heap.size + 1))
  case atStart => exact ⟨[], L, L.length, Lib.hid (List.Perm.refl _), Lib.hid (World.ownsRow_nil _ _ _ _), Lib.hid (hlb.out.kept HG0.out.2.1 (by simp)), Lib.hid HG0.out.1, Lib.hid (HB0.out.grown HG0.out.2.1 HB0.out.size (fun j hj => by cases hj)), Lib.hid (by have := HG0.out.2.2; omega)⟩
  case round =>
    obtain ⟨D, S, cnt, hP, hO, hM, hR, hB, hS⟩ := hrel
    go_wp2_with (first
      | (at_next; refine wpList_next_mp _ rfl _ rfl 3 law_KI (Value.int .i64) invI mb (w.heap.size + 1) L S cnt rfl hR.out ?_ ?_)
      | go_in)
    · intro h0
      have hPD := Lib.hid (show L.Perm D by have := hP.out; rw [h0, List.append_nil] at this; exact this)
      clear h0 hP
      go_wp2
      go_ret2
      exact ⟨_, D, rfl, hPD.out, hO.out, hM.out, hB.out⟩
    · intro x p1 p2 kl S' w1 cnt1 hkey hpm hrg1 hlt1 hg1 hs1 hen
      have HK := Lib.hid hkey
      have hPP := Lib.hid (show L.Perm ((D ++ [(kl, p1, p2)]) ++ S') by
        refine hP.out.trans ((List.Perm.append_left D hpm).trans ?_)
        simp)
      have hDl := Lib.hid (show D.length + 1 ≤ L.length by have := hPP.out.length_eq; simp at this; omega)
      have hlat := Lib.hid (show (latL now D).length ≤ D.length from List.length_filter_le _ _)
      have hdul := Lib.hid (show (dueL now D).length ≤ D.length from List.length_filter_le _ _)
      have hnk := Lib.hid (not_has now (hap.out.perm hPP.out (fun h => Ne.symm h)))
      have hR1 := Lib.hid hrg1
      have hO1 := Lib.hid (hO.out.kept hg1 (own_far hO.out (by omega)))
      have hM1 := Lib.hid (hM.out.kept hg1 (by simp))
      have hB1 := Lib.hid (hB.out.grown hg1 hB.out.size (fun j hj => by cases hj; omega))
      have hS1 := Lib.hid (show w.heap.size + 2 ≤ w1.heap.size by rw [hs1]; exact hS.out)
      have hLT := Lib.hid hlt1
      have hRo := Lib.hid hR.out.left_eq
      clear hkey hpm hrg1 hlt1 hg1 hs1 hP hO hM hB hS hR
      by_cases hq : p1 ≤ now
      · have k1 : decide (p1 ≤ now) = true := decide_eq_true hq
        have hdd := Lib.hid (due_yes (D := D) (kl := kl) (p2 := p2) hq)
        have hll := Lib.hid (lat_no (D := D) (kl := kl) (p2 := p2) hq)
        clear hq
        go_upto_region 6 with fail
        have hg2 := Lib.hid (World.grownBy_alloc w1 (.cells #[.int .i64 p1, .int .i64 p2] 61) none)
        have z0 : (w1.alloc (.cells #[.int .i64 p1, .int .i64 p2] 61)).cell? ⟨w1.heap.size, 0, none⟩ = some (.int .i64 p1) := by simp [go_sem]
        have z1 : (w1.alloc (.cells #[.int .i64 p1, .int .i64 p2] 61)).cell? ⟨w1.heap.size, 1, none⟩ = some (.int .i64 p2) := by simp [go_sem]
        have hs2 := Lib.hid (show w.heap.size + 2 ≤ (w1.alloc (.cells #[.int .i64 p1, .int .i64 p2] 61)).heap.size by have := hS1.out; simp; omega)
        generalize w1.alloc (.cells #[.int .i64 p1, .int .i64 p2] 61) = w2 at hg2 z0 z1 hs2 ⊢
        have hR2 := Lib.hid (hR1.out.kept hg2.out (by simp) (by simp))
        have hO2 := Lib.hid (hO1.out.kept hg2.out (none_or _))
        have hM2 := Lib.hid (hM1.out.kept hg2.out (by simp))
        have hB2 := Lib.hid (hB1.out.grown hg2.out hB1.out.size (fun j hj => by cases hj))
        clear hR1 hO1 hM1 hB1 hg2
        go_wp2_with (at_builtin; refine wpList_append_own _ rfl _ _ 77 rfl (w.heap.size + 2) 82 i0 (.agg #[.int .i64 0, .int .i64 0, .int .i64 0]) 3 24 und_EI hi hz0 hz1 hz2 rfl (by decide) _ _ _ rfl (hO2.out.alloc _) ⟨w2.heap.size, 0, none⟩ 1 1 [.int .i64 x, .int .i64 p1, .int .i64 p2] rfl rfl ?c1 ?c2 ?c3 ?c4 ?c5 ?_)
        case c1 => exact cells3n _ _ _ _ _
        case c2 => intro u hu; simp at hu; rcases hu with rfl | rfl | rfl <;> rfl
        case c3 => have := hdul.out; have := hDl.out; unfold maxLen; omega
        case c4 => have := hdul.out; have := hDl.out; omega
        case c5 => have := hs2.out; simp; omega
        intro v' w5 hown' hgrow _
        have hO5 := Lib.hid hown'
        have hga := Lib.hid (World.grownBy_alloc w2 (.cells #[.int .i64 x, .int .i64 p1, .int .i64 p2] 82) none)
        have hfar := Lib.hid (fun j hj => ((hO2.out.alloc (.cells #[.int .i64 x, .int .i64 p1, .int .i64 p2] 82)).lt j hj).1)
        have hR5 := Lib.hid ((hR2.out.kept hga.out (by simp) (by simp)).kept hgrow (fun e => by have := hfar.out _ e.symm; have := hlt.out; omega) (fun e => by have := hfar.out _ e.symm; omega))
        have hM5 := Lib.hid ((hM2.out.kept hga.out (by simp)).kept hgrow (fun e => by have := hfar.out _ e.symm; omega))
        have hB5 := Lib.hid ((hB2.out.grown hga.out hB2.out.size (fun j hj => by cases hj)).grown hgrow (by have := hs2.out; simp; omega) (fun j hj => by have := hfar.out j hj; omega))
        have hs5 := Lib.hid (show w.heap.size + 2 ≤ w5.heap.size by have := hgrow.size; have := hs2.out; simp at *; omega)
        clear hown' hgrow hO2 hR2 hM2 hB2 hga hfar
        go_wp2_with fail
        go_roundw
        case rel => exact ⟨_, _, _, hPP, Lib.hid (by rw [hdd.out, row_snoc, List.length_append, litofI HK.out]; exact hO5.out), Lib.hid (by rw [hll.out]; exact hM5.out), hR5, hB5, hs5⟩
        case measure => rw [hR5.out.left_eq, hRo.out]; exact hLT.out
      · have k1 : decide (p1 ≤ now) = false := decide_eq_false hq
        have hdd := Lib.hid (due_no (D := D) (kl := kl) (p2 := p2) hq)
        have hll := Lib.hid (lat_yes (D := D) (kl := kl) (p2 := p2) hq)
        clear hq
        go_upto_region 6 with fail
        have hg2 := Lib.hid (World.grownBy_alloc w1 (.cells #[.int .i64 p1, .int .i64 p2] 61) none)
        have z0 : (w1.alloc (.cells #[.int .i64 p1, .int .i64 p2] 61)).cell? ⟨w1.heap.size, 0, none⟩ = some (.int .i64 p1) := by simp [go_sem]
        have z1 : (w1.alloc (.cells #[.int .i64 p1, .int .i64 p2] 61)).cell? ⟨w1.heap.size, 1, none⟩ = some (.int .i64 p2) := by simp [go_sem]
        have hs2 := Lib.hid (show w.heap.size + 2 ≤ (w1.alloc (.cells #[.int .i64 p1, .int .i64 p2] 61)).heap.size by have := hS1.out; simp; omega)
        generalize w1.alloc (.cells #[.int .i64 p1, .int .i64 p2] 61) = w2 at hg2 z0 z1 hs2 ⊢
        have hR2 := Lib.hid (hR1.out.kept hg2.out (by simp) (by simp))
        have hO2 := Lib.hid (hO1.out.kept hg2.out (none_or _))
        have hM2 := Lib.hid (hM1.out.kept hg2.out (by simp))
        have hB2 := Lib.hid (hB1.out.grown hg2.out hB1.out.size (fun j hj => by cases hj))
        have hroom := Lib.hid (show (latL now D).length < maxLen by have := hlat.out; have := hDl.out; unfold maxLen; omega)
        clear hR1 hO1 hM1 hB1 hg2
        go_wp2_with (first | (at_mapUpdate; refine wpList_store_mp _ rfl _ _ _ 73 rfl 3 61 law_KI und_MI w.heap.size (latL now D) rfl hM2.out hroom.out _ _ _ _ rfl rfl HK.out ?_; intro w5 hm5 ht5; go_frame) | go_in)
        have hg5 := Lib.hid ht5.grown
        have hM5 := Lib.hid (show Mp w5 Try.prog 3 w.heap.size (latL now D ++ [(kl, p1, p2)]) by have := hm5; unfold putT at this; rw [delT_not hnk.out] at this; exact this)
        have hR5 := Lib.hid (hR2.out.kept hg5.out (fun e => by have := Option.some.inj e; have := hlt.out; omega) (fun e => by have := Option.some.inj e; omega))
        have hO5 := Lib.hid (hO2.out.kept hg5.out (own_far hO2.out (by omega)))
        have hB5 := Lib.hid (hB2.out.grown hg5.out hB2.out.size (fun j hj => by cases hj; exact Nat.le_refl _))
        have hs5 := Lib.hid (show w.heap.size + 2 ≤ w5.heap.size by have := hg5.out.size; have := hs2.out; omega)
        clear hm5 ht5 hR2 hO2 hB2 hM2 hg5
        go_roundw
        case rel => exact ⟨_, _, _, hPP, Lib.hid (by rw [hdd.out]; exact hO5.out), Lib.hid (by rw [hll.out]; exact hM5.out), hR5, hB5, hs5⟩
        case measure => rw [hR5.out.left_eq, hRo.out]; exact hLT.out

end Go.Proofs.Ytplaconhpiojbaa
