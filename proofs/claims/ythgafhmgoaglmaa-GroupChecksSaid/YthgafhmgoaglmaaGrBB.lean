/-
  siphonref17.Admits. A contract over the translated program.
-/
import Derived.Test.YthgafhmgoaglmaaGrAA
import Derived.Test.YthgafhmgoaglmaaGrW
namespace Go.Proofs.Ythgafhmgoaglmaa
open Go Go.Maps Go.WideMaps
open Go.RowKit
set_option linter.unusedVariables false
set_option linter.unusedSimpArgs false

theorem adm_ex {s : St} {now : Int} {a : ByteArray} (h : (expS s now).2 = true) (he : (expS s now).1.ex = true) : admS s a now = !hasS (nmS ((expS s now).1.src.filter fun x => decide (x.2 = 0) == true)) a := by
  unfold admS filS admB
  rw [h, he]
  simp
theorem adm_in {s : St} {now : Int} {a : ByteArray} (h : (expS s now).2 = true) (he : (expS s now).1.ex = false) : admS s a now = hasS (nmS ((expS s now).1.src.filter fun x => decide (x.2 = 0) == false)) a := by
  have hok : okS s = true := by
    rcases Bool.eq_false_or_eq_true (okS s) with k | k
    · exact k
    · rw [exp_no k] at h; cases h
  have hX := (exp_ok (now := now) hok).1
  rw [exp_yes hok] at he ⊢
  have he : (stE s now).ex = false := he
  have h4 := ((ok_iff _).1 hX).2.2.2.1
  have hf : ((stE s now).src.filter fun x => decide (x.2 = 0) == false) = (stE s now).src := by
    refine List.filter_eq_self.2 fun x hx => ?_
    have := (okX_iff _ _).1 (h4 x hx)
    rw [he] at this
    have := this.2 rfl
    rw [decide_eq_false (by omega)]
    rfl
  show admS s a now = hasS (nmS ((stE s now).src.filter fun x => decide (x.2 = 0) == false)) a
  rw [hf]
  unfold admS filS admB
  rw [h, exp_yes hok]
  simp only [he, Bool.not_false, Bool.true_or]
  rw [List.filter_eq_self.2 (fun _ _ => rfl)]
  simp

set_option maxHeartbeats 8000000 in
set_option maxRecDepth 100000 in
theorem radm17_c (ex : Bool) (tm : Int) (v : Value) (l : List Tm) (a : ByteArray) (now : Int) (w : World) (hl : l.length ≤ 1000000) (h1 : RowsAt 2 cellsTm w v l) :
    Calls Try.prog 18 #[.agg #[.bool ex, .int .i64 tm, v], .string a, .int .i64 now] w fun e w' => e = .returned (.bool (admS ⟨ex, tm, l⟩ a now)) ∧ Below w.heap.size w w' := by
  obtain ⟨p, cap, rfl⟩ := h1.slice
  obtain ⟨n, hn⟩ : ∃ n, n = l.length := ⟨_, rfl⟩
  rw [← hn] at h1 ⊢
  clear hn
  have B0 := (Below.refl w.heap.size w).alloc (Nat.le_refl _) (.cells #[.bool ex, .int .i64 tm, .slice p n cap] 24)
  have HB := Lib.hid B0
  have E1 := Lib.hid (heap_new w (.cells #[.bool ex, .int .i64 tm, .slice p n cap] 24))
  have XP := Lib.hid (rexp17_c ex tm (.slice p n cap) l now (w.alloc (.cells #[.bool ex, .int .i64 tm, .slice p n cap] 24)) hl (h1.below B0))
  have HLEN := Lib.hid (Nat.le_trans (exp_len ⟨ex, tm, l⟩ now) hl)
  have A1 := Lib.hid (fun h he => adm_ex (s := ⟨ex, tm, l⟩) (now := now) (a := a) h he)
  have A2 := Lib.hid (fun h he => adm_in (s := ⟨ex, tm, l⟩) (now := now) (a := a) h he)
  have A0 := Lib.hid (show (expS ⟨ex, tm, l⟩ now).2 = false → admS ⟨ex, tm, l⟩ a now = false from fun h => by unfold admS; rw [h]; rfl)
  clear B0 h1
  generalize admS ⟨ex, tm, l⟩ a now = r at A0 A1 A2 ⊢
  generalize expS ⟨ex, tm, l⟩ now = X at XP HLEN A0 A1 A2
  obtain ⟨⟨fe, ft, fl⟩, is⟩ := X
  dsimp only at XP HLEN A0 A1 A2
  unfold StPost at XP
  dsimp only at XP
  go_enter Try.func18, Try.ntmps18
  go_upto_region 1 with fail
  generalize w.alloc (.cells #[.bool ex, .int .i64 tm, .slice p n cap] 24) = W at XP HB E1 ⊢
  have x0 : W.cell? ⟨w.heap.size, 0, none⟩ = some (.bool ex) := cell_of_block E1.out rfl
  have x1 : W.cell? ⟨w.heap.size, 1, none⟩ = some (.int .i64 tm) := cell_of_block E1.out rfl
  have x2 : W.cell? ⟨w.heap.size, 2, none⟩ = some (.slice p n cap) := cell_of_block E1.out rfl
  go_wp2_with fail
  ((with_reducible refine XP.out.mono ?_); rintro e w3 ⟨vs, rfl, r3, k3⟩)
  have r3' := r3
  obtain ⟨q, c, rfl⟩ := r3'.slice
  obtain ⟨fn, hfn⟩ : ∃ fn, fn = fl.length := ⟨_, rfl⟩
  rw [← hfn] at r3 ⊢
  clear hfn
  have HB3 := Lib.hid (gk_call HB.out k3)
  have HR3 := Lib.hid r3
  clear x0 x1 x2 r3 k3 XP HB E1
  go_upto_region 2 with fail
  have E4 := Lib.hid (heap_new w3 (.cells #[.bool fe, .int .i64 ft, .slice q fn c] 24))
  have k4 := (Below.refl w3.heap.size w3).alloc (Nat.le_refl _) (.cells #[.bool fe, .int .i64 ft, .slice q fn c] 24)
  have HB4 := Lib.hid (gk_call HB3.out k4)
  have HR4 := Lib.hid (HR3.out.below k4)
  clear k4 HB3 HR3
  generalize w3.alloc (.cells #[.bool fe, .int .i64 ft, .slice q fn c] 24) = W4 at E4 HB4 HR4 ⊢
  generalize w3.heap.size = tb at E4 ⊢
  have y0 : W4.cell? ⟨tb, 0, none⟩ = some (.bool fe) := cell_of_block E4.out rfl
  have y1 : W4.cell? ⟨tb, 1, none⟩ = some (.int .i64 ft) := cell_of_block E4.out rfl
  have y2 : W4.cell? ⟨tb, 2, none⟩ = some (.slice q fn c) := cell_of_block E4.out rfl
  have NM := Lib.hid (fun bl => names17_c fe ft (.slice q fn c) fl bl W4 HLEN.out HR4.out)
  have NL := Lib.hid (fun bl => show (nmS (fl.filter fun x => decide (x.2 = 0) == bl)).length ≤ 9223372036854775807 from by
    rw [nm_len]
    have := List.length_filter_le (fun x : Tm => decide (x.2 = 0) == bl) fl
    have := HLEN.out
    omega)
  cases is
  · have V := Lib.hid (A0.out rfl)
    go_wp2_with fail
    go_ret
    exact ⟨by rw [V.out]; rfl, HB4.out⟩
  · cases fe
    · have V := Lib.hid (A2.out rfl rfl)
      have NM1 := Lib.hid (NM.out false)
      have NL1 := NL.out false
      generalize (fl.filter fun x => decide (x.2 = 0) == false) = F at V NM1 NL1
      clear NM NL A0 A1 A2
      go_wp2_with fail
      ((with_reducible refine NM1.out.mono ?_); rintro e w5 ⟨u, rfl, a5, k5⟩)
      go_wp2_with fail
      ((with_reducible refine (rhas_c u (nmS F) a w5 NL1 a5).mono ?_); rintro e w6 ⟨rfl, h6⟩)
      replace h6 := h6.symm
      subst h6
      have HB5 := Lib.hid (gk_call HB4.out k5)
      rw [← V.out]
      clear y0 y1 y2 k5 a5
      go_wp2_with fail
      go_ret
      exact ⟨rfl, HB5.out⟩
    · have V := Lib.hid (A1.out rfl rfl)
      have NM1 := Lib.hid (NM.out true)
      have NL1 := NL.out true
      generalize (fl.filter fun x => decide (x.2 = 0) == true) = F at V NM1 NL1
      clear NM NL A0 A1 A2
      go_wp2_with fail
      ((with_reducible refine NM1.out.mono ?_); rintro e w5 ⟨u, rfl, a5, k5⟩)
      go_wp2_with fail
      ((with_reducible refine (rhas_c u (nmS F) a w5 NL1 a5).mono ?_); rintro e w6 ⟨rfl, h6⟩)
      replace h6 := h6.symm
      subst h6
      have HB5 := Lib.hid (gk_call HB4.out k5)
      generalize hasS (nmS F) a = hh at V ⊢
      clear y0 y1 y2 k5 a5
      go_wp2_with fail
      go_ret
      exact ⟨by rw [V.out]; rfl, HB5.out⟩
end Go.Proofs.Ythgafhmgoaglmaa
