/-
  One call on both: Entries, which are then written over; siphonlaw13.step.
-/
import Derived.Test.YtodddahjibccoaaFdX
import Derived.RowKit
namespace Go.Proofs.Ytodddahjibccoaa
open Go Go.Maps Go.WideMaps
open Go.RowKit
set_option linter.unusedVariables false
set_option linter.unusedSimpArgs false

/-- Entries that may be written. -/
def Poi (W : World) (g n : Nat) : Prop := ∀ i, i < n → (∃ u, W.cell? ⟨g, i * 4 + 2, none⟩ = some u) ∧ W.frozen? ⟨g, i * 4 + 2, none⟩ = false
theorem Poi.set {W : World} {g n : Nat} (h : Poi W g n) (j : Nat) (u : Value) : Poi (W.setCell ⟨g, j, none⟩ u) g n := fun i hi => ⟨cell?_setCell_some (h i hi).1.choose_spec, (World.frozen?_setCell _ _ _ _).trans (h i hi).2⟩
theorem Poi.heap {W W' : World} {g n : Nat} (h : Poi W g n) (e : W'.heap = W.heap) : Poi W' g n := fun i hi => by
  obtain ⟨⟨u, h1⟩, h2⟩ := h i hi
  refine ⟨⟨u, ?_⟩, ?_⟩
  · unfold World.cell? at h1 ⊢; rw [e]; exact h1
  · unfold World.frozen? at h2 ⊢; rw [e]; exact h2
theorem EntF.poi {w : World} {base : Nat} {v : Value} {R : List E4} (h : EntF w base v R) : (v = .slice none 0 0 ∧ R.length = 0) ∨ ∃ g cap, v = .slice (some ⟨g, 0, none⟩) R.length cap ∧ base ≤ g ∧ Poi w g R.length := by
  rcases h with ⟨h1, h2⟩ | ⟨g, cap, e, hb, _, hc⟩
  · exact Or.inl ⟨h1, by rw [h2]; rfl⟩
  · refine Or.inr ⟨g, cap, e, hb, fun i hi => ?_⟩
    obtain ⟨x, hx⟩ := some_at hi
    exact ⟨⟨_, (hc i x hx).1.2.2.1⟩, (hc i x hx).2 2 (by omega)⟩

set_option maxHeartbeats 8000000 in
set_option maxRecDepth 100000 in
theorem step_4 {w0 W : World} {p mb : Nat} {room age : Int} {q : Nat} {R : List E4} {lv : Value} (h : Two w0 W p mb room age q R lv) (d : Int) (v : Int) (m : ByteArray) (pt now : Int) (hk : WfK v m) (hd : (d == 0) = false ∧ (d == 1) = false ∧ (d == 2) = false ∧ (d == 3) = false) :
    Calls Try.prog 10 #[.pointer (some ⟨p, 0, none⟩), .pointer (some ⟨q, 0, none⟩), .agg #[.int .i64 d, .int .i64 v, .string m, .int .i64 pt, .int .i64 now]] W (StepPost w0 p mb room age q) := by
  have K := Lib.hid (h.mid #[.int .i64 d, .int .i64 v, .string m, .int .i64 pt, .int .i64 now])
  have HG := Lib.hid h.fs.good
  have HL := Lib.hid (show R.length < 1000000000 by have := h.fs.l; omega)
  have HA := Lib.hid (show 0 ≤ age ∧ age ≤ 1000000 from ⟨by have := h.fs.a1; omega, h.fs.a2⟩)
  have HR := Lib.hid h.fs.r1
  have KF := Lib.hid fun (U : World) (R1 R2 : List E4) (lv' : Value) (k : Mid w0 U p mb room age R1 q R2 lv' W.heap.size #[.int .i64 d, .int .i64 v, .string m, .int .i64 pt, .int .i64 now]) => (⟨k.cell 0 rfl, k.cell 1 rfl, k.cell 2 rfl, k.cell 3 rfl, k.cell 4 rfl⟩ : U.cell? ⟨W.heap.size, 0, none⟩ = some (.int .i64 d) ∧ U.cell? ⟨W.heap.size, 1, none⟩ = some (.int .i64 v) ∧ U.cell? ⟨W.heap.size, 2, none⟩ = some (.string m) ∧ U.cell? ⟨W.heap.size, 3, none⟩ = some (.int .i64 pt) ∧ U.cell? ⟨W.heap.size, 4, none⟩ = some (.int .i64 now))
  have A1 := Lib.hid (ent_s K.out.fs)
  obtain ⟨d0, d1, d2, d3⟩ := hd
  clear h
  go_enter Try.func10, Try.ntmps10
  go_upto_region 12 with fail
  have k0 := K.out
  clear K
  generalize W.alloc (.cells #[.int .i64 d, .int .i64 v, .string m, .int .i64 pt, .int .i64 now] 35) = W1 at k0 A1 ⊢
  go_upto_region 13 with (go_at_call 11; (with_reducible refine A1.out.mono ?_); rintro e u3 ⟨ev, rfl, hE, h3⟩)
  have k3 := k0.below h3
  have B3 := Lib.hid h3
  have A2 := Lib.hid (alike_c hE k3.hr HL.out)
  have HP := Lib.hid hE.poi
  have c2 := k3.hr.c2
  clear h3 hE A1
  go_upto_region 14 with (go_at_call 12; (with_reducible refine A2.out.mono ?_); rintro e u4 ⟨rfl, n, rfl⟩)
  have BB := Lib.hid (below_drewN B3.out n)
  have KK := Lib.hid fun (U : World) (b : Below W1.heap.size W1 U) => (⟨k0.fs.below b, k0.hr.below b, k0.nq⟩ : Two w0 U p mb room age q R lv)
  clear c2 A2 k3 B3 KF
  rcases HP.out with ⟨rfl, h0⟩ | ⟨g, cap, rfl, hb, hp⟩
  · clear HP
    go_wp2_with fail
    go_loopw [13] (fun s wr => s = .int .i64 0 ∧ Hid (Below W1.heap.size W1 wr)) (fun s _ => 0)
    case atStart => exact ⟨rfl, BB⟩
    case round =>
      obtain ⟨rfl, hB⟩ := hrel
      go_wp2_with fail
      go_ret
      exact ⟨R, lv, rfl, Lib.hid (KK.out _ hB.out)⟩
  · have PO := Lib.hid (show Poi (u3.drewN n) g R.length from hp.heap rfl)
    have HB := Lib.hid hb
    clear HP hp hb
    go_wp2_with fail
    go_loopw [13] (fun s wr => ∃ k : Nat, k ≤ R.length ∧ s = .int .i64 k ∧ Hid (Poi wr g R.length) ∧ Hid (Below W1.heap.size W1 wr)) (fun s _ => R.length - (intOf s).toNat)
    case atStart => exact ⟨0, Nat.zero_le _, rfl, PO, BB⟩
    case round =>
      obtain ⟨k, hk, rfl, hP, hB⟩ := hrel
      have hl1 := HL.out
      by_cases hlt : k < R.length
      · obtain ⟨⟨u, x2⟩, f2⟩ := hP.out k hlt
        have hlt' : (k : Int) < (R.length : Int) := by omega
        have P2 := Lib.hid (hP.out.set (k * 4 + 2) (.int .i64 99))
        have B2 := Lib.hid (hB.out.setCell (p := ⟨g, k * 4 + 2, none⟩) HB.out (.int .i64 99))
        clear hP hB
        go_wp2_with fail
        go_roundw
        case rel => exact ⟨k + 1, by omega, by go_num, P2, B2⟩
        case measure => simp [intOf] <;> omega
      · obtain rfl : k = R.length := by omega
        have hlt' : decide ((R.length : Int) < (R.length : Int)) = false := by simp
        go_wp2_with fail
        go_ret
        exact ⟨R, lv, rfl, Lib.hid (KK.out _ hB.out)⟩

theorem step_c {w0 W : World} {p mb : Nat} {room age : Int} {q : Nat} {R : List E4} {lv : Value} (h : Two w0 W p mb room age q R lv) (d v : Int) (m : ByteArray) (pt now : Int) (hk : WfK v m) :
    Calls Try.prog 10 #[.pointer (some ⟨p, 0, none⟩), .pointer (some ⟨q, 0, none⟩), .agg #[.int .i64 d, .int .i64 v, .string m, .int .i64 pt, .int .i64 now]] W (StepPost w0 p mb room age q) := by
  by_cases d0 : d = 0
  · subst d0; exact step_0 h v m pt now hk
  by_cases d1 : d = 1
  · subst d1; exact step_1 h v m pt now hk
  by_cases d2 : d = 2
  · subst d2; exact step_2 h v m pt now hk
  by_cases d3 : d = 3
  · subst d3; exact step_3 h v m pt now hk
  exact step_4 h d v m pt now hk ⟨by simpa using d0, by simpa using d1, by simpa using d2, by simpa using d3⟩

end Go.Proofs.Ytodddahjibccoaa
