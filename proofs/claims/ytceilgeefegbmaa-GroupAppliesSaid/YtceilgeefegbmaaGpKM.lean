/-
  The document's Apply, whole. A contract over the translated program.
  Are two asks the same? A contract over the translated program.
-/
import Derived.Test.YtceilgeefegbmaaGpI
import Derived.Test.YtceilgeefegbmaaGpJ
import Derived.Test.YtceilgeefegbmaaSame
namespace Go.Proofs.Ytceilgeefegbmaa
open Go Go.Maps Go.WideMaps
open Go.RowKit
set_option linter.unusedSimpArgs false
set_option linter.unusedVariables false


theorem but_ex (tm : Int) (l : List Tm) (kd : Int) (r : List ByteArray) (m : Int) : (butP tm l kd r m).ex = true := by
  unfold butP
  split
  · rfl
  · split
    · rfl
    · split
      · rfl
      · split <;> rfl
theorem app17_c (ex : Bool) (tm : Int) (v : Value) (sl : List Tm) (is : Bool) (kd : Int) (gp : ByteArray) (rv : Value) (rs : List ByteArray) (now m l : Int) (w : World) (hl : sl.length ≤ 100) (hr : rs.length ≤ 100) (hR : RowsAt 2 cellsTm w v sl) (hRR : AddrsAt w rv rs) :
    Calls Try.prog 21 #[.agg #[.bool ex, .int .i64 tm, v], .bool is, .agg #[.int .i64 kd, .string gp, rv], .int .i64 now, .int .i64 m, .int .i64 l] w (ApPost (ap17 ⟨ex, tm, sl⟩ is kd rs now m l) w) := by
  obtain ⟨q, n, c, rfl⟩ := rows_slice3 hR
  obtain ⟨rp, rc, rfl⟩ := hRR.slice
  unfold ap17
  cases is with
  | false =>
    rw [if_neg (by simp)]
    by_cases hrec : (mayT m l now && recT kd rs) = false
    · rw [if_pos hrec]; exact ap17_1f ex tm q n c sl kd gp rp _ rc rs now m l w hl hr rfl hR hRR hrec
    · rw [if_neg hrec]
      have hrec : (mayT m l now && recT kd rs) = true := by simpa using hrec
      rw [Bool.and_eq_true] at hrec
      rw [show fol17 (if false = true then ⟨ex, tm, sl⟩ else noS) kd (ris rs) (now + m) = somP [] kd (ris rs) (now + m) from rfl]
      rcases hC : somP [] kd (ris rs) (now + m) with ⟨cx, ct, cs, cg, ca⟩
      unfold end17
      simp only
      by_cases hb : 60 < cs.length
      · rw [if_pos hb]; exact ap17_fn_long ex tm q n c sl kd gp rp _ rc rs now m l w hl hr rfl hR hRR hrec.1 hrec.2 cx ct cs cg ca hC hb _ rfl _ rfl
      · rw [if_neg hb]
        cases cx with
        | false =>
          by_cases hz : (askS cs ca (now + l)).length = 0
          · rw [if_neg (by simp [List.eq_nil_of_length_eq_zero hz])]; exact ap17_fn_none ex tm q n c sl kd gp rp _ rc rs now m l w hl hr rfl hR hRR hrec.1 hrec.2 ct cs cg ca hC hb hz _ rfl _ rfl
          · rw [if_pos (by rw [Bool.false_or]; exact decide_eq_true (by omega))]; exact ap17_fn_okn ex tm q n c sl kd gp rp _ rc rs now m l w hl hr rfl hR hRR hrec.1 hrec.2 ct cs cg ca hC hb hz _ rfl _ rfl
        | true => rw [if_pos (by rw [Bool.true_or])]; exact ap17_fn_okx ex tm q n c sl kd gp rp _ rc rs now m l w hl hr rfl hR hRR hrec.1 hrec.2 ct cs cg ca hC hb _ rfl _ rfl
  | true =>
    rcases Bool.eq_false_or_eq_true (okS ⟨ex, tm, sl⟩) with hok | hok
    · rw [if_neg (by rw [hok]; decide)]
      by_cases hrec : (mayT m l now && recT kd rs) = false
      · rw [if_pos hrec]; exact ap17_1t ex tm q n c sl kd gp rp _ rc rs now m l w hl hr rfl hR hRR hok hrec
      · rw [if_neg hrec]
        have hrec : (mayT m l now && recT kd rs) = true := by simpa using hrec
        rw [Bool.and_eq_true] at hrec
        cases ex with
        | false =>
          rw [show fol17 (if true = true then ⟨false, tm, sl⟩ else noS) kd (ris rs) (now + m) = somP sl kd (ris rs) (now + m) from rfl]
          rcases hC : somP sl kd (ris rs) (now + m) with ⟨cx, ct, cs, cg, ca⟩
          unfold end17
          simp only
          by_cases hb : 60 < cs.length
          · rw [if_pos hb]; exact ap17_tn_long tm q n c sl kd gp rp _ rc rs now m l w hl hr rfl hR hRR hok hrec.1 hrec.2 cx ct cs cg ca hC hb _ rfl _ rfl
          · rw [if_neg hb]
            cases cx with
            | false =>
              by_cases hz : (askS cs ca (now + l)).length = 0
              · rw [if_neg (by simp [List.eq_nil_of_length_eq_zero hz])]; exact ap17_tn_none tm q n c sl kd gp rp _ rc rs now m l w hl hr rfl hR hRR hok hrec.1 hrec.2 ct cs cg ca hC hb hz _ rfl _ rfl
              · rw [if_pos (by rw [Bool.false_or]; exact decide_eq_true (by omega))]; exact ap17_tn_okn tm q n c sl kd gp rp _ rc rs now m l w hl hr rfl hR hRR hok hrec.1 hrec.2 ct cs cg ca hC hb hz _ rfl _ rfl
            | true => rw [if_pos (by rw [Bool.true_or])]; exact ap17_tn_okx tm q n c sl kd gp rp _ rc rs now m l w hl hr rfl hR hRR hok hrec.1 hrec.2 ct cs cg ca hC hb _ rfl _ rfl
        | true =>
          rw [show fol17 (if true = true then ⟨true, tm, sl⟩ else noS) kd (ris rs) (now + m) = butP tm sl kd (ris rs) (now + m) from rfl]
          have hx := but_ex tm sl kd (ris rs) (now + m)
          rcases hC : butP tm sl kd (ris rs) (now + m) with ⟨cx, ct, cs, cg, ca⟩
          rw [hC] at hx
          have hx : cx = true := hx
          subst hx
          unfold end17
          simp only
          by_cases hb : 60 < cs.length
          · rw [if_pos hb]; exact ap17_tx_long tm q n c sl kd gp rp _ rc rs now m l w hl hr rfl hR hRR hok hrec.1 hrec.2 true ct cs cg ca hC hb _ rfl _ rfl
          · rw [if_neg hb, if_pos (by rw [Bool.true_or])]; exact ap17_tx_okx tm q n c sl kd gp rp _ rc rs now m l w hl hr rfl hR hRR hok hrec.1 hrec.2 ct cs cg ca hC hb _ rfl _ rfl
    · rw [if_pos (by rw [hok]; rfl)]; exact ap17_3 ex tm q n c sl kd gp rp _ rc rs now m l w hl hr rfl hR hRR hok


set_option maxHeartbeats 2000000 in
theorem sameask17_c (ag : Bool) (v1 v2 : Value) (l : List ByteArray) (w : World) (hl : l.length ≤ 100000) (h1 : AddrsAt w v1 l) (h2 : AddrsAt w v2 l) :
    Calls Try.prog 22 #[.agg #[.bool ag, v1], .bool ag, v2] w fun e w' => e = .returned (.bool true) ∧ Below w.heap.size w w' := by
  have k0 : Below w.heap.size w (w.alloc (.cells #[.bool ag, v1] 47)) := (Below.refl _ _).alloc (Nat.le_refl _) _
  have B := heap_new w (.cells #[.bool ag, v1] 47)
  have x0 : (w.alloc (.cells #[.bool ag, v1] 47)).cell? ⟨w.heap.size, 0, none⟩ = some (.bool ag) := cell_of_block B rfl
  have x1 : (w.alloc (.cells #[.bool ag, v1] 47)).cell? ⟨w.heap.size, 1, none⟩ = some v1 := cell_of_block B rfl
  have SA := Lib.hid (sameA_c v1 v2 l _ (by omega) (h1.below k0) (h2.below k0))
  have K0 := Lib.hid k0
  obtain ⟨q1, n1, c1, rfl⟩ := addrs_slice3 h1
  obtain ⟨q2, n2, c2, rfl⟩ := addrs_slice3 h2
  clear h1 h2 B k0
  cases ag <;>
    (go_enter Try.func22, Try.ntmps22
     go_upto_region 1 with fail
     generalize w.alloc (.cells _ _) = W at x0 x1 SA K0 ⊢
     go_wp2_with fail
     ((with_reducible refine SA.out.mono ?_); rintro e w2 ⟨rfl, nn, rfl⟩)
     go_wp2_with fail
     go_ret
     exact ⟨rfl, below_drewN K0.out nn⟩)

end Go.Proofs.Ytceilgeefegbmaa
