/-
  'siphonlaw15.RstpScripts' returns true, whatever the input, and each argument reads behind the call as it read before. Conditions: none beyond those that the row itself states.
-/
import Derived.Test.YtdjeifbbbpbhoaaRows
import Derived.Test.YtdjeifbbbpbhoaaRrF
import Derived.Test.YtdjeifbbbpbhoaaRowOpS
import Derived.Test.YtdjeifbbbpbhoaaTrodJ
import Derived.WalkKit
import Derived.ProofKit
import Derived.OpenShut
import Derived.ShutString
import Derived.ChangeOld
import Derived.Below
import Derived.Carry
import Derived.SizedLaws
import Derived.Lib.SmallJoins
import Derived.ChangeArms
import Derived.WideShapes
namespace Go.Proofs.Ytdjeifbbbpbhoaa.rstpScriptsLaw
open Go.ChangeShapes Go.WideShapes Go.ChangeAt Go.RowKit Go.Joins
open Go.ChangeMaps (open_string shut_string)
set_option linter.unusedVariables false

theorem hasR_base {w : World} {B B' q rb cap : Nat} {R : RPart} (h : HasR w B q rb cap R) (hb : B' ≤ B) : HasR w B' q rb cap R := ⟨h.tree, h.row.mono hb, Nat.le_trans hb h.geQ, h.n1, h.n16, h.good⟩

set_option maxHeartbeats 16000000 in
set_option maxRecDepth 100000 in
theorem walk (a0 : Int) (a1 : Value) (la1 : List Int) (a2 : Value) (la2 : List OpS) (w : World) (la0 : 0 ≤ a0) (ua0 : a0 ≤ 18446744073709551615) (ha1 : IntsAt w a1 la1) (qa1 : la1.length ≤ maxLen) (sa1 : I64 la1) (ha2 : RowsAt 12 cellsOpS w a2 la2) (qa2 : la2.length ≤ maxLen) (sa2 : ∀ r ∈ la2, GoodOpS r) :
    Calls Try.prog 3 #[.int .u64 a0, a1, a2] w fun e w' => e = .returned (.bool true) ∧ Below w.heap.size w w' := by
  have HL := Lib.hid fun U => live15_c U
  unfold maxLen at qa1 qa2
  obtain ⟨p2, cap2, bb2, off2, rfl, hp2, hc2⟩ := ha2
  have HP2 := Lib.hid hp2
  have HC2 := Lib.hid hc2
  have SG := Lib.hid sa2
  clear hp2 hc2 sa2
  cases hm : mayCs la1 with
  | false =>
    have N0 := Lib.hid (new_no a0 a1 la1 w ha1 (by omega) hm)
    have HM := Lib.hid fun (U : World) (k : Below w.heap.size w U) => (rmayT_c a1 la1 U (ha1.below k) (by omega)).mono (R' := fun e w' => e = .returned (.bool false) ∧ U = w') (by rintro e w' ⟨rfl, h⟩; exact ⟨by rw [hm], h⟩)
    clear hm
    go_enter Try.func3, Try.ntmps3
    go_wp2_with fail
    ((with_reducible refine N0.out.mono ?_); rintro e w1 ⟨rfl, h1⟩)
    go_wp2_with fail
    ((with_reducible refine (HM.out _ h1).mono ?_); rintro e w2 ⟨rfl, rfl⟩)
    go_wp2_with fail
    ((with_reducible refine (HL.out _).mono ?_); rintro e w3 ⟨rfl, h3⟩)
    go_wp2_with fail
    go_ret
    exact ⟨by simp, h1.trans (h3.mono h1.size)⟩
  | true =>
    obtain ⟨c1, c16, -⟩ := mayCs_all hm
    have N0 := Lib.hid (new_yes (w0 := w) a0 a1 la1 w ha1 hm (Below.refl _ _))
    have HM := Lib.hid fun (U : World) (k : Below w.heap.size w U) => (rmayT_c a1 la1 U (ha1.below k) (by omega)).mono (R' := fun e w' => e = .returned (.bool true) ∧ U = w') (by rintro e w' ⟨rfl, h⟩; exact ⟨by rw [hm], h⟩)
    have RN := Lib.hid fun (U : World) (k : Below w.heap.size w U) => rnewT_c a0 a1 la1 U (ha1.below k) c1 c16
    have F0 := Lib.hid (full_new a0 la1)
    clear hm ha1 sa1 c1 c16
    go_enter Try.func3, Try.ntmps3
    go_wp2_with fail
    ((with_reducible refine N0.out.mono ?_); rintro e w1 ⟨t, rb, cap, A, rfl, -, h1, k1⟩)
    have H1 := Lib.hid h1
    clear h1 N0
    go_wp2_with fail
    ((with_reducible refine (HM.out _ k1).mono ?_); rintro e w2 ⟨rfl, rfl⟩)
    go_wp2_with fail
    ((with_reducible refine (RN.out _ k1).mono ?_); rintro e w3 ⟨q, rb2, cq, rfl, r3, k3⟩)
    have H3 := Lib.hid (show Two w w3 t rb cap A (newPart a0 la1) q rb2 cq (newRPart a0 la1) from ⟨H1.out.below k3, hasR_base r3 k1.size⟩)
    have LK := Lib.hid (looks_c H3.out F0.out)
    clear k1 r3 k3 H1 HM RN
    go_wp2_with fail
    ((with_reducible refine LK.out.mono ?_); rintro e w4 ⟨rfl, k4⟩)
    have H4 := Lib.hid (H3.out.below k4)
    clear k4 H3 LK
    go_wp2_with fail
    go_loopw [10, 11] (fun i _ wr => ∃ (k : Nat) (T : Part) (R : RPart), k ≤ la2.length ∧ k ≤ 60 ∧ i = .int .i64 k ∧ Hid (Two w wr t rb cap A T q rb2 cq R) ∧ Hid (Full T R)) (fun i _ _ => 60 - (intOf i).toNat)
    case atStart => exact ⟨0, _, _, Nat.zero_le _, by omega, rfl, H4, F0⟩
    case round =>
      clear H4 F0
      obtain ⟨k, T, R, hk, hk60, rfl, HT, HF⟩ := hrel
      by_cases hend : k < la2.length ∧ k < 60
      · obtain ⟨hlt, hlt60⟩ := hend
        have hne : la2 ≠ [] := by rintro rfl; simp at hlt
        obtain rfl := HP2.out hne
        have hgood := SG.out _ (List.getElem_mem hlt)
        have KB := Lib.hid HT.out.s.bel
        have x0 : wr.cell? ⟨bb2, off2 + k * 12, none⟩ = some _ := gcell_below KB.out (HC2.out k _ (List.getElem?_eq_getElem hlt) 0 _ rfl)
        have x1 : wr.cell? ⟨bb2, off2 + k * 12 + 1, none⟩ = some _ := gcell_below KB.out (HC2.out k _ (List.getElem?_eq_getElem hlt) 1 _ rfl)
        have x2 : wr.cell? ⟨bb2, off2 + k * 12 + 2, none⟩ = some _ := gcell_below KB.out (HC2.out k _ (List.getElem?_eq_getElem hlt) 2 _ rfl)
        have x3 : wr.cell? ⟨bb2, off2 + k * 12 + 3, none⟩ = some _ := gcell_below KB.out (HC2.out k _ (List.getElem?_eq_getElem hlt) 3 _ rfl)
        have x4 : wr.cell? ⟨bb2, off2 + k * 12 + 4, none⟩ = some _ := gcell_below KB.out (HC2.out k _ (List.getElem?_eq_getElem hlt) 4 _ rfl)
        have x5 : wr.cell? ⟨bb2, off2 + k * 12 + 5, none⟩ = some _ := gcell_below KB.out (HC2.out k _ (List.getElem?_eq_getElem hlt) 5 _ rfl)
        have x6 : wr.cell? ⟨bb2, off2 + k * 12 + 6, none⟩ = some _ := gcell_below KB.out (HC2.out k _ (List.getElem?_eq_getElem hlt) 6 _ rfl)
        have x7 : wr.cell? ⟨bb2, off2 + k * 12 + 7, none⟩ = some _ := gcell_below KB.out (HC2.out k _ (List.getElem?_eq_getElem hlt) 7 _ rfl)
        have x8 : wr.cell? ⟨bb2, off2 + k * 12 + 8, none⟩ = some _ := gcell_below KB.out (HC2.out k _ (List.getElem?_eq_getElem hlt) 8 _ rfl)
        have x9 : wr.cell? ⟨bb2, off2 + k * 12 + 9, none⟩ = some _ := gcell_below KB.out (HC2.out k _ (List.getElem?_eq_getElem hlt) 9 _ rfl)
        have x10 : wr.cell? ⟨bb2, off2 + k * 12 + 10, none⟩ = some _ := gcell_below KB.out (HC2.out k _ (List.getElem?_eq_getElem hlt) 10 _ rfl)
        have x11 : wr.cell? ⟨bb2, off2 + k * 12 + 11, none⟩ = some _ := gcell_below KB.out (HC2.out k _ (List.getElem?_eq_getElem hlt) 11 _ rfl)
        generalize la2[k] = op at *
        obtain ⟨dd, po, up, r, c, g, z, age, ch, le, fw, now⟩ := op
        obtain ⟨-, -, -, -, -, -, -, ⟨ga0, -⟩, -, -, -, -⟩ := hgood
        simp only at x0 x1 x2 x3 x4 x5 x6 x7 x8 x9 x10 x11 ga0
        have hltk : decide (la2.length ≤ k) = false := decide_eq_false (by omega)
        have ST := Lib.hid (step_c HT.out HF.out dd po up r c g z age ch le fw now ga0)
        clear hne KB ga0
        go_upto_region 13 with (go_at_call 13; (with_reducible refine ST.out.mono ?_); rintro e w5 ⟨T5, R5, rfl, h5, f5⟩)
        clear ST x0 x1 x2 x3 x4 x5 x6 x7 x8 x9 x10 x11 HT HF
        go_wp2_with fail
        go_roundw
        case rel => exact ⟨k + 1, T5, R5, by omega, by omega, by go_num, h5, f5⟩
        case measure => simp [intOf]; omega
      · have KB := Lib.hid HT.out.s.bel
        by_cases hlt : k < la2.length
        · have g1 : decide ((k : Int) < 60) = false := decide_eq_false (by omega)
          have g2 : decide ((k : Int) < (la2.length : Int)) = true := decide_eq_true (by omega)
          clear hend
          go_wp2_with fail
          ((with_reducible refine (HL.out _).mono ?_); rintro e wz ⟨rfl, hz⟩)
          go_wp2_with fail
          go_ret
          exact ⟨by simp, KB.out.trans (hz.mono KB.out.size)⟩
        · have g2 : decide ((k : Int) < (la2.length : Int)) = false := decide_eq_false (by omega)
          clear hend
          go_wp2_with fail
          ((with_reducible refine (HL.out _).mono ?_); rintro e wz ⟨rfl, hz⟩)
          go_wp2_with fail
          go_ret
          exact ⟨by simp, KB.out.trans (hz.mono KB.out.size)⟩

theorem own : ownKnob Try.prog.godebug = none := by kernel_rfl
theorem laidOut : laidOutB Try.prog = true := by kernel_rfl

set_option maxHeartbeats 1000000 in
set_option maxRecDepth 100000 in
theorem lifted (os : Os) (started : os.Started) (H : Type) (enc : TypeId × Value → H) :
    ReturnsInHanded {} Try.checked os 3 .any (Rows.rstpScriptsSpec.pre6 enc Try.prog Try.f3 Rows.rstpScriptsRow.domain false) (Rows.rstpScriptsSpec.post enc Try.prog Try.f3 false true false false) := by
  refine returnsInHanded_of_change_sized (C := Try.checked) own started (by kernel_rfl) Try.func3
    (ChangeSpec.witness6 (enc := enc) (C := Try.checked) false ⟨#[], #[.int .u64 0, .slice none 0 0, .slice none 0 0], []⟩ 8 (by kernel_rfl) (by kernel_rfl) (by kernel_rfl) (by kernel_rfl)) ?_
  intro W base args ds gs before hval0 hW hcnd hsz0 hholds
  have hval : ∀ (j : Nat) t v, Try.f3.params[j]? = some t → args[j]? = some v → Value.okWide Try.prog W .any base t v := hval0
  have hsz : (DataW.weightsEach Try.prog (Try.f3.params.toList ++ Rows.rstpScriptsSpec.plain.varTypes Try.prog) (ds ++ gs)).all (· ≤ reachBytes) = true := hsz0
  have hW' := hW
  obtain ⟨p, q, hA0, hV, rfl, hfz, hnd⟩ := hW
  have hA : DataW.TrodAll enc Try.prog W 0 (fun _ => true) true Try.f3.params.toList args.toList ds p := hA0
  rw [Try.params3] at hA hval hsz
  obtain ⟨v0, vs0, d0, ds0, p0, q0, hargs, rfl, rfl, h0, r0⟩ := trodAll_cons hA
  obtain ⟨v1, vs1, d1, ds1, p1, q1, rfl, rfl, rfl, h1, r1⟩ := trodAll_cons r0
  obtain ⟨v2, vs2, d2, ds2, p2, q2, rfl, rfl, rfl, h2, r2⟩ := trodAll_cons r1
  obtain ⟨rfl, rfl, rfl⟩ := trodAll_nil r2
  obtain rfl : args = #[v0, v1, v2] := by cases args; simp_all
  obtain ⟨rfl, rfl⟩ := trodVars_none hV
  have k0 := h0
  have lt0 : ∀ x ∈ p0, x.block < W.heap.size := by obtain ⟨m, hm⟩ := k0; exact DataW.trod_lt m _ _ _ hm
  have k1 := h1
  have lt1 : ∀ x ∈ p1, x.block < W.heap.size := by obtain ⟨m, hm⟩ := k1; exact DataW.trod_lt m _ _ _ hm
  have k2 := h2
  have lt2 : ∀ x ∈ p2, x.block < W.heap.size := by obtain ⟨m, hm⟩ := k2; exact DataW.trod_lt m _ _ _ hm
  obtain ⟨a0, rfl, rfl, rfl, w0⟩ := open_int Try.underlying22 (hval 0 22 v0 rfl rfl) h0
  obtain ⟨sa1, sl1, sc1, rfl⟩ := okWide_slice Try.underlying23 (hval 1 23 v1 rfl rfl)
  obtain ⟨fu1, hf1⟩ := h1
  obtain ⟨vv1, L1, e1, hh1, qq1, ss1⟩ := ints_open hf1
  simp [Value.cells] at e1
  subst e1
  obtain ⟨sa2, sl2, sc2, rfl⟩ := okWide_slice Try.underlying24 (hval 2 24 v2 rfl rfl)
  obtain ⟨fu2, hf2⟩ := h2
  obtain ⟨vv2, L2, e2, hh2, qq2, ss2⟩ := openOpS hf2
  simp [Value.cells] at e2
  subst e2
  have ba0 := bounds_u64 w0
  clear hA0 hval0
  refine (walk a0 (.slice sa1 sl1 sc1) L1 (.slice sa2 sl2 sc2) L2 W ba0.1 ba0.2 hh1 qq1 ss1 hh2 qq2 ss2).mono fun e W' ⟨he, bel⟩ => ?_
  subst he
  exact ⟨_, rfl, _, _, _, [], _, [], hW', trodAll_mk1 (shut_bool Try.underlying4 _), (trodAll_cons_mk (Below.trod laidOut (by kernel_rfl) (of_decide_eq_true (by kernel_rfl)) k0 bel lt0) (trodAll_cons_mk (Below.trod laidOut (by kernel_rfl) (of_decide_eq_true (by kernel_rfl)) k1 bel lt1) (trodAll_cons_mk (Below.trod laidOut (by kernel_rfl) (of_decide_eq_true (by kernel_rfl)) k2 bel lt2) trodAll_mk0))), rfl, bel.frame _, fun h => by cases h⟩

theorem over : Rows.rstpScriptsRow.holds Try.pinned (OpenSpec.ofChange Rows.rstpScriptsSpec) :=
  OpenClaim.holds_of_wide 3 Try.f3 rfl rfl rfl rfl rfl rfl rfl ⟨rfl, rfl, rfl, rfl, rfl⟩ rfl rfl rfl rfl rfl (by kernel_rfl) Try.func3 (by kernel_rfl)
    (of_decide_eq_true (by kernel_rfl)) (by unfold Func.isWrapper; first | (rw [if_pos (by decide +kernel)]; kernel_rfl) | (rw [if_neg (by decide +kernel)]; exact ⟨rfl, rfl⟩))
    (fun os started H enc _ => lifted os started H enc)

/-- The statement. -/
theorem proved : Rows.RstpScriptsSaid := over
#print axioms proved
end Go.Proofs.Ytdjeifbbbpbhoaa.rstpScriptsLaw
