/-
  'siphonlaw11.FilterAdmits' returns true, whatever the input, and each argument reads behind the call as it read before. Conditions: none beyond those that the row itself states.
-/
import Derived.Test.YtkjkndpglbcgfaaRows
import Derived.Test.YtkjkndpglbcgfaaFlI
import Derived.Test.YtkjkndpglbcgfaaFlE
import Derived.Test.YtkjkndpglbcgfaaTrod
import Derived.WalkKit
import Derived.ProofKit
import Derived.OpenShut
import Derived.ShutString
import Derived.ChangeOld
import Derived.Below
import Derived.Carry
import Derived.SizedLaws
import Derived.Lib.SmallJoins
import Derived.ChangeArms
import Derived.WideShapes
namespace Go.Proofs.Ytkjkndpglbcgfaa.filterAdmitsLaw
open Go.ChangeShapes Go.WideShapes Go.ChangeAt Go.RowKit Go.Joins
open Go.ChangeMaps (open_string shut_string)
set_option linter.unusedVariables false
set_option linter.unusedSimpArgs false

theorem list2 {α : Type} (l : List α) (h : l.length = 2) : ∃ x0 x1 : α, l = [x0, x1] := by
  match l, h with
  | [x0, x1], _ => exact ⟨x0, x1, rfl⟩

theorem join_len (h : Bool → Bool → Bool) (f g : Fl) : (joinF h f g).src.length ≤ f.src.length + g.src.length := by
  have h1 := List.length_filter_le (fun s => h (admB f s) (admB g s) != h f.ex g.ex) (ris (f.src ++ g.src))
  have h2 := ris_len (f.src ++ g.src)
  rw [List.length_append] at h2
  show ((ris (f.src ++ g.src)).filter _).length ≤ _
  omega

set_option maxHeartbeats 4000000 in
set_option maxRecDepth 100000 in
theorem walk (a0_0 : Bool) (a0_1 : Value) (la0_1 : List ByteArray) (a1_0 : Bool) (a1_1 : Value) (la1_1 : List ByteArray) (a2 : ByteArray) (w : World) (ha0_1 : AddrsAt w a0_1 la0_1) (qa0_1 : la0_1.length ≤ maxLen) (ha1_1 : AddrsAt w a1_1 la1_1) (qa1_1 : la1_1.length ≤ maxLen) (za2 : a2.size ≤ 140737488351232) :
    Calls Try.prog 5 #[.agg #[.bool a0_0, a0_1], .agg #[.bool a1_0, a1_1], .string a2] w fun e w' => e = .returned (.bool true) ∧ Below w.heap.size w w' := by
  unfold maxLen at qa0_1 qa1_1
  obtain ⟨p0, c0, rfl⟩ := ha0_1.slice
  obtain ⟨p1, c1, rfl⟩ := ha1_1.slice
  have HL := Lib.hid fun U => live11_c U
  have HF := Lib.hid fun U => fewf_c a0_0 a1_0 p0 la0_1.length c0 p1 la1_1.length c1 U
  have B := Lib.hid (K2.start w #[.bool a0_0, .slice p0 la0_1.length c0] #[.bool a1_0, .slice p1 la1_1.length c1])
  rcases hfw : (decide (la0_1.length ≤ 100) && decide (la1_1.length ≤ 100)) with _ | _
  · rw [hfw] at HF
    generalize la0_1.length = n0 at *
    generalize la1_1.length = n1 at *
    clear ha0_1 ha1_1 hfw
    go_enter Try.func5, Try.ntmps5
    go_wp2_with fail
    ((with_reducible refine (HF.out _).mono ?_); rintro e w1 ⟨rfl, h1⟩)
    replace B := Lib.hid (B.out.below h1)
    clear h1
    go_wp2_with fail
    ((with_reducible refine (HL.out _).mono ?_); rintro e w2 ⟨rfl, h2⟩)
    go_wp2_with fail
    go_ret
    exact ⟨rfl, (B.out.below h2).bel⟩
  · rw [hfw] at HF
    simp only [Bool.and_eq_true, decide_eq_true_iff] at hfw
    obtain ⟨l0, l1⟩ := hfw
    have H1 := Lib.hid fun (U : World) (hU : Below w.heap.size w U) => admits_c a0_0 _ la0_1 a2 U (by omega) (ha0_1.below hU)
    have H2 := Lib.hid fun (U : World) (hU : Below w.heap.size w U) => admits_c a1_0 _ la1_1 a2 U (by omega) (ha1_1.below hU)
    have H3 := Lib.hid fun (U : World) (hU : Below w.heap.size w U) => or_c a0_0 a1_0 _ _ la0_1 la1_1 U (by omega) (by omega) (ha0_1.below hU) (ha1_1.below hU)
    have H4 := Lib.hid fun (U : World) (hU : Below w.heap.size w U) => and_c a0_0 a1_0 _ _ la0_1 la1_1 U (by omega) (by omega) (ha0_1.below hU) (ha1_1.below hU)
    have H5 := Lib.hid fun (U : World) (hU : Below w.heap.size w U) => not_c a0_0 _ la0_1 U (by omega) (ha0_1.below hU)
    have H6 := Lib.hid fun (U : World) (hU : Below w.heap.size w U) => norm_c a0_0 _ la0_1 U (by omega) (ha0_1.below hU)
    have j3 := join_len (· || ·) ⟨a0_0, la0_1⟩ ⟨a1_0, la1_1⟩
    have j4 := join_len (· && ·) ⟨a0_0, la0_1⟩ ⟨a1_0, la1_1⟩
    have j5 := ris_len la0_1
    simp only at j3 j4
    have H3a := Lib.hid fun v (U : World) h => admits_c (orF ⟨a0_0, la0_1⟩ ⟨a1_0, la1_1⟩).ex v (orF ⟨a0_0, la0_1⟩ ⟨a1_0, la1_1⟩).src a2 U (by unfold orF; omega) h
    have H4a := Lib.hid fun v (U : World) h => admits_c (andF ⟨a0_0, la0_1⟩ ⟨a1_0, la1_1⟩).ex v (andF ⟨a0_0, la0_1⟩ ⟨a1_0, la1_1⟩).src a2 U (by unfold andF; omega) h
    have H5a := Lib.hid fun v (U : World) h => admits_c (notF ⟨a0_0, la0_1⟩).ex v (notF ⟨a0_0, la0_1⟩).src a2 U (by unfold notF; simp only; omega) h
    have H6a := Lib.hid fun v (U : World) h => admits_c (normF ⟨a0_0, la0_1⟩).ex v (normF ⟨a0_0, la0_1⟩).src a2 U (by unfold normF; simp only; omega) h
    have e3 : admB (orF ⟨a0_0, la0_1⟩ ⟨a1_0, la1_1⟩) a2 = (admB ⟨a0_0, la0_1⟩ a2 || admB ⟨a1_0, la1_1⟩ a2) := adm_join (· || ·) _ _ _
    have e4 : admB (andF ⟨a0_0, la0_1⟩ ⟨a1_0, la1_1⟩) a2 = (admB ⟨a0_0, la0_1⟩ a2 && admB ⟨a1_0, la1_1⟩ a2) := adm_join (· && ·) _ _ _
    have e5 := adm_not ⟨a0_0, la0_1⟩ a2
    have e6 := adm_norm ⟨a0_0, la0_1⟩ a2
    rw [show (⟨(orF ⟨a0_0, la0_1⟩ ⟨a1_0, la1_1⟩).ex, (orF ⟨a0_0, la0_1⟩ ⟨a1_0, la1_1⟩).src⟩ : Fl) = orF ⟨a0_0, la0_1⟩ ⟨a1_0, la1_1⟩ from rfl, e3] at H3a
    rw [show (⟨(andF ⟨a0_0, la0_1⟩ ⟨a1_0, la1_1⟩).ex, (andF ⟨a0_0, la0_1⟩ ⟨a1_0, la1_1⟩).src⟩ : Fl) = andF ⟨a0_0, la0_1⟩ ⟨a1_0, la1_1⟩ from rfl, e4] at H4a
    rw [show (⟨(notF ⟨a0_0, la0_1⟩).ex, (notF ⟨a0_0, la0_1⟩).src⟩ : Fl) = notF ⟨a0_0, la0_1⟩ from rfl, e5] at H5a
    rw [show (⟨(normF ⟨a0_0, la0_1⟩).ex, (normF ⟨a0_0, la0_1⟩).src⟩ : Fl) = normF ⟨a0_0, la0_1⟩ from rfl, e6] at H6a
    unfold FPost at H3 H4 H5 H6
    clear e3 e4 e5 e6 j3 j4 j5
    generalize orF ⟨a0_0, la0_1⟩ ⟨a1_0, la1_1⟩ = f3 at H3 H3a
    generalize andF ⟨a0_0, la0_1⟩ ⟨a1_0, la1_1⟩ = f4 at H4 H4a
    generalize notF ⟨a0_0, la0_1⟩ = f5 at H5 H5a
    generalize normF ⟨a0_0, la0_1⟩ = f6 at H6 H6a
    generalize admB ⟨a0_0, la0_1⟩ a2 = ra at H1 H3a H4a H5a H6a
    generalize admB ⟨a1_0, la1_1⟩ a2 = rb at H2 H3a H4a
    obtain ⟨x3, s3⟩ := f3
    obtain ⟨x4, s4⟩ := f4
    obtain ⟨x5, s5⟩ := f5
    obtain ⟨x6, s6⟩ := f6
    simp only at H3 H3a H4 H4a H5 H5a H6 H6a
    generalize la0_1.length = n0 at *
    generalize la1_1.length = n1 at *
    clear ha0_1 ha1_1 l0 l1
    cases ra <;> cases rb
    all_goals
      simp only [Bool.or_self, Bool.and_self, Bool.or_true, Bool.true_or, Bool.and_false, Bool.false_and, Bool.not_true, Bool.not_false, Bool.or_false, Bool.false_or, Bool.and_true, Bool.true_and] at H3a H4a H5a
      go_enter Try.func5, Try.ntmps5
      go_wp2_with fail
      ((with_reducible refine (HF.out _).mono ?_); rintro e w1 ⟨rfl, h1⟩)
      replace B := Lib.hid (B.out.below h1)
      clear h1
      have x0 := cell_of_block (j := 0) B.out.1 rfl
      have x1 := cell_of_block (j := 1) B.out.1 rfl
      have y0 := cell_of_block (j := 0) B.out.2.1 rfl
      have y1 := cell_of_block (j := 1) B.out.2.1 rfl
      go_wp2_with fail
      ((with_reducible refine (H1.out _ B.out.bel).mono ?_); rintro e w2 ⟨rfl, h2⟩)
      replace B := Lib.hid (B.out.below h2)
      clear h2
      clear x0 x1 y0 y1
      have x0 := cell_of_block (j := 0) B.out.1 rfl
      have x1 := cell_of_block (j := 1) B.out.1 rfl
      have y0 := cell_of_block (j := 0) B.out.2.1 rfl
      have y1 := cell_of_block (j := 1) B.out.2.1 rfl
      go_wp2_with fail
      ((with_reducible refine (H2.out _ B.out.bel).mono ?_); rintro e w3 ⟨rfl, h3⟩)
      replace B := Lib.hid (B.out.below h3)
      clear h3
      clear x0 x1 y0 y1
      have x0 := cell_of_block (j := 0) B.out.1 rfl
      have x1 := cell_of_block (j := 1) B.out.1 rfl
      have y0 := cell_of_block (j := 0) B.out.2.1 rfl
      have y1 := cell_of_block (j := 1) B.out.2.1 rfl
      go_wp2_with fail
      ((with_reducible refine (H3.out _ B.out.bel).mono ?_); rintro e w4 ⟨v4, rfl, a4, h4⟩)
      replace B := Lib.hid (B.out.below h4)
      have A4 := Lib.hid a4.at
      obtain ⟨q4, k4, rfl⟩ := a4.slice
      clear h4 a4
      clear x0 x1 y0 y1
      go_wp2_with fail
      ((with_reducible refine (H3a.out _ _ A4.out).mono ?_); rintro e u4 ⟨rfl, h4⟩)
      replace B := Lib.hid (B.out.below h4)
      clear h4 A4
      have x0 := cell_of_block (j := 0) B.out.1 rfl
      have x1 := cell_of_block (j := 1) B.out.1 rfl
      have y0 := cell_of_block (j := 0) B.out.2.1 rfl
      have y1 := cell_of_block (j := 1) B.out.2.1 rfl
      go_wp2_with fail
      ((with_reducible refine (H4.out _ B.out.bel).mono ?_); rintro e w5 ⟨v5, rfl, a5, h5⟩)
      replace B := Lib.hid (B.out.below h5)
      have A5 := Lib.hid a5.at
      obtain ⟨q5, k5, rfl⟩ := a5.slice
      clear h5 a5
      clear x0 x1 y0 y1
      go_wp2_with fail
      ((with_reducible refine (H4a.out _ _ A5.out).mono ?_); rintro e u5 ⟨rfl, h5⟩)
      replace B := Lib.hid (B.out.below h5)
      clear h5 A5
      have x0 := cell_of_block (j := 0) B.out.1 rfl
      have x1 := cell_of_block (j := 1) B.out.1 rfl
      have y0 := cell_of_block (j := 0) B.out.2.1 rfl
      have y1 := cell_of_block (j := 1) B.out.2.1 rfl
      go_wp2_with fail
      ((with_reducible refine (H5.out _ B.out.bel).mono ?_); rintro e w6 ⟨v6, rfl, a6, h6⟩)
      replace B := Lib.hid (B.out.below h6)
      have A6 := Lib.hid a6.at
      obtain ⟨q6, k6, rfl⟩ := a6.slice
      clear h6 a6
      clear x0 x1 y0 y1
      go_wp2_with fail
      ((with_reducible refine (H5a.out _ _ A6.out).mono ?_); rintro e u6 ⟨rfl, h6⟩)
      replace B := Lib.hid (B.out.below h6)
      clear h6 A6
      have x0 := cell_of_block (j := 0) B.out.1 rfl
      have x1 := cell_of_block (j := 1) B.out.1 rfl
      have y0 := cell_of_block (j := 0) B.out.2.1 rfl
      have y1 := cell_of_block (j := 1) B.out.2.1 rfl
      go_wp2_with fail
      ((with_reducible refine (H6.out _ B.out.bel).mono ?_); rintro e w7 ⟨v7, rfl, a7, h7⟩)
      replace B := Lib.hid (B.out.below h7)
      have A7 := Lib.hid a7.at
      obtain ⟨q7, k7, rfl⟩ := a7.slice
      clear h7 a7
      clear x0 x1 y0 y1
      go_wp2_with fail
      ((with_reducible refine (H6a.out _ _ A7.out).mono ?_); rintro e u7 ⟨rfl, h7⟩)
      replace B := Lib.hid (B.out.below h7)
      clear h7 A7
      go_wp2_with fail
      ((with_reducible refine (HL.out _).mono ?_); rintro e w9 ⟨rfl, h9⟩)
      go_wp2_with fail
      go_ret
      exact ⟨rfl, (B.out.below h9).bel⟩

theorem own : ownKnob Try.prog.godebug = none := by kernel_rfl
theorem laidOut : laidOutB Try.prog = true := by kernel_rfl

set_option maxHeartbeats 1000000 in
set_option maxRecDepth 100000 in
theorem lifted (os : Os) (started : os.Started) (H : Type) (enc : TypeId × Value → H) :
    ReturnsInHanded {} Try.checked os 5 .any (Rows.filterAdmitsSpec.pre6 enc Try.prog Try.f5 Rows.filterAdmitsRow.domain false) (Rows.filterAdmitsSpec.post enc Try.prog Try.f5 false true false false) := by
  refine returnsInHanded_of_change_sized (C := Try.checked) own started (by kernel_rfl) Try.func5
    (ChangeSpec.witness6 (enc := enc) (C := Try.checked) false ⟨#[], #[.agg #[.bool false, .slice none 0 0], .agg #[.bool false, .slice none 0 0], .string ByteArray.empty], []⟩ 8 (by kernel_rfl) (by kernel_rfl) (by kernel_rfl) (by kernel_rfl)) ?_
  intro W base args ds gs before hval0 hW hcnd hsz0 hholds
  have hval : ∀ (j : Nat) t v, Try.f5.params[j]? = some t → args[j]? = some v → Value.okWide Try.prog W .any base t v := hval0
  have hsz : (DataW.weightsEach Try.prog (Try.f5.params.toList ++ Rows.filterAdmitsSpec.plain.varTypes Try.prog) (ds ++ gs)).all (· ≤ reachBytes) = true := hsz0
  have hW' := hW
  obtain ⟨p, q, hA0, hV, rfl, hfz, hnd⟩ := hW
  have hA : DataW.TrodAll enc Try.prog W 0 (fun _ => true) true Try.f5.params.toList args.toList ds p := hA0
  rw [Try.params5] at hA hval hsz
  obtain ⟨v0, vs0, d0, ds0, p0, q0, hargs, rfl, rfl, h0, r0⟩ := trodAll_cons hA
  obtain ⟨v1, vs1, d1, ds1, p1, q1, rfl, rfl, rfl, h1, r1⟩ := trodAll_cons r0
  obtain ⟨v2, vs2, d2, ds2, p2, q2, rfl, rfl, rfl, h2, r2⟩ := trodAll_cons r1
  obtain ⟨rfl, rfl, rfl⟩ := trodAll_nil r2
  obtain rfl : args = #[v0, v1, v2] := by cases args; simp_all
  obtain ⟨rfl, rfl⟩ := trodVars_none hV
  have k0 := h0
  have lt0 : ∀ x ∈ p0, x.block < W.heap.size := by obtain ⟨m, hm⟩ := k0; exact DataW.trod_lt m _ _ _ hm
  have k1 := h1
  have lt1 : ∀ x ∈ p1, x.block < W.heap.size := by obtain ⟨m, hm⟩ := k1; exact DataW.trod_lt m _ _ _ hm
  have k2 := h2
  have lt2 : ∀ x ∈ p2, x.block < W.heap.size := by obtain ⟨m, hm⟩ := k2; exact DataW.trod_lt m _ _ _ hm
  obtain ⟨cs0, rfl, hz0⟩ := okWide_struct Try.underlying24 (hval 0 24 v0 rfl rfl)
  obtain ⟨l0⟩ := cs0
  obtain ⟨c0_0, c0_1, rfl⟩ := list2 l0 (hz0.trans (by kernel_rfl))
  obtain ⟨fu0, hf0⟩ := h0
  obtain ⟨xs0, m0, -, hx0, -, hn0, hg0⟩ := DataW.trod_struct Try.underlying24 hf0
  obtain ⟨y0_0, y0_1, rfl⟩ := list2 xs0 hn0
  simp only [Prod.mk.injEq] at hx0
  obtain ⟨rfl, rfl⟩ := hx0
  have g0_0 : DataW.trod enc Try.prog W 0 (fun _ => true) true m0 4 (List.take (Try.prog.cellsOf 4) (List.drop 0 [c0_0, c0_1])) = some y0_0 := hg0 0 _ rfl
  rw [show Try.prog.cellsOf 4 = 1 from by kernel_rfl] at g0_0
  replace g0_0 : DataW.trod enc Try.prog W 0 (fun _ => true) true m0 4 [c0_0] = some y0_0 := g0_0
  have g0_1 : DataW.trod enc Try.prog W 0 (fun _ => true) true m0 22 (List.take (Try.prog.cellsOf 22) (List.drop 1 [c0_0, c0_1])) = some y0_1 := hg0 1 _ rfl
  rw [show Try.prog.cellsOf 22 = 1 from by kernel_rfl] at g0_1
  replace g0_1 : DataW.trod enc Try.prog W 0 (fun _ => true) true m0 22 [c0_1] = some y0_1 := g0_1
  clear hg0
  obtain ⟨a0_0, e0_0, rfl⟩ := DataW.trod_bool Try.underlying4 g0_0
  simp at e0_0
  subst e0_0
  obtain ⟨v0_1, L0_1, e0_1, hh0_1, qq0_1⟩ := addrs_open g0_1
  simp at e0_1
  subst e0_1
  obtain ⟨cs1, rfl, hz1⟩ := okWide_struct Try.underlying24 (hval 1 24 v1 rfl rfl)
  obtain ⟨l1⟩ := cs1
  obtain ⟨c1_0, c1_1, rfl⟩ := list2 l1 (hz1.trans (by kernel_rfl))
  obtain ⟨fu1, hf1⟩ := h1
  obtain ⟨xs1, m1, -, hx1, -, hn1, hg1⟩ := DataW.trod_struct Try.underlying24 hf1
  obtain ⟨y1_0, y1_1, rfl⟩ := list2 xs1 hn1
  simp only [Prod.mk.injEq] at hx1
  obtain ⟨rfl, rfl⟩ := hx1
  have g1_0 : DataW.trod enc Try.prog W 0 (fun _ => true) true m1 4 (List.take (Try.prog.cellsOf 4) (List.drop 0 [c1_0, c1_1])) = some y1_0 := hg1 0 _ rfl
  rw [show Try.prog.cellsOf 4 = 1 from by kernel_rfl] at g1_0
  replace g1_0 : DataW.trod enc Try.prog W 0 (fun _ => true) true m1 4 [c1_0] = some y1_0 := g1_0
  have g1_1 : DataW.trod enc Try.prog W 0 (fun _ => true) true m1 22 (List.take (Try.prog.cellsOf 22) (List.drop 1 [c1_0, c1_1])) = some y1_1 := hg1 1 _ rfl
  rw [show Try.prog.cellsOf 22 = 1 from by kernel_rfl] at g1_1
  replace g1_1 : DataW.trod enc Try.prog W 0 (fun _ => true) true m1 22 [c1_1] = some y1_1 := g1_1
  clear hg1
  obtain ⟨a1_0, e1_0, rfl⟩ := DataW.trod_bool Try.underlying4 g1_0
  simp at e1_0
  subst e1_0
  obtain ⟨v1_1, L1_1, e1_1, hh1_1, qq1_1⟩ := addrs_open g1_1
  simp at e1_1
  subst e1_1
  obtain ⟨a2, rfl, rfl, rfl, w2⟩ := open_string Try.underlying25 (hval 2 25 v2 rfl rfl) h2
  have za2 : a2.size ≤ 140737488351232 := by
    have h := sized_string hsz (j := 2) (t := 25) rfl rfl
    simpa [reachBytes] using h
  clear hA0 hval0
  refine (walk a0_0 c0_1 L0_1 a1_0 c1_1 L1_1 a2 W hh0_1 qq0_1 hh1_1 qq1_1 za2).mono fun e W' ⟨he, bel⟩ => ?_
  subst he
  exact ⟨_, rfl, _, _, _, [], _, [], hW', trodAll_mk1 (shut_bool Try.underlying4 _), (trodAll_cons_mk (Below.trod laidOut (by kernel_rfl) (of_decide_eq_true (by kernel_rfl)) k0 bel lt0) (trodAll_cons_mk (Below.trod laidOut (by kernel_rfl) (of_decide_eq_true (by kernel_rfl)) k1 bel lt1) (trodAll_cons_mk (Below.trod laidOut (by kernel_rfl) (of_decide_eq_true (by kernel_rfl)) k2 bel lt2) trodAll_mk0))), rfl, bel.frame _, fun h => by cases h⟩

theorem over : Rows.filterAdmitsRow.holds Try.pinned (OpenSpec.ofChange Rows.filterAdmitsSpec) :=
  OpenClaim.holds_of_wide 5 Try.f5 rfl rfl rfl rfl rfl rfl rfl ⟨rfl, rfl, rfl, rfl, rfl⟩ rfl rfl rfl rfl rfl (by kernel_rfl) Try.func5 (by kernel_rfl)
    (of_decide_eq_true (by kernel_rfl)) (by unfold Func.isWrapper; first | (rw [if_pos (by decide +kernel)]; kernel_rfl) | (rw [if_neg (by decide +kernel)]; exact ⟨rfl, rfl⟩))
    (fun os started H enc _ => lifted os started H enc)

/-- The statement. -/
theorem proved : Rows.FilterAdmitsSaid := over
#print axioms proved
end Go.Proofs.Ytkjkndpglbcgfaa.filterAdmitsLaw
