/-
  'siphonlaw08.IgmpRecords' returns true, whatever the input, and each argument reads behind the call as it read before. Conditions: none beyond those that the row itself states.
-/
import Derived.Test.YtnhgekbimiffjaaRows
import Derived.Test.YtnhgekbimiffjaaLive8
import Derived.Test.YtnhgekbimiffjaaIgJ
import Derived.Test.YtnhgekbimiffjaaSameM
import Derived.Test.YtnhgekbimiffjaaIgBt
import Derived.Test.YtnhgekbimiffjaaTrod
import Derived.WalkKit
import Derived.ProofKit
import Derived.OpenShut
import Derived.ShutString
import Derived.ChangeOld
import Derived.Below
import Derived.Carry
import Derived.SizedLaws
import Derived.Lib.SmallJoins
import Derived.ChangeArms
import Derived.WideShapes
namespace Go.Proofs.Ytnhgekbimiffjaa.igmpRecordsLaw
open Go.ChangeShapes Go.WideShapes Go.ChangeAt Go.RowKit Go.Joins
open Go.ChangeMaps (open_string shut_string)
set_option linter.unusedVariables false

theorem list4 {α : Type} (l : List α) (h : l.length = 4) : ∃ x0 x1 x2 x3 : α, l = [x0, x1, x2, x3] := by
  match l, h with
  | [x0, x1, x2, x3], _ => exact ⟨x0, x1, x2, x3, rfl⟩

theorem go_short (s : ByteArray) (Z : Nat) : ∀ n a, (recsGo s Z n a).2.length ≤ n
  | 0, _ => Nat.le_refl _
  | n + 1, a => by
    unfold recsGo
    split
    · exact Nat.zero_le _
    · simp only
      split
      · exact Nat.zero_le _
      · have := go_short s Z n (a + (recOf s a Z).2.2)
        split
        · simp only [List.length_cons]; omega
        · simp only; omega
theorem rec_short (s : ByteArray) (a Z : Nat) : (recOf s a Z).2.1.srcs.length ≤ 60 := by
  unfold recOf
  split
  · exact Nat.zero_le _
  · simp only
    split
    · exact Nat.zero_le _
    · split
      · exact Nat.zero_le _
      · next h => simp only [addrsL_length]; omega
theorem go_srcs (s : ByteArray) (Z : Nat) : ∀ n a, ∀ r ∈ (recsGo s Z n a).2, r.srcs.length ≤ 60
  | 0, _, r, h => by simp [recsGo] at h
  | n + 1, a, r, h => by
    unfold recsGo at h
    split at h
    · simp at h
    · simp only at h
      split at h
      · simp at h
      · split at h
        · rcases List.mem_cons.1 h with rfl | h
          · exact rec_short s a Z
          · exact go_srcs s Z n _ r h
        · exact go_srcs s Z n _ r h
theorem recsI_short (s : ByteArray) (n Z : Int) : (recsI s n Z).2.length ≤ 30 ∧ ∀ r ∈ (recsI s n Z).2, r.srcs.length ≤ 60 := by
  unfold recsI
  split
  · exact ⟨Nat.zero_le _, fun r h => by simp at h⟩
  · split
    · exact ⟨Nat.zero_le _, fun r h => by simp at h⟩
    · exact ⟨Nat.le_trans (go_short _ _ _ _) (by omega), go_srcs _ _ _ _⟩

set_option maxHeartbeats 1000000 in
set_option maxRecDepth 100000 in
theorem walk (a0_0 : ByteArray) (a0_1 : Int) (a0_2 : Int) (a0_3 : Value) (la0_3 : List Rec) (w : World) (za0_0 : a0_0.size ≤ 140737488351232) (la0_1 : -9223372036854775808 ≤ a0_1) (ua0_1 : a0_1 ≤ 9223372036854775807) (la0_2 : -9223372036854775808 ≤ a0_2) (ua0_2 : a0_2 ≤ 9223372036854775807) (ha0_3 : RecsAt w a0_3 la0_3) (qa0_3 : la0_3.length ≤ maxLen) (sa0_3 : ∀ r ∈ la0_3, r.srcs.length ≤ maxLen) :
    Calls Try.prog 5 #[.agg #[.string a0_0, .int .i64 a0_1, .int .i64 a0_2, a0_3]] w fun e w' => e = .returned (.bool true) ∧ Below w.heap.size w w' := by
  unfold maxLen at qa0_3 sa0_3
  have HL := Lib.hid fun U => live8_c U
  have HF := Lib.hid fun U h => few_c 0 0 ⟨#[]⟩ 0 false 0 0 none 0 0 a0_3 la0_3 U qa0_3 h
  obtain ⟨p0, c0, rfl⟩ := ha0_3.slice
  have HA := Lib.hid ha0_3
  by_cases hs : a0_0.size ≤ 20000
  · have d1 : decide ((20000 : Int) < (a0_0.size : Int)) = false := decide_eq_false (by omega)
    rcases hfb : fewB 0 la0_3 with _ | _
    · rw [hfb] at HF
      have BX := Box.start w #[.string a0_0, .int .i64 a0_1, .int .i64 a0_2, .slice p0 la0_3.length c0] 38
      have HA2 := ha0_3.below BX.2
      have BY := Lib.hid BX
      clear hfb ha0_3 BX
      go_enter Try.func5, Try.ntmps5
      go_wp2_with fail
      ((with_reducible refine (HF.out _ HA2).mono ?_); rintro e w1 ⟨rfl, h1⟩)
      have D1 := Lib.hid (BY.out.below h1).2
      go_wp2_with fail
      ((with_reducible refine (HL.out _).mono ?_); rintro e w5 ⟨rfl, h5⟩)
      go_wp2_with fail
      go_ret
      exact ⟨rfl, D1.out.trans (h5.mono D1.out.size)⟩
    · rw [hfb] at HF
      have BX := Box.start w #[.string a0_0, .int .i64 a0_1, .int .i64 a0_2, .slice p0 la0_3.length c0] 38
      have HA2 := ha0_3.below BX.2
      have BY := Lib.hid BX
      have H1 := Lib.hid fun U => recs_c a0_0 a0_1 a0_2 U (by omega) la0_1
      have H2 := Lib.hid fun U => rrecs_c a0_0 a0_1 a0_2 U (by omega) la0_1
      have H3 := Lib.hid fun U h => body_c (.slice p0 la0_3.length c0) la0_3 a0_2 U qa0_3 sa0_3 h
      have H4 := Lib.hid fun U h => rbody_c (.slice p0 la0_3.length c0) la0_3 a0_2 U qa0_3 sa0_3 h
      obtain ⟨s1, s2⟩ := recsI_short a0_0 a0_1 a0_2
      have HS := Lib.hid fun v1 v2 U h1 h2 => sameR_c v1 v2 (recsI a0_0 a0_1 a0_2).2 U (by omega) (fun r hr => by have := s2 r hr; omega) h1 h2
      unfold RecsPost at H1 H2
      unfold BodyPost at H3 H4
      generalize recsI a0_0 a0_1 a0_2 = t at *
      obtain ⟨E, L⟩ := t
      generalize bodyI la0_3 a0_2 = t at *
      obtain ⟨E2, S2⟩ := t
      simp only at H1 H2 H3 H4 HS
      clear hfb ha0_3 BX s1 s2
      go_enter Try.func5, Try.ntmps5
      go_wp2_with fail
      ((with_reducible refine (HF.out _ HA2).mono ?_); rintro e w1 ⟨rfl, h1⟩)
      have B := Lib.hid (BY.out.below h1)
      clear h1 HA2
      have x0 := B.out.cell 0 rfl
      have x1 := B.out.cell 1 rfl
      have x2 := B.out.cell 2 rfl
      go_wp2_with fail
      ((with_reducible refine (H1.out _).mono ?_); rintro e w2 ⟨v1, rfl, hv1, h2⟩)
      replace B := Lib.hid (B.out.below h2)
      obtain ⟨p1, c1, rfl⟩ := hv1.slice
      have R1 := Lib.hid hv1.at
      clear x0 x1 x2 h2 hv1
      have x0 := B.out.cell 0 rfl
      have x1 := B.out.cell 1 rfl
      have x2 := B.out.cell 2 rfl
      go_wp2_with fail
      ((with_reducible refine (H2.out _).mono ?_); rintro e w3 ⟨v2, rfl, hv2, h3⟩)
      replace B := Lib.hid (B.out.below h3)
      replace R1 := Lib.hid (R1.out.below h3)
      obtain ⟨p2, c2, rfl⟩ := hv2.slice
      have R2 := Lib.hid hv2.at
      clear x0 x1 x2 h3 hv2
      have x2 := B.out.cell 2 rfl
      have x3 := B.out.cell 3 rfl
      have HA3 := HA.out.below B.out.2
      go_wp2_with fail
      ((with_reducible refine (H3.out _ HA3).mono ?_); rintro e w4 ⟨rfl, h4⟩)
      replace B := Lib.hid (B.out.below h4)
      replace R1 := Lib.hid (R1.out.below h4)
      replace R2 := Lib.hid (R2.out.below h4)
      clear x2 x3 h4 HA3
      have x2 := B.out.cell 2 rfl
      have x3 := B.out.cell 3 rfl
      have HA3 := HA.out.below B.out.2
      go_wp2_with fail
      ((with_reducible refine (H4.out _ HA3).mono ?_); rintro e w5 ⟨rfl, h5⟩)
      replace B := Lib.hid (B.out.below h5)
      have Q1 := R1.out.below h5
      have Q2 := R2.out.below h5
      clear x2 x3 h5 HA3
      go_wp2_with fail
      ((with_reducible refine (HS.out _ _ _ Q1 Q2).mono ?_); rintro e w6 ⟨rfl, nn, rfl⟩)
      have D6 := Lib.hid (below_drewN B.out.2 nn)
      clear Q1 Q2
      go_wp2_with fail
      ((with_reducible refine (HL.out _).mono ?_); rintro e w7 ⟨rfl, h7⟩)
      go_wp2_with fail
      go_ret
      exact ⟨rfl, D6.out.trans (h7.mono D6.out.size)⟩
  · have d1 : decide ((20000 : Int) < (a0_0.size : Int)) = true := decide_eq_true (by omega)
    have BY := Lib.hid (Box.start w #[.string a0_0, .int .i64 a0_1, .int .i64 a0_2, .slice p0 la0_3.length c0] 38)
    clear hs ha0_3
    go_enter Try.func5, Try.ntmps5
    go_wp2_with fail
    ((with_reducible refine (HL.out _).mono ?_); rintro e w5 ⟨rfl, h5⟩)
    go_wp2_with fail
    go_ret
    exact ⟨rfl, (BY.out.below h5).2⟩

theorem own : ownKnob Try.prog.godebug = none := by kernel_rfl
theorem laidOut : laidOutB Try.prog = true := by kernel_rfl

set_option maxHeartbeats 1000000 in
set_option maxRecDepth 100000 in
theorem lifted (os : Os) (started : os.Started) (H : Type) (enc : TypeId × Value → H) :
    ReturnsInHanded {} Try.checked os 5 .any (Rows.igmpRecordsSpec.pre6 enc Try.prog Try.f5 Rows.igmpRecordsRow.domain false) (Rows.igmpRecordsSpec.post enc Try.prog Try.f5 false true false false) := by
  refine returnsInHanded_of_change_sized (C := Try.checked) own started (by kernel_rfl) Try.func5
    (ChangeSpec.witness6 (enc := enc) (C := Try.checked) false ⟨#[], #[.agg #[.string ByteArray.empty, .int .i64 0, .int .i64 0, .slice none 0 0]], []⟩ 8 (by kernel_rfl) (by kernel_rfl) (by kernel_rfl) (by kernel_rfl)) ?_
  intro W base args ds gs before hval0 hW hcnd hsz0 hholds
  have hval : ∀ (j : Nat) t v, Try.f5.params[j]? = some t → args[j]? = some v → Value.okWide Try.prog W .any base t v := hval0
  have hsz : (DataW.weightsEach Try.prog (Try.f5.params.toList ++ Rows.igmpRecordsSpec.plain.varTypes Try.prog) (ds ++ gs)).all (· ≤ reachBytes) = true := hsz0
  have hW' := hW
  obtain ⟨p, q, hA0, hV, rfl, hfz, hnd⟩ := hW
  have hA : DataW.TrodAll enc Try.prog W 0 (fun _ => true) true Try.f5.params.toList args.toList ds p := hA0
  rw [Try.params5] at hA hval hsz
  obtain ⟨v0, vs0, d0, ds0, p0, q0, hargs, rfl, rfl, h0, r0⟩ := trodAll_cons hA
  obtain ⟨rfl, rfl, rfl⟩ := trodAll_nil r0
  obtain rfl : args = #[v0] := by cases args; simp_all
  obtain ⟨rfl, rfl⟩ := trodVars_none hV
  have k0 := h0
  have lt0 : ∀ x ∈ p0, x.block < W.heap.size := by obtain ⟨m, hm⟩ := k0; exact DataW.trod_lt m _ _ _ hm
  obtain ⟨cs0, rfl, hz0⟩ := okWide_struct Try.underlying38 (hval 0 38 v0 rfl rfl)
  obtain ⟨l0⟩ := cs0
  obtain ⟨c0_0, c0_1, c0_2, c0_3, rfl⟩ := list4 l0 (hz0.trans (by kernel_rfl))
  obtain ⟨fu0, hf0⟩ := h0
  obtain ⟨xs0, m0, -, hx0, -, hn0, hg0⟩ := DataW.trod_struct Try.underlying38 hf0
  obtain ⟨y0_0, y0_1, y0_2, y0_3, rfl⟩ := list4 xs0 hn0
  simp only [Prod.mk.injEq] at hx0
  obtain ⟨rfl, rfl⟩ := hx0
  have g0_0 : DataW.trod enc Try.prog W 0 (fun _ => true) true m0 9 (List.take (Try.prog.cellsOf 9) (List.drop 0 [c0_0, c0_1, c0_2, c0_3])) = some y0_0 := hg0 0 _ rfl
  rw [show Try.prog.cellsOf 9 = 1 from by kernel_rfl] at g0_0
  replace g0_0 : DataW.trod enc Try.prog W 0 (fun _ => true) true m0 9 [c0_0] = some y0_0 := g0_0
  have g0_1 : DataW.trod enc Try.prog W 0 (fun _ => true) true m0 3 (List.take (Try.prog.cellsOf 3) (List.drop 1 [c0_0, c0_1, c0_2, c0_3])) = some y0_1 := hg0 1 _ rfl
  rw [show Try.prog.cellsOf 3 = 1 from by kernel_rfl] at g0_1
  replace g0_1 : DataW.trod enc Try.prog W 0 (fun _ => true) true m0 3 [c0_1] = some y0_1 := g0_1
  have g0_2 : DataW.trod enc Try.prog W 0 (fun _ => true) true m0 3 (List.take (Try.prog.cellsOf 3) (List.drop 2 [c0_0, c0_1, c0_2, c0_3])) = some y0_2 := hg0 2 _ rfl
  rw [show Try.prog.cellsOf 3 = 1 from by kernel_rfl] at g0_2
  replace g0_2 : DataW.trod enc Try.prog W 0 (fun _ => true) true m0 3 [c0_2] = some y0_2 := g0_2
  have g0_3 : DataW.trod enc Try.prog W 0 (fun _ => true) true m0 25 (List.take (Try.prog.cellsOf 25) (List.drop 3 [c0_0, c0_1, c0_2, c0_3])) = some y0_3 := hg0 3 _ rfl
  rw [show Try.prog.cellsOf 25 = 1 from by kernel_rfl] at g0_3
  replace g0_3 : DataW.trod enc Try.prog W 0 (fun _ => true) true m0 25 [c0_3] = some y0_3 := g0_3
  clear hg0
  obtain ⟨a0_0, e0_0, rfl, w0_0⟩ := DataW.trod_string Try.underlying9 g0_0
  simp at e0_0
  subst e0_0
  obtain ⟨a0_1, e0_1, rfl, w0_1⟩ := DataW.trod_int Try.underlying3 g0_1
  simp at e0_1
  subst e0_1
  obtain ⟨a0_2, e0_2, rfl, w0_2⟩ := DataW.trod_int Try.underlying3 g0_2
  simp at e0_2
  subst e0_2
  obtain ⟨v0_3, L0_3, e0_3, hh0_3, qq0_3, ss0_3⟩ := recs_open g0_3
  simp at e0_3
  subst e0_3
  have za0_0 : a0_0.size ≤ 140737488351232 := by
    have h := List.all_eq_true.1 hsz _ (DataW.weights_mem_each (j := 0) (t := 38) rfl rfl a0_0.data.toList.length (by simp [DataW.weights, DataW.weightsEach, Try.underlying38]))
    simpa [reachBytes] using of_decide_eq_true h
  have ba0_1 := bounds_i64 w0_1
  have ba0_2 := bounds_i64 w0_2
  clear hA0 hval0
  refine (walk a0_0 a0_1 a0_2 c0_3 L0_3 W za0_0 ba0_1.1 ba0_1.2 ba0_2.1 ba0_2.2 hh0_3 qq0_3 ss0_3).mono fun e W' ⟨he, bel⟩ => ?_
  subst he
  exact ⟨_, rfl, _, _, _, [], _, [], hW', trodAll_mk1 (shut_bool Try.underlying4 _), (trodAll_cons_mk (Below.trod laidOut (by kernel_rfl) (of_decide_eq_true (by kernel_rfl)) k0 bel lt0) trodAll_mk0), rfl, bel.frame _, fun h => by cases h⟩

theorem over : Rows.igmpRecordsRow.holds Try.pinned (OpenSpec.ofChange Rows.igmpRecordsSpec) :=
  OpenClaim.holds_of_wide 5 Try.f5 rfl rfl rfl rfl rfl rfl rfl ⟨rfl, rfl, rfl, rfl, rfl⟩ rfl rfl rfl rfl rfl (by kernel_rfl) Try.func5 (by kernel_rfl)
    (of_decide_eq_true (by kernel_rfl)) (by unfold Func.isWrapper; first | (rw [if_pos (by decide +kernel)]; kernel_rfl) | (rw [if_neg (by decide +kernel)]; exact ⟨rfl, rfl⟩))
    (fun os started H enc _ => lifted os started H enc)

/-- The statement. -/
theorem proved : Rows.IgmpRecordsSaid := over
#print axioms proved
end Go.Proofs.Ytnhgekbimiffjaa.igmpRecordsLaw
