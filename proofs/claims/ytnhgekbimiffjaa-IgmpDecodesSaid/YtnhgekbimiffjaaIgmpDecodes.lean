/-
  'siphonlaw08.IgmpDecodes' returns true, whatever the input, and each argument reads behind the call as it read before. Conditions: none beyond those that the row itself states.
-/
import Derived.Test.YtnhgekbimiffjaaRows
import Derived.Test.YtnhgekbimiffjaaLive8
import Derived.Test.YtnhgekbimiffjaaIgM
import Derived.Test.YtnhgekbimiffjaaSameM
import Derived.WalkKit
import Derived.ProofKit
import Derived.OpenShut
import Derived.ShutString
import Derived.ChangeOld
import Derived.Below
import Derived.Carry
import Derived.SizedLaws
import Derived.Lib.SmallJoins
import Derived.ChangeArms
import Derived.WideShapes
namespace Go.Proofs.Ytnhgekbimiffjaa.igmpDecodesLaw
open Go.ChangeShapes Go.WideShapes Go.ChangeAt Go.RowKit Go.Joins
open Go.ChangeMaps (open_string shut_string)
set_option linter.unusedVariables false

theorem go_short (s : ByteArray) (Z : Nat) : ∀ n a, (recsGo s Z n a).2.length ≤ n
  | 0, _ => Nat.le_refl _
  | n + 1, a => by
    unfold recsGo
    split
    · exact Nat.zero_le _
    · simp only
      split
      · exact Nat.zero_le _
      · have := go_short s Z n (a + (recOf s a Z).2.2)
        split
        · simp only [List.length_cons]; omega
        · simp only; omega
theorem rec_short (s : ByteArray) (a Z : Nat) : (recOf s a Z).2.1.srcs.length ≤ 60 := by
  unfold recOf
  split
  · exact Nat.zero_le _
  · simp only
    split
    · exact Nat.zero_le _
    · split
      · exact Nat.zero_le _
      · next h => simp only [addrsL_length]; omega
theorem go_srcs (s : ByteArray) (Z : Nat) : ∀ n a, ∀ r ∈ (recsGo s Z n a).2, r.srcs.length ≤ 60
  | 0, _, r, h => by simp [recsGo] at h
  | n + 1, a, r, h => by
    unfold recsGo at h
    split at h
    · simp at h
    · simp only at h
      split at h
      · simp at h
      · split at h
        · rcases List.mem_cons.1 h with rfl | h
          · exact rec_short s a Z
          · exact go_srcs s Z n _ r h
        · exact go_srcs s Z n _ r h
theorem recsI_short (s : ByteArray) (n Z : Int) : (recsI s n Z).2.length ≤ 30 ∧ ∀ r ∈ (recsI s n Z).2, r.srcs.length ≤ 60 := by
  unfold recsI
  split
  · exact ⟨Nat.zero_le _, fun r h => by simp at h⟩
  · split
    · exact ⟨Nat.zero_le _, fun r h => by simp at h⟩
    · exact ⟨Nat.le_trans (go_short _ _ _ _) (by omega), go_srcs _ _ _ _⟩
theorem dec_short (s : ByteArray) : (decM s).2.srcs.length ≤ 60 ∧ (decM s).2.recs.length ≤ 30 ∧ ∀ r ∈ (decM s).2.recs, r.srcs.length ≤ 60 := by
  have z : zeroM.srcs.length ≤ 60 ∧ zeroM.recs.length ≤ 30 ∧ ∀ r ∈ zeroM.recs, r.srcs.length ≤ 60 := ⟨Nat.zero_le _, Nat.zero_le _, fun r h => by simp [zeroM] at h⟩
  have one : ∀ k v, (oneI s k v).2.srcs.length ≤ 60 ∧ (oneI s k v).2.recs.length ≤ 30 ∧ ∀ r ∈ (oneI s k v).2.recs, r.srcs.length ≤ 60 := fun k v => by
    unfold oneI
    split
    · exact ⟨Nat.zero_le _, Nat.zero_le _, fun r h => by simp at h⟩
    · exact z
  unfold decM
  split
  · exact z
  · split
    · exact z
    · split
      · unfold queryI
        split
        · split
          · exact ⟨Nat.zero_le _, Nat.zero_le _, fun r h => by simp at h⟩
          · exact z
        · split
          · exact z
          · split
            · exact z
            · split
              · exact z
              · split
                · exact ⟨by simp only [addrsL_length]; omega, Nat.zero_le _, fun r h => by simp at h⟩
                · exact z
      · split
        · exact one _ _
        · split
          · exact one _ _
          · split
            · exact one _ _
            · split
              · unfold repI repJ
                split
                · exact z
                · exact ⟨Nat.zero_le _, (recsI_short _ _ _).1, (recsI_short _ _ _).2⟩
              · exact z

set_option maxHeartbeats 1000000 in
set_option maxRecDepth 100000 in
theorem walk (a0 : ByteArray) (w : World) (za0 : a0.size ≤ 140737488351232) :
    Calls Try.prog 3 #[.string a0] w fun e w' => e = .returned (.bool true) ∧ Below w.heap.size w w' := by
  have HL := Lib.hid fun U => live8_c U
  by_cases hs : a0.size ≤ 20000
  · have H1 := Lib.hid fun U => decode_c a0 U (by omega)
    have H2 := Lib.hid fun U => rdecode_c a0 U (by omega)
    obtain ⟨d1, d2, d3⟩ := dec_short a0
    unfold MsgPost at H1 H2
    generalize decM a0 = t at H1 H2 d1 d2 d3
    obtain ⟨E, m⟩ := t
    simp only at H1 H2 d1 d2 d3
    have HM := Lib.hid fun vs1 vr1 vs2 vr2 U h1 h2 h3 h4 => sameM_c m vs1 vr1 vs2 vr2 U (by omega) (by omega) (fun r hr => by have := d3 r hr; omega) h1 h2 h3 h4
    have hs' : (a0.size : Int) ≤ 20000 := by omega
    clear d1 d2 d3
    obtain ⟨k, ver, g, mx, qt, rob, ev, ss, rs⟩ := m
    simp only [Msg.val] at H1 H2 HM
    go_enter Try.func3, Try.ntmps3
    go_wp2_with fail
    ((with_reducible refine (H1.out _).mono ?_); rintro e w1 ⟨vs1, vr1, rfl, hvs1, hvr1, h1⟩)
    obtain ⟨p1, c1, rfl⟩ := hvs1.slice
    obtain ⟨p2, c2, rfl⟩ := hvr1.slice
    have S1 := Lib.hid hvs1.at
    have R1 := Lib.hid hvr1.at
    have D1 := Lib.hid h1
    clear hvs1 hvr1 h1
    go_wp2_with fail
    have B := Lib.hid (Box.start w1 #[.int .i64 k, .int .i64 ver, .string g, .int .i64 mx, .bool qt, .int .i64 rob, .int .i64 ev, .slice p1 ss.length c1, .slice p2 rs.length c2] 27)
    ((with_reducible refine (H2.out _).mono ?_); rintro e w2 ⟨vs2, vr2, rfl, hvs2, hvr2, h2⟩)
    obtain ⟨p3, c3, rfl⟩ := hvs2.slice
    obtain ⟨p4, c4, rfl⟩ := hvr2.slice
    have S2 := Lib.hid hvs2.at
    have R2 := Lib.hid hvr2.at
    replace B := Lib.hid (B.out.below h2)
    have D12 := Lib.hid B.out.2
    replace S1 := Lib.hid (S1.out.below D12.out)
    replace R1 := Lib.hid (R1.out.below D12.out)
    have hz := B.out.lt
    clear hvs2 hvr2 h2
    have x0 := B.out.cell 0 rfl
    have x1 := B.out.cell 1 rfl
    have x2 := B.out.cell 2 rfl
    have x3 := B.out.cell 3 rfl
    have x4 := B.out.cell 4 rfl
    have x5 := B.out.cell 5 rfl
    have x6 := B.out.cell 6 rfl
    have x7 := B.out.cell 7 rfl
    have x8 := B.out.cell 8 rfl
    go_wp2_with fail
    have A2 := (Below.refl w2.heap.size w2).alloc (Nat.le_refl _) (.cells #[.int .i64 k, .int .i64 ver, .string g, .int .i64 mx, .bool qt, .int .i64 rob, .int .i64 ev, .slice p3 ss.length c3, .slice p4 rs.length c4] 27)
    ((with_reducible refine (HM.out _ _ _ _ _ (S1.out.below A2) (R1.out.below A2) (S2.out.below A2) (R2.out.below A2)).mono ?_); rintro e w3 ⟨rfl, h3⟩)
    have D3 := Lib.hid (D12.out.trans ((A2.trans (h3.mono A2.size)).mono (Nat.le_of_lt hz)))
    clear h3 A2
    go_wp2_with fail
    ((with_reducible refine (HL.out _).mono ?_); rintro e w4 ⟨rfl, h4⟩)
    go_wp2_with fail
    go_ret
    exact ⟨rfl, (D1.out.trans (D3.out.mono D1.out.size)).trans (h4.mono (Nat.le_trans D1.out.size D3.out.size))⟩
  · have hs' : (20000 : Int) < (a0.size : Int) := by omega
    clear hs
    go_enter Try.func3, Try.ntmps3
    go_wp2_with fail
    ((with_reducible refine (HL.out _).mono ?_); rintro e w5 ⟨rfl, h5⟩)
    go_wp2_with fail
    go_ret
    exact ⟨rfl, h5⟩

theorem own : ownKnob Try.prog.godebug = none := by kernel_rfl
theorem laidOut : laidOutB Try.prog = true := by kernel_rfl

set_option maxRecDepth 100000 in
theorem lifted (os : Os) (started : os.Started) (H : Type) (enc : TypeId × Value → H) :
    ReturnsInHanded {} Try.checked os 3 .any (Rows.igmpDecodesSpec.pre6 enc Try.prog Try.f3 Rows.igmpDecodesRow.domain false) (Rows.igmpDecodesSpec.post enc Try.prog Try.f3 false true false false) := by
  refine returnsInHanded_of_change_sized (C := Try.checked) own started (by kernel_rfl) Try.func3
    (ChangeSpec.witness6 (enc := enc) (C := Try.checked) false ⟨#[], #[.string ByteArray.empty], []⟩ 8 (by kernel_rfl) (by kernel_rfl) (by kernel_rfl) (by kernel_rfl)) ?_
  intro W base args ds gs before hval0 hW hcnd hsz0 hholds
  have hval : ∀ (j : Nat) t v, Try.f3.params[j]? = some t → args[j]? = some v → Value.okWide Try.prog W .any base t v := hval0
  have hsz : (DataW.weightsEach Try.prog (Try.f3.params.toList ++ Rows.igmpDecodesSpec.plain.varTypes Try.prog) (ds ++ gs)).all (· ≤ reachBytes) = true := hsz0
  have hW' := hW
  obtain ⟨p, q, hA0, hV, rfl, hfz, hnd⟩ := hW
  have hA : DataW.TrodAll enc Try.prog W 0 (fun _ => true) true Try.f3.params.toList args.toList ds p := hA0
  rw [Try.params3] at hA hval hsz
  obtain ⟨v0, vs0, d0, ds0, p0, q0, hargs, rfl, rfl, h0, r0⟩ := trodAll_cons hA
  obtain ⟨rfl, rfl, rfl⟩ := trodAll_nil r0
  obtain rfl : args = #[v0] := by cases args; simp_all
  obtain ⟨rfl, rfl⟩ := trodVars_none hV
  have k0 := h0
  have lt0 : ∀ x ∈ p0, x.block < W.heap.size := by obtain ⟨m, hm⟩ := k0; exact DataW.trod_lt m _ _ _ hm
  obtain ⟨a0, rfl, rfl, rfl, w0⟩ := open_string Try.underlying9 (hval 0 9 v0 rfl rfl) h0
  have za0 : a0.size ≤ 140737488351232 := by
    have h := sized_string hsz (j := 0) (t := 9) rfl rfl
    simpa [reachBytes] using h
  clear hA0 hval0
  refine (walk a0 W za0).mono fun e W' ⟨he, bel⟩ => ?_
  subst he
  exact ⟨_, rfl, _, _, _, [], _, [], hW', trodAll_mk1 (shut_bool Try.underlying4 _), (trodAll_cons_mk (Below.trod laidOut (by kernel_rfl) (of_decide_eq_true (by kernel_rfl)) k0 bel lt0) trodAll_mk0), rfl, bel.frame _, fun h => by cases h⟩

theorem over : Rows.igmpDecodesRow.holds Try.pinned (OpenSpec.ofChange Rows.igmpDecodesSpec) :=
  OpenClaim.holds_of_wide 3 Try.f3 rfl rfl rfl rfl rfl rfl rfl ⟨rfl, rfl, rfl, rfl, rfl⟩ rfl rfl rfl rfl rfl (by kernel_rfl) Try.func3 (by kernel_rfl)
    (of_decide_eq_true (by kernel_rfl)) (by unfold Func.isWrapper; first | (rw [if_pos (by decide +kernel)]; kernel_rfl) | (rw [if_neg (by decide +kernel)]; exact ⟨rfl, rfl⟩))
    (fun os started H enc _ => lifted os started H enc)

/-- The statement. -/
theorem proved : Rows.IgmpDecodesSaid := over
#print axioms proved
end Go.Proofs.Ytnhgekbimiffjaa.igmpDecodesLaw
