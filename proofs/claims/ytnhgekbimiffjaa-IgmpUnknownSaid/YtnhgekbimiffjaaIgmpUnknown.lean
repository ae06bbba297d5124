/-
  'siphonlaw08.IgmpUnknown' returns true, whatever the input, and each argument reads behind the call as it read before. Conditions: none beyond those that the row itself states.
-/
import Derived.Test.YtnhgekbimiffjaaRows
import Derived.Test.YtnhgekbimiffjaaLive8
import Derived.Test.YtnhgekbimiffjaaSameM
import Derived.Test.YtnhgekbimiffjaaIgBt
import Derived.Test.YtnhgekbimiffjaaIgU
import Derived.Test.YtnhgekbimiffjaaIgD
import Derived.Test.YtnhgekbimiffjaaTrod
import Derived.WalkKit
import Derived.ProofKit
import Derived.OpenShut
import Derived.ShutString
import Derived.ChangeOld
import Derived.Below
import Derived.Carry
import Derived.SizedLaws
import Derived.Lib.SmallJoins
import Derived.ChangeArms
import Derived.WideShapes
namespace Go.Proofs.Ytnhgekbimiffjaa.igmpUnknownLaw
open Go.ChangeShapes Go.WideShapes Go.ChangeAt Go.RowKit Go.Joins
open Go.ChangeMaps (open_string shut_string)
set_option linter.unusedVariables false

theorem body_ok (L : List Rec) (h : (bodyI L 4).1 = 0) : bodyI L 4 = (0, ⟨(L.flatMap recL).toArray⟩) ∧ ∀ r ∈ L, recB r 4 = true := by
  unfold bodyI at h ⊢
  split at h
  · cases h
  · next h1 =>
    rw [if_neg h1]
    split at h
    · next h2 =>
      rw [if_pos h2]
      rw [List.all_eq_true] at h2
      exact ⟨rfl, h2⟩
    · cases h
theorem body_err (L : List Rec) (h : (bodyI L 4).1 ≠ 0) : (bodyI L 4).2 = ⟨#[]⟩ := by
  unfold bodyI at h ⊢
  split
  · rfl
  · next h1 =>
    rw [if_neg h1] at h
    split
    · next h2 => rw [if_pos h2] at h; exact absurd rfl h
    · rfl
theorem row_odd (K : Nat) (hK : K < 256) : #[Value.int .u8 (K : Int), .int .u8 1, .int .u8 0, .int .u8 1] = byteRow (bytesOf K 1 ++ bytesOf 1 1 ++ bytesOf 1 2) := by
  have e1 : bytesOf K 1 = [UInt8.ofNat K] := by simp [bytesOf]
  have e : (UInt8.ofNat K).toNat = K := by rw [UInt8.toNat_ofNat']; omega
  rw [e1, show bytesOf 1 1 = [1] from rfl, show bytesOf 1 2 = [0, 1] from rfl]
  simp [byteRow, e]
theorem few_at (ns : Nat) (L : List Rec) (h : fewB ns L = true) : ∀ r ∈ L, r.srcs.length ≤ 100 := by
  unfold fewB at h
  rw [Bool.and_eq_true, List.all_eq_true] at h
  exact fun r hr => of_decide_eq_true (h.2 r hr)

set_option maxHeartbeats 1000000 in
set_option maxRecDepth 100000 in
theorem walk (a0 : Value) (la0 : List Rec) (a1 : Int) (w : World) (ha0 : RecsAt w a0 la0) (qa0 : la0.length ≤ maxLen) (sa0 : ∀ r ∈ la0, r.srcs.length ≤ maxLen) (la1 : -9223372036854775808 ≤ a1) (ua1 : a1 ≤ 9223372036854775807) :
    Calls Try.prog 8 #[a0, .int .i64 a1] w fun e w' => e = .returned (.bool true) ∧ Below w.heap.size w w' := by
  unfold maxLen at qa0 sa0
  have HL := Lib.hid fun U => live8_c U
  have HF := Lib.hid fun U h => few_c 0 0 ⟨#[]⟩ 0 false 0 0 none 0 0 a0 la0 U qa0 h
  obtain ⟨p0, c0, rfl⟩ := ha0.slice
  have HA := Lib.hid ha0
  by_cases h14 : 14 < la0.length
  · have d1 : decide ((14 : Int) < (la0.length : Int)) = true := decide_eq_true (by omega)
    clear h14 ha0
    go_enter Try.func8, Try.ntmps8
    go_wp2_with fail
    ((with_reducible refine (HL.out _).mono ?_); rintro e w5 ⟨rfl, h5⟩)
    go_wp2_with fail
    go_ret
    exact ⟨rfl, h5⟩
  · have d1 : decide ((14 : Int) < (la0.length : Int)) = false := decide_eq_false (by omega)
    rcases hfb : fewB 0 la0 with _ | _
    · rw [hfb] at HF
      clear hfb h14
      go_enter Try.func8, Try.ntmps8
      go_wp2_with fail
      ((with_reducible refine (HF.out _ HA.out).mono ?_); rintro e w1 ⟨rfl, h1⟩)
      have D1 := Lib.hid h1
      go_wp2_with fail
      ((with_reducible refine (HL.out _).mono ?_); rintro e w5 ⟨rfl, h5⟩)
      go_wp2_with fail
      go_ret
      exact ⟨rfl, D1.out.trans (h5.mono D1.out.size)⟩
    · rw [hfb] at HF
      by_cases hk : (1 ≤ a1 ∧ a1 ≤ 6) ∨ a1 < 0 ∨ 255 < a1
      · have kt : (decide (1 ≤ a1) = true ∧ decide (a1 ≤ 6) = true) ∨ (decide (1 ≤ a1) = false ∧ decide (a1 < 0) = true) ∨ (decide (1 ≤ a1) = true ∧ decide (a1 ≤ 6) = false ∧ decide (a1 < 0) = false ∧ decide (255 < a1) = true) := by
          rcases hk with ⟨h1, h2⟩ | h1 | h1
          · exact .inl ⟨decide_eq_true h1, decide_eq_true h2⟩
          · exact .inr (.inl ⟨decide_eq_false (by omega), decide_eq_true h1⟩)
          · exact .inr (.inr ⟨decide_eq_true (by omega), decide_eq_false (by omega), decide_eq_false (by omega), decide_eq_true h1⟩)
        clear hfb h14 hk
        rcases kt with ⟨k1, k2⟩ | ⟨k1, k2⟩ | ⟨k1, k2, k3, k4⟩
        all_goals
          go_enter Try.func8, Try.ntmps8
          go_wp2_with fail
          ((with_reducible refine (HF.out _ HA.out).mono ?_); rintro e w1 ⟨rfl, h1⟩)
          have D1 := Lib.hid h1
          go_wp2_with fail
          ((with_reducible refine (HL.out _).mono ?_); rintro e w5 ⟨rfl, h5⟩)
          go_wp2_with fail
          go_ret
          exact ⟨rfl, D1.out.trans (h5.mono D1.out.size)⟩
      · obtain ⟨K, rfl⟩ := Int.eq_ofNat_of_zero_le (show 0 ≤ a1 by omega)
        have kt : (decide (1 ≤ (K : Int)) = false) ∨ (decide (1 ≤ (K : Int)) = true ∧ decide ((K : Int) ≤ 6) = false) := by
          by_cases h : 1 ≤ (K : Int)
          · exact .inr ⟨decide_eq_true h, decide_eq_false (by omega)⟩
          · exact .inl (decide_eq_false h)
        have k3 : decide ((K : Int) < 0) = false := decide_eq_false (by omega)
        have k4 : decide (255 < (K : Int)) = false := decide_eq_false (by omega)
        have hkb : kindB (K : Int) = false := decide_eq_false (by omega)
        have hK : K < 256 := by omega
        have H3 := Lib.hid fun U h => body_c (.slice p0 la0.length c0) la0 4 U qa0 sa0 h
        by_cases hbe : (bodyI la0 4).1 = 0
        · obtain ⟨hb1, hb2⟩ := body_ok la0 hbe
          rw [hb1] at H3
          unfold BodyPost at H3
          have hlen := recs_len 4 (by omega) la0 hb2
          have HRun := Lib.hid fun T h => unknown_run T la0 K h hK hkb hb2
          have HS := Lib.hid fun v1 v2 U h1 h2 => sameR_c v1 v2 la0 U qa0 sa0 h1 h2
          have hsz : (⟨(la0.flatMap recL).toArray⟩ : ByteArray).size ≤ 14000 := by rw [ByteArray.size_mk', List.size_toArray]; omega
          have hSd := Lib.hid (show (⟨(la0.flatMap recL).toArray⟩ : ByteArray).data.toList = la0.flatMap recL from rfl)
          generalize (⟨(la0.flatMap recL).toArray⟩ : ByteArray) = S at H3 hsz hSd
          simp only at H3
          obtain ⟨O4, hO4⟩ : ∃ O4 : ByteArray, O4 = ⟨(bytesOf K 1 ++ bytesOf 1 1 ++ bytesOf 1 2).toArray⟩ := ⟨_, rfl⟩
          have hcv : ∀ U : World, (convert 44 9 (.slice (some ⟨U.heap.size, 0, none⟩) 4 4)).run Try.prog (U.alloc (.cells #[.int .u8 (K : Int), .int .u8 1, .int .u8 0, .int .u8 1] 5)) = .ok (.string O4) (U.alloc (.cells #[.int .u8 (K : Int), .int .u8 1, .int .u8 0, .int .u8 1] 5)) := fun U => by
            rw [hO4]
            refine run_string_of_row (l := bytesOf K 1 ++ bytesOf 1 1 ++ bytesOf 1 2) (t := 5) (f := (0, 0)) 44 9 5 ?_ Try.underlying44 Try.underlying5 Try.underlying9 4 (by simp only [List.length_append, bytesOf_length])
            have e : #[Value.int .u8 (K : Int), .int .u8 1, .int .u8 0, .int .u8 1] = byteRow (bytesOf K 1 ++ bytesOf 1 1 ++ bytesOf 1 2) := row_odd K hK
            rw [← e]
            exact heap_new U _
          have hO4z : O4.size = 4 := by rw [hO4, ByteArray.size_mk', List.size_toArray]; simp only [List.length_append, bytesOf_length]
          obtain ⟨O, hO⟩ : ∃ O : ByteArray, O4 ++ ⟨#[224, 1, 2, 3]⟩ ++ ⟨#[97, 98, 99, 100]⟩ ++ ⟨#[119, 120, 121, 122]⟩ = O := ⟨_, rfl⟩
          have hOd : O.data.toList = oddL K := by rw [← hO, hO4]; unfold oddL; simp [ByteArray.data_append]
          have hOz : O.size = 16 := by rw [← vlen, hOd]; unfold oddL; simp only [List.length_append, bytesOf_length]; rfl
          obtain ⟨T, hT⟩ : ∃ T : ByteArray, O ++ S ++ O = T := ⟨_, rfl⟩
          have hTd : T.data.toList = oddL K ++ la0.flatMap recL ++ oddL K := by rw [← hT, ← hOd, ← hSd.out]; simp [ByteArray.data_append]
          have hTz : T.size ≤ 15000 := by rw [← hT, ByteArray.size_append, ByteArray.size_append]; omega
          have HI := Lib.hid (show recsI T ((la0.length : Int) + 2) 4 = (0, la0) by
            unfold recsI
            rw [if_neg (by omega), if_neg (by omega), show ((4 : Int)).toNat = 4 from rfl, show ((la0.length : Int) + 2).toNat = la0.length + 2 from by omega]
            exact HRun.out T hTd)
          have HR := Lib.hid fun U => recs_c T ((la0.length : Int) + 2) 4 U (by omega) (by omega)
          unfold RecsPost at HR
          rw [HI.out] at HR
          simp only at HR
          have hn14 : (la0.length : Int) ≤ 14 := by omega
          have hOz' : O.size ≤ 16 := by omega
          have hu8 : (K : Int) ≤ 255 := by omega
          have HD4 := Lib.hid hO4
          clear hbe hb1 hfb hk hkb hlen hb2 hO4 hOd hTd hOz hTz HI HRun
          rcases kt with k1 | ⟨k1, k2⟩
          all_goals
            go_enter Try.func8, Try.ntmps8
            go_wp2_with fail
            ((with_reducible refine (HF.out _ HA.out).mono ?_); rintro e w1 ⟨rfl, h1⟩)
            have D1 := Lib.hid h1
            have HA1 := HA.out.below h1
            clear h1
            go_wp2_with fail
            ((with_reducible refine (H3.out _ HA1).mono ?_); rintro e w2 ⟨rfl, h2⟩)
            replace D1 := Lib.hid (D1.out.trans (h2.mono D1.out.size))
            clear h2 HA1
            go_wp2_with fail
            ((with_reducible refine (HR.out _).mono ?_); rintro e w3 ⟨v3, rfl, hv3, h3⟩)
            obtain ⟨p3, c3, rfl⟩ := hv3.slice
            have D3 := Lib.hid (((Below.refl w2.heap.size w2).alloc (Nat.le_refl _) _).trans (h3.mono (by simp)))
            replace D1 := Lib.hid (D1.out.trans (D3.out.mono D1.out.size))
            have Q1 := HA.out.below D1.out
            have Q2 := hv3.at
            clear h3 hv3
            go_wp2_with fail
            ((with_reducible refine (HS.out _ _ _ Q1 Q2).mono ?_); rintro e w6 ⟨rfl, nn, rfl⟩)
            have D6 := Lib.hid (below_drewN D1.out nn)
            clear Q1 Q2
            go_wp2_with fail
            ((with_reducible refine (HL.out _).mono ?_); rintro e w7 ⟨rfl, h7⟩)
            go_wp2_with fail
            go_ret
            exact ⟨rfl, D6.out.trans (h7.mono D6.out.size)⟩
        · have hbs := body_err la0 hbe
          generalize bodyI la0 4 = t at *
          obtain ⟨E, S⟩ := t
          simp only at hbe hbs
          subst hbs
          obtain ⟨q1, q2⟩ := ne_t hbe
          unfold BodyPost at H3
          simp only at H3
          clear hbe hfb h14 hk hkb hK
          rcases kt with k1 | ⟨k1, k2⟩
          all_goals
            go_enter Try.func8, Try.ntmps8
            go_wp2_with fail
            ((with_reducible refine (HF.out _ HA.out).mono ?_); rintro e w1 ⟨rfl, h1⟩)
            have D1 := Lib.hid h1
            have HA1 := HA.out.below h1
            clear h1
            go_wp2_with fail
            ((with_reducible refine (H3.out _ HA1).mono ?_); rintro e w2 ⟨rfl, h2⟩)
            replace D1 := Lib.hid (D1.out.trans (h2.mono D1.out.size))
            clear h2 HA1
            go_wp2_with fail
            ((with_reducible refine (HL.out _).mono ?_); rintro e w5 ⟨rfl, h5⟩)
            go_wp2_with fail
            go_ret
            exact ⟨rfl, D1.out.trans (h5.mono D1.out.size)⟩

theorem own : ownKnob Try.prog.godebug = none := by kernel_rfl
theorem laidOut : laidOutB Try.prog = true := by kernel_rfl

set_option maxHeartbeats 1000000 in
set_option maxRecDepth 100000 in
theorem lifted (os : Os) (started : os.Started) (H : Type) (enc : TypeId × Value → H) :
    ReturnsInHanded {} Try.checked os 8 .any (Rows.igmpUnknownSpec.pre6 enc Try.prog Try.f8 Rows.igmpUnknownRow.domain false) (Rows.igmpUnknownSpec.post enc Try.prog Try.f8 false true false false) := by
  refine returnsInHanded_of_change_sized (C := Try.checked) own started (by kernel_rfl) Try.func8
    (ChangeSpec.witness6 (enc := enc) (C := Try.checked) false ⟨#[], #[.slice none 0 0, .int .i64 0], []⟩ 8 (by kernel_rfl) (by kernel_rfl) (by kernel_rfl) (by kernel_rfl)) ?_
  intro W base args ds gs before hval0 hW hcnd hsz0 hholds
  have hval : ∀ (j : Nat) t v, Try.f8.params[j]? = some t → args[j]? = some v → Value.okWide Try.prog W .any base t v := hval0
  have hsz : (DataW.weightsEach Try.prog (Try.f8.params.toList ++ Rows.igmpUnknownSpec.plain.varTypes Try.prog) (ds ++ gs)).all (· ≤ reachBytes) = true := hsz0
  have hW' := hW
  obtain ⟨p, q, hA0, hV, rfl, hfz, hnd⟩ := hW
  have hA : DataW.TrodAll enc Try.prog W 0 (fun _ => true) true Try.f8.params.toList args.toList ds p := hA0
  rw [Try.params8] at hA hval hsz
  obtain ⟨v0, vs0, d0, ds0, p0, q0, hargs, rfl, rfl, h0, r0⟩ := trodAll_cons hA
  obtain ⟨v1, vs1, d1, ds1, p1, q1, rfl, rfl, rfl, h1, r1⟩ := trodAll_cons r0
  obtain ⟨rfl, rfl, rfl⟩ := trodAll_nil r1
  obtain rfl : args = #[v0, v1] := by cases args; simp_all
  obtain ⟨rfl, rfl⟩ := trodVars_none hV
  have k0 := h0
  have lt0 : ∀ x ∈ p0, x.block < W.heap.size := by obtain ⟨m, hm⟩ := k0; exact DataW.trod_lt m _ _ _ hm
  have k1 := h1
  have lt1 : ∀ x ∈ p1, x.block < W.heap.size := by obtain ⟨m, hm⟩ := k1; exact DataW.trod_lt m _ _ _ hm
  obtain ⟨sa0, sl0, sc0, rfl⟩ := okWide_slice Try.underlying25 (hval 0 25 v0 rfl rfl)
  obtain ⟨fu0, hf0⟩ := h0
  obtain ⟨vv0, L0, e0, hh0, qq0, ss0⟩ := recs_open hf0
  simp [Value.cells] at e0
  subst e0
  obtain ⟨a1, rfl, rfl, rfl, w1⟩ := open_int Try.underlying3 (hval 1 3 v1 rfl rfl) h1
  have ba1 := bounds_i64 w1
  clear hA0 hval0
  refine (walk (.slice sa0 sl0 sc0) L0 a1 W hh0 qq0 ss0 ba1.1 ba1.2).mono fun e W' ⟨he, bel⟩ => ?_
  subst he
  exact ⟨_, rfl, _, _, _, [], _, [], hW', trodAll_mk1 (shut_bool Try.underlying4 _), (trodAll_cons_mk (Below.trod laidOut (by kernel_rfl) (of_decide_eq_true (by kernel_rfl)) k0 bel lt0) (trodAll_cons_mk (Below.trod laidOut (by kernel_rfl) (of_decide_eq_true (by kernel_rfl)) k1 bel lt1) trodAll_mk0)), rfl, bel.frame _, fun h => by cases h⟩

theorem over : Rows.igmpUnknownRow.holds Try.pinned (OpenSpec.ofChange Rows.igmpUnknownSpec) :=
  OpenClaim.holds_of_wide 8 Try.f8 rfl rfl rfl rfl rfl rfl rfl ⟨rfl, rfl, rfl, rfl, rfl⟩ rfl rfl rfl rfl rfl (by kernel_rfl) Try.func8 (by kernel_rfl)
    (of_decide_eq_true (by kernel_rfl)) (by unfold Func.isWrapper; first | (rw [if_pos (by decide +kernel)]; kernel_rfl) | (rw [if_neg (by decide +kernel)]; exact ⟨rfl, rfl⟩))
    (fun os started H enc _ => lifted os started H enc)

/-- The statement. -/
theorem proved : Rows.IgmpUnknownSaid := over
#print axioms proved
end Go.Proofs.Ytnhgekbimiffjaa.igmpUnknownLaw
