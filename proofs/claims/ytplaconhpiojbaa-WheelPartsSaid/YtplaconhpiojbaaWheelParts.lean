/-
  'siphonlaw10.WheelParts' returns true, whatever the input, and each argument reads behind the call as it read before. Conditions: none beyond those that the row itself states.
-/
import Derived.Test.YtplaconhpiojbaaRows
import Derived.Test.YtplaconhpiojbaaWhQ
import Derived.Test.YtplaconhpiojbaaTrodJ
import Derived.WalkKit
import Derived.ProofKit
import Derived.OpenShut
import Derived.ShutString
import Derived.ChangeOld
import Derived.Below
import Derived.Carry
import Derived.SizedLaws
import Derived.Lib.SmallJoins
import Derived.ChangeArms
import Derived.WideShapes
namespace Go.Proofs.Ytplaconhpiojbaa.wheelPartsLaw
open Go.ChangeShapes Go.WideShapes Go.ChangeAt Go.RowKit Go.Joins
open Go.ChangeMaps (open_string shut_string)
set_option linter.unusedVariables false

set_option maxHeartbeats 8000000 in
set_option maxRecDepth 100000 in
theorem walk (a0 : Value) (la0 : List Int) (a1 : Int) (a2 : Int) (w : World) (ha0 : IntsAt w a0 la0) (qa0 : la0.length ≤ maxLen) (sa0 : I64 la0) (la1 : -9223372036854775808 ≤ a1) (ua1 : a1 ≤ 9223372036854775807) (la2 : -9223372036854775808 ≤ a2) (ua2 : a2 ≤ 9223372036854775807) :
    Calls Try.prog 6 #[a0, .int .i64 a1, .int .i64 a2] w fun e w' => e = .returned (.bool true) ∧ Below w.heap.size w w' := by
  have HL := fun U => Lib.hid (live10_c U)
  by_cases hn : la0.length ≤ 60
  · by_cases hn1 : a1 ≤ a2
    · obtain ⟨pz, cp, b, off, rfl, hpp, hc⟩ := ha0
      have HP := Lib.hid hpp
      have HC := Lib.hid hc
      have H0 := fun U => Lib.hid (newI_ok 60 (by decide) (by decide) U)
      have qn : (la0.length : Int) ≤ 60 := by omega
      have qo := Lib.hid hn1
      have k0 : decide (a2 < a1) = false := decide_eq_false (by omega)
      clear hpp hc qa0 sa0 hn1
      go_enter Try.func6, Try.ntmps6
      go_upto_region 4 with (go_at_call 18; refine (H0 _).out.mono ?_; rintro e w1 ⟨rfl, h1, b1⟩)
      have I1 := Lib.hid (And.intro h1 b1)
      clear h1 b1
      go_upto_region 5 with (go_at_call 18; refine (H0 _).out.mono ?_; rintro e w2 ⟨rfl, h2, b2⟩)
      have J := Lib.hid (pair_start I1.out.1 I1.out.2 h2 b2)
      clear h2 b2 H0 I1 k0
      go_wp2_with fail
      go_loopw [11] (fun s11 wr => ∃ (k : Nat), k ≤ la0.length ∧ s11 = .int .i64 k ∧ Hid (Pair w wr (w.heap.size + 1) w.heap.size (stL la0 k).length (stL la0 k) (w1.heap.size + 1) w1.heap.size (stL la0 k).length (stL la0 k)))
        (fun s11 _ => la0.length - (intOf s11).toNat)
      case atStart => exact ⟨0, Nat.zero_le _, rfl, J⟩
      case round =>
        obtain ⟨k, hk, rfl, hJ⟩ := hrel
        by_cases hlt : k < la0.length
        · have hne : la0 ≠ [] := by rintro rfl; simp at hlt
          obtain rfl := HP.out hne
          have hs : la0[k]? = some la0[k] := List.getElem?_eq_getElem hlt
          have hlt' : (k : Int) < (la0.length : Int) := by omega
          obtain ⟨a, haa⟩ : ∃ a, a = la0[k] := ⟨_, rfl⟩
          rw [← haa] at hs
          have HS := Lib.hid hs
          have x0 := icell_below hJ.out.hb (HC.out k _ hs)
          have AR := Lib.hid (armI_all hJ.out.hv (by omega) hs)
          clear hne hs haa
          go_upto_region 11 with (go_at_call 19; refine AR.out.mono ?_; rintro e w3 ⟨n3, rfl, h3, t3⟩)
          have J3 := Lib.hid (hJ.out.left h3 t3 (Or.inl rfl))
          clear h3 t3 AR x0 hJ
          have x1 := icell_below J3.out.hb (HC.out k _ HS.out)
          have AR := Lib.hid (armI_all J3.out.hw (by omega) HS.out)
          go_wp2_with (go_at_call 19; refine AR.out.mono ?_; rintro e w4 ⟨n4, rfl, h4, t4⟩)
          have J4 := Lib.hid (J3.out.right h4 t4 (Or.inl rfl))
          clear h4 t4 AR x1 J3
          go_wp2_with fail
          go_roundw
          case rel => exact ⟨k + 1, by omega, by go_num, J4⟩
          case measure => simp [intOf]; omega
        · obtain rfl : k = la0.length := by omega
          have hlen := stL_len la0 la0.length
          have hgd := Lib.hid (good_stL la0 la0.length)
          have qL := Lib.hid (show (stL la0 la0.length).length ≤ 60 by omega)
          clear hlen J hlt
          generalize (stL la0 la0.length) = L at hJ hgd qL
          have D1 := Lib.hid (dueI_law hJ.out.hv a1 qL.out hgd.out)
          go_upto_region 13 with (go_at_call 20; refine D1.out.mono ?_; rintro e w3 ⟨va, Da, m3, rfl, pa, sa, ia, ga, h3, t3, e3⟩)
          have J3 := Lib.hid (hJ.out.left h3.out t3.out e3.out)
          have G3 := Lib.hid (show ∀ g, va.ownBlock = some g → g ≠ w.heap.size + 1 ∧ g ≠ w1.heap.size + 1 from fun g hg => by have := ga.out g hg; have := hJ.out.hv.lt; have := hJ.out.hw.lt; omega)
          clear h3 t3 e3 ga D1 hJ
          have D2 := Lib.hid (dueI_law J3.out.hv a2 (by have := lat_le a1 L; have := qL.out; omega) (hgd.out.sub (M := latL a1 L) (fun x hx => (List.mem_filter.1 hx).1)))
          go_upto_region 14 with (go_at_call 20; refine D2.out.mono ?_; rintro e w4 ⟨vb, Db, m4, rfl, pb, sb, ib, gb, h4, t4, e4⟩)
          have J4 := Lib.hid (J3.out.left h4.out t4.out e4.out)
          have IA4 := Lib.hid (ints_tw ia.out J3.out.hv (fun g hg => (G3.out g hg).1) t4.out)
          have G4 := Lib.hid (show ∀ g, vb.ownBlock = some g → g ≠ w1.heap.size + 1 from fun g hg => by have := gb.out g hg; have := J3.out.hw.lt; omega)
          clear h4 t4 e4 gb D2 J3 ia
          have D3 := Lib.hid (dueI_law J4.out.hw a2 qL.out hgd.out)
          go_upto_region 15 with (go_at_call 20; refine D3.out.mono ?_; rintro e w5 ⟨vc, Dc, m5, rfl, pc, sc, ic, gc, h5, t5, e5⟩)
          have J5 := Lib.hid (J4.out.right h5.out t5.out e5.out)
          have IA5 := Lib.hid (ints_tw IA4.out J4.out.hw (fun g hg => (G3.out g hg).2) t5.out)
          have IB5 := Lib.hid (ints_tw ib.out J4.out.hw G4.out t5.out)
          have EQ := parts_eq qo.out hgd.out pa.out sa.out pb.out sb.out pc.out sc.out
          subst EQ
          have lens := Lib.hid (show Da.length ≤ 60 ∧ Db.length ≤ 60 from ⟨by rw [← pa.out.length_eq]; have : (dueL a1 L).length ≤ L.length := List.length_filter_le _ _; have := qL.out; omega, by rw [← pb.out.length_eq]; have : (dueL a2 (latL a1 L)).length ≤ (latL a1 L).length := List.length_filter_le _ _; have := lat_le a1 L; have := qL.out; omega⟩)
          have LV := Lib.hid (lenI_c J5.out.hv)
          have LW := Lib.hid (lenI_c J5.out.hw)
          have hll : (latL a2 (latL a1 L)).length = (latL a2 L).length := by rw [lat_lat qo.out]
          rw [hll] at LV
          have BL := Lib.hid J5.out.hb
          clear h5 t5 e5 gc D3 J4 IA4 ib pa sa pb sb pc sc G3 G4 J5 hgd qL hll
          rw [List.map_append] at ic
          generalize (latL a2 L).length = nl at LV LW
          obtain ⟨A, hA⟩ : ∃ A, A = Da.map kNum := ⟨_, rfl⟩
          obtain ⟨B, hB⟩ : ∃ B, B = Db.map kNum := ⟨_, rfl⟩
          have lA : Hid (A.length ≤ 60) := Lib.hid (by rw [hA, List.length_map]; exact lens.out.1)
          have lB : Hid (B.length ≤ 60) := Lib.hid (by rw [hB, List.length_map]; exact lens.out.2)
          rw [← hA] at ic IA5
          rw [← hB] at ic IB5
          clear hA hB lens
          obtain ⟨oa, ca, ba, fa, rfl, pa, xa⟩ := IA5.out
          obtain ⟨ob, cb, bb, fb, rfl, pb, xb⟩ := IB5.out
          obtain ⟨oc, cc, bc, fc, rfl, pc, xc⟩ := ic.out
          have XA := Lib.hid (And.intro pa xa)
          have XB := Lib.hid (And.intro pb xb)
          have XC := Lib.hid (And.intro pc xc)
          clear pa xa pb xb pc xc IA5 IB5 ic
          rw [List.length_append]
          obtain ⟨na, hna⟩ : ∃ n, Hid (A.length = n) := ⟨_, Lib.hid rfl⟩
          obtain ⟨nb, hnb⟩ : ∃ n, Hid (B.length = n) := ⟨_, Lib.hid rfl⟩
          rw [hna.out] at lA ⊢
          rw [hnb.out] at lB ⊢
          have qa : (na : Int) ≤ 60 := by have := lA.out; omega
          have qb : (nb : Int) ≤ 60 := by have := lB.out; omega
          have ka : (((na : Int) + (nb : Int)) != ((na : Int) + (nb : Int))) = false := by simp
          have C0 := HC
          clear HC HP
          have tok : True := trivial
          go_upto_region 17 with (first | (go_at_call 21; have _t := tok; refine LV.out.mono ?_; rintro e w9 ⟨rfl, rfl⟩; clear tok) | (go_at_call 21; refine LW.out.mono ?_; rintro e w9 ⟨rfl, rfl⟩))
          clear LV LW C0 ka
          go_wp2_with fail
          go_loopw [15] (fun s15 wr => ∃ k n : Nat, k ≤ na + nb ∧ s15 = .int .i64 k ∧ wr = w9.drewN n) (fun s15 _ => na + nb - (intOf s15).toNat)
          case atStart => exact ⟨0, 0, Nat.zero_le _, rfl, rfl⟩
          case round =>
            obtain ⟨k, n, hk, rfl, rfl⟩ := hrel
            by_cases hlt : k < na + nb
            · by_cases hka : k < na
              · have e1 : A[k]? = some (A.getD k 0) := by rw [List.getD_eq_getElem?_getD, List.getElem?_eq_getElem (by rw [hna.out]; exact hka)]; rfl
                have e2 : (A ++ B)[k]? = some (A.getD k 0) := by rw [List.getElem?_append_left (by rw [hna.out]; exact hka)]; exact e1
                obtain rfl := XA.out.1 (by rintro rfl; simp at e1)
                obtain rfl := XC.out.1 (by rintro h; rw [h] at e2; simp at e2)
                have y1 := XA.out.2 k _ e1
                have y2 := XC.out.2 k _ e2
                generalize A.getD k 0 = x at y1 y2
                have hlt' : (k : Int) < (na : Int) := by omega
                have hlt2 : (k : Int) < (na : Int) + (nb : Int) := by omega
                have hge : decide ((na : Int) ≤ (k : Int)) = false := decide_eq_false (by omega)
                have hgN : decide (na ≤ k) = false := decide_eq_false (by omega)
                clear e1 e2
                go_wp2_with fail
                go_quiet (fail)
                go_wp2_with fail
                go_quiet (fail)
                go_wp2_with fail
                go_roundw
                case rel => exact ⟨k + 1, _, by omega, by go_num, rfl⟩
                case measure => simp [intOf]; omega
              · obtain ⟨j, rfl⟩ : ∃ j, k = na + j := ⟨k - na, by omega⟩
                have hj : j < nb := by omega
                have e1 : B[j]? = some (B.getD j 0) := by rw [List.getD_eq_getElem?_getD, List.getElem?_eq_getElem (by rw [hnb.out]; exact hj)]; rfl
                have e2 : (A ++ B)[na + j]? = some (B.getD j 0) := by rw [List.getElem?_append_right (by rw [hna.out]; omega), hna.out, Nat.add_sub_cancel_left]; exact e1
                obtain rfl := XB.out.1 (by rintro rfl; simp at e1)
                obtain rfl := XC.out.1 (by rintro h; rw [h] at e2; simp at e2)
                have y1 := XB.out.2 j _ e1
                have y2 := XC.out.2 (na + j) _ e2
                generalize B.getD j 0 = x at y1 y2
                have hlt' : decide (((na + j : Nat) : Int) < (na : Int)) = false := decide_eq_false (by omega)
                have hge : decide ((na : Int) ≤ ((na + j : Nat) : Int)) = true := decide_eq_true (by omega)
                have hlt2 : (j : Int) < (nb : Int) := by omega
                have hlt3 : (na : Int) + (j : Int) < (na : Int) + (nb : Int) := by omega
                have hgN : decide (na ≤ na + j) = true := decide_eq_true (by omega)
                have hgM : decide (na + j < na) = false := decide_eq_false (by omega)
                have hlt'' : decide ((na : Int) + (j : Int) < (na : Int)) = false := decide_eq_false (by omega)
                have hge'' : decide ((na : Int) ≤ (na : Int) + (j : Int)) = true := decide_eq_true (by omega)
                have hsub : (na : Int) + (j : Int) - (na : Int) = (j : Int) := by omega
                clear e1 e2
                go_wp2_with fail
                go_quiet (fail)
                go_wp2_with fail
                go_quiet (fail)
                go_wp2_with fail
                go_roundw
                case rel => exact ⟨na + j + 1, _, by omega, by go_num, rfl⟩
                case measure => simp [intOf]; omega
            · obtain rfl : k = na + nb := by omega
              go_wp2_with (go_at_call 10; refine (HL _).out.mono ?_; rintro e w10 ⟨rfl, h10⟩)
              go_ret
              exact ⟨rfl, (below_drewN BL.out n).trans (h10.mono (by have := BL.out.size; simpa [World.drewN] using this))⟩
    · have k0 : decide ((60 : Int) < (la0.length : Int)) = false := by simp; omega
      have k1 : decide (a2 < a1) = true := by simp; omega
      obtain ⟨pz, cp, rfl⟩ := ha0.slice
      unfold maxLen at qa0
      clear ha0 sa0
      go_enter Try.func6, Try.ntmps6
      go_wp2_with (go_at_call 10; refine (HL _).out.mono ?_; rintro e w1 ⟨rfl, h1⟩)
      go_ret
      exact ⟨rfl, h1⟩
  · have k2 : decide ((60 : Int) < (la0.length : Int)) = true := by simp; omega
    obtain ⟨pz, cp, rfl⟩ := ha0.slice
    unfold maxLen at qa0
    clear ha0 sa0
    go_enter Try.func6, Try.ntmps6
    go_wp2_with (go_at_call 10; refine (HL _).out.mono ?_; rintro e w1 ⟨rfl, h1⟩)
    go_ret
    exact ⟨rfl, h1⟩

theorem own : ownKnob Try.prog.godebug = none := by kernel_rfl
theorem laidOut : laidOutB Try.prog = true := by kernel_rfl

set_option maxHeartbeats 1000000 in
set_option maxRecDepth 100000 in
theorem lifted (os : Os) (started : os.Started) (H : Type) (enc : TypeId × Value → H) :
    ReturnsInHanded {} Try.checked os 6 .any (Rows.wheelPartsSpec.pre6 enc Try.prog Try.f6 Rows.wheelPartsRow.domain false) (Rows.wheelPartsSpec.post enc Try.prog Try.f6 false true false false) := by
  refine returnsInHanded_of_change_sized (C := Try.checked) own started (by kernel_rfl) Try.func6
    (ChangeSpec.witness6 (enc := enc) (C := Try.checked) false ⟨#[], #[.slice none 0 0, .int .i64 0, .int .i64 0], []⟩ 8 (by kernel_rfl) (by kernel_rfl) (by kernel_rfl) (by kernel_rfl)) ?_
  intro W base args ds gs before hval0 hW hcnd hsz0 hholds
  have hval : ∀ (j : Nat) t v, Try.f6.params[j]? = some t → args[j]? = some v → Value.okWide Try.prog W .any base t v := hval0
  have hsz : (DataW.weightsEach Try.prog (Try.f6.params.toList ++ Rows.wheelPartsSpec.plain.varTypes Try.prog) (ds ++ gs)).all (· ≤ reachBytes) = true := hsz0
  have hW' := hW
  obtain ⟨p, q, hA0, hV, rfl, hfz, hnd⟩ := hW
  have hA : DataW.TrodAll enc Try.prog W 0 (fun _ => true) true Try.f6.params.toList args.toList ds p := hA0
  rw [Try.params6] at hA hval hsz
  obtain ⟨v0, vs0, d0, ds0, p0, q0, hargs, rfl, rfl, h0, r0⟩ := trodAll_cons hA
  obtain ⟨v1, vs1, d1, ds1, p1, q1, rfl, rfl, rfl, h1, r1⟩ := trodAll_cons r0
  obtain ⟨v2, vs2, d2, ds2, p2, q2, rfl, rfl, rfl, h2, r2⟩ := trodAll_cons r1
  obtain ⟨rfl, rfl, rfl⟩ := trodAll_nil r2
  obtain rfl : args = #[v0, v1, v2] := by cases args; simp_all
  obtain ⟨rfl, rfl⟩ := trodVars_none hV
  have k0 := h0
  have lt0 : ∀ x ∈ p0, x.block < W.heap.size := by obtain ⟨m, hm⟩ := k0; exact DataW.trod_lt m _ _ _ hm
  have k1 := h1
  have lt1 : ∀ x ∈ p1, x.block < W.heap.size := by obtain ⟨m, hm⟩ := k1; exact DataW.trod_lt m _ _ _ hm
  have k2 := h2
  have lt2 : ∀ x ∈ p2, x.block < W.heap.size := by obtain ⟨m, hm⟩ := k2; exact DataW.trod_lt m _ _ _ hm
  obtain ⟨sa0, sl0, sc0, rfl⟩ := okWide_slice Try.underlying45 (hval 0 45 v0 rfl rfl)
  obtain ⟨fu0, hf0⟩ := h0
  obtain ⟨vv0, L0, e0, hh0, qq0, ss0⟩ := ints_open hf0
  simp [Value.cells] at e0
  subst e0
  obtain ⟨a1, rfl, rfl, rfl, w1⟩ := open_int Try.underlying3 (hval 1 3 v1 rfl rfl) h1
  obtain ⟨a2, rfl, rfl, rfl, w2⟩ := open_int Try.underlying3 (hval 2 3 v2 rfl rfl) h2
  have ba1 := bounds_i64 w1
  have ba2 := bounds_i64 w2
  clear hA0 hval0
  refine (walk (.slice sa0 sl0 sc0) L0 a1 a2 W hh0 qq0 ss0 ba1.1 ba1.2 ba2.1 ba2.2).mono fun e W' ⟨he, bel⟩ => ?_
  subst he
  exact ⟨_, rfl, _, _, _, [], _, [], hW', trodAll_mk1 (shut_bool Try.underlying4 _), (trodAll_cons_mk (Below.trod laidOut (by kernel_rfl) (of_decide_eq_true (by kernel_rfl)) k0 bel lt0) (trodAll_cons_mk (Below.trod laidOut (by kernel_rfl) (of_decide_eq_true (by kernel_rfl)) k1 bel lt1) (trodAll_cons_mk (Below.trod laidOut (by kernel_rfl) (of_decide_eq_true (by kernel_rfl)) k2 bel lt2) trodAll_mk0))), rfl, bel.frame _, fun h => by cases h⟩

theorem over : Rows.wheelPartsRow.holds Try.pinned (OpenSpec.ofChange Rows.wheelPartsSpec) :=
  OpenClaim.holds_of_wide 6 Try.f6 rfl rfl rfl rfl rfl rfl rfl ⟨rfl, rfl, rfl, rfl, rfl⟩ rfl rfl rfl rfl rfl (by kernel_rfl) Try.func6 (by kernel_rfl)
    (of_decide_eq_true (by kernel_rfl)) (by unfold Func.isWrapper; first | (rw [if_pos (by decide +kernel)]; kernel_rfl) | (rw [if_neg (by decide +kernel)]; exact ⟨rfl, rfl⟩))
    (fun os started H enc _ => lifted os started H enc)

/-- The statement. -/
theorem proved : Rows.WheelPartsSaid := over
#print axioms proved
end Go.Proofs.Ytplaconhpiojbaa.wheelPartsLaw
