/-
  'siphonlaw13.FdbFinds' returns true, whatever the input, and each argument reads behind the call as it read before. Conditions: none beyond those that the row itself states.
-/
import Derived.Test.YtodddahjibccoaaRows
import Derived.Test.YtodddahjibccoaaFdJ
import Derived.Test.YtodddahjibccoaaRowOpF
import Derived.WalkKit
import Derived.ProofKit
import Derived.OpenShut
import Derived.ShutString
import Derived.ChangeOld
import Derived.Below
import Derived.Carry
import Derived.SizedLaws
import Derived.Lib.SmallJoins
import Derived.ChangeArms
import Derived.WideShapes
namespace Go.Proofs.Ytodddahjibccoaa.fdbFindsLaw
open Go.ChangeShapes Go.WideShapes Go.ChangeAt Go.RowKit Go.Joins
open Go.ChangeMaps (open_string shut_string)
set_option linter.unusedVariables false

theorem at_set {R : List E4} {v : Int} {m : ByteArray} {q : Int × Int} : hasF R v m = true → hasF (setF R v m q) v m = true ∧ atF (setF R v m q) v m = q := by
  unfold setF
  induction R with
  | nil => intro h; simp [hasF] at h
  | cons x r ih =>
    intro h
    by_cases hx : sameE x v m = true
    · have e : sameE (v, m, q) v m = true := by simp [sameE]
      constructor
      · unfold hasF; rw [List.map_cons, if_pos hx, List.any_cons, e]; rfl
      · unfold atF; rw [List.map_cons, if_pos hx, List.find?_cons, e]; rfl
    · have hx' : sameE x v m = false := by simpa using hx
      have h1 : hasF r v m = true := by
        unfold hasF at h ⊢
        rw [List.any_cons, hx', Bool.false_or] at h
        exact h
      obtain ⟨i1, i2⟩ := ih h1
      constructor
      · unfold hasF at i1 ⊢; rw [List.map_cons, if_neg hx, List.any_cons, i1, Bool.or_true]
      · unfold atF at i2 ⊢; rw [List.map_cons, if_neg hx, List.find?_cons, hx']; exact i2
theorem at_ins {R : List E4} {v : Int} {m : ByteArray} {q : Int × Int} : hasF (insF R v m q) v m = true ∧ atF (insF R v m q) v m = q := by
  have e : sameE (v, m, q) v m = true := by simp [sameE]
  constructor
  · unfold hasF insF
    rw [List.any_append, List.any_cons, e]
    simp
  · unfold atF insF
    rw [List.find?_append, List.find?_eq_none.2]
    · rw [List.find?_cons, e]; rfl
    · intro x hx
      obtain ⟨_, h2⟩ := List.mem_filter.1 hx
      have h3 := ltS_ne h2
      simpa [sameE] using h3
theorem at_lrn {room : Int} {R : List E4} {v : Int} {m : ByteArray} {p now : Int} (h : (mayL v m p && timeB now) = true) : hasF (lrnF room R v m p now) v m = true ∧ atF (lrnF room R v m p now) v m = (p, now) := by
  unfold lrnF
  rw [if_pos h]
  split
  · next h2 => exact at_set h2
  · exact at_ins
theorem look_at {R : List E4} {v : Int} {m : ByteArray} {p now age t : Int} (h : hasF R v m = true ∧ atF R v m = (p, now)) : lookF R age v m t = if timeB t && !decide (now + age ≤ t) then (p, true) else (0, false) := by
  unfold lookF oldB
  rw [h.1, h.2]
  simp
theorem lrn_pos {room : Int} {R : List E4} {v : Int} {m : ByteArray} {p now : Int} (h : hasF (lrnF room R v m p now) v m = true) : 1 ≤ (lrnF room R v m p now).length := by
  rcases hl : lrnF room R v m p now with _ | ⟨x, r⟩
  · rw [hl] at h; simp [hasF] at h
  · simp

set_option maxHeartbeats 16000000 in
set_option maxRecDepth 100000 in
theorem walk (a0 : Int) (a1 : Int) (a2 : Value) (la2 : List OpF) (w : World) (la0 : -9223372036854775808 ≤ a0) (ua0 : a0 ≤ 9223372036854775807) (la1 : -9223372036854775808 ≤ a1) (ua1 : a1 ≤ 9223372036854775807) (ha2 : RowsAt 5 cellsOpF w a2 la2) (qa2 : la2.length ≤ maxLen) (sa2 : ∀ r ∈ la2, GoodOpF r) :
    Calls Try.prog 5 #[.int .i64 a0, .int .i64 a1, a2] w fun e w' => e = .returned (.bool true) ∧ Below w.heap.size w w' := by
  have HL := Lib.hid fun U => live13_c U
  unfold maxLen at qa2
  obtain ⟨p, cap, bb, off, rfl, hp, hc⟩ := ha2
  have HP := Lib.hid hp
  have HC := Lib.hid hc
  clear hp hc
  by_cases hbad : a0 < 1 ∨ 1024 < a0 ∨ a1 < 1 ∨ 1000000 < a1
  · clear HP HC sa2
    have N0 := Lib.hid fun U => new_no a0 a1 hbad U
    clear hbad
    go_enter Try.func5, Try.ntmps5
    go_wp2_with fail
    ((with_reducible refine (N0.out _).mono ?_); rintro e w1 ⟨rfl, rfl⟩)
    go_wp2_with fail
    ((with_reducible refine (HL.out _).mono ?_); rintro e wz ⟨rfl, hz⟩)
    go_wp2_with fail
    go_ret
    exact ⟨by simp, hz⟩
  · have b0 : 1 ≤ a0 ∧ a0 ≤ 1024 ∧ 1 ≤ a1 ∧ a1 ≤ 1000000 := by omega
    obtain ⟨b1, b2, b3, b4⟩ := b0
    have N1 := Lib.hid (new_s (w0 := w) (W := w) (room := a0) (age := a1) b1 b2 b3 b4 (Below.refl _ _))
    clear hbad
    go_enter Try.func5, Try.ntmps5
    go_wp2_with fail
    ((with_reducible refine N1.out.mono ?_); rintro e w1 ⟨rfl, s1⟩)
    have S1 := Lib.hid s1
    clear s1 N1
    generalize w.heap.size + 1 = tp at S1 ⊢
    generalize w.heap.size = mb at S1 ⊢
    go_wp2_with fail
    go_loopw [9, 10, 11, 12, 13, 14, 15, 16, 17] (fun i _ _ _ _ _ _ _ _ wr => ∃ (k : Nat) (R : List E4), k ≤ la2.length ∧ k ≤ 60 ∧ i = .int .i64 k ∧ Hid (FSt w wr tp mb a0 a1 R)) (fun i _ _ _ _ _ _ _ _ _ => 60 - (intOf i).toNat)
    case atStart => exact ⟨0, [], Nat.zero_le _, Nat.zero_le _, rfl, S1⟩
    case round =>
      obtain ⟨k, R, hk, hk6, rfl, ST⟩ := hrel
      by_cases hlt : k < la2.length
      · by_cases h60 : k < 60
        · have hne' : la2 ≠ [] := by rintro rfl; simp at hlt
          obtain rfl := HP.out hne'
          have x0 : wr.cell? ⟨bb, off + k * 5, none⟩ = some _ := gcell_below ST.out.bel (HC.out k _ (List.getElem?_eq_getElem hlt) 0 _ rfl)
          have x1 : wr.cell? ⟨bb, off + k * 5 + 1, none⟩ = some _ := gcell_below ST.out.bel (HC.out k _ (List.getElem?_eq_getElem hlt) 1 _ rfl)
          have x2 : wr.cell? ⟨bb, off + k * 5 + 2, none⟩ = some _ := gcell_below ST.out.bel (HC.out k _ (List.getElem?_eq_getElem hlt) 2 _ rfl)
          have x3 : wr.cell? ⟨bb, off + k * 5 + 3, none⟩ = some _ := gcell_below ST.out.bel (HC.out k _ (List.getElem?_eq_getElem hlt) 3 _ rfl)
          have x4 : wr.cell? ⟨bb, off + k * 5 + 4, none⟩ = some _ := gcell_below ST.out.bel (HC.out k _ (List.getElem?_eq_getElem hlt) 4 _ rfl)
          have hgd := sa2 _ (List.getElem_mem hlt)
          generalize la2[k] = hd at x0 x1 x2 x3 x4 hgd
          obtain ⟨od, ov, om, oq, on⟩ := hd
          simp only at x0 x1 x2 x3 x4
          obtain ⟨-, hgv, hgm, -, hgn⟩ := hgd
          simp only at hgv hgm hgn
          have hwf : WfK ov om := ⟨by simp [Lit.wf, IntKind.min, IntKind.max, IntKind.bits, IntKind.signed]; omega, hgm⟩
          have hlt' : (k : Int) < (la2.length : Int) := by omega
          have hlt6 : (k : Int) < 60 := by omega
          clear hne'
          go_upto_region 10 with fail
          replace ST := Lib.hid (ST.out.below ((Below.refl wr.heap.size wr).alloc (Nat.le_refl _) (.cells #[.int .i64 od, .int .i64 ov, .string om, .int .i64 oq, .int .i64 on] 35)))
          have BX := Lib.hid (heap_new wr (.cells #[.int .i64 od, .int .i64 ov, .string om, .int .i64 oq, .int .i64 on] 35))
          clear x0 x1 x2 x3 x4
          generalize wr.alloc (.cells #[.int .i64 od, .int .i64 ov, .string om, .int .i64 oq, .int .i64 on] 35) = w2 at ST BX ⊢
          generalize wr.heap.size = bx at BX ⊢
          have y0 := cell_of_block (j := 0) BX.out rfl
          have y1 := cell_of_block (j := 1) BX.out rfl
          have y2 := cell_of_block (j := 2) BX.out rfl
          have y3 := cell_of_block (j := 3) BX.out rfl
          have y4 := cell_of_block (j := 4) BX.out rfl
          have C1 := Lib.hid (lrn_s ST.out ov om oq on)
          go_wp2_with fail
          ((with_reducible refine C1.out.mono ?_); rintro e w3 ⟨rfl, s3, t3⟩)
          replace BX := Lib.hid (box_tw BX.out ST.out t3)
          replace ST := Lib.hid s3
          clear s3 t3 C1 y0 y1 y2 y3 y4
          cases hmy : (mayL ov om oq && timeB on) with
          | false =>
            clear BX hmy
            go_wp2_with fail
            go_roundw
            case rel => exact ⟨k + 1, _, by omega, by omega, by go_num, ST⟩
            case measure => simp [intOf]; omega
          | true =>
            have hA := at_lrn (room := a0) (R := R) hmy
            have hps := lrn_pos hA.1
            have E1 := look_at (age := a1) (t := on) hA
            have E2 := look_at (age := a1) (t := on + a1 - 1) hA
            have E3 := look_at (age := a1) (t := on + a1) hA
            have hon : timeB on = true := by simp only [Bool.and_eq_true] at hmy; exact hmy.2
            have hle := ST.out.len
            generalize lrnF a0 R ov om oq on = R2 at ST E1 E2 E3 hps hle
            rw [hon, decide_eq_false (by omega)] at E1
            unfold timeB at hon
            simp only [Bool.and_eq_true, decide_eq_true_eq] at hon
            obtain ⟨hn1, hn2⟩ := hon
            rw [decide_eq_false (show ¬ on + a1 ≤ on + a1 - 1 by omega)] at E2
            rw [decide_eq_true (Int.le_refl (on + a1))] at E3
            simp only [Bool.not_false, Bool.and_true, Bool.not_true, Bool.and_false, if_true, Bool.false_eq_true, if_false] at E1 E2 E3
            have C1 := Lib.hid (look_s ST.out ov om on hwf)
            rw [E1] at C1
            clear hmy hA E1
            have w1 : wrap64 (on + a1) = on + a1 := by unfold wrap64; omega
            have w2' : wrap64 (on + a1 - 1) = on + a1 - 1 := by unfold wrap64; omega
            have w3' : IntKind.i64.wrap (on + a1) = on + a1 := IntWalk.i64_in _ (by omega)
            have w4' : IntKind.i64.wrap (on + a1 - 1) = on + a1 - 1 := IntWalk.i64_in _ (by omega)
            have y0 := cell_of_block (j := 0) BX.out rfl
            have y1 := cell_of_block (j := 1) BX.out rfl
            have y2 := cell_of_block (j := 2) BX.out rfl
            have y3 := cell_of_block (j := 3) BX.out rfl
            have y4 := cell_of_block (j := 4) BX.out rfl
            go_wp2_with fail
            ((with_reducible refine C1.out.mono ?_); rintro e w4 ⟨rfl, s4, t4⟩)
            replace BX := Lib.hid (below_block t4 (lt_of_block BX.out) BX.out)
            replace ST := Lib.hid s4
            clear s4 t4 C1 y0 y1 y2 y3 y4
            have C2 := Lib.hid (look_s ST.out ov om (on + a1 - 1) hwf)
            have HZ := Lib.hid (show timeB (on + a1 - 1) = true → lookF R2 a1 ov om (on + a1 - 1) = (oq, true) from fun h => by rw [E2, if_pos h])
            clear E2
            generalize lookF R2 a1 ov om (on + a1 - 1) = zz at C2 HZ
            obtain ⟨z1, z2⟩ := zz
            have y0 := cell_of_block (j := 0) BX.out rfl
            have y1 := cell_of_block (j := 1) BX.out rfl
            have y2 := cell_of_block (j := 2) BX.out rfl
            have y3 := cell_of_block (j := 3) BX.out rfl
            have y4 := cell_of_block (j := 4) BX.out rfl
            go_wp2_with fail
            ((with_reducible refine C2.out.mono ?_); rintro e w5 ⟨rfl, s5, t5⟩)
            replace BX := Lib.hid (below_block t5 (lt_of_block BX.out) BX.out)
            replace ST := Lib.hid s5
            clear s5 t5 C2 y0 y1 y2 y3 y4
            have C3 := Lib.hid (look_s ST.out ov om (on + a1) hwf)
            rw [E3] at C3
            clear E3
            have y0 := cell_of_block (j := 0) BX.out rfl
            have y1 := cell_of_block (j := 1) BX.out rfl
            have y2 := cell_of_block (j := 2) BX.out rfl
            have y3 := cell_of_block (j := 3) BX.out rfl
            have y4 := cell_of_block (j := 4) BX.out rfl
            go_wp2_with fail
            ((with_reducible refine C3.out.mono ?_); rintro e w6 ⟨rfl, s6, t6⟩)
            replace BX := Lib.hid (below_block t6 (lt_of_block BX.out) BX.out)
            replace ST := Lib.hid s6
            clear s6 t6 C3 y0 y1 y2 y3 y4
            have C4 := Lib.hid (ent_s ST.out)
            go_wp2_with fail
            ((with_reducible refine C4.out.mono ?_); rintro e w7 ⟨ev, rfl, s7, t7⟩)
            obtain ⟨eq, ecap, rfl⟩ := s7.len
            replace BX := Lib.hid (below_block t7 (lt_of_block BX.out) BX.out)
            replace ST := Lib.hid (ST.out.below t7)
            clear s7 t7 C4
            have f1 : decide (a0 < (R2.length : Int)) = false := decide_eq_false (by omega)
            have f2 : decide ((R2.length : Int) < 1) = false := decide_eq_false (by omega)
            have f1' : decide ((R2.length : Int) ≤ a0) = true := decide_eq_true (by omega)
            have y0 := cell_of_block (j := 0) BX.out rfl
            have y1 := cell_of_block (j := 1) BX.out rfl
            have y2 := cell_of_block (j := 2) BX.out rfl
            have y3 := cell_of_block (j := 3) BX.out rfl
            have y4 := cell_of_block (j := 4) BX.out rfl
            by_cases hb : on + a1 < 1099511627776
            · have f3 : decide (on + a1 < 1099511627776) = true := decide_eq_true hb
              have ht : timeB (on + a1 - 1) = true := by unfold timeB; rw [decide_eq_true (show 0 ≤ on + a1 - 1 by omega), decide_eq_true (show on + a1 - 1 ≤ 1099511627776 by omega)]; rfl
              have hz := HZ.out ht
              simp only [Prod.mk.injEq] at hz
              obtain ⟨rfl, rfl⟩ := hz
              clear hb ht hps hle HZ
              go_wp2_with fail
              go_roundw
              case rel => exact ⟨k + 1, _, by omega, by omega, by go_num, ST⟩
              case measure => simp [intOf]; omega
            · have f3 : decide (on + a1 < 1099511627776) = false := decide_eq_false hb
              clear hb hps hle HZ
              go_wp2_with fail
              go_roundw
              case rel => exact ⟨k + 1, _, by omega, by omega, by go_num, ST⟩
              case measure => simp [intOf]; omega
        · have g1 : decide ((k : Int) < 60) = false := decide_eq_false (by omega)
          have g2 : decide ((k : Int) < (la2.length : Int)) = true := decide_eq_true (by omega)
          go_wp2_with fail
          ((with_reducible refine (HL.out _).mono ?_); rintro e wz ⟨rfl, hz⟩)
          go_wp2_with fail
          go_ret
          exact ⟨by simp, ST.out.bel.trans (hz.mono ST.out.bel.size)⟩
      · have g2 : decide ((k : Int) < (la2.length : Int)) = false := decide_eq_false (by omega)
        go_wp2_with fail
        ((with_reducible refine (HL.out _).mono ?_); rintro e wz ⟨rfl, hz⟩)
        go_wp2_with fail
        go_ret
        exact ⟨by simp, ST.out.bel.trans (hz.mono ST.out.bel.size)⟩

theorem own : ownKnob Try.prog.godebug = none := by kernel_rfl
theorem laidOut : laidOutB Try.prog = true := by kernel_rfl

set_option maxHeartbeats 1000000 in
set_option maxRecDepth 100000 in
theorem lifted (os : Os) (started : os.Started) (H : Type) (enc : TypeId × Value → H) :
    ReturnsInHanded {} Try.checked os 5 .any (Rows.fdbFindsSpec.pre6 enc Try.prog Try.f5 Rows.fdbFindsRow.domain false) (Rows.fdbFindsSpec.post enc Try.prog Try.f5 false true false false) := by
  refine returnsInHanded_of_change_sized (C := Try.checked) own started (by kernel_rfl) Try.func5
    (ChangeSpec.witness6 (enc := enc) (C := Try.checked) false ⟨#[], #[.int .i64 0, .int .i64 0, .slice none 0 0], []⟩ 8 (by kernel_rfl) (by kernel_rfl) (by kernel_rfl) (by kernel_rfl)) ?_
  intro W base args ds gs before hval0 hW hcnd hsz0 hholds
  have hval : ∀ (j : Nat) t v, Try.f5.params[j]? = some t → args[j]? = some v → Value.okWide Try.prog W .any base t v := hval0
  have hsz : (DataW.weightsEach Try.prog (Try.f5.params.toList ++ Rows.fdbFindsSpec.plain.varTypes Try.prog) (ds ++ gs)).all (· ≤ reachBytes) = true := hsz0
  have hW' := hW
  obtain ⟨p, q, hA0, hV, rfl, hfz, hnd⟩ := hW
  have hA : DataW.TrodAll enc Try.prog W 0 (fun _ => true) true Try.f5.params.toList args.toList ds p := hA0
  rw [Try.params5] at hA hval hsz
  obtain ⟨v0, vs0, d0, ds0, p0, q0, hargs, rfl, rfl, h0, r0⟩ := trodAll_cons hA
  obtain ⟨v1, vs1, d1, ds1, p1, q1, rfl, rfl, rfl, h1, r1⟩ := trodAll_cons r0
  obtain ⟨v2, vs2, d2, ds2, p2, q2, rfl, rfl, rfl, h2, r2⟩ := trodAll_cons r1
  obtain ⟨rfl, rfl, rfl⟩ := trodAll_nil r2
  obtain rfl : args = #[v0, v1, v2] := by cases args; simp_all
  obtain ⟨rfl, rfl⟩ := trodVars_none hV
  have k0 := h0
  have lt0 : ∀ x ∈ p0, x.block < W.heap.size := by obtain ⟨m, hm⟩ := k0; exact DataW.trod_lt m _ _ _ hm
  have k1 := h1
  have lt1 : ∀ x ∈ p1, x.block < W.heap.size := by obtain ⟨m, hm⟩ := k1; exact DataW.trod_lt m _ _ _ hm
  have k2 := h2
  have lt2 : ∀ x ∈ p2, x.block < W.heap.size := by obtain ⟨m, hm⟩ := k2; exact DataW.trod_lt m _ _ _ hm
  obtain ⟨a0, rfl, rfl, rfl, w0⟩ := open_int Try.underlying3 (hval 0 3 v0 rfl rfl) h0
  obtain ⟨a1, rfl, rfl, rfl, w1⟩ := open_int Try.underlying3 (hval 1 3 v1 rfl rfl) h1
  obtain ⟨sa2, sl2, sc2, rfl⟩ := okWide_slice Try.underlying22 (hval 2 22 v2 rfl rfl)
  obtain ⟨fu2, hf2⟩ := h2
  obtain ⟨vv2, L2, e2, hh2, qq2, ss2⟩ := openOpF hf2
  simp [Value.cells] at e2
  subst e2
  have ba0 := bounds_i64 w0
  have ba1 := bounds_i64 w1
  clear hA0 hval0
  refine (walk a0 a1 (.slice sa2 sl2 sc2) L2 W ba0.1 ba0.2 ba1.1 ba1.2 hh2 qq2 ss2).mono fun e W' ⟨he, bel⟩ => ?_
  subst he
  exact ⟨_, rfl, _, _, _, [], _, [], hW', trodAll_mk1 (shut_bool Try.underlying4 _), (trodAll_cons_mk (Below.trod laidOut (by kernel_rfl) (of_decide_eq_true (by kernel_rfl)) k0 bel lt0) (trodAll_cons_mk (Below.trod laidOut (by kernel_rfl) (of_decide_eq_true (by kernel_rfl)) k1 bel lt1) (trodAll_cons_mk (Below.trod laidOut (by kernel_rfl) (of_decide_eq_true (by kernel_rfl)) k2 bel lt2) trodAll_mk0))), rfl, bel.frame _, fun h => by cases h⟩

theorem over : Rows.fdbFindsRow.holds Try.pinned (OpenSpec.ofChange Rows.fdbFindsSpec) :=
  OpenClaim.holds_of_wide 5 Try.f5 rfl rfl rfl rfl rfl rfl rfl ⟨rfl, rfl, rfl, rfl, rfl⟩ rfl rfl rfl rfl rfl (by kernel_rfl) Try.func5 (by kernel_rfl)
    (of_decide_eq_true (by kernel_rfl)) (by unfold Func.isWrapper; first | (rw [if_pos (by decide +kernel)]; kernel_rfl) | (rw [if_neg (by decide +kernel)]; exact ⟨rfl, rfl⟩))
    (fun os started H enc _ => lifted os started H enc)

/-- The statement. -/
theorem proved : Rows.FdbFindsSaid := over
#print axioms proved
end Go.Proofs.Ytodddahjibccoaa.fdbFindsLaw
