/-
  'siphonlaw13.FdbApart' returns true, whatever the input, and each argument reads behind the call as it read before. Conditions: none beyond those that the row itself states.
-/
import Derived.Test.YtodddahjibccoaaRows
import Derived.Test.YtodddahjibccoaaFdJ
import Derived.Test.YtodddahjibccoaaRowOpF
import Derived.WalkKit
import Derived.ProofKit
import Derived.OpenShut
import Derived.ShutString
import Derived.ChangeOld
import Derived.Below
import Derived.Carry
import Derived.SizedLaws
import Derived.Lib.SmallJoins
import Derived.ChangeArms
import Derived.WideShapes
namespace Go.Proofs.Ytodddahjibccoaa.fdbApartLaw
open Go.ChangeShapes Go.WideShapes Go.ChangeAt Go.RowKit Go.Joins
open Go.ChangeMaps (open_string shut_string)
set_option linter.unusedVariables false

theorem no_lrn {room : Int} {R : List E4} {v : Int} {m : ByteArray} (h : ∀ e ∈ R, sameE e v m = false) {ov : Int} {om : ByteArray} (hne : ¬ (ov = v ∧ om = m)) (p now : Int) : ∀ e ∈ lrnF room R ov om p now, sameE e v m = false := by
  intro e he
  have h0 : ∀ q, sameE (ov, om, q) v m = false := fun q => decide_eq_false hne
  unfold lrnF at he
  split at he
  · split at he
    · unfold setF at he
      obtain ⟨x, hx, rfl⟩ := List.mem_map.1 he
      split
      · exact h0 _
      · exact h x hx
    · unfold insF at he
      have hd : ∀ e ∈ drvF room R, sameE e v m = false := by
        intro e he
        unfold drvF at he
        split at he
        · exact h e (List.mem_of_mem_eraseIdx he)
        · exact h e he
      rcases List.mem_append.1 he with hx | hx
      · exact hd e (List.mem_filter.1 hx).1
      · rcases List.mem_cons.1 hx with rfl | hx
        · exact h0 _
        · exact hd e (List.mem_filter.1 hx).1
  · exact h e he
theorem look_no {R : List E4} {v : Int} {m : ByteArray} (h : ∀ e ∈ R, sameE e v m = false) (age t : Int) : lookF R age v m t = (0, false) := by
  have : hasF R v m = false := by
    unfold hasF
    rw [List.any_eq_false]
    intro x hx
    rw [h x hx]
    simp
  unfold lookF
  rw [this]
  simp

set_option maxHeartbeats 16000000 in
set_option maxRecDepth 100000 in
theorem walk (a0 : Value) (la0 : List OpF) (a1 : Int) (a2 : ByteArray) (w : World) (ha0 : RowsAt 5 cellsOpF w a0 la0) (qa0 : la0.length ≤ maxLen) (sa0 : ∀ r ∈ la0, GoodOpF r) (la1 : -9223372036854775808 ≤ a1) (ua1 : a1 ≤ 9223372036854775807) (za2 : a2.size ≤ 140737488351232) :
    Calls Try.prog 7 #[a0, .int .i64 a1, .string a2] w fun e w' => e = .returned (.bool true) ∧ Below w.heap.size w w' := by
  have HL := Lib.hid fun U => live13_c U
  unfold maxLen at qa0
  obtain ⟨p, cap, bb, off, rfl, hp, hc⟩ := ha0
  have HP := Lib.hid hp
  have HC := Lib.hid hc
  have hwf : WfK a1 a2 := ⟨by simp [Lit.wf, IntKind.min, IntKind.max, IntKind.bits, IntKind.signed]; omega, Nat.le_trans za2 (by decide)⟩
  clear hp hc za2
  have N1 := Lib.hid (new_s (w0 := w) (W := w) (room := 200) (age := 1000) (by decide) (by decide) (by decide) (by decide) (Below.refl _ _))
  go_enter Try.func7, Try.ntmps7
  go_wp2_with fail
  ((with_reducible refine N1.out.mono ?_); rintro e w1 ⟨rfl, s1⟩)
  have S1 := Lib.hid s1
  clear s1 N1
  generalize w.heap.size + 1 = tp at S1 ⊢
  generalize w.heap.size = mb at S1 ⊢
  go_wp2_with fail
  go_loopw [9, 10, 11, 12, 13, 14] (fun i _ _ _ _ _ wr => ∃ (k : Nat) (R : List E4), k ≤ la0.length ∧ k ≤ 60 ∧ i = .int .i64 k ∧ Hid (FSt w wr tp mb 200 1000 R) ∧ Hid (∀ e ∈ R, sameE e a1 a2 = false)) (fun i _ _ _ _ _ _ => 60 - (intOf i).toNat)
  case atStart => exact ⟨0, [], Nat.zero_le _, Nat.zero_le _, rfl, S1, Lib.hid (by simp)⟩
  case round =>
    obtain ⟨k, R, hk, hk6, rfl, ST, HN⟩ := hrel
    by_cases hlt : k < la0.length
    · by_cases h60 : k < 60
      · have hne' : la0 ≠ [] := by rintro rfl; simp at hlt
        obtain rfl := HP.out hne'
        have x0 : wr.cell? ⟨bb, off + k * 5, none⟩ = some _ := gcell_below ST.out.bel (HC.out k _ (List.getElem?_eq_getElem hlt) 0 _ rfl)
        have x1 : wr.cell? ⟨bb, off + k * 5 + 1, none⟩ = some _ := gcell_below ST.out.bel (HC.out k _ (List.getElem?_eq_getElem hlt) 1 _ rfl)
        have x2 : wr.cell? ⟨bb, off + k * 5 + 2, none⟩ = some _ := gcell_below ST.out.bel (HC.out k _ (List.getElem?_eq_getElem hlt) 2 _ rfl)
        have x3 : wr.cell? ⟨bb, off + k * 5 + 3, none⟩ = some _ := gcell_below ST.out.bel (HC.out k _ (List.getElem?_eq_getElem hlt) 3 _ rfl)
        have x4 : wr.cell? ⟨bb, off + k * 5 + 4, none⟩ = some _ := gcell_below ST.out.bel (HC.out k _ (List.getElem?_eq_getElem hlt) 4 _ rfl)
        have hgd := sa0 _ (List.getElem_mem hlt)
        generalize la0[k] = hd at x0 x1 x2 x3 x4 hgd
        obtain ⟨od, ov, om, oq, on⟩ := hd
        simp only at x0 x1 x2 x3 x4
        obtain ⟨-, hgv, hgm, -, hgn⟩ := hgd
        simp only at hgv hgm hgn
        have hlt' : (k : Int) < (la0.length : Int) := by omega
        have hlt6 : (k : Int) < 60 := by omega
        clear hne'
        go_upto_region 8 with fail
        replace ST := Lib.hid (ST.out.below ((Below.refl wr.heap.size wr).alloc (Nat.le_refl _) (.cells #[.int .i64 od, .int .i64 ov, .string om, .int .i64 oq, .int .i64 on] 35)))
        have BX := Lib.hid (heap_new wr (.cells #[.int .i64 od, .int .i64 ov, .string om, .int .i64 oq, .int .i64 on] 35))
        clear x0 x1 x2 x3 x4
        generalize wr.alloc (.cells #[.int .i64 od, .int .i64 ov, .string om, .int .i64 oq, .int .i64 on] 35) = w2 at ST BX ⊢
        generalize wr.heap.size = bx at BX ⊢
        have y0 := cell_of_block (j := 0) BX.out rfl
        have y1 := cell_of_block (j := 1) BX.out rfl
        have y2 := cell_of_block (j := 2) BX.out rfl
        have y3 := cell_of_block (j := 3) BX.out rfl
        have y4 := cell_of_block (j := 4) BX.out rfl
        by_cases hsame : ov = a1 ∧ om = a2
        · obtain ⟨rfl, rfl⟩ := hsame
          go_wp2_with fail
          go_roundw
          case rel => exact ⟨k + 1, _, by omega, by omega, by go_num, ST, HN⟩
          case measure => simp [intOf]; omega
        · have hs1 : ov = a1 → (om = a2) = False := fun e => eq_false fun e2 => hsame ⟨e, e2⟩
          by_cases hv : ov = a1
          · have hs2 := hs1 hv
            clear hs1
            have hs3 := seql_of (decide_eq_false (hs2 ▸ not_false : ¬ om = a2)) 33
            subst hv
            have C1 := Lib.hid (look_s ST.out ov a2 5 hwf)
            rw [look_no HN.out] at C1
            go_wp2_with fail
            ((with_reducible refine C1.out.mono ?_); rintro e w4 ⟨rfl, s4, t4⟩)
            replace BX := Lib.hid (below_block t4 (lt_of_block BX.out) BX.out)
            replace ST := Lib.hid s4
            clear s4 t4 C1 y0 y1 y2 y3 y4
            have C2 := Lib.hid (lrn_s ST.out ov om oq 5)
            replace HN := Lib.hid (no_lrn (room := 200) (ov := ov) (om := om) HN.out (fun e => hsame ⟨trivial, e.2⟩) oq 5)
            have y0 := cell_of_block (j := 0) BX.out rfl
            have y1 := cell_of_block (j := 1) BX.out rfl
            have y2 := cell_of_block (j := 2) BX.out rfl
            have y3 := cell_of_block (j := 3) BX.out rfl
            have y4 := cell_of_block (j := 4) BX.out rfl
            go_wp2_with fail
            ((with_reducible refine C2.out.mono ?_); rintro e w3 ⟨rfl, s3, t3⟩)
            replace ST := Lib.hid s3
            clear s3 t3 C2 BX y0 y1 y2 y3 y4
            have C3 := Lib.hid (look_s ST.out ov a2 5 hwf)
            rw [look_no HN.out] at C3
            generalize lrnF 200 R ov om oq 5 = R2 at ST HN C3
            go_wp2_with fail
            ((with_reducible refine C3.out.mono ?_); rintro e w5 ⟨rfl, s5, t5⟩)
            replace ST := Lib.hid s5
            clear s5 t5 C3
            go_wp2_with fail
            go_roundw
            case rel => exact ⟨k + 1, _, by omega, by omega, by go_num, ST, HN⟩
            case measure => simp [intOf]; omega
          · clear hs1
            have C1 := Lib.hid (look_s ST.out a1 a2 5 hwf)
            rw [look_no HN.out] at C1
            go_wp2_with fail
            ((with_reducible refine C1.out.mono ?_); rintro e w4 ⟨rfl, s4, t4⟩)
            replace BX := Lib.hid (below_block t4 (lt_of_block BX.out) BX.out)
            replace ST := Lib.hid s4
            clear s4 t4 C1 y0 y1 y2 y3 y4
            have C2 := Lib.hid (lrn_s ST.out ov om oq 5)
            replace HN := Lib.hid (no_lrn (room := 200) (ov := ov) (om := om) HN.out hsame oq 5)
            have y0 := cell_of_block (j := 0) BX.out rfl
            have y1 := cell_of_block (j := 1) BX.out rfl
            have y2 := cell_of_block (j := 2) BX.out rfl
            have y3 := cell_of_block (j := 3) BX.out rfl
            have y4 := cell_of_block (j := 4) BX.out rfl
            go_wp2_with fail
            ((with_reducible refine C2.out.mono ?_); rintro e w3 ⟨rfl, s3, t3⟩)
            replace ST := Lib.hid s3
            clear s3 t3 C2 BX y0 y1 y2 y3 y4
            have C3 := Lib.hid (look_s ST.out a1 a2 5 hwf)
            rw [look_no HN.out] at C3
            generalize lrnF 200 R ov om oq 5 = R2 at ST HN C3
            go_wp2_with fail
            ((with_reducible refine C3.out.mono ?_); rintro e w5 ⟨rfl, s5, t5⟩)
            replace ST := Lib.hid s5
            clear s5 t5 C3
            go_wp2_with fail
            go_roundw
            case rel => exact ⟨k + 1, _, by omega, by omega, by go_num, ST, HN⟩
            case measure => simp [intOf]; omega
      · have g1 : decide ((k : Int) < 60) = false := decide_eq_false (by omega)
        have g2 : decide ((k : Int) < (la0.length : Int)) = true := decide_eq_true (by omega)
        go_wp2_with fail
        ((with_reducible refine (HL.out _).mono ?_); rintro e wz ⟨rfl, hz⟩)
        go_wp2_with fail
        go_ret
        exact ⟨by simp, ST.out.bel.trans (hz.mono ST.out.bel.size)⟩
    · have g2 : decide ((k : Int) < (la0.length : Int)) = false := decide_eq_false (by omega)
      go_wp2_with fail
      ((with_reducible refine (HL.out _).mono ?_); rintro e wz ⟨rfl, hz⟩)
      go_wp2_with fail
      go_ret
      exact ⟨by simp, ST.out.bel.trans (hz.mono ST.out.bel.size)⟩

theorem own : ownKnob Try.prog.godebug = none := by kernel_rfl
theorem laidOut : laidOutB Try.prog = true := by kernel_rfl

set_option maxHeartbeats 1000000 in
set_option maxRecDepth 100000 in
theorem lifted (os : Os) (started : os.Started) (H : Type) (enc : TypeId × Value → H) :
    ReturnsInHanded {} Try.checked os 7 .any (Rows.fdbApartSpec.pre6 enc Try.prog Try.f7 Rows.fdbApartRow.domain false) (Rows.fdbApartSpec.post enc Try.prog Try.f7 false true false false) := by
  refine returnsInHanded_of_change_sized (C := Try.checked) own started (by kernel_rfl) Try.func7
    (ChangeSpec.witness6 (enc := enc) (C := Try.checked) false ⟨#[], #[.slice none 0 0, .int .i64 0, .string ByteArray.empty], []⟩ 8 (by kernel_rfl) (by kernel_rfl) (by kernel_rfl) (by kernel_rfl)) ?_
  intro W base args ds gs before hval0 hW hcnd hsz0 hholds
  have hval : ∀ (j : Nat) t v, Try.f7.params[j]? = some t → args[j]? = some v → Value.okWide Try.prog W .any base t v := hval0
  have hsz : (DataW.weightsEach Try.prog (Try.f7.params.toList ++ Rows.fdbApartSpec.plain.varTypes Try.prog) (ds ++ gs)).all (· ≤ reachBytes) = true := hsz0
  have hW' := hW
  obtain ⟨p, q, hA0, hV, rfl, hfz, hnd⟩ := hW
  have hA : DataW.TrodAll enc Try.prog W 0 (fun _ => true) true Try.f7.params.toList args.toList ds p := hA0
  rw [Try.params7] at hA hval hsz
  obtain ⟨v0, vs0, d0, ds0, p0, q0, hargs, rfl, rfl, h0, r0⟩ := trodAll_cons hA
  obtain ⟨v1, vs1, d1, ds1, p1, q1, rfl, rfl, rfl, h1, r1⟩ := trodAll_cons r0
  obtain ⟨v2, vs2, d2, ds2, p2, q2, rfl, rfl, rfl, h2, r2⟩ := trodAll_cons r1
  obtain ⟨rfl, rfl, rfl⟩ := trodAll_nil r2
  obtain rfl : args = #[v0, v1, v2] := by cases args; simp_all
  obtain ⟨rfl, rfl⟩ := trodVars_none hV
  have k0 := h0
  have lt0 : ∀ x ∈ p0, x.block < W.heap.size := by obtain ⟨m, hm⟩ := k0; exact DataW.trod_lt m _ _ _ hm
  have k1 := h1
  have lt1 : ∀ x ∈ p1, x.block < W.heap.size := by obtain ⟨m, hm⟩ := k1; exact DataW.trod_lt m _ _ _ hm
  have k2 := h2
  have lt2 : ∀ x ∈ p2, x.block < W.heap.size := by obtain ⟨m, hm⟩ := k2; exact DataW.trod_lt m _ _ _ hm
  obtain ⟨sa0, sl0, sc0, rfl⟩ := okWide_slice Try.underlying22 (hval 0 22 v0 rfl rfl)
  obtain ⟨fu0, hf0⟩ := h0
  obtain ⟨vv0, L0, e0, hh0, qq0, ss0⟩ := openOpF hf0
  simp [Value.cells] at e0
  subst e0
  obtain ⟨a1, rfl, rfl, rfl, w1⟩ := open_int Try.underlying3 (hval 1 3 v1 rfl rfl) h1
  obtain ⟨a2, rfl, rfl, rfl, w2⟩ := open_string Try.underlying33 (hval 2 33 v2 rfl rfl) h2
  have ba1 := bounds_i64 w1
  have za2 : a2.size ≤ 140737488351232 := by
    have h := sized_string hsz (j := 2) (t := 33) rfl rfl
    simpa [reachBytes] using h
  clear hA0 hval0
  refine (walk (.slice sa0 sl0 sc0) L0 a1 a2 W hh0 qq0 ss0 ba1.1 ba1.2 za2).mono fun e W' ⟨he, bel⟩ => ?_
  subst he
  exact ⟨_, rfl, _, _, _, [], _, [], hW', trodAll_mk1 (shut_bool Try.underlying4 _), (trodAll_cons_mk (Below.trod laidOut (by kernel_rfl) (of_decide_eq_true (by kernel_rfl)) k0 bel lt0) (trodAll_cons_mk (Below.trod laidOut (by kernel_rfl) (of_decide_eq_true (by kernel_rfl)) k1 bel lt1) (trodAll_cons_mk (Below.trod laidOut (by kernel_rfl) (of_decide_eq_true (by kernel_rfl)) k2 bel lt2) trodAll_mk0))), rfl, bel.frame _, fun h => by cases h⟩

theorem over : Rows.fdbApartRow.holds Try.pinned (OpenSpec.ofChange Rows.fdbApartSpec) :=
  OpenClaim.holds_of_wide 7 Try.f7 rfl rfl rfl rfl rfl rfl rfl ⟨rfl, rfl, rfl, rfl, rfl⟩ rfl rfl rfl rfl rfl (by kernel_rfl) Try.func7 (by kernel_rfl)
    (of_decide_eq_true (by kernel_rfl)) (by unfold Func.isWrapper; first | (rw [if_pos (by decide +kernel)]; kernel_rfl) | (rw [if_neg (by decide +kernel)]; exact ⟨rfl, rfl⟩))
    (fun os started H enc _ => lifted os started H enc)

/-- The statement. -/
theorem proved : Rows.FdbApartSaid := over
#print axioms proved
end Go.Proofs.Ytodddahjibccoaa.fdbApartLaw
