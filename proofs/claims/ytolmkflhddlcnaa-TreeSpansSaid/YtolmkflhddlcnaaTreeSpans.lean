/-
  'siphonlaw16.TreeSpans' returns true, whatever the input, and each argument reads behind the call as it read before. Conditions: none beyond those that the row itself states.
-/
import Derived.Test.YtolmkflhddlcnaaRows
import Derived.Test.YtolmkflhddlcnaaRowLkR
import Derived.Test.YtolmkflhddlcnaaTaR
import Derived.Test.YtolmkflhddlcnaaTrK
import Derived.WalkKit
import Derived.ProofKit
import Derived.OpenShut
import Derived.ShutString
import Derived.ChangeOld
import Derived.Below
import Derived.Carry
import Derived.SizedLaws
import Derived.Lib.SmallJoins
import Derived.ChangeArms
import Derived.WideShapes
namespace Go.Proofs.Ytolmkflhddlcnaa.treeSpansLaw
open Go.ChangeShapes Go.WideShapes Go.ChangeAt Go.RowKit Go.Joins
open Go.ChangeMaps (open_string shut_string)
set_option linter.unusedVariables false

set_option maxHeartbeats 16000000 in
set_option maxRecDepth 100000 in
theorem walk (a0 : Value) (la0 : List U64) (a1 : Value) (la1 : List LkR) (w : World) (ha0 : RowsAt 1 cellsU64 w a0 la0) (qa0 : la0.length ≤ maxLen ∧ CapOk a0) (sa0 : ∀ r ∈ la0, GoodU64 r) (ha1 : RowsAt 5 cellsLkR w a1 la1) (qa1 : la1.length ≤ maxLen) (sa1 : ∀ r ∈ la1, GoodLkR r) :
    Calls Try.prog 5 #[a0, a1] w fun e w' => e = .returned (.bool true) ∧ Below w.heap.size w w' := by
  have HLV := Lib.hid fun U => live16_c U
  have ha1' : RowsAt 5 cellsLk w a1 la1 := ha1
  have hcap := qa0.2
  have qi := qa0.1
  unfold maxLen at qi qa1
  obtain ⟨pi, ci, rfl⟩ := ha0.slice
  obtain ⟨pl, cl, rfl⟩ := ha1.slice
  have HI := Lib.hid ha0
  have HL := Lib.hid ha1'
  have HC := Lib.hid hcap
  have HID := Lib.hid (fun x hx => (sa0 x hx).1 : ∀ x ∈ la0, (0 : Int) ≤ x)
  have K0 := Lib.hid (Below.refl w.heap.size w)
  clear ha0 ha1 ha1' hcap qa0 sa0 sa1
  by_cases hf : la0.length ≤ 12 ∧ la1.length ≤ 30
  · obtain ⟨f1, f2⟩ := hf
    have HF := Lib.hid fun (U : World) => few_yes pi pl la0.length la1.length ci cl U f1 f2
    by_cases hM : MayT la0 la1
    · have HT := Lib.hid fun (U : World) (k : Below w.heap.size w U) => ltold_c (.slice pl la1.length cl) la1 U (by omega) (HL.out.below k)
      have HRC := Lib.hid fun (U : World) (k : Below w.heap.size w U) => rchk_ok (HI.out.below k) (HL.out.below k) qi qa1 hM
      have HAC := Lib.hid fun (U : World) (k : Below w.heap.size w U) (u : Value) (h : RowsAt 5 cellsLk U u la1) => active_ok (HI.out.below k) HC.out h qi qa1 hM
      have HM := Lib.hid hM
      clear hM
      have HCL : ∃ (b off : Nat), (la1 ≠ [] → pl = some ⟨b, off, none⟩) ∧ Hid (∀ j x, la1[j]? = some x → ∀ i u, (cellsLk x)[i]? = some u → w.cell? ⟨b, off + j * 5 + i, none⟩ = some u) := by
        obtain ⟨p, c, b, off, hs, hp, hc⟩ := HL.out
        obtain ⟨rfl, rfl⟩ : pl = p ∧ cl = c := by simpa using hs
        exact ⟨b, off, hp, Lib.hid hc⟩
      obtain ⟨bl, offl, hpl, HCF⟩ := HCL
      have HPL := Lib.hid hpl
      have HCL := Lib.hid (fun j x (hj : la1[j]? = some x) => HCF.out j x hj 4 _ rfl)
      clear hpl
      have HTW := Lib.hid fun (U : World) (k : Below w.heap.size w U) (vs : Value) (S : List Int) (h : IntsAt U vs S) (s40 : S.length ≤ 40) (hs : ∀ i ∈ S, 0 ≤ i ∧ i < la1.length) => rtog_c (w := U) (n := la0.length) (vl := .slice pl la1.length cl) (HL.out.below k) h f1 (by omega) s40 (ok_links HM.out) hs
      go_enter Try.func5, Try.ntmps5
      go_wp2_with fail
      ((with_reducible refine (HF.out _).mono ?_); rintro e w1 ⟨rfl, rfl⟩)
      go_wp2_with fail
      ((with_reducible refine (HRC.out _ K0.out).mono ?_); rintro e w1 ⟨rfl, hb⟩)
      have K1 := Lib.hid (K0.out.trans (hb.mono K0.out.size))
      clear hb
      obtain ⟨j0, hj0, jz0, jz1, jz2⟩ := info_parts info_It
      go_wp2_with fail
      go_loopw [5, 6] (fun s5 i wr => ∃ k : Nat, k ≤ la1.length ∧ i = .int .i64 k ∧ Hid (wr.ownsRow w1.heap.size 3 1 s5 k (allV k)) ∧ Hid (Below w1.heap.size w1 wr)) (fun _ i _ => la1.length - (intOf i).toNat)
      case atStart => exact ⟨0, Nat.zero_le _, rfl, Lib.hid (World.ownsRow_nil _ _ _ _), Lib.hid (Below.refl _ _)⟩
      case round =>
        obtain ⟨k, hk, rfl, HO, KB⟩ := hrel
        by_cases hlt : k < la1.length
        · obtain ⟨x, hx⟩ : ∃ x, la1[k]? = some x := ⟨_, List.getElem?_eq_getElem hlt⟩
          have hne : la1 ≠ [] := by rintro rfl; simp at hx
          obtain rfl := HPL.out hne
          have HX4 := Lib.hid (HCL.out k _ hx)
          generalize x.2.2.2.2 = c at HX4
          have HSN := Lib.hid (allV_snoc k)
          have d1 : decide (k < la1.length) = true := decide_eq_true hlt
          have d2 : decide ((k : Int) < (la1.length : Int)) = true := decide_eq_true (by omega)
          have d3 : decide (la1.length ≤ k) = false := decide_eq_false (by omega)
          have d4 : decide (0 ≤ (k : Int)) = true := decide_eq_true (by omega)
          have NEW := Lib.hid (cells_new wr [.int .i64 (k : Int)] 3)
          have HO5 := Lib.hid (HO.out.alloc (.cells #[.int .i64 (k : Int)] 3))
          have K5 := Lib.hid (KB.out.alloc KB.out.size (.cells #[.int .i64 (k : Int)] 3))
          have n11 := Lib.hid (show k + 1 ≤ maxLen by unfold maxLen; omega)
          have n22 := Lib.hid (show (k + 1) * 8 ≤ 140737488355328 by omega)
          have n33 := Lib.hid (show w1.heap.size ≤ (wr.alloc (.cells #[.int .i64 (k : Int)] 3)).heap.size from K5.out.size)
          have oc := Lib.hid (one_int (k : Int))
          clear hx hne
          go_wp2_with (at_builtin; refine wpList_append_own _ rfl _ _ 33 rfl w1.heap.size 3 j0 (.int .i64 0) 1 8 Try.underlying33 hj0 jz0 jz1 jz2 rfl (by decide) _ _ _ rfl HO5.out ⟨wr.heap.size, 0, none⟩ 1 1 [.int .i64 (k : Int)] rfl rfl NEW.out oc.out n11.out n22.out n33.out ?_)
          intro v' w6 hown' hgrow _
          have HO6 := Lib.hid hown'
          have K6 := Lib.hid (K5.out.grown hgrow n33.out (fun j hj => (HO5.out.lt j hj).1))
          have K61 := Lib.hid (K1.out.trans (K6.out.mono K1.out.size))
          have x4 : w6.cell? ⟨bl, offl + k * 5 + 4, none⟩ = some (.int .i64 c) := gcell_below K61.out HX4.out
          clear hown' hgrow HO5 K5 NEW
          by_cases hc : 1000000 < c
          · have g1 : decide (1000000 < c) = true := decide_eq_true hc
            go_wp2_with fail
            ((with_reducible refine (HLV.out _).mono ?_); rintro e wv ⟨rfl, hv⟩)
            have KV := Lib.hid (K61.out.trans (hv.mono K61.out.size))
            clear hv
            go_wp2_with fail
            go_ret
            exact ⟨rfl, KV.out⟩
          · have g1 : decide (1000000 < c) = false := decide_eq_false hc
            clear hc
            go_wp2_with fail
            go_roundw
            case rel => exact ⟨k + 1, by omega, by go_num, Lib.hid (by rw [HSN.out]; exact HO6.out), K6⟩
            case measure => simp [intOf]; omega
        · obtain rfl : k = la1.length := by omega
          have HALL := Lib.hid (IntsAt.of_owns (l := (List.range la1.length).map fun i : Nat => (i : Int)) HO.out)
          have KQ := Lib.hid (K1.out.trans (KB.out.mono K1.out.size))
          clear hlt hk HO KB
          go_wp2_with fail
          ((with_reducible refine (HT.out _ KQ.out).mono ?_); rintro e w2 ⟨u, rfl, ru, hb⟩)
          have K2 := Lib.hid (KQ.out.trans (hb.mono KQ.out.size))
          have RU := Lib.hid ru
          replace HALL := Lib.hid (HALL.out.below hb)
          clear ru
          clear hb
          go_wp2_with fail
          ((with_reducible refine (HAC.out _ K2.out _ RU.out).mono ?_); rintro e w3 ⟨ua, rfl, ia, hb⟩)
          have K3 := Lib.hid (K2.out.trans (hb.mono K2.out.size))
          have IA := Lib.hid ia
          replace HALL := Lib.hid (HALL.out.below hb)
          clear ia
          clear hb
          have AB := Lib.hid (act_bound (r := restL la0 la1) (n := la1.length))
          have AL := Lib.hid (actN_len (restL la0 la1) la1.length)
          have AM := Lib.hid (act_links la0 la1)
          have AE := Lib.hid (act_len la0 la1)
          obtain ⟨A, hA⟩ : ∃ A, A = actN (restL la0 la1) la1.length := ⟨_, rfl⟩
          rw [← hA] at IA AB AL AM AE
          clear hA RU HAC HRC HF HT
          obtain ⟨pa, ca, ba, oa, hsa, hpa, hca⟩ := id IA.out
          subst hsa
          have HPA := Lib.hid hpa
          have HCA := Lib.hid hca
          obtain ⟨na, hna⟩ : ∃ na, na = A.length := ⟨_, rfl⟩
          have HNA := Lib.hid hna
          have hal : na ≤ la1.length := by rw [hna]; exact AL.out
          rw [← hna] at IA ⊢
          have q1 : decide (la1.length < na) = false := decide_eq_false (by omega)
          have q2 : decide ((la1.length : Int) < (na : Int)) = false := decide_eq_false (by omega)
          clear hpa hca hna
          go_wp2_with fail
          clear q1 q2
          go_loopw [9] (fun i wr => ∃ k : Nat, k ≤ na ∧ i = .int .i64 k ∧ w3 = wr) (fun i _ => na - (intOf i).toNat)
          case atStart => exact ⟨0, Nat.zero_le _, rfl, by trivial⟩
          case round =>
            obtain ⟨k, hk, rfl, rfl⟩ := hrel
            by_cases hlt : k < na
            · obtain ⟨x, hx⟩ : ∃ x, A[k]? = some x := ⟨_, List.getElem?_eq_getElem (by rw [← HNA.out]; exact hlt)⟩
              have hne : A ≠ [] := by rintro rfl; simp at hx
              obtain rfl := HPA.out hne
              obtain ⟨x0, x1⟩ := AB.out x (List.mem_of_getElem? hx)
              have ca0 : w3.cell? ⟨ba, oa + k, none⟩ = some (.int .i64 x) := HCA.out k _ hx
              have d1 : decide (k < na) = true := decide_eq_true hlt
              have d2 : decide ((k : Int) < (na : Int)) = true := decide_eq_true (by omega)
              have d3 : decide (na ≤ k) = false := decide_eq_false (by omega)
              have d4 : decide (0 ≤ (k : Int)) = true := decide_eq_true (by omega)
              have g1 : decide (x < 0) = false := decide_eq_false (by omega)
              have g2 : decide ((la1.length : Int) ≤ x) = false := decide_eq_false (by omega)
              clear hx hne
              go_wp2_with fail
              go_roundw
              case rel => exact ⟨k + 1, by omega, by go_num, by trivial⟩
              case measure => simp [intOf]; omega
            · obtain rfl : k = na := by omega
              clear hlt hk
              have RW1 := Lib.hid (HTW.out _ K3.out _ _ HALL.out (by simp; omega) range_bound)
              rw [all_links] at RW1
              go_wp2_with fail
              ((with_reducible refine (RW1.out).mono ?_); rintro e w4 ⟨uw, rfl, iw, hb⟩)
              have K4 := Lib.hid (K3.out.trans (hb.mono K3.out.size))
              have IW := Lib.hid iw
              replace IA := Lib.hid (IA.out.below hb)
              clear iw
              clear hb
              have RW2 := Lib.hid (HTW.out _ K4.out _ _ IA.out (by rw [← HNA.out]; omega) AB.out)
              rw [AM.out] at RW2
              go_wp2_with fail
              ((with_reducible refine (RW2.out).mono ?_); rintro e w5 ⟨uv, rfl, iv, hb⟩)
              have K5 := Lib.hid (K4.out.trans (hb.mono K4.out.size))
              have IV := Lib.hid iv
              replace IW := Lib.hid (IW.out.below hb)
              clear iv
              clear hb
              obtain ⟨SA, SB⟩ := spans HM.out HID.out
              have HSA := Lib.hid SA
              have HSB := Lib.hid (show k + grpT la1 la0.length la0.length = la0.length by rw [HNA.out, AE.out]; exact SB)
              obtain ⟨pw, cw, bw, ow, hsw, hpw, hcw⟩ := IW.out
              obtain ⟨pv, cv, bv, ov, hsv, hpv, hcv⟩ := IV.out
              have lw : ((List.range la0.length).map fun b => (togT la1 la0.length b : Int)).length = la0.length := by simp
              have lv : ((List.range la0.length).map fun b => (togT (actL la0 la1) la0.length b : Int)).length = la0.length := by simp
              rw [lw] at hsw
              rw [lv] at hsv
              subst hsw hsv
              have HPW := Lib.hid (fun (h : 0 < la0.length) => hpw (fun e => by have h2 : la0.length = 0 := lw.symm.trans (congrArg List.length e); omega))
              have HPV := Lib.hid (fun (h : 0 < la0.length) => hpv (fun e => by have h2 : la0.length = 0 := lv.symm.trans (congrArg List.length e); omega))
              have HCW := Lib.hid (fun b (hb : b < la0.length) => hcw b (togT la1 la0.length b : Int) (by rw [List.getElem?_map, List.getElem?_range hb]; rfl))
              have HCV := Lib.hid (fun b (hb : b < la0.length) => hcv b (togT la1 la0.length b : Int) (by rw [List.getElem?_map, List.getElem?_range hb]; show some ((togT (actL la0 la1) la0.length b : Nat) : Int) = _; rw [← SA b hb]))
              clear SA SB hpw hpv hcw hcv lw lv RW1 RW2 IW IV IA HALL HTW
              obtain ⟨n, hn⟩ : ∃ n, n = la0.length := ⟨_, rfl⟩
              have HNN := Lib.hid hn
              rw [← hn] at f1 HSB HPW HPV HCW HCV ⊢
              clear hn
              go_wp2_with fail
              obtain ⟨wb, rfl⟩ : ∃ wb, wb = w5 := ⟨_, rfl⟩
              go_loopw [12, 13] (fun s12 i wr => ∃ b : Nat, b ≤ n ∧ i = .int .i64 b ∧ s12 = .int .i64 (grpT la1 n b : Int) ∧ Hid (Below wb.heap.size wb wr)) (fun _ i _ => n - (intOf i).toNat)
              case atStart => exact ⟨0, Nat.zero_le _, rfl, rfl, Lib.hid (Below.refl _ _)⟩
              case round =>
                obtain ⟨b, hb, rfl, rfl, KB⟩ := hrel
                have gle := grp_le la1 n b
                by_cases hlt : b < n
                · obtain rfl := HPW.out (by omega)
                  obtain rfl := HPV.out (by omega)
                  have c1 : wr.cell? ⟨bw, ow + b, none⟩ = some (.int .i64 (togT la1 n b : Int)) := gcell_below KB.out (HCW.out b hlt)
                  have c2 : wr.cell? ⟨bv, ov + b, none⟩ = some (.int .i64 (togT la1 n b : Int)) := gcell_below KB.out (HCV.out b hlt)
                  have d1 : decide (b < n) = true := decide_eq_true hlt
                  have d2 : decide ((b : Int) < (n : Int)) = true := decide_eq_true (by omega)
                  have d3 : decide (n ≤ b) = false := decide_eq_false (by omega)
                  have d4 : decide (0 ≤ (b : Int)) = true := decide_eq_true (by omega)
                  have GY := Lib.hid (grp_yes (L := la1) (n := n) (k := b))
                  have GN := Lib.hid (grp_no (L := la1) (n := n) (k := b))
                  generalize togT la1 n b = z at c1 c2 GY GN
                  generalize hgv : grpT la1 n b = gv at gle GY GN ⊢
                  clear hgv
                  go_wp2_with fail
                  go_quiet (fail)
                  have KB2 := Lib.hid (below_drewN KB.out nq)
                  have c3 : (wr.drewN nq).cell? ⟨bw, ow + b, none⟩ = some (.int .i64 (z : Int)) := c1
                  by_cases hz : z = b
                  · subst hz
                    have G1 := Lib.hid (GY.out rfl)
                    clear GY GN
                    go_wp2_with fail
                    go_roundw
                    case rel => exact ⟨z + 1, by omega, by go_num, by rw [G1.out]; go_num, KB2⟩
                    case measure => simp [intOf]; omega
                  · have G1 := Lib.hid (GN.out hz)
                    obtain ⟨z1, z2⟩ := ne_t (show (z : Int) ≠ (b : Int) by omega)
                    clear GY GN
                    go_wp2_with fail
                    go_roundw
                    case rel => exact ⟨b + 1, by omega, by go_num, by rw [G1.out], KB2⟩
                    case measure => simp [intOf]; omega
                · obtain rfl : b = n := by omega
                  have KZ := Lib.hid (K5.out.trans (KB.out.mono K5.out.size))
                  have hsb := HSB.out
                  generalize grpT la1 b b = gv at hsb gle ⊢
                  have q3 : ((k : Int) == (b : Int) - (gv : Int)) = true := by rw [beq_iff_eq]; omega
                  have q4 : (k : Int) = (b : Int) - (gv : Int) := by omega
                  have Q4 := Lib.hid q4
                  clear hlt q4 hsb
                  go_wp2_with fail
                  ((with_reducible refine (HLV.out _).mono ?_); rintro e wv ⟨rfl, hv⟩)
                  have KV := Lib.hid (KZ.out.trans (hv.mono KZ.out.size))
                  clear hv
                  go_wp2_with fail
                  go_ret
                  exact ⟨rfl, KV.out⟩
    · have HT := Lib.hid fun (U : World) (k : Below w.heap.size w U) => ltold_c (.slice pl la1.length cl) la1 U (by omega) (HL.out.below k)
      have HRC := Lib.hid fun (U : World) (k : Below w.heap.size w U) => rchk_not (HI.out.below k) (HL.out.below k) qi qa1 hM
      have HM := Lib.hid hM
      clear hM
      go_enter Try.func5, Try.ntmps5
      go_wp2_with fail
      ((with_reducible refine (HF.out _).mono ?_); rintro e w1 ⟨rfl, rfl⟩)
      go_wp2_with fail
      ((with_reducible refine (HRC.out _ K0.out).mono ?_); rintro e w1 ⟨rfl, hb⟩)
      have K1 := Lib.hid (K0.out.trans (hb.mono K0.out.size))
      clear hb
      go_wp2_with fail
      ((with_reducible refine (HLV.out _).mono ?_); rintro e wv ⟨rfl, hv⟩)
      have KV := Lib.hid (K1.out.trans (hv.mono K1.out.size))
      clear hv
      go_wp2_with fail
      go_ret
      exact ⟨rfl, KV.out⟩
  · have HF := Lib.hid fun (U : World) => few_no pi pl la0.length la1.length ci cl U hf
    clear hf
    go_enter Try.func5, Try.ntmps5
    go_wp2_with fail
    ((with_reducible refine (HF.out _).mono ?_); rintro e w1 ⟨rfl, rfl⟩)
    go_wp2_with fail
    ((with_reducible refine (HLV.out _).mono ?_); rintro e wv ⟨rfl, hv⟩)
    have KV := Lib.hid (K0.out.trans (hv.mono K0.out.size))
    clear hv
    go_wp2_with fail
    go_ret
    exact ⟨rfl, KV.out⟩

theorem own : ownKnob Try.prog.godebug = none := by kernel_rfl
theorem laidOut : laidOutB Try.prog = true := by kernel_rfl

set_option maxHeartbeats 1000000 in
set_option maxRecDepth 100000 in
theorem lifted (os : Os) (started : os.Started) (H : Type) (enc : TypeId × Value → H) :
    ReturnsInHanded {} Try.checked os 5 .any (Rows.treeSpansSpec.pre6 enc Try.prog Try.f5 Rows.treeSpansRow.domain false) (Rows.treeSpansSpec.post enc Try.prog Try.f5 false true false false) := by
  refine returnsInHanded_of_change_sized (C := Try.checked) own started (by kernel_rfl) Try.func5
    (ChangeSpec.witness6 (enc := enc) (C := Try.checked) false ⟨#[], #[.slice none 0 0, .slice none 0 0], []⟩ 8 (by kernel_rfl) (by kernel_rfl) (by kernel_rfl) (by kernel_rfl)) ?_
  intro W base args ds gs before hval0 hW hcnd hsz0 hholds
  have hval : ∀ (j : Nat) t v, Try.f5.params[j]? = some t → args[j]? = some v → Value.okWide Try.prog W .any base t v := hval0
  have hsz : (DataW.weightsEach Try.prog (Try.f5.params.toList ++ Rows.treeSpansSpec.plain.varTypes Try.prog) (ds ++ gs)).all (· ≤ reachBytes) = true := hsz0
  have hW' := hW
  obtain ⟨p, q, hA0, hV, rfl, hfz, hnd⟩ := hW
  have hA : DataW.TrodAll enc Try.prog W 0 (fun _ => true) true Try.f5.params.toList args.toList ds p := hA0
  rw [Try.params5] at hA hval hsz
  obtain ⟨v0, vs0, d0, ds0, p0, q0, hargs, rfl, rfl, h0, r0⟩ := trodAll_cons hA
  obtain ⟨v1, vs1, d1, ds1, p1, q1, rfl, rfl, rfl, h1, r1⟩ := trodAll_cons r0
  obtain ⟨rfl, rfl, rfl⟩ := trodAll_nil r1
  obtain rfl : args = #[v0, v1] := by cases args; simp_all
  obtain ⟨rfl, rfl⟩ := trodVars_none hV
  have k0 := h0
  have lt0 : ∀ x ∈ p0, x.block < W.heap.size := by obtain ⟨m, hm⟩ := k0; exact DataW.trod_lt m _ _ _ hm
  have k1 := h1
  have lt1 : ∀ x ∈ p1, x.block < W.heap.size := by obtain ⟨m, hm⟩ := k1; exact DataW.trod_lt m _ _ _ hm
  obtain ⟨sa0, sl0, sc0, rfl⟩ := okWide_slice Try.underlying22 (hval 0 22 v0 rfl rfl)
  obtain ⟨fu0, hf0⟩ := h0
  obtain ⟨vv0, L0, e0, hh0, qq0, ss0⟩ := openU64 hf0
  simp [Value.cells] at e0
  subst e0
  obtain ⟨sa1, sl1, sc1, rfl⟩ := okWide_slice Try.underlying23 (hval 1 23 v1 rfl rfl)
  obtain ⟨fu1, hf1⟩ := h1
  obtain ⟨vv1, L1, e1, hh1, qq1, ss1⟩ := openLkR hf1
  simp [Value.cells] at e1
  subst e1
  clear hA0 hval0
  refine (walk (.slice sa0 sl0 sc0) L0 (.slice sa1 sl1 sc1) L1 W hh0 qq0 ss0 hh1 qq1 ss1).mono fun e W' ⟨he, bel⟩ => ?_
  subst he
  exact ⟨_, rfl, _, _, _, [], _, [], hW', trodAll_mk1 (shut_bool Try.underlying4 _), (trodAll_cons_mk (Below.trod laidOut (by kernel_rfl) (of_decide_eq_true (by kernel_rfl)) k0 bel lt0) (trodAll_cons_mk (Below.trod laidOut (by kernel_rfl) (of_decide_eq_true (by kernel_rfl)) k1 bel lt1) trodAll_mk0)), rfl, bel.frame _, fun h => by cases h⟩

theorem over : Rows.treeSpansRow.holds Try.pinned (OpenSpec.ofChange Rows.treeSpansSpec) :=
  OpenClaim.holds_of_wide 5 Try.f5 rfl rfl rfl rfl rfl rfl rfl ⟨rfl, rfl, rfl, rfl, rfl⟩ rfl rfl rfl rfl rfl (by kernel_rfl) Try.func5 (by kernel_rfl)
    (of_decide_eq_true (by kernel_rfl)) (by unfold Func.isWrapper; first | (rw [if_pos (by decide +kernel)]; kernel_rfl) | (rw [if_neg (by decide +kernel)]; exact ⟨rfl, rfl⟩))
    (fun os started H enc _ => lifted os started H enc)

/-- The statement. -/
theorem proved : Rows.TreeSpansSaid := over
#print axioms proved
end Go.Proofs.Ytolmkflhddlcnaa.treeSpansLaw
