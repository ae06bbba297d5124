/-
  'siphonlaw16.TreeScaled' returns true, whatever the input, and each argument reads behind the call as it read before. Conditions: none beyond those that the row itself states.
-/
import Derived.Test.YtolmkflhddlcnaaRows
import Derived.Test.YtolmkflhddlcnaaRowLkR
import Derived.Test.YtolmkflhddlcnaaTaR
import Derived.Test.YtolmkflhddlcnaaTrK
import Derived.WalkKit
import Derived.ProofKit
import Derived.OpenShut
import Derived.ShutString
import Derived.ChangeOld
import Derived.Below
import Derived.Carry
import Derived.SizedLaws
import Derived.Lib.SmallJoins
import Derived.ChangeArms
import Derived.WideShapes
namespace Go.Proofs.Ytolmkflhddlcnaa.treeScaledLaw
open Go.ChangeShapes Go.WideShapes Go.ChangeAt Go.RowKit Go.Joins
open Go.ChangeMaps (open_string shut_string)
set_option linter.unusedVariables false

set_option maxHeartbeats 16000000 in
set_option maxRecDepth 100000 in
theorem walk (a0 : Value) (la0 : List U64) (a1 : Value) (la1 : List LkR) (w : World) (ha0 : RowsAt 1 cellsU64 w a0 la0) (qa0 : la0.length ≤ maxLen ∧ CapOk a0) (sa0 : ∀ r ∈ la0, GoodU64 r) (ha1 : RowsAt 5 cellsLkR w a1 la1) (qa1 : la1.length ≤ maxLen) (sa1 : ∀ r ∈ la1, GoodLkR r) :
    Calls Try.prog 8 #[a0, a1] w fun e w' => e = .returned (.bool true) ∧ Below w.heap.size w w' := by
  have HLV := Lib.hid fun U => live16_c U
  have ha1' : RowsAt 5 cellsLk w a1 la1 := ha1
  have hcap := qa0.2
  have qi := qa0.1
  unfold maxLen at qi qa1
  obtain ⟨pi, ci, rfl⟩ := ha0.slice
  obtain ⟨pl, cl, rfl⟩ := ha1.slice
  have HI := Lib.hid ha0
  have HL := Lib.hid ha1'
  have HC := Lib.hid hcap
  have HID := Lib.hid (fun x hx => (sa0 x hx).1 : ∀ x ∈ la0, (0 : Int) ≤ x)
  have K0 := Lib.hid (Below.refl w.heap.size w)
  clear ha0 ha1 ha1' hcap qa0 sa0 sa1
  by_cases h10 : 10 < la0.length
  · have d10 : decide ((10 : Int) < (la0.length : Int)) = true := decide_eq_true (by omega)
    clear h10
    go_enter Try.func8, Try.ntmps8
    go_wp2_with fail
    ((with_reducible refine (HLV.out _).mono ?_); rintro e wv ⟨rfl, hv⟩)
    have KV := Lib.hid (K0.out.trans (hv.mono K0.out.size))
    clear hv
    go_wp2_with fail
    go_ret
    exact ⟨rfl, KV.out⟩
  · have d10 : decide ((10 : Int) < (la0.length : Int)) = false := decide_eq_false (by omega)
    by_cases hf : la0.length ≤ 12 ∧ la1.length ≤ 30
    · obtain ⟨f1, f2⟩ := hf
      have HF := Lib.hid fun (U : World) => few_yes pi pl la0.length la1.length ci cl U f1 f2
      by_cases hM : MayT la0 la1
      · have HT := Lib.hid fun (U : World) (k : Below w.heap.size w U) => ltold_c (.slice pl la1.length cl) la1 U (by omega) (HL.out.below k)
        have HRC := Lib.hid fun (U : World) (k : Below w.heap.size w U) => rchk_ok (HI.out.below k) (HL.out.below k) qi qa1 hM
        have HM := Lib.hid hM
        clear hM
        have HRG := Lib.hid fun (U : World) (v : Value) (l : List Int) (hr : RowsAt 1 cellsU64 U v l) (hc : CapOk v) (hl : l.length ≤ 9223372036854775807) (hm : MayT l la1) (he : restL l la1 = restL la0 la1) (u : Value) (h : RowsAt 5 cellsLk U u la1) => (show Calls Try.prog 13 #[v, u] U fun e w' => ∃ g c, e = .returned (.tuple #[.slice (some ⟨g, 0, none⟩) la1.length c, .int .i64 0]) ∧ U.heap.size ≤ g ∧ RowsAt 2 cellsPr w' (.slice (some ⟨g, 0, none⟩) la1.length c) (restL la0 la1) ∧ Below U.heap.size U w' from by rw [← he]; exact rest_own hr hc h hl qa1 hm)
        have HLN := Lib.hid (show (restL la0 la1).length = la1.length by simp [restL])
        obtain ⟨pi', ci', bi, oi, hsi, hpi, hci⟩ := HI.out
        obtain ⟨rfl, rfl⟩ : pi = pi' ∧ ci = ci' := by simpa using hsi
        have HPI := Lib.hid (fun (h : 0 < la0.length) => hpi (fun e => by rw [e] at h; simp at h))
        have HCI := Lib.hid (fun b (hb : b < la0.length) => (show w.cell? ⟨bi, oi + b, none⟩ = some (.int .u64 (idAt la0 b)) by have := hci b _ (idAt_at hb) 0 _ rfl; simpa using this))
        obtain ⟨j0, hj0, jz0, jz1, jz2⟩ := info_parts info_U
        have GP := guard_P
        clear hsi hpi hci
        go_enter Try.func8, Try.ntmps8
        go_wp2_with fail
        ((with_reducible refine (HF.out _).mono ?_); rintro e w1 ⟨rfl, rfl⟩)
        go_wp2_with fail
        ((with_reducible refine (HRC.out _ K0.out).mono ?_); rintro e w1 ⟨rfl, hb⟩)
        have K1 := Lib.hid (K0.out.trans (hb.mono K0.out.size))
        clear hb
        obtain ⟨n, hn⟩ : ∃ n, n = la0.length := ⟨_, rfl⟩
        have HNN := Lib.hid hn
        rw [← hn] at f1 d10 h10 HPI HCI ⊢
        clear hn HRC HF
        go_wp2_with fail
        go_loopw [5, 6] (fun s5 i wr => ∃ k : Nat, k ≤ n ∧ i = .int .i64 k ∧ Hid (wr.ownsRow w1.heap.size 44 1 s5 k (((la0.map phi).take k).flatMap cellsU64)) ∧ Hid (Below w1.heap.size w1 wr)) (fun _ i _ => n - (intOf i).toNat)
        case atStart => exact ⟨0, Nat.zero_le _, rfl, Lib.hid (World.ownsRow_nil _ _ _ _), Lib.hid (Below.refl _ _)⟩
        case round =>
          obtain ⟨k, hk, rfl, HO, KB⟩ := hrel
          by_cases hlt : k < n
          · obtain rfl := HPI.out (by omega)
            have KQ := Lib.hid (K1.out.trans (KB.out.mono K1.out.size))
            have xi : wr.cell? ⟨bi, oi + k, none⟩ = some (.int .u64 (idAt la0 k)) := gcell_below KQ.out (HCI.out k hlt)
            have HSN := Lib.hid (phi_snoc (la := la0) (k := k) (by rw [← HNN.out]; exact hlt))
            have x0 : 0 ≤ idAt la0 k := HID.out _ (by rw [id_at (by rw [← HNN.out]; exact hlt)]; exact List.getElem_mem _)
            have d1 : decide (k < n) = true := decide_eq_true hlt
            have d2 : decide ((k : Int) < (n : Int)) = true := decide_eq_true (by omega)
            have d3 : decide (n ≤ k) = false := decide_eq_false (by omega)
            have d4 : decide (0 ≤ (k : Int)) = true := decide_eq_true (by omega)
            generalize idAt la0 k = x at xi HSN x0
            by_cases hx : 1152921504606846976 ≤ x
            · have g1 : decide (1152921504606846976 ≤ x) = true := decide_eq_true hx
              clear hx
              go_wp2_with fail
              ((with_reducible refine (HLV.out _).mono ?_); rintro e wv ⟨rfl, hv⟩)
              have KV := Lib.hid (KQ.out.trans (hv.mono KQ.out.size))
              clear hv
              go_wp2_with fail
              go_ret
              exact ⟨rfl, KV.out⟩
            · have g1 : decide (1152921504606846976 ≤ x) = false := decide_eq_false hx
              have r1 : IntKind.u64.wrap (x + 1) = x + 1 := IntWalk.u64_in _ (by omega)
              have r2 : IntKind.u64.wrap (2 * (x + 1)) = 2 * (x + 1) := IntWalk.u64_in _ (by omega)
              have HPX := Lib.hid (show phi x = 2 * (x + 1) from rfl)
              rw [HPX.out] at HSN
              have NEW := Lib.hid (cells_new wr [.int .u64 (2 * (x + 1))] 44)
              have HO5 := Lib.hid (HO.out.alloc (.cells #[.int .u64 (2 * (x + 1))] 44))
              have K5 := Lib.hid (KB.out.alloc KB.out.size (.cells #[.int .u64 (2 * (x + 1))] 44))
              have n11 := Lib.hid (show k + 1 ≤ maxLen by unfold maxLen; omega)
              have n22 := Lib.hid (show (k + 1) * 8 ≤ 140737488355328 by omega)
              have n33 := Lib.hid (show w1.heap.size ≤ (wr.alloc (.cells #[.int .u64 (2 * (x + 1))] 44)).heap.size from K5.out.size)
              have oc := Lib.hid (one_u64 (2 * (x + 1)))
              clear hx x0
              go_wp2_with (at_builtin; refine wpList_append_own _ rfl _ _ 22 rfl w1.heap.size 44 j0 (.int .u64 0) 1 8 Try.underlying22 hj0 jz0 jz1 jz2 rfl (by decide) _ _ _ rfl HO5.out ⟨wr.heap.size, 0, none⟩ 1 1 [.int .u64 (2 * (x + 1))] rfl rfl NEW.out oc.out n11.out n22.out n33.out ?_)
              intro v' w6 hown' hgrow _
              have HO6 := Lib.hid hown'
              have K6 := Lib.hid (K5.out.grown hgrow n33.out (fun j hj => (HO5.out.lt j hj).1))
              clear hown' hgrow HO5 K5 NEW r1 r2
              go_wp2_with fail
              go_roundw
              case rel => exact ⟨k + 1, by omega, by go_num, Lib.hid (by rw [HSN.out]; exact HO6.out), K6⟩
              case measure => simp [intOf]; omega
          · obtain rfl : k = n := by omega
            rw [List.take_of_length_le (by rw [List.length_map, HNN.out]; exact Nat.le_refl _)] at HO
            have KQ := Lib.hid (K1.out.trans (KB.out.mono K1.out.size))
            have HM1 := Lib.hid (scaled_may HM.out)
            have HM2 := Lib.hid (more_may HM.out HID.out (by rw [← HNN.out]; omega))
            have HE1 := Lib.hid (rest_scaled HM.out HID.out (more := la0.map phi) (fun b hb => scaled_id b hb) (Or.inl (by simp)))
            have HE2 := Lib.hid (rest_scaled HM.out HID.out (more := la0.map phi ++ [1]) (fun b hb => more_id b hb) (Or.inr (by simp)))
            have l10 : k ≤ 10 := by omega
            have SZ := Lib.hid KB.out.size
            clear hlt hk
            go_wp2_with fail
            ((with_reducible refine (HT.out _ KQ.out).mono ?_); rintro e w2 ⟨u, rfl, ru, hb⟩)
            have K2 := Lib.hid (KQ.out.trans (hb.mono KQ.out.size))
            replace SZ := Lib.hid (Nat.le_trans SZ.out hb.size)
            have RU := Lib.hid ru
            replace HO := Lib.hid (iowns_below HO.out hb)
            clear ru
            clear hb
            go_wp2_with fail
            ((with_reducible refine (HRG.out _ _ la0 (by rw [HNN.out]; exact HI.out.below K2.out) (by rw [HNN.out]; exact HC.out) (by rw [← HNN.out]; omega) HM.out rfl _ RU.out).mono ?_); rintro e w3 ⟨ga, ca, rfl, gea, ra, hb⟩)
            have K3 := Lib.hid (K2.out.trans (hb.mono K2.out.size))
            replace SZ := Lib.hid (Nat.le_trans SZ.out hb.size)
            have RA := Lib.hid ra
            have NA := Lib.hid (own_lt HO.out gea)
            replace HO := Lib.hid (iowns_below HO.out hb)
            clear ra gea
            clear hb
            go_wp2_with fail
            ((with_reducible refine (HT.out _ K3.out).mono ?_); rintro e w4 ⟨u2, rfl, ru, hb⟩)
            have K4 := Lib.hid (K3.out.trans (hb.mono K3.out.size))
            replace SZ := Lib.hid (Nat.le_trans SZ.out hb.size)
            have RU2 := Lib.hid ru
            replace HO := Lib.hid (iowns_below HO.out hb)
            replace RA := Lib.hid (RA.out.below hb)
            clear ru
            clear hb
            go_wp2_with fail
            ((with_reducible refine (HRG.out _ _ (la0.map phi) (rowsAt_own (by decide) u64_len HO.out) (cap_own HO.out) (by rw [List.length_map, ← HNN.out]; omega) HM1.out HE1.out _ RU2.out).mono ?_); rintro e w5 ⟨gb, cb, rfl, geb, rb, hb⟩)
            have K5 := Lib.hid (K4.out.trans (hb.mono K4.out.size))
            replace SZ := Lib.hid (Nat.le_trans SZ.out hb.size)
            have RB := Lib.hid rb
            have NB := Lib.hid (own_lt HO.out geb)
            replace HO := Lib.hid (iowns_below HO.out hb)
            replace RA := Lib.hid (RA.out.below hb)
            clear rb geb
            clear hb
            have KS := Lib.hid (show w1.heap.size ≤ w5.heap.size from SZ.out)
            have NEW := Lib.hid (cells_new w5 [.int .u64 1] 44)
            have HOA := Lib.hid (HO.out.alloc (.cells #[.int .u64 1] 44))
            have kal := (Below.refl w5.heap.size w5).alloc (Nat.le_refl _) (.cells #[.int .u64 1] 44)
            have RA5 := Lib.hid (RA.out.below kal)
            have RB5 := Lib.hid (RB.out.below kal)
            have n11 := Lib.hid (show k + 1 ≤ maxLen by unfold maxLen; omega)
            have n22 := Lib.hid (show (k + 1) * 8 ≤ 140737488355328 by omega)
            have n33 := Lib.hid (show w1.heap.size ≤ (w5.alloc (.cells #[.int .u64 1] 44)).heap.size by
              have h1 := KS.out
              simp
              omega)
            have oc := Lib.hid (one_u64 1)
            have KAL := Lib.hid (K5.out.alloc K5.out.size (.cells #[.int .u64 1] 44))
            clear RU RU2 kal
            go_wp2_with (at_builtin; refine wpList_append_own _ rfl _ _ 22 rfl w1.heap.size 44 j0 (.int .u64 0) 1 8 Try.underlying22 hj0 jz0 jz1 jz2 rfl (by decide) _ _ _ rfl HOA.out ⟨w5.heap.size, 0, none⟩ 1 1 [.int .u64 1] rfl rfl NEW.out oc.out n11.out n22.out n33.out ?_)
            intro v' w6 hown' hgrow _
            have HO6 := Lib.hid hown'
            have K6 := Lib.hid (KAL.out.grown hgrow (Nat.le_trans K5.out.size (by simp)) (fun j hj => Nat.le_trans K1.out.size (HOA.out.lt j hj).1))
            have RA6 := Lib.hid (rows_far RA5.out hgrow NA.out)
            have RB6 := Lib.hid (rows_far RB5.out hgrow NB.out)
            have HO7 := Lib.hid (show w6.ownsRow w1.heap.size 44 1 v' (k + 1) ((la0.map phi ++ [1]).flatMap cellsU64) by have h := HO6.out; rw [List.flatMap_append]; exact h)
            clear hown' hgrow HOA NEW HO6 KAL RA5 RB5 RA RB
            go_wp2_with fail
            ((with_reducible refine (HT.out _ K6.out).mono ?_); rintro e w7 ⟨u3, rfl, ru, hb⟩)
            have K7 := Lib.hid (K6.out.trans (hb.mono K6.out.size))
            have RU3 := Lib.hid ru
            replace HO7 := Lib.hid (iowns_below HO7.out hb)
            replace RA6 := Lib.hid (RA6.out.below hb)
            replace RB6 := Lib.hid (RB6.out.below hb)
            clear ru
            clear hb
            go_wp2_with fail
            ((with_reducible refine (HRG.out _ _ (la0.map phi ++ [1]) (rowsAt_own (by decide) u64_len HO7.out) (cap_own HO7.out) (by rw [List.length_append, List.length_map, ← HNN.out]; simp; omega) HM2.out HE2.out _ RU3.out).mono ?_); rintro e w8 ⟨gc, cc, rfl, gec, rc_, hb⟩)
            have K8 := Lib.hid (K7.out.trans (hb.mono K7.out.size))
            have RC := Lib.hid rc_
            replace RA6 := Lib.hid (RA6.out.below hb)
            replace RB6 := Lib.hid (RB6.out.below hb)
            clear rc_ gec
            clear hb
            have RR := Lib.hid (fun (U : World) (g c : Nat) (h : RowsAt 2 cellsPr U (.slice (some ⟨g, 0, none⟩) la1.length c) (restL la0 la1)) (j : Nat) (x : Int × Int) (hj : (restL la0 la1)[j]? = some x) => rows_at0 h hj)
            clear HRG HO7 RU3 NA NB HT HM1 HM2 HE1 HE2
            go_wp2_with fail
            obtain ⟨wb, rfl⟩ : ∃ wb, wb = w8 := ⟨_, rfl⟩
            go_loopw [13] (fun i wr => ∃ q : Nat, q ≤ la1.length ∧ i = .int .i64 q ∧ Hid (Below wb.heap.size wb wr)) (fun i _ => la1.length - (intOf i).toNat)
            case atStart => exact ⟨0, Nat.zero_le _, rfl, Lib.hid (Below.refl _ _)⟩
            case round =>
              obtain ⟨q, hq, rfl, KB⟩ := hrel
              by_cases hlt : q < la1.length
              · obtain ⟨x, hx⟩ : ∃ x, (restL la0 la1)[q]? = some x := ⟨_, List.getElem?_eq_getElem (by rw [HLN.out]; exact hlt)⟩
                obtain ⟨a0', a1'⟩ := RR.out wr ga ca (RA6.out.below KB.out) q x hx
                obtain ⟨b0', b1'⟩ := RR.out wr gb cb (RB6.out.below KB.out) q x hx
                obtain ⟨c0', c1'⟩ := RR.out wr gc cc (RC.out.below KB.out) q x hx
                obtain ⟨ra, rb⟩ := x
                simp only at a0' a1' b0' b1' c0' c1'
                have d1 : decide (q < la1.length) = true := decide_eq_true hlt
                have d2 : decide ((q : Int) < (la1.length : Int)) = true := decide_eq_true (by omega)
                have d3 : decide (la1.length ≤ q) = false := decide_eq_false (by omega)
                have d4 : decide (0 ≤ (q : Int)) = true := decide_eq_true (by omega)
                have E1 := fun U => neq_P ra rb ra rb U
                have E2 := fun U => equalIn_P ra rb ra rb U
                simp only [beq_self_eq_true, Bool.and_self, Bool.not_true] at E1 E2
                clear hx
                go_wp2_with fail
                go_quiet (fail)
                have KB2 := Lib.hid (below_drewN KB.out nq)
                clear a0' a1' b0' b1' c0' c1' d1 d2 d3 d4 E1 E2
                go_wp2_with fail
                go_roundw
                case rel => exact ⟨q + 1, by omega, by go_num, KB2⟩
                case measure => simp [intOf]; omega
              · obtain rfl : q = la1.length := by omega
                have KZ := Lib.hid (K8.out.trans (KB.out.mono K8.out.size))
                clear hlt GP
                go_wp2_with fail
                ((with_reducible refine (HLV.out _).mono ?_); rintro e wv ⟨rfl, hv⟩)
                have KV := Lib.hid (KZ.out.trans (hv.mono KZ.out.size))
                clear hv
                go_wp2_with fail
                go_ret
                exact ⟨rfl, KV.out⟩
      · have HT := Lib.hid fun (U : World) (k : Below w.heap.size w U) => ltold_c (.slice pl la1.length cl) la1 U (by omega) (HL.out.below k)
        have HRC := Lib.hid fun (U : World) (k : Below w.heap.size w U) => rchk_not (HI.out.below k) (HL.out.below k) qi qa1 hM
        have HM := Lib.hid hM
        clear hM
        go_enter Try.func8, Try.ntmps8
        go_wp2_with fail
        ((with_reducible refine (HF.out _).mono ?_); rintro e w1 ⟨rfl, rfl⟩)
        go_wp2_with fail
        ((with_reducible refine (HRC.out _ K0.out).mono ?_); rintro e w1 ⟨rfl, hb⟩)
        have K1 := Lib.hid (K0.out.trans (hb.mono K0.out.size))
        clear hb
        go_wp2_with fail
        ((with_reducible refine (HLV.out _).mono ?_); rintro e wv ⟨rfl, hv⟩)
        have KV := Lib.hid (K1.out.trans (hv.mono K1.out.size))
        clear hv
        go_wp2_with fail
        go_ret
        exact ⟨rfl, KV.out⟩
    · have HF := Lib.hid fun (U : World) => few_no pi pl la0.length la1.length ci cl U hf
      clear hf
      go_enter Try.func8, Try.ntmps8
      go_wp2_with fail
      ((with_reducible refine (HF.out _).mono ?_); rintro e w1 ⟨rfl, rfl⟩)
      go_wp2_with fail
      ((with_reducible refine (HLV.out _).mono ?_); rintro e wv ⟨rfl, hv⟩)
      have KV := Lib.hid (K0.out.trans (hv.mono K0.out.size))
      clear hv
      go_wp2_with fail
      go_ret
      exact ⟨rfl, KV.out⟩

theorem own : ownKnob Try.prog.godebug = none := by kernel_rfl
theorem laidOut : laidOutB Try.prog = true := by kernel_rfl

set_option maxHeartbeats 1000000 in
set_option maxRecDepth 100000 in
theorem lifted (os : Os) (started : os.Started) (H : Type) (enc : TypeId × Value → H) :
    ReturnsInHanded {} Try.checked os 8 .any (Rows.treeScaledSpec.pre6 enc Try.prog Try.f8 Rows.treeScaledRow.domain false) (Rows.treeScaledSpec.post enc Try.prog Try.f8 false true false false) := by
  refine returnsInHanded_of_change_sized (C := Try.checked) own started (by kernel_rfl) Try.func8
    (ChangeSpec.witness6 (enc := enc) (C := Try.checked) false ⟨#[], #[.slice none 0 0, .slice none 0 0], []⟩ 8 (by kernel_rfl) (by kernel_rfl) (by kernel_rfl) (by kernel_rfl)) ?_
  intro W base args ds gs before hval0 hW hcnd hsz0 hholds
  have hval : ∀ (j : Nat) t v, Try.f8.params[j]? = some t → args[j]? = some v → Value.okWide Try.prog W .any base t v := hval0
  have hsz : (DataW.weightsEach Try.prog (Try.f8.params.toList ++ Rows.treeScaledSpec.plain.varTypes Try.prog) (ds ++ gs)).all (· ≤ reachBytes) = true := hsz0
  have hW' := hW
  obtain ⟨p, q, hA0, hV, rfl, hfz, hnd⟩ := hW
  have hA : DataW.TrodAll enc Try.prog W 0 (fun _ => true) true Try.f8.params.toList args.toList ds p := hA0
  rw [Try.params8] at hA hval hsz
  obtain ⟨v0, vs0, d0, ds0, p0, q0, hargs, rfl, rfl, h0, r0⟩ := trodAll_cons hA
  obtain ⟨v1, vs1, d1, ds1, p1, q1, rfl, rfl, rfl, h1, r1⟩ := trodAll_cons r0
  obtain ⟨rfl, rfl, rfl⟩ := trodAll_nil r1
  obtain rfl : args = #[v0, v1] := by cases args; simp_all
  obtain ⟨rfl, rfl⟩ := trodVars_none hV
  have k0 := h0
  have lt0 : ∀ x ∈ p0, x.block < W.heap.size := by obtain ⟨m, hm⟩ := k0; exact DataW.trod_lt m _ _ _ hm
  have k1 := h1
  have lt1 : ∀ x ∈ p1, x.block < W.heap.size := by obtain ⟨m, hm⟩ := k1; exact DataW.trod_lt m _ _ _ hm
  obtain ⟨sa0, sl0, sc0, rfl⟩ := okWide_slice Try.underlying22 (hval 0 22 v0 rfl rfl)
  obtain ⟨fu0, hf0⟩ := h0
  obtain ⟨vv0, L0, e0, hh0, qq0, ss0⟩ := openU64 hf0
  simp [Value.cells] at e0
  subst e0
  obtain ⟨sa1, sl1, sc1, rfl⟩ := okWide_slice Try.underlying23 (hval 1 23 v1 rfl rfl)
  obtain ⟨fu1, hf1⟩ := h1
  obtain ⟨vv1, L1, e1, hh1, qq1, ss1⟩ := openLkR hf1
  simp [Value.cells] at e1
  subst e1
  clear hA0 hval0
  refine (walk (.slice sa0 sl0 sc0) L0 (.slice sa1 sl1 sc1) L1 W hh0 qq0 ss0 hh1 qq1 ss1).mono fun e W' ⟨he, bel⟩ => ?_
  subst he
  exact ⟨_, rfl, _, _, _, [], _, [], hW', trodAll_mk1 (shut_bool Try.underlying4 _), (trodAll_cons_mk (Below.trod laidOut (by kernel_rfl) (of_decide_eq_true (by kernel_rfl)) k0 bel lt0) (trodAll_cons_mk (Below.trod laidOut (by kernel_rfl) (of_decide_eq_true (by kernel_rfl)) k1 bel lt1) trodAll_mk0)), rfl, bel.frame _, fun h => by cases h⟩

theorem over : Rows.treeScaledRow.holds Try.pinned (OpenSpec.ofChange Rows.treeScaledSpec) :=
  OpenClaim.holds_of_wide 8 Try.f8 rfl rfl rfl rfl rfl rfl rfl ⟨rfl, rfl, rfl, rfl, rfl⟩ rfl rfl rfl rfl rfl (by kernel_rfl) Try.func8 (by kernel_rfl)
    (of_decide_eq_true (by kernel_rfl)) (by unfold Func.isWrapper; first | (rw [if_pos (by decide +kernel)]; kernel_rfl) | (rw [if_neg (by decide +kernel)]; exact ⟨rfl, rfl⟩))
    (fun os started H enc _ => lifted os started H enc)

/-- The statement. -/
theorem proved : Rows.TreeScaledSaid := over
#print axioms proved
end Go.Proofs.Ytolmkflhddlcnaa.treeScaledLaw
