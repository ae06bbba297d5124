/-
  'siphonlaw16.TreeRoots' returns true, whatever the input, and each argument reads behind the call as it read before. Conditions: none beyond those that the row itself states.
-/
import Derived.Test.YtolmkflhddlcnaaRows
import Derived.Test.YtolmkflhddlcnaaRowLkR
import Derived.Test.YtolmkflhddlcnaaTaR
import Derived.Test.YtolmkflhddlcnaaTrK
import Derived.WalkKit
import Derived.ProofKit
import Derived.OpenShut
import Derived.ShutString
import Derived.ChangeOld
import Derived.Below
import Derived.Carry
import Derived.SizedLaws
import Derived.Lib.SmallJoins
import Derived.ChangeArms
import Derived.WideShapes
namespace Go.Proofs.Ytolmkflhddlcnaa.treeRootsLaw
open Go.ChangeShapes Go.WideShapes Go.ChangeAt Go.RowKit Go.Joins
open Go.ChangeMaps (open_string shut_string)
set_option linter.unusedVariables false

set_option maxHeartbeats 16000000 in
set_option maxRecDepth 100000 in
theorem walk (a0 : Value) (la0 : List U64) (a1 : Value) (la1 : List LkR) (w : World) (ha0 : RowsAt 1 cellsU64 w a0 la0) (qa0 : la0.length ≤ maxLen ∧ CapOk a0) (sa0 : ∀ r ∈ la0, GoodU64 r) (ha1 : RowsAt 5 cellsLkR w a1 la1) (qa1 : la1.length ≤ maxLen) (sa1 : ∀ r ∈ la1, GoodLkR r) :
    Calls Try.prog 6 #[a0, a1] w fun e w' => e = .returned (.bool true) ∧ Below w.heap.size w w' := by
  have HLV := Lib.hid fun U => live16_c U
  have ha1' : RowsAt 5 cellsLk w a1 la1 := ha1
  have hcap := qa0.2
  have qi := qa0.1
  unfold maxLen at qi qa1
  obtain ⟨pi, ci, rfl⟩ := ha0.slice
  obtain ⟨pl, cl, rfl⟩ := ha1.slice
  have HI := Lib.hid ha0
  have HL := Lib.hid ha1'
  have HC := Lib.hid hcap
  have HID := Lib.hid (fun x hx => (sa0 x hx).1 : ∀ x ∈ la0, (0 : Int) ≤ x)
  have K0 := Lib.hid (Below.refl w.heap.size w)
  clear ha0 ha1 ha1' hcap qa0 sa0 sa1
  by_cases hf : la0.length ≤ 12 ∧ la1.length ≤ 30
  · obtain ⟨f1, f2⟩ := hf
    have HF := Lib.hid fun (U : World) => few_yes pi pl la0.length la1.length ci cl U f1 f2
    by_cases hM : MayT la0 la1
    · have HT := Lib.hid fun (U : World) (k : Below w.heap.size w U) => ltold_c (.slice pl la1.length cl) la1 U (by omega) (HL.out.below k)
      have HRC := Lib.hid fun (U : World) (k : Below w.heap.size w U) => rchk_ok (HI.out.below k) (HL.out.below k) qi qa1 hM
      have HRE := Lib.hid fun (U : World) (k : Below w.heap.size w U) (u : Value) (h : RowsAt 5 cellsLk U u la1) => rest_ok (HI.out.below k) HC.out h qi qa1 hM
      have HM := Lib.hid hM
      clear hM
      have HLN := Lib.hid (show (restL la0 la1).length = la1.length by simp [restL])
      have HCL : ∃ (b off : Nat), (la1 ≠ [] → pl = some ⟨b, off, none⟩) ∧ Hid (∀ j x, la1[j]? = some x → ∀ i u, (cellsLk x)[i]? = some u → w.cell? ⟨b, off + j * 5 + i, none⟩ = some u) := by
        obtain ⟨p, c, b, off, hs, hp, hc⟩ := HL.out
        obtain ⟨rfl, rfl⟩ : pl = p ∧ cl = c := by simpa using hs
        exact ⟨b, off, hp, Lib.hid hc⟩
      obtain ⟨bl, offl, hpl, HCF⟩ := HCL
      have HPL := Lib.hid hpl
      have HCL := Lib.hid (fun j x (hj : la1[j]? = some x) => HCF.out j x hj 4 _ rfl)
      clear hpl
      have HTW := Lib.hid fun (U : World) (k : Below w.heap.size w U) (vs : Value) (S : List Int) (h : IntsAt U vs S) (s40 : S.length ≤ 40) (hs : ∀ i ∈ S, 0 ≤ i ∧ i < la1.length) => rtog_c (w := U) (n := la0.length) (vl := .slice pl la1.length cl) (HL.out.below k) h f1 (by omega) s40 (ok_links HM.out) hs
      go_enter Try.func6, Try.ntmps6
      go_wp2_with fail
      ((with_reducible refine (HF.out _).mono ?_); rintro e w1 ⟨rfl, rfl⟩)
      go_wp2_with fail
      ((with_reducible refine (HRC.out _ K0.out).mono ?_); rintro e w1 ⟨rfl, hb⟩)
      have K1 := Lib.hid (K0.out.trans (hb.mono K0.out.size))
      clear hb
      obtain ⟨j0, hj0, jz0, jz1, jz2⟩ := info_parts info_It
      go_wp2_with fail
      go_loopw [5, 6] (fun s5 i wr => ∃ k : Nat, k ≤ la1.length ∧ i = .int .i64 k ∧ Hid (wr.ownsRow w1.heap.size 3 1 s5 k (allV k)) ∧ Hid (Below w1.heap.size w1 wr)) (fun _ i _ => la1.length - (intOf i).toNat)
      case atStart => exact ⟨0, Nat.zero_le _, rfl, Lib.hid (World.ownsRow_nil _ _ _ _), Lib.hid (Below.refl _ _)⟩
      case round =>
        obtain ⟨k, hk, rfl, HO, KB⟩ := hrel
        by_cases hlt : k < la1.length
        · obtain ⟨x, hx⟩ : ∃ x, la1[k]? = some x := ⟨_, List.getElem?_eq_getElem hlt⟩
          have hne : la1 ≠ [] := by rintro rfl; simp at hx
          obtain rfl := HPL.out hne
          have HX4 := Lib.hid (HCL.out k _ hx)
          generalize x.2.2.2.2 = c at HX4
          have HSN := Lib.hid (allV_snoc k)
          have d1 : decide (k < la1.length) = true := decide_eq_true hlt
          have d2 : decide ((k : Int) < (la1.length : Int)) = true := decide_eq_true (by omega)
          have d3 : decide (la1.length ≤ k) = false := decide_eq_false (by omega)
          have d4 : decide (0 ≤ (k : Int)) = true := decide_eq_true (by omega)
          have NEW := Lib.hid (cells_new wr [.int .i64 (k : Int)] 3)
          have HO5 := Lib.hid (HO.out.alloc (.cells #[.int .i64 (k : Int)] 3))
          have K5 := Lib.hid (KB.out.alloc KB.out.size (.cells #[.int .i64 (k : Int)] 3))
          have n11 := Lib.hid (show k + 1 ≤ maxLen by unfold maxLen; omega)
          have n22 := Lib.hid (show (k + 1) * 8 ≤ 140737488355328 by omega)
          have n33 := Lib.hid (show w1.heap.size ≤ (wr.alloc (.cells #[.int .i64 (k : Int)] 3)).heap.size from K5.out.size)
          have oc := Lib.hid (one_int (k : Int))
          clear hx hne
          go_wp2_with (at_builtin; refine wpList_append_own _ rfl _ _ 33 rfl w1.heap.size 3 j0 (.int .i64 0) 1 8 Try.underlying33 hj0 jz0 jz1 jz2 rfl (by decide) _ _ _ rfl HO5.out ⟨wr.heap.size, 0, none⟩ 1 1 [.int .i64 (k : Int)] rfl rfl NEW.out oc.out n11.out n22.out n33.out ?_)
          intro v' w6 hown' hgrow _
          have HO6 := Lib.hid hown'
          have K6 := Lib.hid (K5.out.grown hgrow n33.out (fun j hj => (HO5.out.lt j hj).1))
          have K61 := Lib.hid (K1.out.trans (K6.out.mono K1.out.size))
          have x4 : w6.cell? ⟨bl, offl + k * 5 + 4, none⟩ = some (.int .i64 c) := gcell_below K61.out HX4.out
          clear hown' hgrow HO5 K5 NEW
          by_cases hc : 1000000 < c
          · have g1 : decide (1000000 < c) = true := decide_eq_true hc
            go_wp2_with fail
            ((with_reducible refine (HLV.out _).mono ?_); rintro e wv ⟨rfl, hv⟩)
            have KV := Lib.hid (K61.out.trans (hv.mono K61.out.size))
            clear hv
            go_wp2_with fail
            go_ret
            exact ⟨rfl, KV.out⟩
          · have g1 : decide (1000000 < c) = false := decide_eq_false hc
            clear hc
            go_wp2_with fail
            go_roundw
            case rel => exact ⟨k + 1, by omega, by go_num, Lib.hid (by rw [HSN.out]; exact HO6.out), K6⟩
            case measure => simp [intOf]; omega
        · obtain rfl : k = la1.length := by omega
          have HALL := Lib.hid (IntsAt.of_owns (l := (List.range la1.length).map fun i : Nat => (i : Int)) HO.out)
          have KQ := Lib.hid (K1.out.trans (KB.out.mono K1.out.size))
          clear hlt hk HO KB
          go_wp2_with fail
          ((with_reducible refine (HT.out _ KQ.out).mono ?_); rintro e w2 ⟨u, rfl, ru, hb⟩)
          have K2 := Lib.hid (KQ.out.trans (hb.mono KQ.out.size))
          have RU := Lib.hid ru
          replace HALL := Lib.hid (HALL.out.below hb)
          clear ru
          clear hb
          go_wp2_with fail
          ((with_reducible refine (HRE.out _ K2.out _ RU.out).mono ?_); rintro e w3 ⟨ur, rfl, rr, hb⟩)
          have K3 := Lib.hid (K2.out.trans (hb.mono K2.out.size))
          have RR := Lib.hid rr
          replace HALL := Lib.hid (HALL.out.below hb)
          clear rr
          clear hb
          have ln1 : (restL la0 la1).length = la1.length := HLN.out
          obtain ⟨p1, c1, b1, o1, hs1, hp1, hc1⟩ := RR.out
          rw [ln1] at hs1
          subst hs1
          have HP1 := Lib.hid hp1
          have HC1 := Lib.hid hc1
          clear hp1 hc1 ln1 RU RR HRE HRC HF HT
          have RW1 := Lib.hid (HTW.out _ K3.out _ _ HALL.out (by simp; omega) range_bound)
          rw [all_links] at RW1
          go_wp2_with fail
          ((with_reducible refine (RW1.out).mono ?_); rintro e w4 ⟨uw, rfl, iw, hb⟩)
          have K4 := Lib.hid (K3.out.trans (hb.mono K3.out.size))
          have IW := Lib.hid iw
          have K34 := Lib.hid hb
          clear iw
          clear hb
          obtain ⟨pw, cw, bw, ow, hsw, hpw, hcw⟩ := IW.out
          have lw : ((List.range la0.length).map fun b => (togT la1 la0.length b : Int)).length = la0.length := by simp
          rw [lw] at hsw
          subst hsw
          have HPW := Lib.hid (fun (h : 0 < la0.length) => hpw (fun e => by have h2 : la0.length = 0 := lw.symm.trans (congrArg List.length e); omega))
          have HCW := Lib.hid (fun b (hb : b < la0.length) => hcw b (togT la1 la0.length b : Int) (by rw [List.getElem?_map, List.getElem?_range hb]; rfl))
          obtain ⟨pi', ci', bi, oi, hsi, hpi, hci⟩ := HI.out
          obtain ⟨rfl, rfl⟩ : pi = pi' ∧ ci = ci' := by simpa using hsi
          have HPI := Lib.hid (fun (h : 0 < la0.length) => hpi (fun e => by rw [e] at h; simp at h))
          have HCI := Lib.hid (fun b (hb : b < la0.length) => (show w.cell? ⟨bi, oi + b, none⟩ = some (.int .u64 (idAt la0 b)) by have := hci b _ (idAt_at hb) 0 _ rfl; simpa using this))
          have HLA := Lib.hid (fun b (hb : b < la0.length) => (cnt_all la0 la1 b).trans (les_all HM.out HID.out hb))
          have HRA := Lib.hid (fun (i : Nat) (l : Lk) (h : la1[i]? = some l) => (show (restL la0 la1)[i]? = some (roleE la0 la1 (endA l), roleE la0 la1 (endB l)) by unfold restL; rw [List.getElem?_map, h]; rfl))
          clear hpw hcw lw RW1 IW HALL HTW hsi hpi hci
          obtain ⟨n, hn⟩ : ∃ n, n = la0.length := ⟨_, rfl⟩
          have HNN := Lib.hid hn
          rw [← hn] at f1 HPW HCW HPI HCI HLA HI HC ⊢
          clear hn
          go_wp2_with fail
          obtain ⟨wb, rfl⟩ : ∃ wb, wb = w4 := ⟨_, rfl⟩
          go_loopw [10, 11, 12, 13, 14] (fun i _ _ _ _ wr => ∃ b : Nat, b ≤ n ∧ i = .int .i64 b ∧ Hid (Below wb.heap.size wb wr)) (fun i _ _ _ _ _ => n - (intOf i).toNat)
          case atStart => exact ⟨0, Nat.zero_le _, rfl, Lib.hid (Below.refl _ _)⟩
          case round =>
            obtain ⟨b, hb, rfl, KB⟩ := hrel
            by_cases hlt : b < n
            · obtain rfl := HPW.out (by omega)
              obtain rfl := HPI.out (by omega)
              have HBN := Lib.hid hlt
              have d1 : decide (b < n) = true := decide_eq_true hlt
              have d2 : decide ((b : Int) < (n : Int)) = true := decide_eq_true (by omega)
              have d3 : decide (n ≤ b) = false := decide_eq_false (by omega)
              have d4 : decide (0 ≤ (b : Int)) = true := decide_eq_true (by omega)
              clear hlt
              go_wp2_with fail
              go_loopw [11, 12] (fun s11 i wt => ∃ q : Nat, q ≤ la1.length ∧ i = .int .i64 q ∧ s11 = .int .i64 (cntT la0 la1 b q : Int) ∧ wr = wt) (fun _ i _ => la1.length - (intOf i).toNat)
              case atStart => exact ⟨0, Nat.zero_le _, rfl, rfl, by trivial⟩
              case round =>
                obtain ⟨q, hq, rfl, rfl, rfl⟩ := hrel
                have cle := cnt_le la0 la1 b q
                by_cases hlt : q < la1.length
                · obtain ⟨l, hl⟩ : ∃ l, la1[q]? = some l := ⟨_, List.getElem?_eq_getElem hlt⟩
                  have hne : la1 ≠ [] := by rintro rfl; simp at hl
                  obtain rfl := HPL.out hne
                  have hx := HRA.out q l hl
                  have hne2 : restL la0 la1 ≠ [] := by intro e; rw [e] at hx; simp at hx
                  obtain rfl := HP1.out hne2
                  have KWW := Lib.hid (K4.out.trans (KB.out.mono K4.out.size))
                  have KW3 := Lib.hid (K34.out.trans (KB.out.mono K34.out.size))
                  have CS := Lib.hid (cnt_step (ids := la0) (b := b) hl)
                  have xa : wr.cell? ⟨bl, offl + q * 5, none⟩ = some (.int .i64 l.1) := gcell_below KWW.out (HCF.out q l hl 0 _ rfl)
                  have xb : wr.cell? ⟨bl, offl + q * 5 + 2, none⟩ = some (.int .i64 l.2.2.1) := gcell_below KWW.out (HCF.out q l hl 2 _ rfl)
                  have ra : wr.cell? ⟨b1, o1 + q * 2, none⟩ = some (.int .i64 (roleE la0 la1 (endA l))) := gcell_below KW3.out (HC1.out q _ hx 0 _ rfl)
                  have rb : wr.cell? ⟨b1, o1 + q * 2 + 1, none⟩ = some (.int .i64 (roleE la0 la1 (endB l))) := gcell_below KW3.out (HC1.out q _ hx 1 _ rfl)
                  have SA := Lib.hid (show rootB la0 la1 b (endA l) = (l.1 == (b : Int) && roleE la0 la1 (endA l) == 1) from rfl)
                  have SB := Lib.hid (show rootB la0 la1 b (endB l) = (l.2.2.1 == (b : Int) && roleE la0 la1 (endB l) == 1) from rfl)
                  have e1 : decide (q < la1.length) = true := decide_eq_true hlt
                  have e2 : decide ((q : Int) < (la1.length : Int)) = true := decide_eq_true (by omega)
                  have e3 : decide (la1.length ≤ q) = false := decide_eq_false (by omega)
                  have e4 : decide (0 ≤ (q : Int)) = true := decide_eq_true (by omega)
                  clear hl hne hx hne2 KWW KW3
                  generalize roleE la0 la1 (endA l) = va at ra SA
                  generalize roleE la0 la1 (endB l) = vb at rb SB
                  generalize rootB la0 la1 b (endA l) = ta at CS SA
                  generalize rootB la0 la1 b (endB l) = tb at CS SB
                  generalize l.1 = la at xa SA
                  generalize l.2.2.1 = lb at xb SB
                  generalize hcq : cntT la0 la1 b q = cq at cle CS ⊢
                  clear hcq
                  rcases Bool.eq_false_or_eq_true ta with ht | ht
                  · have HTA := Lib.hid ht
                    have h1 := SA.out
                    rw [ht] at h1
                    obtain ⟨h2, h3⟩ : la = (b : Int) ∧ va = 1 := by simpa using h1.symm
                    subst h2 h3
                    clear ht h1
                    rcases Bool.eq_false_or_eq_true tb with ht | ht
                    · have HTB := Lib.hid ht
                      have h1 := SB.out
                      rw [ht] at h1
                      obtain ⟨h2, h3⟩ : lb = (b : Int) ∧ vb = 1 := by simpa using h1.symm
                      subst h2 h3
                      clear ht h1
                      have CN := Lib.hid (show cntT la0 la1 b (q + 1) = cq + 1 + 1 by rw [CS.out, HTA.out, HTB.out]; rfl)
                      go_wp2_with fail
                      go_roundw
                      case rel => exact ⟨q + 1, by omega, by go_num, by rw [CN.out]; go_num, by trivial⟩
                      case measure => simp [intOf]; omega
                    · have HTB := Lib.hid ht
                      have h1 := SB.out
                      rw [ht] at h1
                      have h2 : ¬ (lb = (b : Int) ∧ vb = 1) := by rintro ⟨h2, h3⟩; subst h2 h3; simp at h1
                      have CN := Lib.hid (show cntT la0 la1 b (q + 1) = cq + 1 by rw [CS.out, HTA.out, HTB.out]; rfl)
                      clear ht h1
                      by_cases h3 : lb = (b : Int)
                      · obtain ⟨y1, y2⟩ := ne_t (show vb ≠ 1 from fun e => h2 ⟨h3, e⟩)
                        subst h3
                        clear h2
                        go_wp2_with fail
                        go_roundw
                        case rel => exact ⟨q + 1, by omega, by go_num, by rw [CN.out]; go_num, by trivial⟩
                        case measure => simp [intOf]; omega
                      · obtain ⟨y1, y2⟩ := ne_t h3
                        clear h2 h3
                        go_wp2_with fail
                        go_roundw
                        case rel => exact ⟨q + 1, by omega, by go_num, by rw [CN.out]; go_num, by trivial⟩
                        case measure => simp [intOf]; omega
                  · have HTA := Lib.hid ht
                    have h1 := SA.out
                    rw [ht] at h1
                    have h2 : ¬ (la = (b : Int) ∧ va = 1) := by rintro ⟨h2, h3⟩; subst h2 h3; simp at h1
                    clear ht h1
                    by_cases h3 : la = (b : Int)
                    · obtain ⟨a1, a2⟩ := ne_t (show va ≠ 1 from fun e => h2 ⟨h3, e⟩)
                      subst h3
                      clear h2
                      rcases Bool.eq_false_or_eq_true tb with ht | ht
                      · have HTB := Lib.hid ht
                        have h1 := SB.out
                        rw [ht] at h1
                        obtain ⟨h2, h3⟩ : lb = (b : Int) ∧ vb = 1 := by simpa using h1.symm
                        subst h2 h3
                        clear ht h1
                        have CN := Lib.hid (show cntT la0 la1 b (q + 1) = cq + 0 + 1 by rw [CS.out, HTA.out, HTB.out]; rfl)
                        go_wp2_with fail
                        go_roundw
                        case rel => exact ⟨q + 1, by omega, by go_num, by rw [CN.out]; go_num, by trivial⟩
                        case measure => simp [intOf]; omega
                      · have HTB := Lib.hid ht
                        have h1 := SB.out
                        rw [ht] at h1
                        have h2 : ¬ (lb = (b : Int) ∧ vb = 1) := by rintro ⟨h2, h3⟩; subst h2 h3; simp at h1
                        have CN := Lib.hid (show cntT la0 la1 b (q + 1) = cq + 0 by rw [CS.out, HTA.out, HTB.out]; rfl)
                        clear ht h1
                        by_cases h3 : lb = (b : Int)
                        · obtain ⟨y1, y2⟩ := ne_t (show vb ≠ 1 from fun e => h2 ⟨h3, e⟩)
                          subst h3
                          clear h2
                          go_wp2_with fail
                          go_roundw
                          case rel => exact ⟨q + 1, by omega, by go_num, by rw [CN.out]; go_num, by trivial⟩
                          case measure => simp [intOf]; omega
                        · obtain ⟨y1, y2⟩ := ne_t h3
                          clear h2 h3
                          go_wp2_with fail
                          go_roundw
                          case rel => exact ⟨q + 1, by omega, by go_num, by rw [CN.out]; go_num, by trivial⟩
                          case measure => simp [intOf]; omega
                    · obtain ⟨a1, a2⟩ := ne_t h3
                      clear h2 h3
                      rcases Bool.eq_false_or_eq_true tb with ht | ht
                      · have HTB := Lib.hid ht
                        have h1 := SB.out
                        rw [ht] at h1
                        obtain ⟨h2, h3⟩ : lb = (b : Int) ∧ vb = 1 := by simpa using h1.symm
                        subst h2 h3
                        clear ht h1
                        have CN := Lib.hid (show cntT la0 la1 b (q + 1) = cq + 0 + 1 by rw [CS.out, HTA.out, HTB.out]; rfl)
                        go_wp2_with fail
                        go_roundw
                        case rel => exact ⟨q + 1, by omega, by go_num, by rw [CN.out]; go_num, by trivial⟩
                        case measure => simp [intOf]; omega
                      · have HTB := Lib.hid ht
                        have h1 := SB.out
                        rw [ht] at h1
                        have h2 : ¬ (lb = (b : Int) ∧ vb = 1) := by rintro ⟨h2, h3⟩; subst h2 h3; simp at h1
                        have CN := Lib.hid (show cntT la0 la1 b (q + 1) = cq + 0 by rw [CS.out, HTA.out, HTB.out]; rfl)
                        clear ht h1
                        by_cases h3 : lb = (b : Int)
                        · obtain ⟨y1, y2⟩ := ne_t (show vb ≠ 1 from fun e => h2 ⟨h3, e⟩)
                          subst h3
                          clear h2
                          go_wp2_with fail
                          go_roundw
                          case rel => exact ⟨q + 1, by omega, by go_num, by rw [CN.out]; go_num, by trivial⟩
                          case measure => simp [intOf]; omega
                        · obtain ⟨y1, y2⟩ := ne_t h3
                          clear h2 h3
                          go_wp2_with fail
                          go_roundw
                          case rel => exact ⟨q + 1, by omega, by go_num, by rw [CN.out]; go_num, by trivial⟩
                          case measure => simp [intOf]; omega
                · obtain rfl : q = la1.length := by omega
                  have HCA := Lib.hid (HLA.out b HBN.out)
                  clear hlt
                  go_wp2_with fail
                  obtain ⟨wc, rfl⟩ : ∃ wc, wc = wr := ⟨_, rfl⟩
                  go_loopw [13, 14] (fun s13 i wt => ∃ c : Nat, c ≤ n ∧ i = .int .i64 c ∧ s13 = .int .i64 (oneB (lesT la0 la1 b c) : Int) ∧ Hid (Below wc.heap.size wc wt)) (fun _ i _ => n - (intOf i).toNat)
                  case atStart => exact ⟨0, Nat.zero_le _, rfl, rfl, Lib.hid (Below.refl _ _)⟩
                  case round =>
                    obtain ⟨c, hc, rfl, rfl, KC⟩ := hrel
                    have KCC := Lib.hid (KB.out.trans (KC.out.mono KB.out.size))
                    have KCW := Lib.hid (K4.out.trans (KCC.out.mono K4.out.size))
                    by_cases hlt : c < n
                    · have HBNN := HBN.out
                      have zc : wr.cell? ⟨bw, ow + c, none⟩ = some (.int .i64 (togT la1 n c : Int)) := gcell_below KCC.out (HCW.out c hlt)
                      have zb : wr.cell? ⟨bw, ow + b, none⟩ = some (.int .i64 (togT la1 n b : Int)) := gcell_below KCC.out (HCW.out b HBNN)
                      have ic : wr.cell? ⟨bi, oi + c, none⟩ = some (.int .u64 (idAt la0 c)) := gcell_below KCW.out (HCI.out c hlt)
                      have ib : wr.cell? ⟨bi, oi + b, none⟩ = some (.int .u64 (idAt la0 b)) := gcell_below KCW.out (HCI.out b HBNN)
                      have LS := Lib.hid (les_step la0 la1 b c)
                      rw [← HNN.out] at LS
                      have e1 : decide (c < n) = true := decide_eq_true hlt
                      have e2 : decide ((c : Int) < (n : Int)) = true := decide_eq_true (by omega)
                      have e3 : decide (n ≤ c) = false := decide_eq_false (by omega)
                      have e4 : decide (0 ≤ (c : Int)) = true := decide_eq_true (by omega)
                      have f1 : decide (b < n) = true := decide_eq_true HBNN
                      have f2 : decide ((b : Int) < (n : Int)) = true := decide_eq_true (by omega)
                      have f3 : decide (n ≤ b) = false := decide_eq_false (by omega)
                      have f4 : decide (0 ≤ (b : Int)) = true := decide_eq_true (by omega)
                      generalize togT la1 n c = tc at zc LS
                      generalize togT la1 n b = tb at zb LS
                      generalize idAt la0 c = uc at ic LS
                      generalize idAt la0 b = ub at ib LS
                      generalize hlc : lesT la0 la1 b c = lc at LS ⊢
                      clear hlc
                      by_cases ht : tc = tb
                      · subst ht
                        by_cases hu : uc < ub
                        · have g1 : decide (uc < ub) = true := decide_eq_true hu
                          have L1 := Lib.hid (show lesT la0 la1 b (c + 1) = true by rw [LS.out, g1]; simp)
                          clear hu LS
                          go_wp2_with fail
                          go_quiet (fail)
                          have KD := Lib.hid (below_drewN KC.out nq)
                          go_wp2_with fail
                          go_roundw
                          case rel => exact ⟨c + 1, by omega, by go_num, by rw [L1.out]; rfl, KD⟩
                          case measure => simp [intOf]; omega
                        · have g1 : decide (uc < ub) = false := decide_eq_false hu
                          have L1 := Lib.hid (show lesT la0 la1 b (c + 1) = lc by rw [LS.out, g1]; simp)
                          clear hu LS
                          go_wp2_with fail
                          go_quiet (fail)
                          have KD := Lib.hid (below_drewN KC.out nq)
                          go_wp2_with fail
                          go_roundw
                          case rel => exact ⟨c + 1, by omega, by go_num, by rw [L1.out], KD⟩
                          case measure => simp [intOf]; omega
                      · obtain ⟨g1, g2⟩ := ne_t (show (tc : Int) ≠ (tb : Int) by omega)
                        obtain ⟨g3, g4⟩ : (tc == tb) = false ∧ (tc != tb) = true := by simp [ht]
                        have L1 := Lib.hid (show lesT la0 la1 b (c + 1) = lc by rw [LS.out, g3]; simp)
                        clear ht LS
                        go_wp2_with fail
                        go_quiet (fail)
                        have KD := Lib.hid (below_drewN KC.out nq)
                        go_wp2_with fail
                        go_roundw
                        case rel => exact ⟨c + 1, by omega, by go_num, by rw [L1.out], KD⟩
                        case measure => simp [intOf]; omega
                    · obtain rfl : c = n := by omega
                      have KB2 := Lib.hid (KB.out.trans (KC.out.mono KB.out.size))
                      clear hlt
                      rw [HCA.out]
                      go_wp2_with fail
                      go_roundw
                      case rel => exact ⟨b + 1, by have := HBN.out; omega, by go_num, KB2⟩
                      case measure => have := HBN.out; simp [intOf]; omega
            · obtain rfl : b = n := by omega
              have KZ := Lib.hid (K4.out.trans (KB.out.mono K4.out.size))
              clear hlt
              go_wp2_with fail
              ((with_reducible refine (HLV.out _).mono ?_); rintro e wv ⟨rfl, hv⟩)
              have KV := Lib.hid (KZ.out.trans (hv.mono KZ.out.size))
              clear hv
              go_wp2_with fail
              go_ret
              exact ⟨rfl, KV.out⟩
    · have HT := Lib.hid fun (U : World) (k : Below w.heap.size w U) => ltold_c (.slice pl la1.length cl) la1 U (by omega) (HL.out.below k)
      have HRC := Lib.hid fun (U : World) (k : Below w.heap.size w U) => rchk_not (HI.out.below k) (HL.out.below k) qi qa1 hM
      have HM := Lib.hid hM
      clear hM
      go_enter Try.func6, Try.ntmps6
      go_wp2_with fail
      ((with_reducible refine (HF.out _).mono ?_); rintro e w1 ⟨rfl, rfl⟩)
      go_wp2_with fail
      ((with_reducible refine (HRC.out _ K0.out).mono ?_); rintro e w1 ⟨rfl, hb⟩)
      have K1 := Lib.hid (K0.out.trans (hb.mono K0.out.size))
      clear hb
      go_wp2_with fail
      ((with_reducible refine (HLV.out _).mono ?_); rintro e wv ⟨rfl, hv⟩)
      have KV := Lib.hid (K1.out.trans (hv.mono K1.out.size))
      clear hv
      go_wp2_with fail
      go_ret
      exact ⟨rfl, KV.out⟩
  · have HF := Lib.hid fun (U : World) => few_no pi pl la0.length la1.length ci cl U hf
    clear hf
    go_enter Try.func6, Try.ntmps6
    go_wp2_with fail
    ((with_reducible refine (HF.out _).mono ?_); rintro e w1 ⟨rfl, rfl⟩)
    go_wp2_with fail
    ((with_reducible refine (HLV.out _).mono ?_); rintro e wv ⟨rfl, hv⟩)
    have KV := Lib.hid (K0.out.trans (hv.mono K0.out.size))
    clear hv
    go_wp2_with fail
    go_ret
    exact ⟨rfl, KV.out⟩

theorem own : ownKnob Try.prog.godebug = none := by kernel_rfl
theorem laidOut : laidOutB Try.prog = true := by kernel_rfl

set_option maxHeartbeats 1000000 in
set_option maxRecDepth 100000 in
theorem lifted (os : Os) (started : os.Started) (H : Type) (enc : TypeId × Value → H) :
    ReturnsInHanded {} Try.checked os 6 .any (Rows.treeRootsSpec.pre6 enc Try.prog Try.f6 Rows.treeRootsRow.domain false) (Rows.treeRootsSpec.post enc Try.prog Try.f6 false true false false) := by
  refine returnsInHanded_of_change_sized (C := Try.checked) own started (by kernel_rfl) Try.func6
    (ChangeSpec.witness6 (enc := enc) (C := Try.checked) false ⟨#[], #[.slice none 0 0, .slice none 0 0], []⟩ 8 (by kernel_rfl) (by kernel_rfl) (by kernel_rfl) (by kernel_rfl)) ?_
  intro W base args ds gs before hval0 hW hcnd hsz0 hholds
  have hval : ∀ (j : Nat) t v, Try.f6.params[j]? = some t → args[j]? = some v → Value.okWide Try.prog W .any base t v := hval0
  have hsz : (DataW.weightsEach Try.prog (Try.f6.params.toList ++ Rows.treeRootsSpec.plain.varTypes Try.prog) (ds ++ gs)).all (· ≤ reachBytes) = true := hsz0
  have hW' := hW
  obtain ⟨p, q, hA0, hV, rfl, hfz, hnd⟩ := hW
  have hA : DataW.TrodAll enc Try.prog W 0 (fun _ => true) true Try.f6.params.toList args.toList ds p := hA0
  rw [Try.params6] at hA hval hsz
  obtain ⟨v0, vs0, d0, ds0, p0, q0, hargs, rfl, rfl, h0, r0⟩ := trodAll_cons hA
  obtain ⟨v1, vs1, d1, ds1, p1, q1, rfl, rfl, rfl, h1, r1⟩ := trodAll_cons r0
  obtain ⟨rfl, rfl, rfl⟩ := trodAll_nil r1
  obtain rfl : args = #[v0, v1] := by cases args; simp_all
  obtain ⟨rfl, rfl⟩ := trodVars_none hV
  have k0 := h0
  have lt0 : ∀ x ∈ p0, x.block < W.heap.size := by obtain ⟨m, hm⟩ := k0; exact DataW.trod_lt m _ _ _ hm
  have k1 := h1
  have lt1 : ∀ x ∈ p1, x.block < W.heap.size := by obtain ⟨m, hm⟩ := k1; exact DataW.trod_lt m _ _ _ hm
  obtain ⟨sa0, sl0, sc0, rfl⟩ := okWide_slice Try.underlying22 (hval 0 22 v0 rfl rfl)
  obtain ⟨fu0, hf0⟩ := h0
  obtain ⟨vv0, L0, e0, hh0, qq0, ss0⟩ := openU64 hf0
  simp [Value.cells] at e0
  subst e0
  obtain ⟨sa1, sl1, sc1, rfl⟩ := okWide_slice Try.underlying23 (hval 1 23 v1 rfl rfl)
  obtain ⟨fu1, hf1⟩ := h1
  obtain ⟨vv1, L1, e1, hh1, qq1, ss1⟩ := openLkR hf1
  simp [Value.cells] at e1
  subst e1
  clear hA0 hval0
  refine (walk (.slice sa0 sl0 sc0) L0 (.slice sa1 sl1 sc1) L1 W hh0 qq0 ss0 hh1 qq1 ss1).mono fun e W' ⟨he, bel⟩ => ?_
  subst he
  exact ⟨_, rfl, _, _, _, [], _, [], hW', trodAll_mk1 (shut_bool Try.underlying4 _), (trodAll_cons_mk (Below.trod laidOut (by kernel_rfl) (of_decide_eq_true (by kernel_rfl)) k0 bel lt0) (trodAll_cons_mk (Below.trod laidOut (by kernel_rfl) (of_decide_eq_true (by kernel_rfl)) k1 bel lt1) trodAll_mk0)), rfl, bel.frame _, fun h => by cases h⟩

theorem over : Rows.treeRootsRow.holds Try.pinned (OpenSpec.ofChange Rows.treeRootsSpec) :=
  OpenClaim.holds_of_wide 6 Try.f6 rfl rfl rfl rfl rfl rfl rfl ⟨rfl, rfl, rfl, rfl, rfl⟩ rfl rfl rfl rfl rfl (by kernel_rfl) Try.func6 (by kernel_rfl)
    (of_decide_eq_true (by kernel_rfl)) (by unfold Func.isWrapper; first | (rw [if_pos (by decide +kernel)]; kernel_rfl) | (rw [if_neg (by decide +kernel)]; exact ⟨rfl, rfl⟩))
    (fun os started H enc _ => lifted os started H enc)

/-- The statement. -/
theorem proved : Rows.TreeRootsSaid := over
#print axioms proved
end Go.Proofs.Ytolmkflhddlcnaa.treeRootsLaw
