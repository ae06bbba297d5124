/-
  'siphonlaw21.ProxyLeads' returns true, whatever the input, and each argument reads behind the call as it read before. Conditions: none beyond those that the row itself states.
-/
import Derived.Test.YthpafojeadbjlaaRows
import Derived.Test.YthpafojeadbjlaaPxW
import Derived.Test.YthpafojeadbjlaaRowFlR
import Derived.WalkKit
import Derived.ProofKit
import Derived.OpenShut
import Derived.ShutString
import Derived.ChangeOld
import Derived.Below
import Derived.Carry
import Derived.SizedLaws
import Derived.Lib.SmallJoins
import Derived.ChangeArms
import Derived.WideShapes
namespace Go.Proofs.Ythpafojeadbjlaa.proxyLeadsLaw
open Go.ChangeShapes Go.WideShapes Go.ChangeAt Go.RowKit Go.Joins
open Go.ChangeMaps (open_string shut_string)
set_option linter.unusedVariables false

set_option maxHeartbeats 16000000 in
set_option maxRecDepth 100000 in
theorem walk (a0 : Value) (la0 : List FlR) (w : World) (ha0 : RowsAt 2 cellsFlR w a0 la0) (qa0 : la0.length ≤ maxLen ∧ ∀ p n c, a0 = .slice p n c → n ≤ c) (sa0 : ∀ r ∈ la0, GoodFlR w r) :
    Calls Try.prog 6 #[a0] w fun e w' => e = .returned (.bool true) ∧ Below w.heap.size w w' := by
  have HL := Lib.hid fun U => live21_c U
  have HA0 := Lib.hid ha0
  have HG0 := Lib.hid (fun r hr => (sa0 r hr).2)
  have K0 := Lib.hid (Below.refl w.heap.size w)
  obtain ⟨p0, c0, rfl⟩ := ha0.slice
  obtain ⟨n, hn⟩ : ∃ n, n = la0.length := ⟨_, rfl⟩
  rw [← hn]
  have HN := Lib.hid hn
  have hcap : n ≤ c0 := qa0.2 _ _ _ (by rw [← hn])
  have NC0 := Lib.hid (pnew_ok 1 (by decide) (by decide) w)
  clear ha0 qa0 sa0 hn hcap
  by_cases h40 : 40 < n
  · have d1 : decide ((40 : Int) < n) = true := decide_eq_true (by omega)
    clear h40
    go_enter Try.func6, Try.ntmps6
    go_wp2_with fail
    ((with_reducible refine (HL.out _).mono ?_); rintro e w2 ⟨rfl, h2⟩)
    go_wp2_with fail
    go_ret
    exact ⟨rfl, h2⟩
  have d1 : decide ((40 : Int) < n) = false := decide_eq_false (by omega)
  have N40 : n ≤ 40 := by omega
  clear h40
  go_enter Try.func6, Try.ntmps6
  go_wp2_with fail
  ((with_reducible refine NC0.out.mono ?_); rintro e w1 ⟨rfl, h1, k1⟩)
  have H1 := Lib.hid h1
  have K1 := Lib.hid k1
  clear h1 k1 NC0 K0
  obtain ⟨p, hp⟩ : ∃ p, p = w.heap.size + 1 := ⟨_, rfl⟩
  obtain ⟨mb, hmb⟩ : ∃ p, p = w.heap.size := ⟨_, rfl⟩
  rw [← hp, ← hmb] at H1
  rw [← hp]
  have HMB := Lib.hid (show w.heap.size ≤ mb by omega)
  have HPB := Lib.hid (show w.heap.size ≤ p by omega)
  clear hp hmb
  go_upto_region 7 with fail
  have BX := Lib.hid (show HB w1.heap.size (w1.alloc (.cells #[.bool false, .slice none 0 0] 28)) #[.bool noF.ex, .slice none 0 0] from heap_new w1 _)
  have KA := (Below.refl w1.heap.size w1).alloc (Nat.le_refl _) (.cells #[.bool false, .slice none 0 0] 28)
  have H2 := Lib.hid (show HasP (w1.alloc (.cells #[.bool false, .slice none 0 0] 28)) p mb 1 (rowL noF (.bool false)) from H1.out.below KA)
  have K2 := Lib.hid (px_call K1.out KA)
  have HNB := Lib.hid (show w.heap.size ≤ w1.heap.size from K1.out.size)
  have NNP := Lib.hid (show w1.heap.size ≠ p from fun e => by have := H1.out.lt; omega)
  have NNM := Lib.hid (show w1.heap.size ≠ mb from fun e => by have := H1.out.map.lt; omega)
  clear KA H1 K1
  generalize w1.alloc (.cells #[.bool false, .slice none 0 0] 28) = W at BX H2 K2 ⊢
  generalize w1.heap.size = nb at BX HNB NNP NNM ⊢
  have UP0 := Lib.hid (show Up noF.src from List.Pairwise.nil)
  go_wp2_with fail
  go_loopw [6, 7, 8, 9, 10, 11] (fun i _ _ _ _ _ wr => ∃ (k : Nat) (of : Fl) (vr : Value) (pv : Option Addr) (cv : Nat), k ≤ n ∧ i = .int .i64 k ∧ Hid (HasP wr p mb 1 (rowL of vr)) ∧ Hid (HB nb wr #[.bool of.ex, .slice pv of.src.length cv]) ∧ Hid (AddrsAt wr (.slice pv of.src.length cv) of.src) ∧ Hid (Up of.src) ∧ Hid (of.src.length ≤ 60) ∧ Hid (Below w.heap.size w wr)) (fun i _ _ _ _ _ _ => n - (intOf i).toNat)
  case atStart => exact ⟨0, noF, .bool false, none, 0, Nat.zero_le _, rfl, H2, BX, Lib.hid (AddrsG.nil _ _ _), UP0, Lib.hid (Nat.zero_le _), K2⟩
  case round =>
    clear BX H2 K2
    obtain ⟨k, of, vr, pv, cv, hk, rfl, HP, HX, HV, HU, HZ, KB⟩ := hrel
    by_cases hlt : k < n
    · obtain ⟨x, hx⟩ : ∃ x, la0[k]? = some x := ⟨_, List.getElem?_eq_getElem (by rw [← HN.out]; exact hlt)⟩
      obtain ⟨b, off, hpl, HR0⟩ : ∃ b off, p0 = some ⟨b, off, none⟩ ∧ ∀ U, Below w.heap.size w U → U.cell? ⟨b, off + k * 2, none⟩ = some (.bool x.ex) ∧ U.cell? ⟨b, off + k * 2 + 1, none⟩ = some x.srcv ∧ AddrsAt U x.srcv x.src := by
        obtain ⟨q, d, b, off, hv, hq, hc⟩ := HA0.out
        simp only [Value.slice.injEq] at hv
        obtain ⟨rfl, -, rfl⟩ := hv
        refine ⟨b, off, hq (by rintro rfl; simp at hx), fun U hU => ⟨?_, ?_, (HG0.out x (List.mem_of_getElem? hx)).1.below hU⟩⟩
        · exact cell_below hU (by simpa using hc k x hx 0 _ rfl)
        · exact cell_below hU (hc k x hx 1 _ rfl)
      subst hpl
      have hg := (HG0.out x (List.mem_of_getElem? hx)).2
      obtain ⟨xp, xc, hsv⟩ := ((HG0.out x (List.mem_of_getElem? hx)).1).slice
      rw [hsv] at HR0
      have d2 : decide ((k : Int) < (n : Int)) = true := decide_eq_true (by omega)
      have d3 : decide (k < n) = true := decide_eq_true hlt
      have d4 : decide (0 ≤ (k : Int)) = true := decide_eq_true (by omega)
      have x0 := (HR0 _ KB.out).1
      have x1 := (HR0 _ KB.out).2.1
      have HR := Lib.hid HR0
      clear hx HR0 hsv
      obtain ⟨xe, xv, xs⟩ := x
      simp only at HR x0 x1 hg
      by_cases h60 : 60 < xs.length
      · have d5 : decide ((60 : Int) < (xs.length : Int)) = true := decide_eq_true (by omega)
        clear h60 hg
        go_wp2_with fail
        ((with_reducible refine (HL.out _).mono ?_); rintro e w2 ⟨rfl, h2⟩)
        have KL := Lib.hid (px_call KB.out h2)
        clear h2 x0 x1
        go_wp2_with fail
        go_ret
        exact ⟨rfl, KL.out⟩
      · have d5 : decide ((60 : Int) < (xs.length : Int)) = false := decide_eq_false (by omega)
        have hxl : xs.length ≤ 60 := by omega
        have TC0 := ptell_c HP.out (good_rowL vr HU.out (by have := HZ.out; omega)) (by decide) (by decide) 7 oneG xe (.slice xp xs.length xc) xs (by omega) hg.2 (HR.out _ KB.out).2.2
        unfold TlPost at TC0
        simp only [tell_rowL] at TC0
        have TC := Lib.hid TC0
        have HD1 := Lib.hid (diff_len oneG of ⟨xe, xs⟩)
        have HD2 := Lib.hid (diff_srcs oneG of ⟨xe, xs⟩ 60 HZ.out hxl)
        have HD3 := Lib.hid (show (diffF oneG of ⟨xe, xs⟩).foldl afterF of = normF ⟨xe, xs⟩ by have := leads oneG of ⟨xe, xs⟩; rw [norm_up HU.out] at this; exact this)
        have NC := Lib.hid (fun (U : World) (kz : Below w.heap.size w U) => norm_c xe (.slice xp xs.length xc) xs U (by omega) (HR.out U kz).2.2)
        have UN := Lib.hid (show Up (normF ⟨xe, xs⟩).src from ris_up _)
        have LN := Lib.hid (show (normF ⟨xe, xs⟩).src.length ≤ 60 from Nat.le_trans (ris_len _) hxl)
        unfold FPost at NC
        generalize diffF oneG of ⟨xe, xs⟩ = L at TC HD1 HD2 HD3
        generalize normF ⟨xe, xs⟩ = NF at TC HD3 NC UN LN
        generalize xs.length = xn at *
        clear TC0 h60 hxl hg
        unfold oneG at TC
        go_wp2_with fail
        ((with_reducible refine TC.out.mono ?_); rintro e w3 ⟨u, r, rfl, r3, h3, t3⟩)
        have HP3 := Lib.hid h3
        have NS := Lib.hid HP.out.noStr
        have HX3 := Lib.hid (show HB nb w3 #[.bool of.ex, .slice pv of.src.length cv] from t3.blk HX.out NNM.out)
        have HV3 := Lib.hid (HV.out.tws t3 (fun b hb => by subst hb; exact NS.out))
        have KB3 := Lib.hid (KB.out.trans (t3.below (B := w.heap.size) (fun b hb => by have h8 : b = mb := hb; have := HMB.out; omega) KB.out.size))
        obtain ⟨rq, rc, rfl⟩ := r3.slice
        have R3 := Lib.hid r3
        obtain ⟨m, hm⟩ : ∃ m, m = L.length := ⟨_, rfl⟩
        have HM := Lib.hid hm
        rw [← hm] at R3 ⊢
        clear r3 h3 t3 x0 x1 NS HP HX HV KB TC HU hm
        go_wp2_with fail
        go_loopw [9] (fun i wr => ∃ (j : Nat) (pz : Option Addr) (cz : Nat), j ≤ m ∧ i = .int .i64 j ∧ Hid (HB nb wr #[.bool ((L.take j).foldl afterF of).ex, .slice pz ((L.take j).foldl afterF of).src.length cz]) ∧ Hid (AddrsAt wr (.slice pz ((L.take j).foldl afterF of).src.length cz) ((L.take j).foldl afterF of).src) ∧ Hid (((L.take j).foldl afterF of).src.length ≤ 60 + 60 * j) ∧ Hid (TwS (fun b => b = nb) w3 wr)) (fun i _ => m - (intOf i).toNat)
        case atStart => exact ⟨0, pv, cv, Nat.zero_le _, rfl, HX3, HV3, HZ, Lib.hid (TwS.refl _ _)⟩
        case round =>
          obtain ⟨j, pz, cz, hj, rfl, HX, HV, HZ2, TZ⟩ := hrel
          have NSX := Lib.hid HX3.out.noStr
          have SB := Lib.hid (fun b (hb : b = nb) => show NoStr w3 b from by subst hb; exact NSX.out)
          have HP := Lib.hid (HP3.out.tws TZ.out SB.out (fun e => NNP.out e.symm) (fun e => NNM.out e.symm))
          have KB := Lib.hid (KB3.out.trans (TZ.out.below (B := w.heap.size) (fun b hb => by have h8 : b = nb := hb; have := HNB.out; omega) KB3.out.size))
          by_cases hjt : j < m
          · have hjL : j < L.length := by rw [← HM.out]; exact hjt
            have R := RecsG.tws R3.out TZ.out SB.out
            obtain ⟨_, _, bR, oR, hv, hpp, hc⟩ := R
            simp only [Value.slice.injEq] at hv
            obtain ⟨rfl, -, -⟩ := hv
            obtain ⟨rfl, -⟩ := hpp (by rintro rfl; simp at hjL)
            obtain ⟨y0, y1, vq, y2, aq⟩ := hc j _ (List.getElem?_eq_getElem hjL)
            have HT := Lib.hid (after_fold L of j _ (List.getElem?_eq_getElem hjL))
            have hq := HD2.out _ (List.getElem_mem hjL)
            generalize L[j] = r at y0 y1 y2 aq HT hq
            generalize hfk : (L.take j).foldl afterF of = fk at HX HV HZ2 HT
            clear hfk
            obtain ⟨fe, fs⟩ := fk
            obtain ⟨rk, rg, rs⟩ := r
            simp only at HX HV HZ2 HT y0 y1 aq hq
            obtain ⟨pq, cq, rfl⟩ := aq.slice
            have hal := after_len ⟨fe, fs⟩ ⟨rk, rg, rs⟩
            have hm2 : m ≤ 2 := by have := HD1.out; have := HM.out; omega
            have LV2 := Lib.hid (show (afterF ⟨fe, fs⟩ ⟨rk, rg, rs⟩).src.length ≤ 60 + 60 * (j + 1) by have := HZ2.out; simp only at hal; omega)
            have HAk := Lib.hid (after_c fe rk rg (.slice pz fs.length cz) (.slice pq rs.length cq) fs rs wr.drew (by have := HZ2.out; omega) (by omega) (show AddrsAt wr.drew _ fs from HV.out) (show AddrsAt wr.drew _ rs from aq))
            unfold APost at HAk
            generalize afterF ⟨fe, fs⟩ ⟨rk, rg, rs⟩ = fn at HAk HT LV2
            have h0 := cell_of_block (j := 0) HX.out rfl
            have h1 := cell_of_block (j := 1) HX.out rfl
            have e1 : decide ((j : Int) < (m : Int)) = true := decide_eq_true (by omega)
            have e2 : decide (j < m) = true := decide_eq_true hjt
            have e3 : decide (0 ≤ (j : Int)) = true := decide_eq_true (by omega)
            clear hpp hc hal hq aq R3 hjL
            go_wp2_with fail
            go_still_tail 5, (by kernel_rfl)
            change wpList _ _ _ _ _ wr.drew
            go_wp2_with fail
            ((with_reducible refine HAk.out.mono ?_); rintro e w5 ⟨v5, rfl, a5, h5⟩)
            replace h5 : Below wr.heap.size wr w5 := (Below.refl wr.heap.size wr).drew.trans h5
            clear h0 h1 y0 y1 y2
            replace HX := Lib.hid (HX.out.below h5)
            have TZ5 := Lib.hid (TZ.out.trans (TwS.ofBelow (S := fun b => b = nb) h5) (fun b _ h => h))
            have A5 := Lib.hid a5
            obtain ⟨p5, c5, rfl⟩ := a5.slice
            clear h5 a5 HV HAk HP KB
            have h0 := cell_of_block (j := 0) HX.out rfl
            have h1 := cell_of_block (j := 1) HX.out rfl
            have fr := (fun j : Nat => free_of_block (j := j) HX.out)
            have X1 := Lib.hid (show HB nb (w5.setCell ⟨nb, 0, none⟩ (.bool fn.ex)) #[.bool fn.ex, .slice pz fs.length cz] from heap_store HX.out)
            have X2 := Lib.hid (show HB nb ((w5.setCell ⟨nb, 0, none⟩ (.bool fn.ex)).setCell ⟨nb, 1, none⟩ (.slice p5 fn.src.length c5)) #[.bool fn.ex, .slice p5 fn.src.length c5] from heap_store X1.out)
            have A6 := Lib.hid (addrs_set (p := nb) (j := 1) (u := .slice p5 fn.src.length c5) (addrs_set (p := nb) (j := 0) (u := .bool fn.ex) A5.out (NoStr.of HX.out no_str_bs)) (NoStr.of X1.out no_str_bs))
            have T6 := Lib.hid ((TZ5.out.snd (TwS.set w5 nb 0 (.bool fn.ex) rfl)).snd (TwS.set (w5.setCell ⟨nb, 0, none⟩ (.bool fn.ex)) nb 1 (.slice p5 fn.src.length c5) rfl))
            go_wp2_with fail
            go_roundw
            case rel => exact ⟨j + 1, _, _, by omega, by go_num, by rw [HT.out]; exact X2, by rw [HT.out]; exact A6, by rw [HT.out]; exact LV2, T6⟩
            case measure => simp [intOf]; omega
          · obtain rfl : j = m := by omega
            have ek : (L.take j).foldl afterF of = NF := by rw [List.take_of_length_le (by rw [← HM.out]; exact Nat.le_refl _)]; exact HD3.out
            rw [ek] at HX HV
            have e1 : decide ((j : Int) < (j : Int)) = false := by simp
            have e2 : decide (j < j) = false := by simp
            have AC0 := pall_c HP.out (good_rowL u UN.out (by have := LN.out; omega)) (by decide) 7
            rw [all_rowL] at AC0
            clear ek hjt hj HD1 HD2 HD3 R3 HX3 HV3 HP3 KB3 TZ SB NSX HZ2
            obtain ⟨oe, os⟩ := NF
            simp only at HX HV NC UN LN AC0
            have SC := Lib.hid (fun (U : World) v1 v2 h1 h2 => samep_c oe v1 v2 os U (by have := LN.out; omega) h1 h2)
            rcases han : anyF ⟨oe, os⟩ with _ | _
            · rw [han, if_neg (by decide)] at AC0
              have AC := Lib.hid AC0
              have hno := any_no han
              have eo : oe = false := congrArg Fl.ex hno
              have es : os = [] := congrArg Fl.src hno
              have EO := Lib.hid eo
              have ES := Lib.hid es
              clear AC0 han hno eo es
              go_wp2_with fail
              ((with_reducible refine AC.out.mono ?_); rintro e w6 ⟨ua, rfl, r6, k6⟩)
              have r7 := r6.recs
              obtain ⟨aq, ac, rfl⟩ := r7.slice
              have KB6 := Lib.hid (px_call KB.out k6)
              have HX6 := Lib.hid (HX.out.below k6)
              have HV6 := Lib.hid (HV.out.below k6)
              have HP6 := Lib.hid (HP.out.below k6)
              clear r6 r7 k6 AC KB HX HV HP
              go_upto_region 23 with fail
              have KA := (Below.refl w6.heap.size w6).alloc (Nat.le_refl _) (.cells #[.bool false, .slice none 0 0] 28)
              have KT := Lib.hid (px_call KB6.out KA)
              have HXT := Lib.hid (HX6.out.below KA)
              have AVT := Lib.hid (HV6.out.below KA)
              have HPT := Lib.hid (HP6.out.below KA)
              have HTT : Hid (HB w6.heap.size (w6.alloc (.cells #[.bool false, .slice none 0 0] 28)) #[.bool oe, .slice none os.length 0]) := Lib.hid (by rw [EO.out, ES.out]; exact heap_new w6 _)
              have ATT : Hid (AddrsAt (w6.alloc (.cells #[.bool false, .slice none 0 0] 28)) (.slice none os.length 0) os) := Lib.hid (by rw [ES.out]; exact AddrsG.nil _ _ _)
              clear KA KB6 HX6 HV6 HP6
              generalize w6.alloc (.cells #[.bool false, .slice none 0 0] 28) = wt at KT HXT AVT HPT HTT ATT ⊢
              generalize w6.heap.size = tb at HTT ⊢
              obtain ⟨pt, hpt⟩ : ∃ pt : Option Addr, pt = none := ⟨_, rfl⟩
              obtain ⟨ct, hct⟩ : ∃ ct : Nat, ct = 0 := ⟨_, rfl⟩
              rw [← hpt, ← hct] at HTT ATT
              clear hpt hct
              go_wp2_with fail
              have kk := KT.out
              have hx := HXT.out
              have ht := HTT.out
              have av := AVT.out
              have at9 := ATT.out
              have kkd := KT.out.drew
              have hxd : HB nb wt.drew #[.bool oe, .slice pz os.length cz] := HXT.out
              have htd : HB tb wt.drew #[.bool oe, .slice pt os.length ct] := HTT.out
              have avd : AddrsAt wt.drew (.slice pz os.length cz) os := AVT.out
              have hpd : HasP wt.drew p mb 1 (rowL ⟨oe, os⟩ u) := HPT.out.drew
              have atd : AddrsAt wt.drew (.slice pt os.length ct) os := ATT.out
              have KF := Lib.hid fun (U : World) (k1 : Below w.heap.size w U) (k2 : HB nb U #[.bool oe, .slice pz os.length cz]) (k3 : HB tb U #[.bool oe, .slice pt os.length ct]) => (⟨cell_of_block k2 rfl, cell_of_block k2 rfl, cell_of_block k3 rfl, cell_of_block k3 rfl, (HR.out U k1).1, (HR.out U k1).2.1⟩ : U.cell? ⟨nb, 0, none⟩ = some (.bool oe) ∧ U.cell? ⟨nb, 1, none⟩ = some (.slice pz os.length cz) ∧ U.cell? ⟨tb, 0, none⟩ = some (.bool oe) ∧ U.cell? ⟨tb, 1, none⟩ = some (.slice pt os.length ct) ∧ U.cell? ⟨b, off + k * 2, none⟩ = some (.bool xe) ∧ U.cell? ⟨b, off + k * 2 + 1, none⟩ = some (.slice xp xn xc))
              go_region_held3 (fun U => U.cell? ⟨nb, 0, none⟩ = some (.bool oe) ∧ U.cell? ⟨nb, 1, none⟩ = some (.slice pz os.length cz) ∧ U.cell? ⟨tb, 0, none⟩ = some (.bool oe) ∧ U.cell? ⟨tb, 1, none⟩ = some (.slice pt os.length ct) ∧ U.cell? ⟨b, off + k * 2, none⟩ = some (.bool xe) ∧ U.cell? ⟨b, off + k * 2 + 1, none⟩ = some (.slice xp xn xc))
                (first
                  | with_reducible exact KF.out _ k5 hx5 ht5
                  | with_reducible exact KF.out _ k4 hx4 ht4
                  | with_reducible exact KF.out _ k3 hx3 ht3
                  | with_reducible exact KF.out _ kk hx ht
                  | with_reducible exact KF.out _ kkd hxd htd)
                (first
                  | (go_at_call 11; (with_reducible refine (SC.out _ _ _ avd atd).mono ?_); rintro e u3 ⟨rfl, h3⟩; have k3 := px_call kkd h3; have hx3 := HB.below hxd h3; have ht3 := HB.below htd h3; have av3 := AddrsG.below avd h3; have hp3 := HasP.below hpd h3; have NCb := Lib.hid (NC.out _ k3); clear h3)
                  | (go_at_call 27; (with_reducible refine NCb.out.mono ?_); rintro e u4 ⟨v4, rfl, a4, h4⟩; have k4 := px_call k3 h4; have hx4 := HB.below hx3 h4; have ht4 := HB.below ht3 h4; have av4 := AddrsG.below av3 h4; have hp4 := HasP.below hp3 h4; obtain ⟨p4, c4, rfl⟩ := a4.slice; have a4b := a4.at; have SCb := Lib.hid (SC.out _ _ _ av4 a4b); clear h4 a4)
                  | (go_at_call 11; (with_reducible refine SCb.out.mono ?_); rintro e u5 ⟨rfl, h5⟩; have k5 := px_call k4 h5; have hx5 := HB.below hx4 h5; have ht5 := HB.below ht4 h5; have av5 := AddrsG.below av4 h5; have hp5 := HasP.below hp4 h5; clear h5))
              all_goals
                clear hx3 ht3 hx4 ht4 av3 av4 hp3 hp4 k3 k4 kkd hxd htd avd atd hpd kk hx ht av at9 KF SC NCb SCb a4b ht5
                go_wp2_with fail
                go_roundw
                case rel => exact ⟨k + 1, ⟨oe, os⟩, u, pz, cz, by omega, by go_num, Lib.hid hp5, Lib.hid hx5, Lib.hid av5, UN, LN, Lib.hid k5⟩
                case measure => simp [intOf]; omega
            · rw [han, if_pos rfl] at AC0
              obtain ⟨ki, hki⟩ : ∃ ki : Int, ki = if oe then 2 else 1 := ⟨_, rfl⟩
              rw [← hki] at AC0
              have f1 : (ki == 2) = oe := by rw [hki]; cases oe <;> rfl
              have f2 : decide (ki = 2) = oe := by rw [hki]; cases oe <;> rfl
              have AC := Lib.hid AC0
              clear AC0 han hki
              go_wp2_with fail
              ((with_reducible refine AC.out.mono ?_); rintro e w6 ⟨ua, rfl, r6, k6⟩)
              have r7 := r6.recs
              obtain ⟨ab, ao, ac, vs, rfl, q0, q2, aq⟩ := recs_one r7
              obtain ⟨tp, tc, rfl⟩ := aq.slice
              have KB6 := Lib.hid (px_call KB.out k6)
              have HX6 := Lib.hid (HX.out.below k6)
              have HV6 := Lib.hid (HV.out.below k6)
              have HP6 := Lib.hid (HP.out.below k6)
              have AQ := Lib.hid aq
              simp only at q0 q2
              have Q0 := Lib.hid q0
              have Q2 := Lib.hid q2
              clear r6 r7 k6 AC KB HX HV HP aq q0 q2
              go_upto_region 22 with fail
              have KA := (Below.refl w6.heap.size w6).alloc (Nat.le_refl _) (.cells #[.bool false, .slice none 0 0] 28)
              have TB := Lib.hid (show HB w6.heap.size (w6.alloc (.cells #[.bool false, .slice none 0 0] 28)) #[.bool false, .slice none 0 0] from heap_new w6 _)
              have KT7 := Lib.hid (px_call KB6.out KA)
              have HX7 := Lib.hid (HX6.out.below KA)
              have AV7 := Lib.hid (HV6.out.below KA)
              have HP7 := Lib.hid (HP6.out.below KA)
              have AT7 := Lib.hid (AQ.out.below KA)
              have z0 := cell_below KA Q0.out
              have z2 := cell_below KA Q2.out
              have NTX := Lib.hid (show nb ≠ w6.heap.size from fun e => by have := lt_of_block HX6.out; omega)
              have NTP := Lib.hid (show p ≠ w6.heap.size from fun e => by have := HP6.out.lt; omega)
              have NTM := Lib.hid (show mb ≠ w6.heap.size from fun e => by have := HP6.out.map.lt; omega)
              have LTB := Lib.hid (show w.heap.size ≤ w6.heap.size from KB6.out.size)
              clear KA KB6 HX6 HV6 HP6 AQ Q0 Q2
              generalize w6.alloc (.cells #[.bool false, .slice none 0 0] 28) = w7 at TB KT7 HX7 AV7 HP7 AT7 z0 z2 ⊢
              generalize w6.heap.size = tb at TB NTX NTP NTM LTB ⊢
              go_still_tail 10, (by kernel_rfl)
              change wpList _ _ _ _ _ w7.drew
              have t0 : w7.cell? ⟨tb, 0, none⟩ = some (.bool false) := cell_of_block TB.out rfl
              have t1 : w7.cell? ⟨tb, 1, none⟩ = some (.slice none 0 0) := cell_of_block TB.out rfl
              have fr := (fun j : Nat => free_of_block (j := j) TB.out)
              have X1 := Lib.hid (show HB tb (w7.setCell ⟨tb, 0, none⟩ (.bool oe)) #[.bool oe, .slice none 0 0] from heap_store TB.out)
              have HTT := Lib.hid (show HB tb ((w7.setCell ⟨tb, 0, none⟩ (.bool oe)).setCell ⟨tb, 1, none⟩ (.slice tp os.length tc)).drew #[.bool oe, .slice tp os.length tc] from heap_store X1.out)
              have TT := ((TwS.set (S := fun b => b = tb) w7 tb 0 (.bool oe) rfl).snd (TwS.set (w7.setCell ⟨tb, 0, none⟩ (.bool oe)) tb 1 (.slice tp os.length tc) rfl)).drew
              have NSB : ∀ b, b = tb → NoStr w7 b := fun b hb => by subst hb; exact NoStr.of TB.out no_str_bs
              have KT := Lib.hid (KT7.out.trans (TT.below (B := w.heap.size) (fun b hb => by have h8 : b = tb := hb; have := LTB.out; omega) KT7.out.size))
              have HXT := Lib.hid (show HB nb _ _ from TT.blk HX7.out NTX.out)
              have AVT := Lib.hid (AV7.out.tws TT NSB)
              have ATT := Lib.hid (AT7.out.tws TT NSB)
              have HPT := Lib.hid (HP7.out.tws TT NSB NTP.out NTM.out)
              clear TT NSB X1 KT7 HX7 AV7 HP7 AT7 NTX NTP NTM LTB TB
              go_upto_region 23 with fail
              generalize ((w7.setCell ⟨tb, 0, none⟩ (.bool oe)).setCell ⟨tb, 1, none⟩ (.slice tp os.length tc)).drew = wt at KT HXT AVT HPT HTT ATT ⊢
              clear t0 t1 z0 z2 fr f1 f2
              obtain ⟨pt, hpt⟩ : ∃ pt : Option Addr, pt = tp := ⟨_, rfl⟩
              obtain ⟨ct, hct⟩ : ∃ ct : Nat, ct = tc := ⟨_, rfl⟩
              rw [← hpt, ← hct] at HTT ATT
              clear hpt hct
              have kk := KT.out
              have hx := HXT.out
              have ht := HTT.out
              have av := AVT.out
              have at9 := ATT.out
              have kkd := KT.out.drew
              have hxd : HB nb wt.drew #[.bool oe, .slice pz os.length cz] := HXT.out
              have htd : HB tb wt.drew #[.bool oe, .slice pt os.length ct] := HTT.out
              have avd : AddrsAt wt.drew (.slice pz os.length cz) os := AVT.out
              have hpd : HasP wt.drew p mb 1 (rowL ⟨oe, os⟩ u) := HPT.out.drew
              have atd : AddrsAt wt.drew (.slice pt os.length ct) os := ATT.out
              have KF := Lib.hid fun (U : World) (k1 : Below w.heap.size w U) (k2 : HB nb U #[.bool oe, .slice pz os.length cz]) (k3 : HB tb U #[.bool oe, .slice pt os.length ct]) => (⟨cell_of_block k2 rfl, cell_of_block k2 rfl, cell_of_block k3 rfl, cell_of_block k3 rfl, (HR.out U k1).1, (HR.out U k1).2.1⟩ : U.cell? ⟨nb, 0, none⟩ = some (.bool oe) ∧ U.cell? ⟨nb, 1, none⟩ = some (.slice pz os.length cz) ∧ U.cell? ⟨tb, 0, none⟩ = some (.bool oe) ∧ U.cell? ⟨tb, 1, none⟩ = some (.slice pt os.length ct) ∧ U.cell? ⟨b, off + k * 2, none⟩ = some (.bool xe) ∧ U.cell? ⟨b, off + k * 2 + 1, none⟩ = some (.slice xp xn xc))
              go_region_held3 (fun U => U.cell? ⟨nb, 0, none⟩ = some (.bool oe) ∧ U.cell? ⟨nb, 1, none⟩ = some (.slice pz os.length cz) ∧ U.cell? ⟨tb, 0, none⟩ = some (.bool oe) ∧ U.cell? ⟨tb, 1, none⟩ = some (.slice pt os.length ct) ∧ U.cell? ⟨b, off + k * 2, none⟩ = some (.bool xe) ∧ U.cell? ⟨b, off + k * 2 + 1, none⟩ = some (.slice xp xn xc))
                (first
                  | with_reducible exact KF.out _ k5 hx5 ht5
                  | with_reducible exact KF.out _ k4 hx4 ht4
                  | with_reducible exact KF.out _ k3 hx3 ht3
                  | with_reducible exact KF.out _ kk hx ht
                  | with_reducible exact KF.out _ kkd hxd htd)
                (first
                  | (go_at_call 11; (with_reducible refine (SC.out _ _ _ avd atd).mono ?_); rintro e u3 ⟨rfl, h3⟩; have k3 := px_call kkd h3; have hx3 := HB.below hxd h3; have ht3 := HB.below htd h3; have av3 := AddrsG.below avd h3; have hp3 := HasP.below hpd h3; have NCb := Lib.hid (NC.out _ k3); clear h3)
                  | (go_at_call 27; (with_reducible refine NCb.out.mono ?_); rintro e u4 ⟨v4, rfl, a4, h4⟩; have k4 := px_call k3 h4; have hx4 := HB.below hx3 h4; have ht4 := HB.below ht3 h4; have av4 := AddrsG.below av3 h4; have hp4 := HasP.below hp3 h4; obtain ⟨p4, c4, rfl⟩ := a4.slice; have a4b := a4.at; have SCb := Lib.hid (SC.out _ _ _ av4 a4b); clear h4 a4)
                  | (go_at_call 11; (with_reducible refine SCb.out.mono ?_); rintro e u5 ⟨rfl, h5⟩; have k5 := px_call k4 h5; have hx5 := HB.below hx4 h5; have ht5 := HB.below ht4 h5; have av5 := AddrsG.below av4 h5; have hp5 := HasP.below hp4 h5; clear h5))
              all_goals
                clear hx3 ht3 hx4 ht4 av3 av4 hp3 hp4 k3 k4 kkd hxd htd avd atd hpd kk hx ht av at9 KF SC NCb SCb a4b ht5
                go_wp2_with fail
                go_roundw
                case rel => exact ⟨k + 1, ⟨oe, os⟩, u, pz, cz, by omega, by go_num, Lib.hid hp5, Lib.hid hx5, Lib.hid av5, UN, LN, Lib.hid k5⟩
                case measure => simp [intOf]; omega
    · obtain rfl : k = n := by omega
      have d2 : decide ((k : Int) < (k : Int)) = false := by simp
      have d3 : decide (k < k) = false := by simp
      clear hlt
      go_wp2_with fail
      ((with_reducible refine (HL.out _).mono ?_); rintro e w2 ⟨rfl, h2⟩)
      have KL := Lib.hid (px_call KB.out h2)
      clear h2
      go_wp2_with fail
      go_ret
      exact ⟨rfl, KL.out⟩

theorem own : ownKnob Try.prog.godebug = none := by kernel_rfl
theorem laidOut : laidOutB Try.prog = true := by kernel_rfl

set_option maxHeartbeats 1000000 in
set_option maxRecDepth 100000 in
theorem lifted (os : Os) (started : os.Started) (H : Type) (enc : TypeId × Value → H) :
    ReturnsInHanded {} Try.checked os 6 .any (Rows.proxyLeadsSpec.pre6 enc Try.prog Try.f6 Rows.proxyLeadsRow.domain false) (Rows.proxyLeadsSpec.post enc Try.prog Try.f6 false true false false) := by
  refine returnsInHanded_of_change_sized (C := Try.checked) own started (by kernel_rfl) Try.func6
    (ChangeSpec.witness6 (enc := enc) (C := Try.checked) false ⟨#[], #[.slice none 0 0], []⟩ 8 (by kernel_rfl) (by kernel_rfl) (by kernel_rfl) (by kernel_rfl)) ?_
  intro W base args ds gs before hval0 hW hcnd hsz0 hholds
  have hval : ∀ (j : Nat) t v, Try.f6.params[j]? = some t → args[j]? = some v → Value.okWide Try.prog W .any base t v := hval0
  have hsz : (DataW.weightsEach Try.prog (Try.f6.params.toList ++ Rows.proxyLeadsSpec.plain.varTypes Try.prog) (ds ++ gs)).all (· ≤ reachBytes) = true := hsz0
  have hW' := hW
  obtain ⟨p, q, hA0, hV, rfl, hfz, hnd⟩ := hW
  have hA : DataW.TrodAll enc Try.prog W 0 (fun _ => true) true Try.f6.params.toList args.toList ds p := hA0
  rw [Try.params6] at hA hval hsz
  obtain ⟨v0, vs0, d0, ds0, p0, q0, hargs, rfl, rfl, h0, r0⟩ := trodAll_cons hA
  obtain ⟨rfl, rfl, rfl⟩ := trodAll_nil r0
  obtain rfl : args = #[v0] := by cases args; simp_all
  obtain ⟨rfl, rfl⟩ := trodVars_none hV
  have k0 := h0
  have lt0 : ∀ x ∈ p0, x.block < W.heap.size := by obtain ⟨m, hm⟩ := k0; exact DataW.trod_lt m _ _ _ hm
  obtain ⟨sa0, sl0, sc0, rfl⟩ := okWide_slice Try.underlying59 (hval 0 59 v0 rfl rfl)
  obtain ⟨fu0, hf0⟩ := h0
  obtain ⟨vv0, L0, e0, hh0, qq0, ss0⟩ := openFlR hf0 (Wt.top hsz (j := 0) (t := 59) rfl rfl)
  simp [Value.cells] at e0
  subst e0
  clear hA0 hval0
  refine (walk (.slice sa0 sl0 sc0) L0 W hh0 qq0 ss0).mono fun e W' ⟨he, bel⟩ => ?_
  subst he
  exact ⟨_, rfl, _, _, _, [], _, [], hW', trodAll_mk1 (shut_bool Try.underlying4 _), (trodAll_cons_mk (Below.trod laidOut (by kernel_rfl) (of_decide_eq_true (by kernel_rfl)) k0 bel lt0) trodAll_mk0), rfl, bel.frame _, fun h => by cases h⟩

theorem over : Rows.proxyLeadsRow.holds Try.pinned (OpenSpec.ofChange Rows.proxyLeadsSpec) :=
  OpenClaim.holds_of_wide 6 Try.f6 rfl rfl rfl rfl rfl rfl rfl ⟨rfl, rfl, rfl, rfl, rfl⟩ rfl rfl rfl rfl rfl (by kernel_rfl) Try.func6 (by kernel_rfl)
    (of_decide_eq_true (by kernel_rfl)) (by unfold Func.isWrapper; first | (rw [if_pos (by decide +kernel)]; kernel_rfl) | (rw [if_neg (by decide +kernel)]; exact ⟨rfl, rfl⟩))
    (fun os started H enc _ => lifted os started H enc)

/-- The statement. -/
theorem proved : Rows.ProxyLeadsSaid := over
#print axioms proved
end Go.Proofs.Ythpafojeadbjlaa.proxyLeadsLaw
