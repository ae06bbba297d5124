/-
  'siphonlaw21.ProxyScripts' returns true, whatever the input, and each argument reads behind the call as it read before. Conditions: none beyond those that the row itself states.
-/
import Derived.Test.YthpafojeadbjlaaRows
import Derived.Test.YthpafojeadbjlaaPxQZ
import Derived.Test.YthpafojeadbjlaaRowOpP
import Derived.WalkKit
import Derived.ProofKit
import Derived.OpenShut
import Derived.ShutString
import Derived.ChangeOld
import Derived.Below
import Derived.Carry
import Derived.SizedLaws
import Derived.Lib.SmallJoins
import Derived.ChangeArms
import Derived.WideShapes
namespace Go.Proofs.Ythpafojeadbjlaa.proxyScriptsLaw
open Go.ChangeShapes Go.WideShapes Go.ChangeAt Go.RowKit Go.Joins
open Go.ChangeMaps (open_string shut_string)
set_option linter.unusedVariables false

set_option maxHeartbeats 16000000 in
set_option maxRecDepth 100000 in
theorem walk (a0 : Int) (a1 : Value) (la1 : List OpP) (w : World) (la0 : -9223372036854775808 ≤ a0) (ua0 : a0 ≤ 9223372036854775807) (ha1 : RowsAt 5 cellsOpP w a1 la1) (qa1 : la1.length ≤ maxLen ∧ ∀ p n c, a1 = .slice p n c → n ≤ c) (sa1 : ∀ r ∈ la1, GoodOpP w r) :
    Calls Try.prog 5 #[.int .i64 a0, a1] w fun e w' => e = .returned (.bool true) ∧ Below w.heap.size w w' := by
  have HL := Lib.hid fun U => live21_c U
  have HA0 := Lib.hid ha1
  have HG0 := Lib.hid (fun r hr => (sa1 r hr).2.2.2.2)
  obtain ⟨p0, c0, rfl⟩ := ha1.slice
  obtain ⟨n, hn⟩ : ∃ n, n = la1.length := ⟨_, rfl⟩
  rw [← hn]
  have HN := Lib.hid hn
  have QN := qa1.1
  unfold maxLen at QN
  rw [← hn] at QN
  clear ha1 qa1 sa1 hn
  by_cases h1 : a0 < 1
  · have d1 : decide (a0 < 1) = true := decide_eq_true h1
    have NC := Lib.hid (pnew_no a0 (Or.inl h1) w)
    clear h1 la0 ua0 HA0 HG0
    go_enter Try.func5, Try.ntmps5
    go_wp2_with fail
    ((with_reducible refine NC.out.mono ?_); rintro e w1 ⟨rfl, h9⟩; replace h9 := h9.symm; subst h9)
    go_wp2_with fail
    ((with_reducible refine (HL.out _).mono ?_); rintro e w2 ⟨rfl, h2⟩)
    go_wp2_with fail
    go_ret
    exact ⟨rfl, h2⟩
  have d1 : decide (a0 < 1) = false := decide_eq_false h1
  by_cases h2 : 4096 < a0
  · have d2 : decide (4096 < a0) = true := decide_eq_true h2
    have NC := Lib.hid (pnew_no a0 (Or.inr h2) w)
    clear h1 h2 la0 ua0 HA0 HG0
    go_enter Try.func5, Try.ntmps5
    go_wp2_with fail
    ((with_reducible refine NC.out.mono ?_); rintro e w1 ⟨rfl, h9⟩; replace h9 := h9.symm; subst h9)
    go_wp2_with fail
    ((with_reducible refine (HL.out _).mono ?_); rintro e w2 ⟨rfl, h2⟩)
    go_wp2_with fail
    go_ret
    exact ⟨rfl, h2⟩
  have d2 : decide (4096 < a0) = false := decide_eq_false h2
  have NC := Lib.hid (pnew_ok a0 (by omega) (by omega) w)
  have HR1 := Lib.hid (show 1 ≤ a0 by omega)
  have HR2 := Lib.hid (show a0 ≤ 4096 by omega)
  clear h1 h2 la0 ua0
  go_enter Try.func5, Try.ntmps5
  go_wp2_with fail
  ((with_reducible refine NC.out.mono ?_); rintro e w1 ⟨rfl, h1, k1⟩)
  have H1 := Lib.hid h1
  have K1 := Lib.hid k1
  clear h1 k1 NC
  obtain ⟨p, hp⟩ : ∃ p, p = w.heap.size + 1 := ⟨_, rfl⟩
  obtain ⟨mb, hmb⟩ : ∃ p, p = w.heap.size := ⟨_, rfl⟩
  rw [← hp, ← hmb] at H1
  rw [← hp]
  have HMB := Lib.hid (show w.heap.size ≤ mb by omega)
  clear hp hmb
  go_upto_region 7 with fail
  have KA := (Below.refl w1.heap.size w1).alloc (Nat.le_refl _) (.cells #[.int .i64 a0, .slice none 0 0] 47)
  have HP1 := Lib.hid (H1.out.below KA)
  have HK1 := Lib.hid (show HasK (w1.alloc (.cells #[.int .i64 a0, .slice none 0 0] 47)) w1.heap.size a0 [] from ⟨⟨none, 0, heap_new w1 _, Nat.le_refl _, RowsAt.nil _⟩, fun x hx => by cases hx⟩)
  have KB1 := Lib.hid (px_call K1.out KA)
  have HKB := Lib.hid (show w.heap.size ≤ w1.heap.size from K1.out.size)
  have NKP := Lib.hid (show w1.heap.size ≠ p from fun e => by have := H1.out.lt; omega)
  have NKM := Lib.hid (show w1.heap.size ≠ mb from fun e => by have := H1.out.map.lt; omega)
  clear KA H1 K1
  generalize w1.alloc (.cells #[.int .i64 a0, .slice none 0 0] 47) = W0 at HP1 HK1 KB1 ⊢
  generalize w1.heap.size = kb at HK1 HKB NKP NKM ⊢
  have GR1 := Lib.hid (goodR_nil (room := a0) (by have := HR1.out; omega))
  go_wp2_with fail
  go_loopw [8, 9, 10, 11, 12, 13, 14, 15, 16] (fun i _ _ _ _ _ _ _ _ wr => ∃ (k : Nat) (R K : List Pr), k ≤ n ∧ k ≤ 40 ∧ i = .int .i64 k ∧ Hid (HasP wr p mb a0 R) ∧ Hid (HasK wr kb a0 K) ∧ Hid (GoodR R a0) ∧ Hid (GoodR K a0) ∧ Hid (Alk R K) ∧ Hid (Below w.heap.size w wr)) (fun i _ _ _ _ _ _ _ _ _ => 41 - (intOf i).toNat)
  case atStart => exact ⟨0, [], [], Nat.zero_le _, Nat.zero_le _, rfl, HP1, HK1, GR1, GR1, Lib.hid rfl, KB1⟩
  case round =>
    clear HP1 HK1 KB1 GR1
    obtain ⟨k, R, K, hk, hk40, rfl, HP, HK, GR, GK, AL, KB⟩ := hrel
    by_cases hlt : k < n
    · have e1 : decide ((k : Int) < (n : Int)) = true := decide_eq_true (by omega)
      have e2 : decide (k < n) = true := decide_eq_true hlt
      have e4 : decide (0 ≤ (k : Int)) = true := decide_eq_true (by omega)
      by_cases h40 : k < 40
      · have e3 : decide ((k : Int) < 40) = true := decide_eq_true (by omega)
        have e5 : decide (k < 40) = true := decide_eq_true h40
        obtain ⟨x, hx⟩ : ∃ x, la1[k]? = some x := ⟨_, List.getElem?_eq_getElem (by rw [← HN.out]; exact hlt)⟩
        obtain ⟨b, off, hpl, HRW⟩ : ∃ b off, p0 = some ⟨b, off, none⟩ ∧ ∀ U, Below w.heap.size w U → U.cell? ⟨b, off + k * 5, none⟩ = some (.int .i64 x.op) ∧ U.cell? ⟨b, off + k * 5 + 1, none⟩ = some (.int .i64 x.vl) ∧ U.cell? ⟨b, off + k * 5 + 2, none⟩ = some (.string x.gr) ∧ U.cell? ⟨b, off + k * 5 + 3, none⟩ = some (.bool x.ex) ∧ U.cell? ⟨b, off + k * 5 + 4, none⟩ = some x.srcv := by
          obtain ⟨q, d, b, off, hv, hq, hc⟩ := HA0.out
          simp only [Value.slice.injEq] at hv
          obtain ⟨rfl, -, rfl⟩ := hv
          refine ⟨b, off, hq (by rintro rfl; simp at hx), fun U hU => ⟨?_, ?_, ?_, ?_, ?_⟩⟩
          · exact cell_below hU (by simpa using hc k x hx 0 _ rfl)
          · exact cell_below hU (hc k x hx 1 _ rfl)
          · exact cell_below hU (hc k x hx 2 _ rfl)
          · exact cell_below hU (hc k x hx 3 _ rfl)
          · exact cell_below hU (hc k x hx 4 _ rfl)
        subst hpl
        have hgx := HG0.out x (List.mem_of_getElem? hx)
        have HA := Lib.hid (fun U (kz : Below w.heap.size w U) => hgx.1.below kz)
        have HZ := Lib.hid hgx.2.2
        obtain ⟨sq, sc, hsv⟩ := hgx.1.slice
        rw [hsv] at HA HRW
        obtain ⟨x0, x1, x2, x3, x4⟩ := HRW _ KB.out
        clear hx HRW hsv hgx
        obtain ⟨xo, xv, xg, xe, xsv, xs⟩ := x
        simp only at x0 x1 x2 x3 x4 HA HZ
        have KA := (Below.refl wr.heap.size wr).alloc (Nat.le_refl _) (.cells #[.int .i64 xo, .int .i64 xv, .string xg, .bool xe, .slice sq xs.length sc] 49)
        have OB := Lib.hid (heap_new wr (.cells #[.int .i64 xo, .int .i64 xv, .string xg, .bool xe, .slice sq xs.length sc] 49))
        have OKB := Lib.hid (show wr.heap.size ≠ kb from fun e => by have := HK.out.lt; omega)
        have HP2 := Lib.hid (HP.out.below KA)
        have HK2 := Lib.hid (HK.out.below KA)
        have KB2 := Lib.hid (px_call KB.out KA)
        clear KA HP HK KB
        go_upto_region 11 with fail
        clear x0 x1 x2 x3 x4
        have HP := HP2
        have HK := HK2
        have KB := KB2
        clear HP2 HK2 KB2
        generalize wr.alloc (.cells #[.int .i64 xo, .int .i64 xv, .string xg, .bool xe, .slice sq xs.length sc] 49) = W at OB HP HK KB ⊢
        generalize wr.heap.size = ob at OB OKB ⊢
        have x0 := cell_of_block (j := 0) OB.out rfl
        have x1 := cell_of_block (j := 1) OB.out rfl
        have x2 := cell_of_block (j := 2) OB.out rfl
        have x3 := cell_of_block (j := 3) OB.out rfl
        have x4 := cell_of_block (j := 4) OB.out rfl
        by_cases h60 : 60 < xs.length
        · have d6 : decide ((60 : Int) < (xs.length : Int)) = true := decide_eq_true (by omega)
          clear h60
          go_wp2_with fail
          ((with_reducible refine (HL.out _).mono ?_); rintro e w2 ⟨rfl, h2⟩)
          have KL := Lib.hid (px_call KB.out h2)
          clear h2
          clear x0 x1 x2 x3 x4
          go_wp2_with fail
          go_ret
          exact ⟨rfl, KL.out⟩
        · have d6 : decide ((60 : Int) < (xs.length : Int)) = false := decide_eq_false (by omega)
          have hxl : xs.length ≤ 60 := by omega
          by_cases ho : xo = 0
          · subst ho
            clear h60
            have PT := ptell_c HP.out GR.out HR1.out HR2.out xv xg xe (.slice sq xs.length sc) xs (by omega) HZ.out (HA.out _ KB.out)
            unfold TlPost at PT
            have PTH := Lib.hid PT
            clear PT
            go_wp2_with fail
            ((with_reducible refine PTH.out.mono ?_); rintro e w3 ⟨u, r, rfl, r3, h3, t3⟩)
            have NSM := Lib.hid (fun b (hb : b = mb) => show NoStr W b from by rw [hb]; exact HP.out.noStr)
            have HK3 := Lib.hid (HK.out.tws t3 NSM.out NKM.out)
            have KB3 := Lib.hid (KB.out.trans (t3.below (B := w.heap.size) (fun b hb => by have h8 : b = mb := hb; have := HMB.out; omega) KB.out.size))
            have OB3 := Lib.hid (t3.blk OB.out (HP.out.neB OB.out))
            have AL9 := Lib.hid (fun u2 => AL.out.tell (room := a0) xv xg ⟨xe, xs⟩ u u2)
            have GR9 := Lib.hid (GR.out.tell xv xg ⟨xe, xs⟩ u (by simp only; omega))
            have TR9 := Lib.hid (tell_recs a0 R xv xg ⟨xe, xs⟩ u (old_len GR.out xv xg) (by simp only; omega))
            generalize tellR a0 R xv xg ⟨xe, xs⟩ u = TR at r3 h3 AL9 GR9 TR9 ⊢
            obtain ⟨rs, er, R'⟩ := TR
            simp only at r3 h3 AL9 GR9 TR9
            have R3 := Lib.hid r3
            obtain ⟨rq, rc, rfl⟩ := r3.slice
            have HP3 := Lib.hid h3
            clear r3 h3 t3 HP HK OB KB PTH NSM GR
            have PK := ktell_c HK3.out GK.out HR1.out HR2.out xv xg xe (.slice sq xs.length sc) xs (by omega) (HA.out _ KB3.out)
            unfold TkPost at PK
            have PKH := Lib.hid PK
            clear PK x0 x1 x2 x3 x4
            have x1 := cell_of_block (j := 1) OB3.out rfl
            have x2 := cell_of_block (j := 2) OB3.out rfl
            have x3 := cell_of_block (j := 3) OB3.out rfl
            have x4 := cell_of_block (j := 4) OB3.out rfl
            go_wp2_with fail
            ((with_reducible refine PKH.out.mono ?_); rintro e w4 ⟨u2, r2, rfl, r4, h4, t4⟩)
            have NSK := Lib.hid (fun b (hb : b = kb) => show NoStr w3 b from by rw [hb]; exact HK3.out.noStr)
            have HP4 := Lib.hid (HP3.out.tws t4 NSK.out NKP.out.symm (fun e => NKM.out e.symm))
            have R4 := Lib.hid (recs_tws R3.out t4 NSK.out)
            have KB4 := Lib.hid (KB3.out.trans (t4.below (B := w.heap.size) (fun b hb => by have h8 : b = kb := hb; have := HKB.out; omega) KB3.out.size))
            have AL8 := AL9.out u2
            have GK9 := Lib.hid (GK.out.tell xv xg ⟨xe, xs⟩ u2 (by simp only; omega))
            generalize tellR a0 K xv xg ⟨xe, xs⟩ u2 = TK at r4 h4 AL8 GK9 ⊢
            obtain ⟨rs2, er2, K'⟩ := TK
            simp only at r4 h4 AL8 GK9
            obtain ⟨rfl, rfl, al⟩ := AL8
            have ALN := Lib.hid al
            have R5 := Lib.hid r4
            obtain ⟨rq2, rc2, rfl⟩ := r4.slice
            have HK4 := Lib.hid h4
            have e1 : (er == er) = true := by simp
            have e2 : decide (er = er) = true := by simp
            have SR := Lib.hid (sameR_c _ _ rs w4 (by have := TR9.out.1; omega) (fun r hr => by have := TR9.out.2 r hr; omega) R4.out R5.out)
            clear r4 h4 t4 al HP3 HK3 KB3 OB3 R3 PKH NSK AL9 AL GK x1 x2 x3 x4
            go_wp2_with fail
            ((with_reducible refine SR.out.mono ?_); rintro e w5 ⟨rfl, q5, rfl⟩)
            have KB5 := Lib.hid (below_drewN KB4.out q5)
            have KD := below_drewN (Below.refl w4.heap.size w4) q5
            have HP5 := Lib.hid (HP4.out.below KD)
            have HK5 := Lib.hid (HK4.out.below KD)
            clear KD HP4 HK4 KB4 SR R4 R5 e1 e2
            go_wp2_with fail
            go_roundw
            case rel => exact ⟨k + 1, R', K', by omega, by omega, by go_num, HP5, HK5, GR9, GK9, ALN, KB5⟩
            case measure => simp [intOf]; omega
          · obtain ⟨g1, g2⟩ := ne_t ho
            have g3 : decide (xo = 0) = false := decide_eq_false ho
            by_cases ho1 : xo = 1
            · subst ho1
              clear h60 g1 g2 g3 ho
              have PF := Lib.hid (fun U (h : HasP U p mb a0 R) => pfor_c h GR.out HR2.out xv)
              have KFG0 := fun U (h : HasK U kb a0 K) => kfor_c h (by have := GK.out.len; have := HR2.out; omega) xv
              have elen : (ofR K xv).length = (ofR R xv).length := ((AL.out.of xv).len).symm
              rw [elen] at KFG0
              have KFG := Lib.hid KFG0
              have GRF := Lib.hid (GR.out.off xv)
              have GKF := Lib.hid (GK.out.off xv)
              have ALF := Lib.hid (AL.out.off xv)
              have KF := Lib.hid (fun (U : World) (hb : U.heap[ob]? = some (.cells #[.int .i64 1, .int .i64 xv, .string xg, .bool xe, .slice sq xs.length sc] 49 (0, 0))) => (cell_of_block hb rfl : U.cell? ⟨ob, 1, none⟩ = some (.int .i64 xv)))
              generalize hln : (ofR R xv).length = ln at PF KFG
              have e1 : ((ln : Int) == (ln : Int)) = true := by simp
              have e2 : decide ((ln : Int) = (ln : Int)) = true := by simp
              clear KFG0 elen hln
              go_upto_region 30 with fail
              clear x0 x1 x2 x3 x4
              have HP0 := HP.out.drew
              have HK0 := HK.out.drew
              have kk := KB.out.drew
              have OB0 : W.drew.heap[ob]? = some (.cells #[.int .i64 1, .int .i64 xv, .string xg, .bool xe, .slice sq xs.length sc] 49 (0, 0)) := OB.out
              clear HP HK KB OB GR GK AL
              have HP := HP0
              have HK := HK0
              have OB := OB0
              clear HP0 HK0 OB0
              obtain ⟨K0, hK0⟩ : ∃ L, L = K := ⟨_, rfl⟩
              subst hK0
              refine wp_region_held_drew (S := fun U => U.cell? ⟨ob, 1, none⟩ = some (.int .i64 xv)) (by kernel_rfl) (KF.out _ OB) (fun hH => ?_)
              generalize W.drew = Y0 at HP HK kk OB hH ⊢
              refine wpAnyH_take (i := 0) (oi := { dst := some 137, op := Op.move (Operand.tmp 5), type := 40, pos := "law.go:107", after := #[], guard := none }) (v := .pointer (some ⟨p, 0, none⟩)) rfl (by kernel_rfl) (by kernel_rfl) (by kernel_rfl) (fun _ _ _ h => h) (Or.inl ⟨by kernel_rfl, ?_⟩) hH ?_
              · intro w hSw; (try dsimp only at hSw); go_simp; (try rfl)
              try simp only [Act.put, List.setIfInBounds_toArray, List.set_cons_zero, List.set_cons_succ]
              refine wpAnyH_take (i := 1) (oi := { dst := some 138, op := Op.fieldAddr 49 (Operand.tmp 9) 1, type := 0, pos := "law.go:107", after := #[], guard := none }) (v := .pointer (some ⟨ob, 1, none⟩)) rfl (by kernel_rfl) (by kernel_rfl) (by kernel_rfl) (fun _ _ _ h => h) (Or.inl ⟨by kernel_rfl, ?_⟩) hH ?_
              · intro w hSw; (try dsimp only at hSw); go_simp; (try rfl)
              try simp only [Act.put, List.setIfInBounds_toArray, List.set_cons_zero, List.set_cons_succ]
              refine wpAnyH_take (i := 2) (oi := { dst := some 139, op := Op.load 3 (Operand.tmp 138), type := 3, pos := "law.go:107", after := #[{ on := 1, ground := Ground.data }], guard := none }) (v := .int .i64 xv) rfl (by kernel_rfl) (by kernel_rfl) (by kernel_rfl) (fun _ _ _ h => h) (Or.inl ⟨by kernel_rfl, ?_⟩) hH ?_
              · intro w hSw; (try dsimp only at hSw); go_simp; (try rfl)
              try simp only [Act.put, List.setIfInBounds_toArray, List.set_cons_zero, List.set_cons_succ]
              refine wpAnyH_take (i := 4) (oi := { dst := some 141, op := Op.move (Operand.tmp 7), type := 44, pos := "law.go:107", after := #[], guard := none }) (v := .pointer (some ⟨kb, 0, none⟩)) rfl (by kernel_rfl) (by kernel_rfl) (by kernel_rfl) (fun _ _ _ h => h) (Or.inl ⟨by kernel_rfl, ?_⟩) hH ?_
              · intro w hSw; (try dsimp only at hSw); go_simp; (try rfl)
              try simp only [Act.put, List.setIfInBounds_toArray, List.set_cons_zero, List.set_cons_succ]
              refine wpAnyH_take (i := 5) (oi := { dst := some 142, op := Op.fieldAddr 49 (Operand.tmp 9) 1, type := 0, pos := "law.go:107", after := #[], guard := none }) (v := .pointer (some ⟨ob, 1, none⟩)) rfl (by kernel_rfl) (by kernel_rfl) (by kernel_rfl) (fun _ _ _ h => h) (Or.inl ⟨by kernel_rfl, ?_⟩) hH ?_
              · intro w hSw; (try dsimp only at hSw); go_simp; (try rfl)
              try simp only [Act.put, List.setIfInBounds_toArray, List.set_cons_zero, List.set_cons_succ]
              refine wpAnyH_take (i := 6) (oi := { dst := some 143, op := Op.load 3 (Operand.tmp 142), type := 3, pos := "law.go:107", after := #[{ on := 5, ground := Ground.data }], guard := none }) (v := .int .i64 xv) rfl (by kernel_rfl) (by kernel_rfl) (by kernel_rfl) (fun _ _ _ h => h) (Or.inl ⟨by kernel_rfl, ?_⟩) hH ?_
              · intro w hSw; (try dsimp only at hSw); go_simp; (try rfl)
              try simp only [Act.put, List.setIfInBounds_toArray, List.set_cons_zero, List.set_cons_succ]
              refine wpAnyH_ready (rs := [3]) (by kernel_rfl) (by simp) ?_
              refine AllReadyH.cons rfl (fun K hK => ?_) AllReadyH.nil
              go_simp
              with_reducible refine (PF.out Y0 HP).mono ?_
              rintro e Y1 ⟨rfl, hp, t3⟩
              (try go_wp2_with fail)
              replace HK := HK.tws t3 (fun b hb => by rw [show b = mb from hb]; exact HP.noStr) NKM.out
              replace kk := kk.trans (t3.below (B := w.heap.size) (fun b hb => by have h8 : b = mb := hb; have := HMB.out; omega) kk.size)
              replace OB := t3.blk OB (HP.neB OB)
              replace HP := hp
              clear t3 hp
              refine hK.out _ _ (KF.out _ OB) (fun hH => ?_)
              clear hK K
              try simp only [Act.put, List.setIfInBounds_toArray, List.set_cons_zero, List.set_cons_succ]
              refine wpAnyH_ready (rs := [7]) (by kernel_rfl) (by simp) ?_
              refine AllReadyH.cons rfl (fun K hK => ?_) AllReadyH.nil
              go_simp
              with_reducible refine (KFG.out Y1 HK).mono ?_
              rintro e Y2 ⟨rfl, hk2, t3⟩
              (try go_wp2_with fail)
              replace HP := HP.tws t3 (fun b hb => by rw [show b = kb from hb]; exact HK.noStr) NKP.out.symm (fun e => NKM.out e.symm)
              replace kk := kk.trans (t3.below (B := w.heap.size) (fun b hb => by have h8 : b = kb := hb; have := HKB.out; omega) kk.size)
              replace OB := t3.blk OB (fun e => OKB.out e)
              replace HK := hk2
              clear t3 hk2
              refine hK.out _ _ (KF.out _ OB) (fun hH => ?_)
              clear hK K
              try simp only [Act.put, List.setIfInBounds_toArray, List.set_cons_zero, List.set_cons_succ]
              refine wpAnyH_take (i := 8) (oi := { dst := some 145, op := Op.binOp BinOp.neq 3 (Operand.tmp 140) (Operand.tmp 144) 3, type := 4, pos := "law.go:107", after := #[{ on := 3, ground := Ground.data }, { on := 7, ground := Ground.data }], guard := none }) (v := .bool false) rfl (by kernel_rfl) (by kernel_rfl) (by kernel_rfl) (fun _ _ _ h => h) (Or.inl ⟨by kernel_rfl, ?_⟩) hH ?_
              · intro w hSw; (try dsimp only at hSw); go_simp; (try rfl)
              try simp only [Act.put, List.setIfInBounds_toArray, List.set_cons_zero, List.set_cons_succ]
              refine wpAnyH_done (by kernel_rfl) ?_ _
              have HP5 := Lib.hid HP
              have HK5 := Lib.hid HK
              have KB5 := Lib.hid kk
              clear HP HK kk OB hH
              go_wp2_with fail
              go_roundw
              case rel => exact ⟨k + 1, offR R xv, offR K0 xv, by omega, by omega, by go_num, HP5, HK5, GRF, GKF, ALF, KB5⟩
              case measure => simp [intOf]; omega
            · obtain ⟨g4, g5⟩ := ne_t ho1
              have g6 : decide (xo = 1) = false := decide_eq_false ho1
              clear h60 ho ho1
              have PA := Lib.hid (pall_c HP.out GR.out HR2.out xv)
              go_wp2_with fail
              ((with_reducible refine PA.out.mono ?_); rintro e w3 ⟨m, rfl, r3, k3⟩)
              have OB3 := Lib.hid (below_block k3 (lt_of_block OB.out) OB.out)
              have KZ := kall_c (HK.out.below k3) (by have := GK.out.len; have := HR2.out; omega) (fun x hx => (GK.out.ok x hx).2.2.2.2.2) xv
              rw [← (AL.out.of xv).recs] at KZ
              have LL := Lib.hid (show ((ofR R xv).map recR).length ≤ 4096 by rw [List.length_map]; have := List.length_filter_le (fun x : Pr => decide (x.vl = xv)) R; have := GR.out.len; have := HR2.out; unfold ofR; omega)
              have LS := Lib.hid (show ∀ r ∈ (ofR R xv).map recR, r.srcs.length ≤ 1000 from fun r hr => by
                obtain ⟨x, hx, rfl⟩ := List.mem_map.1 hr
                exact (GR.out.ok x (List.mem_filter.1 hx).1).2.2.2.2.2)
              generalize (ofR R xv).map recR = L at r3 KZ LL LS
              have R3 := Lib.hid r3.recs
              obtain ⟨T, hT, hO, hS⟩ := r3
              obtain ⟨mq, mc, rfl⟩ := own_slice hO
              have HT := Lib.hid hT
              have O3 := Lib.hid hO
              have S3 := Lib.hid hS
              have K3 := Lib.hid k3
              have KZH := Lib.hid KZ
              clear hT hO hS k3 KZ PA x0 x1 x2 x3 x4
              have x1 := cell_of_block (j := 1) OB3.out rfl
              go_wp2_with fail
              ((with_reducible refine KZH.out.mono ?_); rintro e w4 ⟨m2, rfl, r4, k4⟩)
              have r5 := r4.recs
              obtain ⟨mq2, mc2, rfl⟩ := r5.slice
              have SR := Lib.hid (sameR_c _ _ L w4 (by have := LL.out; omega) (fun r hr => by have := LS.out r hr; omega) (R3.out.below k4) r5)
              have O4 := Lib.hid (owns_below O3.out k4)
              have S4 := Lib.hid (fun t ht => (S3.out t ht).below k4)
              have K4 := Lib.hid (px_call K3.out k4)
              clear r4 r5 k4 x1 KZH O3 S3 K3 OB3 R3
              go_wp2_with fail
              ((with_reducible refine SR.out.mono ?_); rintro e w5 ⟨rfl, q5, rfl⟩)
              have KD := below_drewN (Below.refl w4.heap.size w4) q5
              have O5 := Lib.hid (owns_below O4.out KD)
              have S5 := Lib.hid (fun t ht => ((S4.out t ht).below KD).z)
              have K5 := Lib.hid (px_call K4.out KD)
              have TL := Lib.hid (show T.length ≤ 4096 by have h9 := congrArg List.length HT.out; rw [List.length_map] at h9; have := LL.out; omega)
              have TS := Lib.hid (show ∀ t ∈ T, t.1.srcs.length ≤ 1000 from fun t ht => LS.out t.1 (by rw [← HT.out]; exact List.mem_map_of_mem ht))
              clear KD SR O4 S4 K4 LL LS HT
              generalize w4.drewN q5 = w6 at O5 S5 K5 ⊢
              go_wp2_with fail
              go_loopw [15, 16] (fun jv _ wr => ∃ j : Nat, j ≤ T.length ∧ jv = .int .i64 j ∧ Hid (wr.ownsRow W.heap.size 57 3 (.slice mq T.length mc) T.length (rowRv T)) ∧ Hid (∀ t ∈ T, OwnZ W.heap.size wr t.2 t.1.srcs.length) ∧ Hid (Below W.heap.size W wr)) (fun jv _ _ => T.length - (intOf jv).toNat)
              case atStart => exact ⟨0, Nat.zero_le _, rfl, O5, S5, K5⟩
              case round =>
                clear O5 S5 K5
                obtain ⟨j, hj, rfl, hO, hZ, hK⟩ := hrel
                have hT4 := TL.out
                by_cases hjt : j < T.length
                · obtain ⟨t, ht⟩ : ∃ t, T[j]? = some t := ⟨_, List.getElem?_eq_getElem hjt⟩
                  have htm := List.mem_of_getElem? ht
                  have hts := TS.out t htm
                  obtain ⟨tp, tc, htv, -⟩ := hZ.out t htm
                  have RWS : ∃ rb ro, mq = some ⟨rb, ro, none⟩ ∧ ∀ U : World, U.ownsRow W.heap.size 57 3 (.slice mq T.length mc) T.length (rowRv T) → U.cell? ⟨rb, ro + j * 3 + 2, none⟩ = some t.2 := by
                    have key : ∀ U : World, U.ownsRow W.heap.size 57 3 (.slice mq T.length mc) T.length (rowRv T) → ∃ rb, mq = some ⟨rb, 0, none⟩ ∧ U.cell? ⟨rb, 0 + j * 3 + 2, none⟩ = some t.2 := by
                      intro U hU
                      rcases hU.2 with ⟨hv, h0⟩ | ⟨g, cap, cur, hv, -⟩
                      · omega
                      · simp only [Value.slice.injEq] at hv
                        obtain ⟨rfl, -, rfl⟩ := hv
                        obtain ⟨q, d, b2, off2, hv2, hp2, hc2⟩ := rowsAt_own (cells := cellsRv) (by decide) (fun _ => rfl) hU
                        simp only [Value.slice.injEq] at hv2
                        obtain ⟨rfl, -, rfl⟩ := hv2
                        have e := hp2 (by rintro rfl; simp at ht)
                        simp only [Option.some.injEq, Addr.mk.injEq, and_true] at e
                        obtain ⟨rfl, rfl⟩ := e
                        exact ⟨_, rfl, hc2 j t ht 2 _ rfl⟩
                    obtain ⟨rb, hrb, -⟩ := key wr hO.out
                    refine ⟨rb, 0, hrb, fun U hU => ?_⟩
                    obtain ⟨rb2, h2, h3⟩ := key U hU
                    rw [hrb] at h2
                    simp only [Option.some.injEq, Addr.mk.injEq, and_true] at h2
                    subst h2
                    exact h3
                  obtain ⟨rb, ro, hmq, hrw⟩ := RWS
                  subst hmq
                  rw [htv] at hrw
                  have HRW := Lib.hid hrw
                  have HTM := Lib.hid htm
                  have HTV := Lib.hid htv
                  obtain ⟨sl, hsl⟩ : ∃ sl, sl = t.1.srcs.length := ⟨_, rfl⟩
                  rw [← hsl] at HRW HTV hts
                  have HSL := Lib.hid hsl
                  have e1j : decide ((j : Int) < (T.length : Int)) = true := decide_eq_true (by omega)
                  have e2j : decide (j < T.length) = true := decide_eq_true hjt
                  have e3j : decide (0 ≤ (j : Int)) = true := decide_eq_true (by omega)
                  clear ht htm htv hrw hsl
                  go_wp2_with fail
                  go_loopw [16] (fun iv wr => ∃ i : Nat, i ≤ sl ∧ iv = .int .i64 i ∧ Hid (wr.ownsRow W.heap.size 57 3 (.slice (some ⟨rb, ro, none⟩) T.length mc) T.length (rowRv T)) ∧ Hid (∀ t ∈ T, OwnZ W.heap.size wr t.2 t.1.srcs.length) ∧ Hid (Below W.heap.size W wr)) (fun iv _ => sl - (intOf iv).toNat)
                  case atStart => exact ⟨0, Nat.zero_le _, rfl, hO, hZ, hK⟩
                  case round =>
                    clear hO hZ hK
                    obtain ⟨i, hi, rfl, hO, hZ, hK⟩ := hrel
                    have y2 := HRW.out _ hO.out
                    by_cases hit : i < sl
                    · have e1i : decide ((i : Int) < (sl : Int)) = true := decide_eq_true (by omega)
                      have e2i : decide (i < sl) = true := decide_eq_true hit
                      have e3i : decide (0 ≤ (i : Int)) = true := decide_eq_true (by omega)
                      obtain ⟨zp, zc, hzv, hz⟩ := hZ.out t HTM.out
                      rw [HTV.out] at hzv
                      simp only [Value.slice.injEq] at hzv
                      obtain ⟨rfl, -, rfl⟩ := hzv
                      rcases hz with hz | ⟨g, cur, rfl, hbg, hbk, hsz⟩
                      · have := HSL.out; omega
                      · rw [← HSL.out] at hsz
                        obtain ⟨cu, hcu⟩ : ∃ cu, cur[i]? = some cu := ⟨_, Array.getElem?_eq_getElem (by omega)⟩
                        have z0 : wr.cell? ⟨g, i, none⟩ = some cu := cell_of_block hbk hcu
                        have fz := free_of_block (j := i) hbk
                        have O8 := Lib.hid (own_set (j := i) (u := (.string ⟨#[119, 114, 105, 116, 116, 101, 110]⟩)) hO.out hbk (by decide))
                        have Z8 := Lib.hid (fun t ht => (hZ.out t ht).set (j := i) (u := (.string ⟨#[119, 114, 105, 116, 116, 101, 110]⟩)) hbk)
                        have K8 := Lib.hid (hK.out.setCell (p := ⟨g, i, none⟩) hbg (.string ⟨#[119, 114, 105, 116, 116, 101, 110]⟩))
                        clear hO hZ hK hsz hbk hbg hcu
                        go_wp2_with fail
                        go_roundw
                        case rel => exact ⟨i + 1, by omega, by go_num, O8, Z8, K8⟩
                        case measure => simp [intOf]; omega
                    · obtain rfl : i = sl := by omega
                      have e1i : decide ((i : Int) < (i : Int)) = false := by simp
                      have e2i : decide (i < i) = false := by simp
                      clear hit
                      go_wp2_with fail
                      go_roundw
                      case rel => exact ⟨j + 1, by omega, by go_num, hO, hZ, hK⟩
                      case measure => simp [intOf]; omega
                · obtain rfl : j = T.length := by omega
                  have e1j : decide ((T.length : Int) < (T.length : Int)) = false := by simp
                  have e2j : decide (T.length < T.length) = false := by simp
                  have HP9 := Lib.hid (HP.out.below hK.out)
                  have HK9 := Lib.hid (HK.out.below hK.out)
                  have KB9 := Lib.hid (px_call KB.out hK.out)
                  clear hjt hO hZ hK hj
                  go_wp2_with fail
                  go_roundw
                  case rel => exact ⟨k + 1, R, K, by omega, by omega, by go_num, HP9, HK9, GR, GK, AL, KB9⟩
                  case measure => simp [intOf]; omega
      · have e3 : decide ((k : Int) < 40) = false := decide_eq_false (by omega)
        have e5 : decide (k < 40) = false := decide_eq_false h40
        clear h40 hlt
        go_wp2_with fail
        ((with_reducible refine (HL.out _).mono ?_); rintro e w2 ⟨rfl, h2⟩)
        have KL := Lib.hid (px_call KB.out h2)
        clear h2
        go_wp2_with fail
        go_ret
        exact ⟨rfl, KL.out⟩
    · have e1 : decide ((k : Int) < (n : Int)) = false := decide_eq_false (by omega)
      have e2 : decide (k < n) = false := decide_eq_false hlt
      clear hlt
      go_wp2_with fail
      ((with_reducible refine (HL.out _).mono ?_); rintro e w2 ⟨rfl, h2⟩)
      have KL := Lib.hid (px_call KB.out h2)
      clear h2
      go_wp2_with fail
      go_ret
      exact ⟨rfl, KL.out⟩

theorem own : ownKnob Try.prog.godebug = none := by kernel_rfl
theorem laidOut : laidOutB Try.prog = true := by kernel_rfl

set_option maxHeartbeats 1000000 in
set_option maxRecDepth 100000 in
theorem lifted (os : Os) (started : os.Started) (H : Type) (enc : TypeId × Value → H) :
    ReturnsInHanded {} Try.checked os 5 .any (Rows.proxyScriptsSpec.pre6 enc Try.prog Try.f5 Rows.proxyScriptsRow.domain false) (Rows.proxyScriptsSpec.post enc Try.prog Try.f5 false true false false) := by
  refine returnsInHanded_of_change_sized (C := Try.checked) own started (by kernel_rfl) Try.func5
    (ChangeSpec.witness6 (enc := enc) (C := Try.checked) false ⟨#[], #[.int .i64 0, .slice none 0 0], []⟩ 8 (by kernel_rfl) (by kernel_rfl) (by kernel_rfl) (by kernel_rfl)) ?_
  intro W base args ds gs before hval0 hW hcnd hsz0 hholds
  have hval : ∀ (j : Nat) t v, Try.f5.params[j]? = some t → args[j]? = some v → Value.okWide Try.prog W .any base t v := hval0
  have hsz : (DataW.weightsEach Try.prog (Try.f5.params.toList ++ Rows.proxyScriptsSpec.plain.varTypes Try.prog) (ds ++ gs)).all (· ≤ reachBytes) = true := hsz0
  have hW' := hW
  obtain ⟨p, q, hA0, hV, rfl, hfz, hnd⟩ := hW
  have hA : DataW.TrodAll enc Try.prog W 0 (fun _ => true) true Try.f5.params.toList args.toList ds p := hA0
  rw [Try.params5] at hA hval hsz
  obtain ⟨v0, vs0, d0, ds0, p0, q0, hargs, rfl, rfl, h0, r0⟩ := trodAll_cons hA
  obtain ⟨v1, vs1, d1, ds1, p1, q1, rfl, rfl, rfl, h1, r1⟩ := trodAll_cons r0
  obtain ⟨rfl, rfl, rfl⟩ := trodAll_nil r1
  obtain rfl : args = #[v0, v1] := by cases args; simp_all
  obtain ⟨rfl, rfl⟩ := trodVars_none hV
  have k0 := h0
  have lt0 : ∀ x ∈ p0, x.block < W.heap.size := by obtain ⟨m, hm⟩ := k0; exact DataW.trod_lt m _ _ _ hm
  have k1 := h1
  have lt1 : ∀ x ∈ p1, x.block < W.heap.size := by obtain ⟨m, hm⟩ := k1; exact DataW.trod_lt m _ _ _ hm
  obtain ⟨a0, rfl, rfl, rfl, w0⟩ := open_int Try.underlying3 (hval 0 3 v0 rfl rfl) h0
  obtain ⟨sa1, sl1, sc1, rfl⟩ := okWide_slice Try.underlying39 (hval 1 39 v1 rfl rfl)
  obtain ⟨fu1, hf1⟩ := h1
  obtain ⟨vv1, L1, e1, hh1, qq1, ss1⟩ := openOpP hf1 (Wt.top hsz (j := 1) (t := 39) rfl rfl)
  simp [Value.cells] at e1
  subst e1
  have ba0 := bounds_i64 w0
  clear hA0 hval0
  refine (walk a0 (.slice sa1 sl1 sc1) L1 W ba0.1 ba0.2 hh1 qq1 ss1).mono fun e W' ⟨he, bel⟩ => ?_
  subst he
  exact ⟨_, rfl, _, _, _, [], _, [], hW', trodAll_mk1 (shut_bool Try.underlying4 _), (trodAll_cons_mk (Below.trod laidOut (by kernel_rfl) (of_decide_eq_true (by kernel_rfl)) k0 bel lt0) (trodAll_cons_mk (Below.trod laidOut (by kernel_rfl) (of_decide_eq_true (by kernel_rfl)) k1 bel lt1) trodAll_mk0)), rfl, bel.frame _, fun h => by cases h⟩

theorem over : Rows.proxyScriptsRow.holds Try.pinned (OpenSpec.ofChange Rows.proxyScriptsSpec) :=
  OpenClaim.holds_of_wide 5 Try.f5 rfl rfl rfl rfl rfl rfl rfl ⟨rfl, rfl, rfl, rfl, rfl⟩ rfl rfl rfl rfl rfl (by kernel_rfl) Try.func5 (by kernel_rfl)
    (of_decide_eq_true (by kernel_rfl)) (by unfold Func.isWrapper; first | (rw [if_pos (by decide +kernel)]; kernel_rfl) | (rw [if_neg (by decide +kernel)]; exact ⟨rfl, rfl⟩))
    (fun os started H enc _ => lifted os started H enc)

/-- The statement. -/
theorem proved : Rows.ProxyScriptsSaid := over
#print axioms proved
end Go.Proofs.Ythpafojeadbjlaa.proxyScriptsLaw
