/-
  'siphonlaw15.RstpSafe' returns true, whatever the input, and each argument reads behind the call as it read before. Conditions: none beyond those that the row itself states.
-/
import Derived.Test.YtdjeifbbbpbhoaaRows
import Derived.Test.YtdjeifbbbpbhoaaRsL
import Derived.Test.YtdjeifbbbpbhoaaRsO
import Derived.Test.YtdjeifbbbpbhoaaRowOpS
import Derived.Test.YtdjeifbbbpbhoaaTrodJ
import Derived.WalkKit
import Derived.ProofKit
import Derived.OpenShut
import Derived.ShutString
import Derived.ChangeOld
import Derived.Below
import Derived.Carry
import Derived.SizedLaws
import Derived.Lib.SmallJoins
import Derived.ChangeArms
import Derived.WideShapes
namespace Go.Proofs.Ytdjeifbbbpbhoaa.rstpSafeLaw
open Go.ChangeShapes Go.WideShapes Go.ChangeAt Go.RowKit Go.Joins
open Go.ChangeMaps (open_string shut_string)
set_option linter.unusedVariables false

theorem roleT1 {r : Int} (h : r = 1) : (r == 0) = false ∧ (r != 0) = true ∧ (r == 1) = true ∧ (r != 1) = false ∧ (r == 2) = false ∧ (r != 2) = true := by subst h; decide
theorem roleT2 {r : Int} (h : r = 2) : (r == 0) = false ∧ (r != 0) = true ∧ (r == 1) = false ∧ (r != 1) = true ∧ (r == 2) = true ∧ (r != 2) = false := by subst h; decide
theorem actv_two {r : Int} (h : actv r = true) (hr : r ≠ 1) : r = 2 := by
  unfold actv at h
  simp at h
  omega
/-- The row of who is up. -/
def UpAt (w0 w : World) (ub : Nat) (l : List Bool) : Prop := w.heap[ub]? = some (.cells (boolRow l) 4 (0, 0)) ∧ w0.heap.size ≤ ub
theorem UpAt.below {w0 w w' : World} {ub : Nat} {l : List Bool} (h : UpAt w0 w ub l) (k : Below w.heap.size w w') : UpAt w0 w' ub l := ⟨below_block k (lt_of_block h.1) h.1, h.2⟩
theorem UpAt.tt {w0 w w' : World} {B ub : Nat} {l : List Bool} (h : UpAt w0 w ub l) (k : Tt isS B w w') : UpAt w0 w' ub l := ⟨k.cells h.1 (by decide), h.2⟩
theorem UpAt.cell {w0 w : World} {ub : Nat} {l : List Bool} (h : UpAt w0 w ub l) {k : Nat} {b : Bool} (hk : l[k]? = some b) : w.cell? ⟨ub, k, none⟩ = some (.bool b) := cell_of_block h.1 (boolRow_at hk)
theorem sst_only {w0 W W' : World} {t rb cap ub : Nat} {A : List Nat} {T : Part} {l : List Bool} (h : SSt w0 W t rb cap A T) (hu : UpAt w0 W ub l) (x : Only ub W W') : SSt w0 W' t rb cap A T := by
  have k : Tt (fun t => t == 4) w0.heap.size W W' := x.tt hu.1 (by decide) hu.2
  exact ⟨h.has.tt k (by decide) (by decide) (by decide) (by decide), h.bel.trans (k.below (Nat.le_refl _) h.bel.size)⟩

theorem info_Bb : (Try.prog.info? 4).map (fun i => (i.zero, i.size, i.bytes)) = some (some (.bool false), 1, 1) := by kernel_rfl

set_option maxHeartbeats 16000000 in
set_option maxRecDepth 100000 in
theorem walk (a0 : Int) (a1 : Value) (la1 : List Int) (a2 : Value) (la2 : List OpS) (w : World) (la0 : 0 ≤ a0) (ua0 : a0 ≤ 18446744073709551615) (ha1 : IntsAt w a1 la1) (qa1 : la1.length ≤ maxLen) (sa1 : I64 la1) (ha2 : RowsAt 12 cellsOpS w a2 la2) (qa2 : la2.length ≤ maxLen) (sa2 : ∀ r ∈ la2, GoodOpS r) :
    Calls Try.prog 5 #[.int .u64 a0, a1, a2] w fun e w' => e = .returned (.bool true) ∧ Below w.heap.size w w' := by
  have HL := Lib.hid fun U => live15_c U
  unfold maxLen at qa1 qa2
  obtain ⟨p2, cap2, bb2, off2, rfl, hp2, hc2⟩ := ha2
  have HP2 := Lib.hid hp2
  have HC2 := Lib.hid hc2
  have SG := Lib.hid sa2
  clear hp2 hc2 sa2
  cases hm : mayCs la1 with
  | false =>
    have N0 := Lib.hid (new_no a0 a1 la1 w ha1 (by omega) hm)
    clear hm
    go_enter Try.func5, Try.ntmps5
    go_wp2_with fail
    ((with_reducible refine N0.out.mono ?_); rintro e w1 ⟨rfl, h1⟩)
    go_wp2_with fail
    ((with_reducible refine (HL.out _).mono ?_); rintro e w2 ⟨rfl, h2⟩)
    go_wp2_with fail
    go_ret
    exact ⟨by simp, h1.trans (h2.mono h1.size)⟩
  | true =>
    obtain ⟨ib, hib, hbz0, hbz1, hbz2⟩ := info_parts info_Bb
    have hl16 : la1.length ≤ 16 := (mayCs_all hm).2.1
    have hmk : ∀ U : World, (Instr.makeSlice 51 (.int .i64 (la1.length : Int)) (.int .i64 (la1.length : Int))).run Try.prog U = .ok (.slice (some ⟨U.heap.size, 0, none⟩) la1.length la1.length) (U.alloc (.cells (boolRow (List.replicate la1.length false)) 4)) := fun U => by
      have h := run_make (P := Try.prog) U 51 4 ib (.bool false) Try.underlying51 hib hbz0 .i64 .i64 (la1.length : Int) (la1.length : Int) (by omega) (Int.le_refl _) (by rw [hbz2]; omega) (by omega)
      rw [hbz1, Int.toNat_natCast, boolRow_made] at h
      exact h
    have N0 := Lib.hid (new_yes (w0 := w) a0 a1 la1 w ha1 hm (Below.refl _ _))
    have HIV := Lib.hid (new_inv a0 la1)
    have HUP := Lib.hid (show (newPart a0 la1).ups = List.replicate la1.length false by unfold Part.ups newPart; rw [List.map_map]; exact List.map_eq_replicate_iff.2 (fun _ _ => rfl))
    obtain ⟨pc, cc, rfl⟩ := ha1.slice
    clear hm ha1 sa1
    go_enter Try.func5, Try.ntmps5
    go_wp2_with fail
    ((with_reducible refine N0.out.mono ?_); rintro e w1 ⟨t, rb, cap, A, rfl, hA, h1, -⟩)
    have H1 := Lib.hid h1
    have HA := Lib.hid hA
    clear h1 hA N0
    go_upto_region 7 with fail
    have HS0 := Lib.hid (H1.out.below ((Below.refl _ w1).alloc (Nat.le_refl _) (.cells (boolRow (List.replicate la1.length false)) 4)))
    have HU0 := Lib.hid (show UpAt w (w1.alloc (.cells (boolRow (List.replicate la1.length false)) 4)) w1.heap.size (newPart a0 la1).ups from by rw [HUP.out]; exact ⟨heap_new _ _, H1.out.bel.size⟩)
    clear H1 hmk HUP
    generalize w1.alloc (.cells (boolRow (List.replicate la1.length false)) 4) = W at HS0 HU0 ⊢
    generalize w1.heap.size = ub at HU0 ⊢
    go_wp2_with fail
    go_loopw [10, 11, 12, 13, 14] (fun i _ _ _ _ wr => ∃ (k : Nat) (T : Part), k ≤ la2.length ∧ k ≤ 60 ∧ i = .int .i64 k ∧ Hid (SSt w wr t rb cap A T) ∧ Hid (InvS T) ∧ Hid (UpAt w wr ub T.ups)) (fun i _ _ _ _ _ => 60 - (intOf i).toNat)
    case atStart => exact ⟨0, _, Nat.zero_le _, by omega, rfl, HS0, HIV, HU0⟩
    case round =>
      obtain ⟨k, T, hk, hk60, rfl, HS, HV, HU⟩ := hrel
      by_cases hend : k < la2.length ∧ k < 60
      · obtain ⟨hlt, hlt60⟩ := hend
        have hne : la2 ≠ [] := by rintro rfl; simp at hlt
        obtain rfl := HP2.out hne
        have hgood := SG.out _ (List.getElem_mem hlt)
        have KB := Lib.hid HS.out.bel
        have x0 : wr.cell? ⟨bb2, off2 + k * 12, none⟩ = some _ := gcell_below KB.out (HC2.out k _ (List.getElem?_eq_getElem hlt) 0 _ rfl)
        have x1 : wr.cell? ⟨bb2, off2 + k * 12 + 1, none⟩ = some _ := gcell_below KB.out (HC2.out k _ (List.getElem?_eq_getElem hlt) 1 _ rfl)
        have x2 : wr.cell? ⟨bb2, off2 + k * 12 + 2, none⟩ = some _ := gcell_below KB.out (HC2.out k _ (List.getElem?_eq_getElem hlt) 2 _ rfl)
        have x3 : wr.cell? ⟨bb2, off2 + k * 12 + 3, none⟩ = some _ := gcell_below KB.out (HC2.out k _ (List.getElem?_eq_getElem hlt) 3 _ rfl)
        have x4 : wr.cell? ⟨bb2, off2 + k * 12 + 4, none⟩ = some _ := gcell_below KB.out (HC2.out k _ (List.getElem?_eq_getElem hlt) 4 _ rfl)
        have x5 : wr.cell? ⟨bb2, off2 + k * 12 + 5, none⟩ = some _ := gcell_below KB.out (HC2.out k _ (List.getElem?_eq_getElem hlt) 5 _ rfl)
        have x6 : wr.cell? ⟨bb2, off2 + k * 12 + 6, none⟩ = some _ := gcell_below KB.out (HC2.out k _ (List.getElem?_eq_getElem hlt) 6 _ rfl)
        have x7 : wr.cell? ⟨bb2, off2 + k * 12 + 7, none⟩ = some _ := gcell_below KB.out (HC2.out k _ (List.getElem?_eq_getElem hlt) 7 _ rfl)
        have x8 : wr.cell? ⟨bb2, off2 + k * 12 + 8, none⟩ = some _ := gcell_below KB.out (HC2.out k _ (List.getElem?_eq_getElem hlt) 8 _ rfl)
        have x9 : wr.cell? ⟨bb2, off2 + k * 12 + 9, none⟩ = some _ := gcell_below KB.out (HC2.out k _ (List.getElem?_eq_getElem hlt) 9 _ rfl)
        have x10 : wr.cell? ⟨bb2, off2 + k * 12 + 10, none⟩ = some _ := gcell_below KB.out (HC2.out k _ (List.getElem?_eq_getElem hlt) 10 _ rfl)
        have x11 : wr.cell? ⟨bb2, off2 + k * 12 + 11, none⟩ = some _ := gcell_below KB.out (HC2.out k _ (List.getElem?_eq_getElem hlt) 11 _ rfl)
        generalize la2[k] = op at *
        obtain ⟨dd, po, up, r, c, g, q, age, ch, le, fw, now⟩ := op
        obtain ⟨⟨gd0, gd1⟩, ⟨gp0, gp1⟩, -, -, -, -, -, ⟨ga0, ga1⟩, -, -, -, ⟨gn0, gn1⟩⟩ := hgood
        simp only at x0 x1 x2 x3 x4 x5 x6 x7 x8 x9 x10 x11 gd0 gd1 gp0 gp1 ga0 ga1 gn0 gn1
        have hltk : decide (la2.length ≤ k) = false := decide_eq_false (by omega)
        clear hne KB
        go_upto_region 11 with fail
        have HB0 := Lib.hid (heap_new wr (.cells #[.int .i64 dd, .int .i64 po, .bool up, .int .u64 r, .int .i64 c, .int .u64 g, .int .i64 q, .int .i64 age, .bool ch, .bool le, .bool fw, .int .i64 now] 40))
        replace HS := Lib.hid (HS.out.below ((Below.refl _ wr).alloc (Nat.le_refl _) (.cells #[.int .i64 dd, .int .i64 po, .bool up, .int .u64 r, .int .i64 c, .int .u64 g, .int .i64 q, .int .i64 age, .bool ch, .bool le, .bool fw, .int .i64 now] 40)))
        replace HU := Lib.hid (HU.out.below ((Below.refl _ wr).alloc (Nat.le_refl _) (.cells #[.int .i64 dd, .int .i64 po, .bool up, .int .u64 r, .int .i64 c, .int .u64 g, .int .i64 q, .int .i64 age, .bool ch, .bool le, .bool fw, .int .i64 now] 40)))
        clear x0 x1 x2 x3 x4 x5 x6 x7 x8 x9 x10 x11 hltk
        generalize wr.alloc (.cells #[.int .i64 dd, .int .i64 po, .bool up, .int .u64 r, .int .i64 c, .int .u64 g, .int .i64 q, .int .i64 age, .bool ch, .bool le, .bool fw, .int .i64 now] 40) = W1 at HS HU HB0 ⊢
        generalize wr.heap.size = ob at HB0 ⊢
        have y0 : W1.cell? ⟨ob, 0, none⟩ = some (.int .i64 dd) := cell_of_block HB0.out rfl
        have y1 : W1.cell? ⟨ob, 1, none⟩ = some (.int .i64 po) := cell_of_block HB0.out rfl
        have y2 : W1.cell? ⟨ob, 2, none⟩ = some (.bool up) := cell_of_block HB0.out rfl
        have y3 : W1.cell? ⟨ob, 3, none⟩ = some (.int .u64 r) := cell_of_block HB0.out rfl
        have y4 : W1.cell? ⟨ob, 4, none⟩ = some (.int .i64 c) := cell_of_block HB0.out rfl
        have y5 : W1.cell? ⟨ob, 5, none⟩ = some (.int .u64 g) := cell_of_block HB0.out rfl
        have y6 : W1.cell? ⟨ob, 6, none⟩ = some (.int .i64 q) := cell_of_block HB0.out rfl
        have y7 : W1.cell? ⟨ob, 7, none⟩ = some (.int .i64 age) := cell_of_block HB0.out rfl
        have y8 : W1.cell? ⟨ob, 8, none⟩ = some (.bool ch) := cell_of_block HB0.out rfl
        have y9 : W1.cell? ⟨ob, 9, none⟩ = some (.bool le) := cell_of_block HB0.out rfl
        have y10 : W1.cell? ⟨ob, 10, none⟩ = some (.bool fw) := cell_of_block HB0.out rfl
        have y11 : W1.cell? ⟨ob, 11, none⟩ = some (.int .i64 now) := cell_of_block HB0.out rfl
        by_cases hn1 : now < 0
        · have d1 : decide (now < 0) = true := decide_eq_true hn1
          clear hn1
          go_wp2_with fail
          go_roundw
          case rel => exact ⟨k + 1, T, by omega, by omega, by go_num, HS, HV, HU⟩
          case measure => simp [intOf]; omega
        · have d1 : decide (now < 0) = false := decide_eq_false hn1
          by_cases hn2 : 1099511627776 < now
          · have d2 : decide (1099511627776 < now) = true := decide_eq_true hn2
            clear hn1 hn2
            go_wp2_with fail
            go_roundw
            case rel => exact ⟨k + 1, T, by omega, by omega, by go_num, HS, HV, HU⟩
            case measure => simp [intOf]; omega
          · have d2 : decide (1099511627776 < now) = false := decide_eq_false hn2
            have ht : timeR now = true := by unfold timeR; rw [d1, d2]; rfl
            clear hn1 hn2
            by_cases hd0 : dd = 0
            · obtain ⟨dd0, dd0'⟩ := eq_t hd0
              have HC := Lib.hid (link_s HS.out po up now)
              have HV2 := Lib.hid (link_inv HV.out po up now)
              clear hd0 HV
              go_wp2_with fail
              ((with_reducible refine HC.out.mono ?_); rintro e w4 ⟨rfl, h4, k4⟩)
              have hb4 := Lib.hid (k4.cells HB0.out (by decide))
              have HU4 := Lib.hid (HU.out.tt k4)
              have HS4 := Lib.hid h4
              clear h4 k4 HC HS HU HB0 y0 y1 y2 y3 y4 y5 y6 y7 y8 y9 y10 y11
              have z0 : w4.cell? ⟨ob, 0, none⟩ = some (.int .i64 dd) := cell_of_block hb4.out rfl
              have z1 : w4.cell? ⟨ob, 1, none⟩ = some (.int .i64 po) := cell_of_block hb4.out rfl
              have z2 : w4.cell? ⟨ob, 2, none⟩ = some (.bool up) := cell_of_block hb4.out rfl
              have z3 : w4.cell? ⟨ob, 3, none⟩ = some (.int .u64 r) := cell_of_block hb4.out rfl
              have z4 : w4.cell? ⟨ob, 4, none⟩ = some (.int .i64 c) := cell_of_block hb4.out rfl
              have z5 : w4.cell? ⟨ob, 5, none⟩ = some (.int .u64 g) := cell_of_block hb4.out rfl
              have z6 : w4.cell? ⟨ob, 6, none⟩ = some (.int .i64 q) := cell_of_block hb4.out rfl
              have z7 : w4.cell? ⟨ob, 7, none⟩ = some (.int .i64 age) := cell_of_block hb4.out rfl
              have z8 : w4.cell? ⟨ob, 8, none⟩ = some (.bool ch) := cell_of_block hb4.out rfl
              have z9 : w4.cell? ⟨ob, 9, none⟩ = some (.bool le) := cell_of_block hb4.out rfl
              have z10 : w4.cell? ⟨ob, 10, none⟩ = some (.bool fw) := cell_of_block hb4.out rfl
              have z11 : w4.cell? ⟨ob, 11, none⟩ = some (.int .i64 now) := cell_of_block hb4.out rfl
              cases hat : T.at? po with
              | none =>
                have HUP := Lib.hid (link_ups_no hat up now)
                have hbad := at_none hat
                have hps : T.ps.length = la1.length := by
                  have := HS4.out.has.len
                  rw [← HA.out, ← this]
                  have e := congrArg List.length (link_ups_no hat up now)
                  unfold Part.ups at e
                  simpa using e.symm
                rw [hps] at hbad
                clear hat
                have HS := HS4
                have HV := HV2
                have HU := Lib.hid (show UpAt w w4 ub (T.link po up now).ups by rw [HUP.out]; exact HU4.out)
                have HN := Lib.hid (show (T.link po up now).ps.length = la1.length by rw [HS.out.has.len, HA.out])
                clear HS4 HU4 HV2 HUP ht hps
                by_cases hp0 : po < 0
                · have b1 : decide (0 ≤ po) = false := decide_eq_false (by omega)
                  clear hbad hp0
                  go_wp2_with fail
                  clear z0 z1 z2 z3 z4 z5 z6 z7 z8 z9 z10 z11
                  go_loop [12, 13, 14] (fun rt sq _ => ∃ k2 : Nat, k2 ≤ la1.length ∧ sq = .int .i64 k2 ∧ rt = .int .i64 (rootsL ((T.link po up now).ps.take k2))) (fun _ sq _ => la1.length - (intOf sq).toNat)
                  case atStart => exact ⟨0, Nat.zero_le _, rfl, rfl⟩
                  case round =>
                    obtain ⟨k2, hk2, rfl, rfl⟩ := hrel
                    by_cases hlt2 : k2 < la1.length
                    · obtain ⟨a, p, ha, hp, -⟩ := HS.out.has.pair (show k2 < A.length by rw [HA.out]; exact hlt2)
                      have G1 := Lib.hid (role_yes HS.out.has ha hp)
                      have G2 := Lib.hid (forwards_yes HS.out.has ha hp)
                      have G3 := Lib.hid (learns_yes HS.out.has ha hp)
                      have xu := HU.out.cell (k := k2) (b := p.up) (by unfold Part.ups; rw [List.getElem?_map, hp]; rfl)
                      obtain ⟨he1, he2⟩ := HV.out.each p (List.mem_of_getElem? hp)
                      have HR := Lib.hid (roots_take hp)
                      obtain ⟨rb0, rb1⟩ := roots_le ((T.link po up now).ps.take k2)
                      rw [List.length_take] at rb1
                      have rb2 : rootsL ((T.link po up now).ps.take k2) ≤ 16 := by omega
                      clear rb1 ha hp
                      generalize rootsL ((T.link po up now).ps.take k2) = rr at HR rb0 rb2 ⊢
                      cases hf : p.fwd with
                      | true =>
                        obtain ⟨e1, e2⟩ := he1 hf
                        have hup : p.up = true := by
                          cases hu : p.up with
                          | true => rfl
                          | false => rw [he2 hu] at e2; cases e2
                        rw [hf] at G2
                        rw [e1] at G3
                        rw [hup] at xu
                        by_cases hr : p.role = 1
                        · obtain ⟨t0a, t0b, t1a, t1b, t2a, t2b⟩ := roleT1 hr
                          replace HR := Lib.hid (show rootsL ((T.link po up now).ps.take (k2 + 1)) = rr + 1 from HR.out.trans (by rw [if_pos t1a]))
                          clear hr he1 he2 e1 e2 hf hup
                          go_wp2_with fail
                          ((with_reducible refine G1.out.mono ?_); rintro e w5 ⟨rfl, rfl⟩)
                          go_wp2_with fail
                          ((with_reducible refine G2.out.mono ?_); rintro e w5 ⟨rfl, rfl⟩)
                          go_wp2_with fail
                          ((with_reducible refine G3.out.mono ?_); rintro e w5 ⟨rfl, rfl⟩)
                          go_wp2_with fail
                          go_round
                          case rel => exact ⟨k2 + 1, by omega, by go_num, by rw [HR.out]⟩
                          case measure => simp [intOf]; omega
                        · have hr2 := actv_two e2 hr
                          obtain ⟨t0a, t0b, t1a, t1b, t2a, t2b⟩ := roleT2 hr2
                          replace HR := Lib.hid (show rootsL ((T.link po up now).ps.take (k2 + 1)) = rr from HR.out.trans (by rw [if_neg (by rw [t1a]; decide)]; exact Int.add_zero _))
                          clear hr hr2 he1 he2 e1 e2 hf hup
                          go_wp2_with fail
                          ((with_reducible refine G1.out.mono ?_); rintro e w5 ⟨rfl, rfl⟩)
                          go_wp2_with fail
                          ((with_reducible refine G2.out.mono ?_); rintro e w5 ⟨rfl, rfl⟩)
                          go_wp2_with fail
                          ((with_reducible refine G3.out.mono ?_); rintro e w5 ⟨rfl, rfl⟩)
                          go_wp2_with fail
                          go_round
                          case rel => exact ⟨k2 + 1, by omega, by go_num, by rw [HR.out]⟩
                          case measure => simp [intOf]; omega
                      | false =>
                        rw [hf] at G2
                        by_cases hr : p.role = 1
                        · have hup : p.up = true := by
                            cases hu : p.up with
                            | true => rfl
                            | false => exact absurd ((he2 hu).symm.trans hr) (by decide)
                          rw [hup] at xu
                          obtain ⟨t0a, t0b, t1a, t1b, t2a, t2b⟩ := roleT1 hr
                          replace HR := Lib.hid (show rootsL ((T.link po up now).ps.take (k2 + 1)) = rr + 1 from HR.out.trans (by rw [if_pos t1a]))
                          clear hr he1 he2 hf hup
                          go_wp2_with fail
                          ((with_reducible refine G1.out.mono ?_); rintro e w5 ⟨rfl, rfl⟩)
                          go_wp2_with fail
                          ((with_reducible refine G2.out.mono ?_); rintro e w5 ⟨rfl, rfl⟩)
                          go_wp2_with fail
                          go_round
                          case rel => exact ⟨k2 + 1, by omega, by go_num, by rw [HR.out]⟩
                          case measure => simp [intOf]; omega
                        · obtain ⟨t1a, t1b⟩ := ne_t hr
                          replace HR := Lib.hid (show rootsL ((T.link po up now).ps.take (k2 + 1)) = rr from HR.out.trans (by rw [if_neg (by rw [t1a]; decide)]; exact Int.add_zero _))
                          cases hu : p.up with
                          | true =>
                            rw [hu] at xu
                            clear hr he1 he2 hf hu
                            go_wp2_with fail
                            ((with_reducible refine G1.out.mono ?_); rintro e w5 ⟨rfl, rfl⟩)
                            go_wp2_with fail
                            ((with_reducible refine G2.out.mono ?_); rintro e w5 ⟨rfl, rfl⟩)
                            go_wp2_with fail
                            go_round
                            case rel => exact ⟨k2 + 1, by omega, by go_num, by rw [HR.out]⟩
                            case measure => simp [intOf]; omega
                          | false =>
                            rw [hu] at xu
                            have hr0 := he2 hu
                            obtain ⟨t0a, t0b⟩ := eq_t hr0
                            clear hr he1 he2 hf hu hr0
                            go_wp2_with fail
                            ((with_reducible refine G1.out.mono ?_); rintro e w5 ⟨rfl, rfl⟩)
                            go_wp2_with fail
                            ((with_reducible refine G2.out.mono ?_); rintro e w5 ⟨rfl, rfl⟩)
                            go_wp2_with fail
                            go_round
                            case rel => exact ⟨k2 + 1, by omega, by go_num, by rw [HR.out]⟩
                            case measure => simp [intOf]; omega
                    · obtain rfl : k2 = la1.length := by omega
                      have hr1 := roots_one HV.out
                      rw [List.take_of_length_le (by rw [HN.out]; exact Nat.le_refl _)]
                      have d9 : decide (1 < rootsL (T.link po up now).ps) = false := decide_eq_false (by omega)
                      clear hr1 hlt2
                      go_wp2_with fail
                      go_roundw
                      case rel => exact ⟨k + 1, _, by omega, by omega, by go_num, HS, HV, HU⟩
                      case measure => simp [intOf]; omega
                · have b1 : decide (0 ≤ po) = true := decide_eq_true (by omega)
                  have b2 : decide (po < (la1.length : Int)) = false := decide_eq_false (by omega)
                  clear hbad hp0
                  go_wp2_with fail
                  clear z0 z1 z2 z3 z4 z5 z6 z7 z8 z9 z10 z11
                  go_loop [12, 13, 14] (fun rt sq _ => ∃ k2 : Nat, k2 ≤ la1.length ∧ sq = .int .i64 k2 ∧ rt = .int .i64 (rootsL ((T.link po up now).ps.take k2))) (fun _ sq _ => la1.length - (intOf sq).toNat)
                  case atStart => exact ⟨0, Nat.zero_le _, rfl, rfl⟩
                  case round =>
                    obtain ⟨k2, hk2, rfl, rfl⟩ := hrel
                    by_cases hlt2 : k2 < la1.length
                    · obtain ⟨a, p, ha, hp, -⟩ := HS.out.has.pair (show k2 < A.length by rw [HA.out]; exact hlt2)
                      have G1 := Lib.hid (role_yes HS.out.has ha hp)
                      have G2 := Lib.hid (forwards_yes HS.out.has ha hp)
                      have G3 := Lib.hid (learns_yes HS.out.has ha hp)
                      have xu := HU.out.cell (k := k2) (b := p.up) (by unfold Part.ups; rw [List.getElem?_map, hp]; rfl)
                      obtain ⟨he1, he2⟩ := HV.out.each p (List.mem_of_getElem? hp)
                      have HR := Lib.hid (roots_take hp)
                      obtain ⟨rb0, rb1⟩ := roots_le ((T.link po up now).ps.take k2)
                      rw [List.length_take] at rb1
                      have rb2 : rootsL ((T.link po up now).ps.take k2) ≤ 16 := by omega
                      clear rb1 ha hp
                      generalize rootsL ((T.link po up now).ps.take k2) = rr at HR rb0 rb2 ⊢
                      cases hf : p.fwd with
                      | true =>
                        obtain ⟨e1, e2⟩ := he1 hf
                        have hup : p.up = true := by
                          cases hu : p.up with
                          | true => rfl
                          | false => rw [he2 hu] at e2; cases e2
                        rw [hf] at G2
                        rw [e1] at G3
                        rw [hup] at xu
                        by_cases hr : p.role = 1
                        · obtain ⟨t0a, t0b, t1a, t1b, t2a, t2b⟩ := roleT1 hr
                          replace HR := Lib.hid (show rootsL ((T.link po up now).ps.take (k2 + 1)) = rr + 1 from HR.out.trans (by rw [if_pos t1a]))
                          clear hr he1 he2 e1 e2 hf hup
                          go_wp2_with fail
                          ((with_reducible refine G1.out.mono ?_); rintro e w5 ⟨rfl, rfl⟩)
                          go_wp2_with fail
                          ((with_reducible refine G2.out.mono ?_); rintro e w5 ⟨rfl, rfl⟩)
                          go_wp2_with fail
                          ((with_reducible refine G3.out.mono ?_); rintro e w5 ⟨rfl, rfl⟩)
                          go_wp2_with fail
                          go_round
                          case rel => exact ⟨k2 + 1, by omega, by go_num, by rw [HR.out]⟩
                          case measure => simp [intOf]; omega
                        · have hr2 := actv_two e2 hr
                          obtain ⟨t0a, t0b, t1a, t1b, t2a, t2b⟩ := roleT2 hr2
                          replace HR := Lib.hid (show rootsL ((T.link po up now).ps.take (k2 + 1)) = rr from HR.out.trans (by rw [if_neg (by rw [t1a]; decide)]; exact Int.add_zero _))
                          clear hr hr2 he1 he2 e1 e2 hf hup
                          go_wp2_with fail
                          ((with_reducible refine G1.out.mono ?_); rintro e w5 ⟨rfl, rfl⟩)
                          go_wp2_with fail
                          ((with_reducible refine G2.out.mono ?_); rintro e w5 ⟨rfl, rfl⟩)
                          go_wp2_with fail
                          ((with_reducible refine G3.out.mono ?_); rintro e w5 ⟨rfl, rfl⟩)
                          go_wp2_with fail
                          go_round
                          case rel => exact ⟨k2 + 1, by omega, by go_num, by rw [HR.out]⟩
                          case measure => simp [intOf]; omega
                      | false =>
                        rw [hf] at G2
                        by_cases hr : p.role = 1
                        · have hup : p.up = true := by
                            cases hu : p.up with
                            | true => rfl
                            | false => exact absurd ((he2 hu).symm.trans hr) (by decide)
                          rw [hup] at xu
                          obtain ⟨t0a, t0b, t1a, t1b, t2a, t2b⟩ := roleT1 hr
                          replace HR := Lib.hid (show rootsL ((T.link po up now).ps.take (k2 + 1)) = rr + 1 from HR.out.trans (by rw [if_pos t1a]))
                          clear hr he1 he2 hf hup
                          go_wp2_with fail
                          ((with_reducible refine G1.out.mono ?_); rintro e w5 ⟨rfl, rfl⟩)
                          go_wp2_with fail
                          ((with_reducible refine G2.out.mono ?_); rintro e w5 ⟨rfl, rfl⟩)
                          go_wp2_with fail
                          go_round
                          case rel => exact ⟨k2 + 1, by omega, by go_num, by rw [HR.out]⟩
                          case measure => simp [intOf]; omega
                        · obtain ⟨t1a, t1b⟩ := ne_t hr
                          replace HR := Lib.hid (show rootsL ((T.link po up now).ps.take (k2 + 1)) = rr from HR.out.trans (by rw [if_neg (by rw [t1a]; decide)]; exact Int.add_zero _))
                          cases hu : p.up with
                          | true =>
                            rw [hu] at xu
                            clear hr he1 he2 hf hu
                            go_wp2_with fail
                            ((with_reducible refine G1.out.mono ?_); rintro e w5 ⟨rfl, rfl⟩)
                            go_wp2_with fail
                            ((with_reducible refine G2.out.mono ?_); rintro e w5 ⟨rfl, rfl⟩)
                            go_wp2_with fail
                            go_round
                            case rel => exact ⟨k2 + 1, by omega, by go_num, by rw [HR.out]⟩
                            case measure => simp [intOf]; omega
                          | false =>
                            rw [hu] at xu
                            have hr0 := he2 hu
                            obtain ⟨t0a, t0b⟩ := eq_t hr0
                            clear hr he1 he2 hf hu hr0
                            go_wp2_with fail
                            ((with_reducible refine G1.out.mono ?_); rintro e w5 ⟨rfl, rfl⟩)
                            go_wp2_with fail
                            ((with_reducible refine G2.out.mono ?_); rintro e w5 ⟨rfl, rfl⟩)
                            go_wp2_with fail
                            go_round
                            case rel => exact ⟨k2 + 1, by omega, by go_num, by rw [HR.out]⟩
                            case measure => simp [intOf]; omega
                    · obtain rfl : k2 = la1.length := by omega
                      have hr1 := roots_one HV.out
                      rw [List.take_of_length_le (by rw [HN.out]; exact Nat.le_refl _)]
                      have d9 : decide (1 < rootsL (T.link po up now).ps) = false := decide_eq_false (by omega)
                      clear hr1 hlt2
                      go_wp2_with fail
                      go_roundw
                      case rel => exact ⟨k + 1, _, by omega, by omega, by go_num, HS, HV, HU⟩
                      case measure => simp [intOf]; omega
              | some p0 =>
                obtain ⟨kp, rfl, hkp, hp0⟩ := at_some hat
                have HUP := Lib.hid (link_ups hat up ht)
                have hups : T.ups.length = la1.length := by
                  have e1 := congrArg List.length (link_ups hat up ht)
                  rw [List.length_set] at e1
                  have e2 := HS4.out.has.len
                  unfold Part.ups at e1 ⊢
                  simp only [List.length_map] at e1 ⊢
                  rw [← e1, e2, HA.out]
                have hkl : kp < la1.length := by
                  have e3 := (List.getElem?_eq_some_iff.1 hp0).1
                  unfold Part.ups at hups
                  simp only [List.length_map] at hups
                  omega
                have b1 : decide (0 ≤ (kp : Int)) = true := decide_eq_true (by omega)
                have b2 : decide ((kp : Int) < (la1.length : Int)) = true := decide_eq_true (by omega)
                have b3 : decide (kp < la1.length) = true := decide_eq_true hkl
                have b4 : decide (la1.length ≤ kp) = false := decide_eq_false (by omega)
                have xub : ∃ bz, w4.cell? ⟨ub, kp, none⟩ = some (.bool bz) := ⟨T.ups[kp]'(by omega), HU4.out.cell (List.getElem?_eq_getElem (by omega))⟩
                obtain ⟨bz, xub⟩ := xub
                have xuf := free_of_block (j := kp) HU4.out.1
                have hx := Only.setCell w4 ub kp (.bool up)
                have HS := Lib.hid (sst_only HS4.out HU4.out hx)
                have HV := HV2
                have HU := Lib.hid (show UpAt w (w4.setCell ⟨ub, kp, none⟩ (.bool up)) ub (T.link kp up now).ups by
                  rw [HUP.out, hkp]
                  have h := heap_store (j := kp) (v := .bool up) HU4.out.1
                  rw [boolRow_set] at h
                  exact ⟨h, HU4.out.2⟩)
                have HN := Lib.hid (show (T.link kp up now).ps.length = la1.length by rw [HS.out.has.len, HA.out])
                clear HS4 HU4 HV2 HUP ht hat hkp hp0 hups hx
                go_upto_region 20 with fail
                clear xub xuf b1 b2 b3 b4 hkl z0 z1 z2 z3 z4 z5 z6 z7 z8 z9 z10 z11
                generalize w4.setCell ⟨ub, kp, none⟩ (.bool up) = w5 at HS HU ⊢
                go_wp2_with fail
                go_loop [12, 13, 14] (fun rt sq _ => ∃ k2 : Nat, k2 ≤ la1.length ∧ sq = .int .i64 k2 ∧ rt = .int .i64 (rootsL ((T.link kp up now).ps.take k2))) (fun _ sq _ => la1.length - (intOf sq).toNat)
                case atStart => exact ⟨0, Nat.zero_le _, rfl, rfl⟩
                case round =>
                  obtain ⟨k2, hk2, rfl, rfl⟩ := hrel
                  by_cases hlt2 : k2 < la1.length
                  · obtain ⟨a, p, ha, hp, -⟩ := HS.out.has.pair (show k2 < A.length by rw [HA.out]; exact hlt2)
                    have G1 := Lib.hid (role_yes HS.out.has ha hp)
                    have G2 := Lib.hid (forwards_yes HS.out.has ha hp)
                    have G3 := Lib.hid (learns_yes HS.out.has ha hp)
                    have xu := HU.out.cell (k := k2) (b := p.up) (by unfold Part.ups; rw [List.getElem?_map, hp]; rfl)
                    obtain ⟨he1, he2⟩ := HV.out.each p (List.mem_of_getElem? hp)
                    have HR := Lib.hid (roots_take hp)
                    obtain ⟨rb0, rb1⟩ := roots_le ((T.link kp up now).ps.take k2)
                    rw [List.length_take] at rb1
                    have rb2 : rootsL ((T.link kp up now).ps.take k2) ≤ 16 := by omega
                    clear rb1 ha hp
                    generalize rootsL ((T.link kp up now).ps.take k2) = rr at HR rb0 rb2 ⊢
                    cases hf : p.fwd with
                    | true =>
                      obtain ⟨e1, e2⟩ := he1 hf
                      have hup : p.up = true := by
                        cases hu : p.up with
                        | true => rfl
                        | false => rw [he2 hu] at e2; cases e2
                      rw [hf] at G2
                      rw [e1] at G3
                      rw [hup] at xu
                      by_cases hr : p.role = 1
                      · obtain ⟨t0a, t0b, t1a, t1b, t2a, t2b⟩ := roleT1 hr
                        replace HR := Lib.hid (show rootsL ((T.link kp up now).ps.take (k2 + 1)) = rr + 1 from HR.out.trans (by rw [if_pos t1a]))
                        clear hr he1 he2 e1 e2 hf hup
                        go_wp2_with fail
                        ((with_reducible refine G1.out.mono ?_); rintro e w5 ⟨rfl, rfl⟩)
                        go_wp2_with fail
                        ((with_reducible refine G2.out.mono ?_); rintro e w5 ⟨rfl, rfl⟩)
                        go_wp2_with fail
                        ((with_reducible refine G3.out.mono ?_); rintro e w5 ⟨rfl, rfl⟩)
                        go_wp2_with fail
                        go_round
                        case rel => exact ⟨k2 + 1, by omega, by go_num, by rw [HR.out]⟩
                        case measure => simp [intOf]; omega
                      · have hr2 := actv_two e2 hr
                        obtain ⟨t0a, t0b, t1a, t1b, t2a, t2b⟩ := roleT2 hr2
                        replace HR := Lib.hid (show rootsL ((T.link kp up now).ps.take (k2 + 1)) = rr from HR.out.trans (by rw [if_neg (by rw [t1a]; decide)]; exact Int.add_zero _))
                        clear hr hr2 he1 he2 e1 e2 hf hup
                        go_wp2_with fail
                        ((with_reducible refine G1.out.mono ?_); rintro e w5 ⟨rfl, rfl⟩)
                        go_wp2_with fail
                        ((with_reducible refine G2.out.mono ?_); rintro e w5 ⟨rfl, rfl⟩)
                        go_wp2_with fail
                        ((with_reducible refine G3.out.mono ?_); rintro e w5 ⟨rfl, rfl⟩)
                        go_wp2_with fail
                        go_round
                        case rel => exact ⟨k2 + 1, by omega, by go_num, by rw [HR.out]⟩
                        case measure => simp [intOf]; omega
                    | false =>
                      rw [hf] at G2
                      by_cases hr : p.role = 1
                      · have hup : p.up = true := by
                          cases hu : p.up with
                          | true => rfl
                          | false => exact absurd ((he2 hu).symm.trans hr) (by decide)
                        rw [hup] at xu
                        obtain ⟨t0a, t0b, t1a, t1b, t2a, t2b⟩ := roleT1 hr
                        replace HR := Lib.hid (show rootsL ((T.link kp up now).ps.take (k2 + 1)) = rr + 1 from HR.out.trans (by rw [if_pos t1a]))
                        clear hr he1 he2 hf hup
                        go_wp2_with fail
                        ((with_reducible refine G1.out.mono ?_); rintro e w5 ⟨rfl, rfl⟩)
                        go_wp2_with fail
                        ((with_reducible refine G2.out.mono ?_); rintro e w5 ⟨rfl, rfl⟩)
                        go_wp2_with fail
                        go_round
                        case rel => exact ⟨k2 + 1, by omega, by go_num, by rw [HR.out]⟩
                        case measure => simp [intOf]; omega
                      · obtain ⟨t1a, t1b⟩ := ne_t hr
                        replace HR := Lib.hid (show rootsL ((T.link kp up now).ps.take (k2 + 1)) = rr from HR.out.trans (by rw [if_neg (by rw [t1a]; decide)]; exact Int.add_zero _))
                        cases hu : p.up with
                        | true =>
                          rw [hu] at xu
                          clear hr he1 he2 hf hu
                          go_wp2_with fail
                          ((with_reducible refine G1.out.mono ?_); rintro e w5 ⟨rfl, rfl⟩)
                          go_wp2_with fail
                          ((with_reducible refine G2.out.mono ?_); rintro e w5 ⟨rfl, rfl⟩)
                          go_wp2_with fail
                          go_round
                          case rel => exact ⟨k2 + 1, by omega, by go_num, by rw [HR.out]⟩
                          case measure => simp [intOf]; omega
                        | false =>
                          rw [hu] at xu
                          have hr0 := he2 hu
                          obtain ⟨t0a, t0b⟩ := eq_t hr0
                          clear hr he1 he2 hf hu hr0
                          go_wp2_with fail
                          ((with_reducible refine G1.out.mono ?_); rintro e w5 ⟨rfl, rfl⟩)
                          go_wp2_with fail
                          ((with_reducible refine G2.out.mono ?_); rintro e w5 ⟨rfl, rfl⟩)
                          go_wp2_with fail
                          go_round
                          case rel => exact ⟨k2 + 1, by omega, by go_num, by rw [HR.out]⟩
                          case measure => simp [intOf]; omega
                  · obtain rfl : k2 = la1.length := by omega
                    have hr1 := roots_one HV.out
                    rw [List.take_of_length_le (by rw [HN.out]; exact Nat.le_refl _)]
                    have d9 : decide (1 < rootsL (T.link kp up now).ps) = false := decide_eq_false (by omega)
                    clear hr1 hlt2
                    go_wp2_with fail
                    go_roundw
                    case rel => exact ⟨k + 1, _, by omega, by omega, by go_num, HS, HV, HU⟩
                    case measure => simp [intOf]; omega
            · obtain ⟨dd0, dd0'⟩ := ne_t hd0
              by_cases hd1 : dd = 1
              · obtain ⟨dd1, dd1'⟩ := eq_t hd1
                have HC := Lib.hid (hear_s HS.out po r c g q age ch le fw now ga0)
                have HV2 := Lib.hid (hear_inv HV.out po ⟨(r, c, g, q), age, ch, le, fw⟩ now)
                have HUP := Lib.hid (hear_ups T po ⟨(r, c, g, q), age, ch, le, fw⟩ now)
                clear hd0 hd1 HV
                go_wp2_with fail
                ((with_reducible refine HC.out.mono ?_); rintro e w4 ⟨rfl, h4, k4⟩)
                have HU4 := Lib.hid (show UpAt w w4 ub (T.hear po ⟨(r, c, g, q), age, ch, le, fw⟩ now).ups by rw [HUP.out]; exact HU.out.tt k4)
                have HS4 := Lib.hid h4
                clear h4 k4 HC HS HU HB0 HUP y0 y1 y2 y3 y4 y5 y6 y7 y8 y9 y10 y11
                have HS := HS4
                have HV := HV2
                have HU := HU4
                have HN := Lib.hid (show (T.hear po ⟨(r, c, g, q), age, ch, le, fw⟩ now).ps.length = la1.length by rw [HS.out.has.len, HA.out])
                clear HS4 HU4 HV2
                go_wp2_with fail
                go_loop [12, 13, 14] (fun rt sq _ => ∃ k2 : Nat, k2 ≤ la1.length ∧ sq = .int .i64 k2 ∧ rt = .int .i64 (rootsL ((T.hear po ⟨(r, c, g, q), age, ch, le, fw⟩ now).ps.take k2))) (fun _ sq _ => la1.length - (intOf sq).toNat)
                case atStart => exact ⟨0, Nat.zero_le _, rfl, rfl⟩
                case round =>
                  obtain ⟨k2, hk2, rfl, rfl⟩ := hrel
                  by_cases hlt2 : k2 < la1.length
                  · obtain ⟨a, p, ha, hp, -⟩ := HS.out.has.pair (show k2 < A.length by rw [HA.out]; exact hlt2)
                    have G1 := Lib.hid (role_yes HS.out.has ha hp)
                    have G2 := Lib.hid (forwards_yes HS.out.has ha hp)
                    have G3 := Lib.hid (learns_yes HS.out.has ha hp)
                    have xu := HU.out.cell (k := k2) (b := p.up) (by unfold Part.ups; rw [List.getElem?_map, hp]; rfl)
                    obtain ⟨he1, he2⟩ := HV.out.each p (List.mem_of_getElem? hp)
                    have HR := Lib.hid (roots_take hp)
                    obtain ⟨rb0, rb1⟩ := roots_le ((T.hear po ⟨(r, c, g, q), age, ch, le, fw⟩ now).ps.take k2)
                    rw [List.length_take] at rb1
                    have rb2 : rootsL ((T.hear po ⟨(r, c, g, q), age, ch, le, fw⟩ now).ps.take k2) ≤ 16 := by omega
                    clear rb1 ha hp
                    generalize rootsL ((T.hear po ⟨(r, c, g, q), age, ch, le, fw⟩ now).ps.take k2) = rr at HR rb0 rb2 ⊢
                    cases hf : p.fwd with
                    | true =>
                      obtain ⟨e1, e2⟩ := he1 hf
                      have hup : p.up = true := by
                        cases hu : p.up with
                        | true => rfl
                        | false => rw [he2 hu] at e2; cases e2
                      rw [hf] at G2
                      rw [e1] at G3
                      rw [hup] at xu
                      by_cases hr : p.role = 1
                      · obtain ⟨t0a, t0b, t1a, t1b, t2a, t2b⟩ := roleT1 hr
                        replace HR := Lib.hid (show rootsL ((T.hear po ⟨(r, c, g, q), age, ch, le, fw⟩ now).ps.take (k2 + 1)) = rr + 1 from HR.out.trans (by rw [if_pos t1a]))
                        clear hr he1 he2 e1 e2 hf hup
                        go_wp2_with fail
                        ((with_reducible refine G1.out.mono ?_); rintro e w5 ⟨rfl, rfl⟩)
                        go_wp2_with fail
                        ((with_reducible refine G2.out.mono ?_); rintro e w5 ⟨rfl, rfl⟩)
                        go_wp2_with fail
                        ((with_reducible refine G3.out.mono ?_); rintro e w5 ⟨rfl, rfl⟩)
                        go_wp2_with fail
                        go_round
                        case rel => exact ⟨k2 + 1, by omega, by go_num, by rw [HR.out]⟩
                        case measure => simp [intOf]; omega
                      · have hr2 := actv_two e2 hr
                        obtain ⟨t0a, t0b, t1a, t1b, t2a, t2b⟩ := roleT2 hr2
                        replace HR := Lib.hid (show rootsL ((T.hear po ⟨(r, c, g, q), age, ch, le, fw⟩ now).ps.take (k2 + 1)) = rr from HR.out.trans (by rw [if_neg (by rw [t1a]; decide)]; exact Int.add_zero _))
                        clear hr hr2 he1 he2 e1 e2 hf hup
                        go_wp2_with fail
                        ((with_reducible refine G1.out.mono ?_); rintro e w5 ⟨rfl, rfl⟩)
                        go_wp2_with fail
                        ((with_reducible refine G2.out.mono ?_); rintro e w5 ⟨rfl, rfl⟩)
                        go_wp2_with fail
                        ((with_reducible refine G3.out.mono ?_); rintro e w5 ⟨rfl, rfl⟩)
                        go_wp2_with fail
                        go_round
                        case rel => exact ⟨k2 + 1, by omega, by go_num, by rw [HR.out]⟩
                        case measure => simp [intOf]; omega
                    | false =>
                      rw [hf] at G2
                      by_cases hr : p.role = 1
                      · have hup : p.up = true := by
                          cases hu : p.up with
                          | true => rfl
                          | false => exact absurd ((he2 hu).symm.trans hr) (by decide)
                        rw [hup] at xu
                        obtain ⟨t0a, t0b, t1a, t1b, t2a, t2b⟩ := roleT1 hr
                        replace HR := Lib.hid (show rootsL ((T.hear po ⟨(r, c, g, q), age, ch, le, fw⟩ now).ps.take (k2 + 1)) = rr + 1 from HR.out.trans (by rw [if_pos t1a]))
                        clear hr he1 he2 hf hup
                        go_wp2_with fail
                        ((with_reducible refine G1.out.mono ?_); rintro e w5 ⟨rfl, rfl⟩)
                        go_wp2_with fail
                        ((with_reducible refine G2.out.mono ?_); rintro e w5 ⟨rfl, rfl⟩)
                        go_wp2_with fail
                        go_round
                        case rel => exact ⟨k2 + 1, by omega, by go_num, by rw [HR.out]⟩
                        case measure => simp [intOf]; omega
                      · obtain ⟨t1a, t1b⟩ := ne_t hr
                        replace HR := Lib.hid (show rootsL ((T.hear po ⟨(r, c, g, q), age, ch, le, fw⟩ now).ps.take (k2 + 1)) = rr from HR.out.trans (by rw [if_neg (by rw [t1a]; decide)]; exact Int.add_zero _))
                        cases hu : p.up with
                        | true =>
                          rw [hu] at xu
                          clear hr he1 he2 hf hu
                          go_wp2_with fail
                          ((with_reducible refine G1.out.mono ?_); rintro e w5 ⟨rfl, rfl⟩)
                          go_wp2_with fail
                          ((with_reducible refine G2.out.mono ?_); rintro e w5 ⟨rfl, rfl⟩)
                          go_wp2_with fail
                          go_round
                          case rel => exact ⟨k2 + 1, by omega, by go_num, by rw [HR.out]⟩
                          case measure => simp [intOf]; omega
                        | false =>
                          rw [hu] at xu
                          have hr0 := he2 hu
                          obtain ⟨t0a, t0b⟩ := eq_t hr0
                          clear hr he1 he2 hf hu hr0
                          go_wp2_with fail
                          ((with_reducible refine G1.out.mono ?_); rintro e w5 ⟨rfl, rfl⟩)
                          go_wp2_with fail
                          ((with_reducible refine G2.out.mono ?_); rintro e w5 ⟨rfl, rfl⟩)
                          go_wp2_with fail
                          go_round
                          case rel => exact ⟨k2 + 1, by omega, by go_num, by rw [HR.out]⟩
                          case measure => simp [intOf]; omega
                  · obtain rfl : k2 = la1.length := by omega
                    have hr1 := roots_one HV.out
                    rw [List.take_of_length_le (by rw [HN.out]; exact Nat.le_refl _)]
                    have d9 : decide (1 < rootsL (T.hear po ⟨(r, c, g, q), age, ch, le, fw⟩ now).ps) = false := decide_eq_false (by omega)
                    clear hr1 hlt2
                    go_wp2_with fail
                    go_roundw
                    case rel => exact ⟨k + 1, _, by omega, by omega, by go_num, HS, HV, HU⟩
                    case measure => simp [intOf]; omega
              · obtain ⟨dd1, dd1'⟩ := ne_t hd1
                have HC := Lib.hid (tick_s HS.out now)
                have HV2 := Lib.hid (tick_inv HV.out now)
                have HUP := Lib.hid (tick_ups T now)
                clear hd0 hd1 HV
                go_wp2_with fail
                ((with_reducible refine HC.out.mono ?_); rintro e w4 ⟨u4, rfl, -, h4, k4⟩)
                have HU4 := Lib.hid (show UpAt w w4 ub (T.tick now).ups by rw [HUP.out]; exact HU.out.tt k4)
                have HS4 := Lib.hid h4
                clear h4 k4 HC HS HU HB0 HUP y0 y1 y2 y3 y4 y5 y6 y7 y8 y9 y10 y11
                have HS := HS4
                have HV := HV2
                have HU := HU4
                have HN := Lib.hid (show (T.tick now).ps.length = la1.length by rw [HS.out.has.len, HA.out])
                clear HS4 HU4 HV2
                go_wp2_with fail
                go_loop [12, 13, 14] (fun rt sq _ => ∃ k2 : Nat, k2 ≤ la1.length ∧ sq = .int .i64 k2 ∧ rt = .int .i64 (rootsL ((T.tick now).ps.take k2))) (fun _ sq _ => la1.length - (intOf sq).toNat)
                case atStart => exact ⟨0, Nat.zero_le _, rfl, rfl⟩
                case round =>
                  obtain ⟨k2, hk2, rfl, rfl⟩ := hrel
                  by_cases hlt2 : k2 < la1.length
                  · obtain ⟨a, p, ha, hp, -⟩ := HS.out.has.pair (show k2 < A.length by rw [HA.out]; exact hlt2)
                    have G1 := Lib.hid (role_yes HS.out.has ha hp)
                    have G2 := Lib.hid (forwards_yes HS.out.has ha hp)
                    have G3 := Lib.hid (learns_yes HS.out.has ha hp)
                    have xu := HU.out.cell (k := k2) (b := p.up) (by unfold Part.ups; rw [List.getElem?_map, hp]; rfl)
                    obtain ⟨he1, he2⟩ := HV.out.each p (List.mem_of_getElem? hp)
                    have HR := Lib.hid (roots_take hp)
                    obtain ⟨rb0, rb1⟩ := roots_le ((T.tick now).ps.take k2)
                    rw [List.length_take] at rb1
                    have rb2 : rootsL ((T.tick now).ps.take k2) ≤ 16 := by omega
                    clear rb1 ha hp
                    generalize rootsL ((T.tick now).ps.take k2) = rr at HR rb0 rb2 ⊢
                    cases hf : p.fwd with
                    | true =>
                      obtain ⟨e1, e2⟩ := he1 hf
                      have hup : p.up = true := by
                        cases hu : p.up with
                        | true => rfl
                        | false => rw [he2 hu] at e2; cases e2
                      rw [hf] at G2
                      rw [e1] at G3
                      rw [hup] at xu
                      by_cases hr : p.role = 1
                      · obtain ⟨t0a, t0b, t1a, t1b, t2a, t2b⟩ := roleT1 hr
                        replace HR := Lib.hid (show rootsL ((T.tick now).ps.take (k2 + 1)) = rr + 1 from HR.out.trans (by rw [if_pos t1a]))
                        clear hr he1 he2 e1 e2 hf hup
                        go_wp2_with fail
                        ((with_reducible refine G1.out.mono ?_); rintro e w5 ⟨rfl, rfl⟩)
                        go_wp2_with fail
                        ((with_reducible refine G2.out.mono ?_); rintro e w5 ⟨rfl, rfl⟩)
                        go_wp2_with fail
                        ((with_reducible refine G3.out.mono ?_); rintro e w5 ⟨rfl, rfl⟩)
                        go_wp2_with fail
                        go_round
                        case rel => exact ⟨k2 + 1, by omega, by go_num, by rw [HR.out]⟩
                        case measure => simp [intOf]; omega
                      · have hr2 := actv_two e2 hr
                        obtain ⟨t0a, t0b, t1a, t1b, t2a, t2b⟩ := roleT2 hr2
                        replace HR := Lib.hid (show rootsL ((T.tick now).ps.take (k2 + 1)) = rr from HR.out.trans (by rw [if_neg (by rw [t1a]; decide)]; exact Int.add_zero _))
                        clear hr hr2 he1 he2 e1 e2 hf hup
                        go_wp2_with fail
                        ((with_reducible refine G1.out.mono ?_); rintro e w5 ⟨rfl, rfl⟩)
                        go_wp2_with fail
                        ((with_reducible refine G2.out.mono ?_); rintro e w5 ⟨rfl, rfl⟩)
                        go_wp2_with fail
                        ((with_reducible refine G3.out.mono ?_); rintro e w5 ⟨rfl, rfl⟩)
                        go_wp2_with fail
                        go_round
                        case rel => exact ⟨k2 + 1, by omega, by go_num, by rw [HR.out]⟩
                        case measure => simp [intOf]; omega
                    | false =>
                      rw [hf] at G2
                      by_cases hr : p.role = 1
                      · have hup : p.up = true := by
                          cases hu : p.up with
                          | true => rfl
                          | false => exact absurd ((he2 hu).symm.trans hr) (by decide)
                        rw [hup] at xu
                        obtain ⟨t0a, t0b, t1a, t1b, t2a, t2b⟩ := roleT1 hr
                        replace HR := Lib.hid (show rootsL ((T.tick now).ps.take (k2 + 1)) = rr + 1 from HR.out.trans (by rw [if_pos t1a]))
                        clear hr he1 he2 hf hup
                        go_wp2_with fail
                        ((with_reducible refine G1.out.mono ?_); rintro e w5 ⟨rfl, rfl⟩)
                        go_wp2_with fail
                        ((with_reducible refine G2.out.mono ?_); rintro e w5 ⟨rfl, rfl⟩)
                        go_wp2_with fail
                        go_round
                        case rel => exact ⟨k2 + 1, by omega, by go_num, by rw [HR.out]⟩
                        case measure => simp [intOf]; omega
                      · obtain ⟨t1a, t1b⟩ := ne_t hr
                        replace HR := Lib.hid (show rootsL ((T.tick now).ps.take (k2 + 1)) = rr from HR.out.trans (by rw [if_neg (by rw [t1a]; decide)]; exact Int.add_zero _))
                        cases hu : p.up with
                        | true =>
                          rw [hu] at xu
                          clear hr he1 he2 hf hu
                          go_wp2_with fail
                          ((with_reducible refine G1.out.mono ?_); rintro e w5 ⟨rfl, rfl⟩)
                          go_wp2_with fail
                          ((with_reducible refine G2.out.mono ?_); rintro e w5 ⟨rfl, rfl⟩)
                          go_wp2_with fail
                          go_round
                          case rel => exact ⟨k2 + 1, by omega, by go_num, by rw [HR.out]⟩
                          case measure => simp [intOf]; omega
                        | false =>
                          rw [hu] at xu
                          have hr0 := he2 hu
                          obtain ⟨t0a, t0b⟩ := eq_t hr0
                          clear hr he1 he2 hf hu hr0
                          go_wp2_with fail
                          ((with_reducible refine G1.out.mono ?_); rintro e w5 ⟨rfl, rfl⟩)
                          go_wp2_with fail
                          ((with_reducible refine G2.out.mono ?_); rintro e w5 ⟨rfl, rfl⟩)
                          go_wp2_with fail
                          go_round
                          case rel => exact ⟨k2 + 1, by omega, by go_num, by rw [HR.out]⟩
                          case measure => simp [intOf]; omega
                  · obtain rfl : k2 = la1.length := by omega
                    have hr1 := roots_one HV.out
                    rw [List.take_of_length_le (by rw [HN.out]; exact Nat.le_refl _)]
                    have d9 : decide (1 < rootsL (T.tick now).ps) = false := decide_eq_false (by omega)
                    clear hr1 hlt2
                    go_wp2_with fail
                    go_roundw
                    case rel => exact ⟨k + 1, _, by omega, by omega, by go_num, HS, HV, HU⟩
                    case measure => simp [intOf]; omega
      · have HB := Lib.hid HS.out.bel
        by_cases he : k < la2.length
        · have d1 : decide ((k : Int) < 60) = false := decide_eq_false (by omega)
          have d2 : decide (k < la2.length) = true := decide_eq_true he
          have d3 : decide ((k : Int) < (la2.length : Int)) = true := decide_eq_true (by omega)
          clear hend he
          go_wp2_with fail
          ((with_reducible refine (HL.out _).mono ?_); rintro e w2 ⟨rfl, h2⟩)
          go_wp2_with fail
          go_ret
          exact ⟨rfl, HB.out.trans (h2.mono HB.out.size)⟩
        · have d2 : decide (k < la2.length) = false := decide_eq_false he
          have d3 : decide ((k : Int) < (la2.length : Int)) = false := decide_eq_false (by omega)
          clear hend he
          go_wp2_with fail
          ((with_reducible refine (HL.out _).mono ?_); rintro e w2 ⟨rfl, h2⟩)
          go_wp2_with fail
          go_ret
          exact ⟨rfl, HB.out.trans (h2.mono HB.out.size)⟩

theorem own : ownKnob Try.prog.godebug = none := by kernel_rfl
theorem laidOut : laidOutB Try.prog = true := by kernel_rfl

set_option maxHeartbeats 1000000 in
set_option maxRecDepth 100000 in
theorem lifted (os : Os) (started : os.Started) (H : Type) (enc : TypeId × Value → H) :
    ReturnsInHanded {} Try.checked os 5 .any (Rows.rstpSafeSpec.pre6 enc Try.prog Try.f5 Rows.rstpSafeRow.domain false) (Rows.rstpSafeSpec.post enc Try.prog Try.f5 false true false false) := by
  refine returnsInHanded_of_change_sized (C := Try.checked) own started (by kernel_rfl) Try.func5
    (ChangeSpec.witness6 (enc := enc) (C := Try.checked) false ⟨#[], #[.int .u64 0, .slice none 0 0, .slice none 0 0], []⟩ 8 (by kernel_rfl) (by kernel_rfl) (by kernel_rfl) (by kernel_rfl)) ?_
  intro W base args ds gs before hval0 hW hcnd hsz0 hholds
  have hval : ∀ (j : Nat) t v, Try.f5.params[j]? = some t → args[j]? = some v → Value.okWide Try.prog W .any base t v := hval0
  have hsz : (DataW.weightsEach Try.prog (Try.f5.params.toList ++ Rows.rstpSafeSpec.plain.varTypes Try.prog) (ds ++ gs)).all (· ≤ reachBytes) = true := hsz0
  have hW' := hW
  obtain ⟨p, q, hA0, hV, rfl, hfz, hnd⟩ := hW
  have hA : DataW.TrodAll enc Try.prog W 0 (fun _ => true) true Try.f5.params.toList args.toList ds p := hA0
  rw [Try.params5] at hA hval hsz
  obtain ⟨v0, vs0, d0, ds0, p0, q0, hargs, rfl, rfl, h0, r0⟩ := trodAll_cons hA
  obtain ⟨v1, vs1, d1, ds1, p1, q1, rfl, rfl, rfl, h1, r1⟩ := trodAll_cons r0
  obtain ⟨v2, vs2, d2, ds2, p2, q2, rfl, rfl, rfl, h2, r2⟩ := trodAll_cons r1
  obtain ⟨rfl, rfl, rfl⟩ := trodAll_nil r2
  obtain rfl : args = #[v0, v1, v2] := by cases args; simp_all
  obtain ⟨rfl, rfl⟩ := trodVars_none hV
  have k0 := h0
  have lt0 : ∀ x ∈ p0, x.block < W.heap.size := by obtain ⟨m, hm⟩ := k0; exact DataW.trod_lt m _ _ _ hm
  have k1 := h1
  have lt1 : ∀ x ∈ p1, x.block < W.heap.size := by obtain ⟨m, hm⟩ := k1; exact DataW.trod_lt m _ _ _ hm
  have k2 := h2
  have lt2 : ∀ x ∈ p2, x.block < W.heap.size := by obtain ⟨m, hm⟩ := k2; exact DataW.trod_lt m _ _ _ hm
  obtain ⟨a0, rfl, rfl, rfl, w0⟩ := open_int Try.underlying22 (hval 0 22 v0 rfl rfl) h0
  obtain ⟨sa1, sl1, sc1, rfl⟩ := okWide_slice Try.underlying23 (hval 1 23 v1 rfl rfl)
  obtain ⟨fu1, hf1⟩ := h1
  obtain ⟨vv1, L1, e1, hh1, qq1, ss1⟩ := ints_open hf1
  simp [Value.cells] at e1
  subst e1
  obtain ⟨sa2, sl2, sc2, rfl⟩ := okWide_slice Try.underlying24 (hval 2 24 v2 rfl rfl)
  obtain ⟨fu2, hf2⟩ := h2
  obtain ⟨vv2, L2, e2, hh2, qq2, ss2⟩ := openOpS hf2
  simp [Value.cells] at e2
  subst e2
  have ba0 := bounds_u64 w0
  clear hA0 hval0
  refine (walk a0 (.slice sa1 sl1 sc1) L1 (.slice sa2 sl2 sc2) L2 W ba0.1 ba0.2 hh1 qq1 ss1 hh2 qq2 ss2).mono fun e W' ⟨he, bel⟩ => ?_
  subst he
  exact ⟨_, rfl, _, _, _, [], _, [], hW', trodAll_mk1 (shut_bool Try.underlying4 _), (trodAll_cons_mk (Below.trod laidOut (by kernel_rfl) (of_decide_eq_true (by kernel_rfl)) k0 bel lt0) (trodAll_cons_mk (Below.trod laidOut (by kernel_rfl) (of_decide_eq_true (by kernel_rfl)) k1 bel lt1) (trodAll_cons_mk (Below.trod laidOut (by kernel_rfl) (of_decide_eq_true (by kernel_rfl)) k2 bel lt2) trodAll_mk0))), rfl, bel.frame _, fun h => by cases h⟩

theorem over : Rows.rstpSafeRow.holds Try.pinned (OpenSpec.ofChange Rows.rstpSafeSpec) :=
  OpenClaim.holds_of_wide 5 Try.f5 rfl rfl rfl rfl rfl rfl rfl ⟨rfl, rfl, rfl, rfl, rfl⟩ rfl rfl rfl rfl rfl (by kernel_rfl) Try.func5 (by kernel_rfl)
    (of_decide_eq_true (by kernel_rfl)) (by unfold Func.isWrapper; first | (rw [if_pos (by decide +kernel)]; kernel_rfl) | (rw [if_neg (by decide +kernel)]; exact ⟨rfl, rfl⟩))
    (fun os started H enc _ => lifted os started H enc)

/-- The statement. -/
theorem proved : Rows.RstpSafeSaid := over
#print axioms proved
end Go.Proofs.Ytdjeifbbbpbhoaa.rstpSafeLaw
