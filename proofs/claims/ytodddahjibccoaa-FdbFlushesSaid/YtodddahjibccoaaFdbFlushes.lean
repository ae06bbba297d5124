/-
  'siphonlaw13.FdbFlushes' returns true, whatever the input, and each argument reads behind the call as it read before. Conditions: none beyond those that the row itself states.
-/
import Derived.Test.YtodddahjibccoaaRows
import Derived.Test.YtodddahjibccoaaFdJ
import Derived.Test.YtodddahjibccoaaRowOpF
import Derived.WalkKit
import Derived.ProofKit
import Derived.OpenShut
import Derived.ShutString
import Derived.ChangeOld
import Derived.Below
import Derived.Carry
import Derived.SizedLaws
import Derived.Lib.SmallJoins
import Derived.ChangeArms
import Derived.WideShapes
namespace Go.Proofs.Ytodddahjibccoaa.fdbFlushesLaw
open Go.ChangeShapes Go.WideShapes Go.ChangeAt Go.RowKit Go.Joins
open Go.ChangeMaps (open_string shut_string)
set_option linter.unusedVariables false

theorem fst_other {w0 W W' : World} {p mb : Nat} {room age : Int} {R : List E4} (h : FSt w0 W p mb room age R) {p' mb' : Nat} (k : Tw W W' p' mb') (hp' : w0.heap.size ≤ p') (hm' : w0.heap.size ≤ mb') (h1 : p ≠ p') (h2 : p ≠ mb') (h3 : mb ≠ p') (h4 : mb ≠ mb') : FSt w0 W' p mb room age R :=
  ⟨h.has.ofHeap (k.block p h.has.lt h1 h2) (k.block mb h.has.2.lt h3 h4), h.bel.trans (k.below hp' hm' h.bel.size), h.np, h.nm, h.good, h.len, h.r1, h.r2, h.a1, h.a2⟩
theorem new_s2 {w0 W : World} {room age : Int} (hr1 : 1 ≤ room) (hr2 : room ≤ 1024) (ha1 : 1 ≤ age) (ha2 : age ≤ 1000000) (k : Below w0.heap.size w0 W) : Calls Try.prog 8 #[.int .i64 room, .int .i64 age] W fun e w' => e = .returned (.tuple #[.pointer (some ⟨W.heap.size + 1, 0, none⟩), .int .i64 0]) ∧ FSt w0 w' (W.heap.size + 1) W.heap.size room age [] ∧ Below W.heap.size W w' := by
  refine (new_ok room age hr1 hr2 ha1 ha2 W).mono ?_
  rintro e w' ⟨rfl, h1, h2⟩
  exact ⟨rfl, ⟨h1, k.trans (h2.mono k.size), by have := k.size; omega, k.size, good_nil, by simp; omega, hr1, hr2, ha1, ha2⟩, h2⟩
theorem at_lrn_le {room L M : Int} {R : List E4} (h : ∀ e ∈ R, e.2.2.2 ≤ L) (hLM : L ≤ M) {ov : Int} {om : ByteArray} {p now : Int} (hn : now ≤ M) : ∀ e ∈ lrnF room R ov om p now, e.2.2.2 ≤ M := by
  intro e he
  have hR : ∀ e ∈ R, e.2.2.2 ≤ M := fun e he => Int.le_trans (h e he) hLM
  unfold lrnF at he
  split at he
  · split at he
    · unfold setF at he
      obtain ⟨x, hx, rfl⟩ := List.mem_map.1 he
      split
      · exact hn
      · exact hR x hx
    · unfold insF at he
      have hd : ∀ e ∈ drvF room R, e.2.2.2 ≤ M := by
        intro e he
        unfold drvF at he
        split at he
        · exact hR e (List.mem_of_mem_eraseIdx he)
        · exact hR e he
      rcases List.mem_append.1 he with hx | hx
      · exact hd e (List.mem_filter.1 hx).1
      · rcases List.mem_cons.1 hx with rfl | hx
        · exact hn
        · exact hd e (List.mem_filter.1 hx).1
  · exact hR e he
theorem exp_all {R : List E4} {age L : Int} (h : ∀ e ∈ R, e.2.2.2 ≤ L) (h0 : 0 ≤ L + age) (h1 : L + age ≤ 1099511627776) : expF R age (L + age) = [] := by
  have ht : timeB (L + age) = true := by unfold timeB; rw [decide_eq_true h0, decide_eq_true h1]; rfl
  unfold expF
  rw [if_pos ht, List.filter_eq_nil_iff]
  intro e he
  have := h e he
  unfold oldB
  rw [decide_eq_true (by omega)]
  simp
theorem flu_up {R : List E4} {j : Nat} (h : ∀ e ∈ R, (j : Int) ≤ e.2.2.1) : ∀ e ∈ fluF R j, ((j + 1 : Nat) : Int) ≤ e.2.2.1 := by
  intro e he
  obtain ⟨h1, h2⟩ := List.mem_filter.1 he
  have h3 := h e h1
  have h4 : ¬ e.2.2.1 = j := by simpa using h2
  omega
theorem flu_len (R : List E4) (j : Int) : (fluF R j).length ≤ R.length := List.length_filter_le _ _
theorem no_16 {R : List E4} (hg : GoodF R) (h : ∀ e ∈ R, (16 : Int) ≤ e.2.2.1) : R = [] := by
  cases R with
  | nil => rfl
  | cons x r =>
    have h1 := h x (List.mem_cons_self ..)
    have h2 := (hg.ok x (List.mem_cons_self ..)).2.2.2.2.1
    omega

set_option maxHeartbeats 16000000 in
set_option maxRecDepth 100000 in
theorem walk (a0 : Int) (a1 : Int) (a2 : Value) (la2 : List OpF) (w : World) (la0 : -9223372036854775808 ≤ a0) (ua0 : a0 ≤ 9223372036854775807) (la1 : -9223372036854775808 ≤ a1) (ua1 : a1 ≤ 9223372036854775807) (ha2 : RowsAt 5 cellsOpF w a2 la2) (qa2 : la2.length ≤ maxLen) (sa2 : ∀ r ∈ la2, GoodOpF r) :
    Calls Try.prog 6 #[.int .i64 a0, .int .i64 a1, a2] w fun e w' => e = .returned (.bool true) ∧ Below w.heap.size w w' := by
  have HL := Lib.hid fun U => live13_c U
  unfold maxLen at qa2
  obtain ⟨p, cap, bb, off, rfl, hp, hc⟩ := ha2
  have HP := Lib.hid hp
  have HC := Lib.hid hc
  clear hp hc
  by_cases hbad : a0 < 1 ∨ 1024 < a0 ∨ a1 < 1 ∨ 1000000 < a1
  · clear HP HC sa2
    have N0 := Lib.hid fun U => new_no a0 a1 hbad U
    clear hbad
    go_enter Try.func6, Try.ntmps6
    go_wp2_with fail
    ((with_reducible refine (N0.out _).mono ?_); rintro e w1 ⟨rfl, rfl⟩)
    go_wp2_with fail
    ((with_reducible refine (N0.out _).mono ?_); rintro e w1 ⟨rfl, rfl⟩)
    go_wp2_with fail
    ((with_reducible refine (HL.out _).mono ?_); rintro e wz ⟨rfl, hz⟩)
    go_wp2_with fail
    go_ret
    exact ⟨by simp, hz⟩
  · have b0 : 1 ≤ a0 ∧ a0 ≤ 1024 ∧ 1 ≤ a1 ∧ a1 ≤ 1000000 := by omega
    obtain ⟨b1, b2, b3, b4⟩ := b0
    have N1 := Lib.hid (new_s2 (w0 := w) (W := w) (room := a0) (age := a1) b1 b2 b3 b4 (Below.refl _ _))
    clear hbad
    go_enter Try.func6, Try.ntmps6
    go_wp2_with fail
    ((with_reducible refine N1.out.mono ?_); rintro e w1 ⟨rfl, s1, -⟩)
    have S1 := Lib.hid s1
    clear s1 N1
    have N2 := Lib.hid (new_s2 (w0 := w) (W := w1) (room := a0) (age := a1) b1 b2 b3 b4 S1.out.bel)
    have L1 := S1.out.has.lt
    have L2 := S1.out.has.2.lt
    have K1 := S1.out.np
    have K2 := S1.out.nm
    generalize w.heap.size + 1 = tp at S1 L1 K1 ⊢
    generalize w.heap.size = mb at S1 L2 K2 ⊢
    go_wp2_with fail
    ((with_reducible refine N2.out.mono ?_); rintro e w2 ⟨rfl, s2, t2⟩)
    have SU := Lib.hid s2
    have ST := Lib.hid (S1.out.below t2)
    have NQ := Lib.hid (show tp ≠ w1.heap.size + 1 ∧ tp ≠ w1.heap.size ∧ mb ≠ w1.heap.size + 1 ∧ mb ≠ w1.heap.size from by omega)
    clear s2 t2 N2 S1 L1 L2 K1 K2
    generalize w1.heap.size + 1 = tu at SU NQ ⊢
    generalize w1.heap.size = mu at SU NQ ⊢
    go_wp2_with fail
    have HN := Lib.hid (show ∀ e ∈ ([] : List E4), e.2.2.2 ≤ 0 from by simp)
    go_loopw [11, 12, 13] (fun l i _ wr => ∃ (k : Nat) (R : List E4) (L : Int), k ≤ la2.length ∧ k ≤ 60 ∧ i = .int .i64 k ∧ l = .int .i64 L ∧ 0 ≤ L ∧ L ≤ 1000000000 ∧ Hid (FSt w wr tp mb a0 a1 R) ∧ Hid (FSt w wr tu mu a0 a1 R) ∧ Hid (∀ e ∈ R, e.2.2.2 ≤ L)) (fun _ i _ _ => 60 - (intOf i).toNat)
    case atStart => exact ⟨0, [], 0, Nat.zero_le _, Nat.zero_le _, rfl, rfl, by omega, by omega, ST, SU, HN⟩
    case round =>
      clear ST SU HN
      obtain ⟨k, R, L, hk, hk6, rfl, rfl, hL0, hL1, ST, SU, HN⟩ := hrel
      by_cases hlt : k < la2.length
      · by_cases h60 : k < 60
        · have hne' : la2 ≠ [] := by rintro rfl; simp at hlt
          obtain rfl := HP.out hne'
          have x0 : wr.cell? ⟨bb, off + k * 5, none⟩ = some _ := gcell_below ST.out.bel (HC.out k _ (List.getElem?_eq_getElem hlt) 0 _ rfl)
          have x1 : wr.cell? ⟨bb, off + k * 5 + 1, none⟩ = some _ := gcell_below ST.out.bel (HC.out k _ (List.getElem?_eq_getElem hlt) 1 _ rfl)
          have x2 : wr.cell? ⟨bb, off + k * 5 + 2, none⟩ = some _ := gcell_below ST.out.bel (HC.out k _ (List.getElem?_eq_getElem hlt) 2 _ rfl)
          have x3 : wr.cell? ⟨bb, off + k * 5 + 3, none⟩ = some _ := gcell_below ST.out.bel (HC.out k _ (List.getElem?_eq_getElem hlt) 3 _ rfl)
          have x4 : wr.cell? ⟨bb, off + k * 5 + 4, none⟩ = some _ := gcell_below ST.out.bel (HC.out k _ (List.getElem?_eq_getElem hlt) 4 _ rfl)
          have hgd := sa2 _ (List.getElem_mem hlt)
          generalize la2[k] = hd at x0 x1 x2 x3 x4 hgd
          obtain ⟨od, ov, om, oq, on⟩ := hd
          simp only at x0 x1 x2 x3 x4
          obtain ⟨-, hgv, hgm, -, hgn⟩ := hgd
          simp only at hgv hgm hgn
          have hwf : WfK ov om := ⟨by simp [Lit.wf, IntKind.min, IntKind.max, IntKind.bits, IntKind.signed]; omega, hgm⟩
          have hlt' : (k : Int) < (la2.length : Int) := by omega
          have hlt6 : (k : Int) < 60 := by omega
          clear hne'
          go_upto_region 12 with fail
          replace ST := Lib.hid (ST.out.below ((Below.refl wr.heap.size wr).alloc (Nat.le_refl _) (.cells #[.int .i64 od, .int .i64 ov, .string om, .int .i64 oq, .int .i64 on] 35)))
          replace SU := Lib.hid (SU.out.below ((Below.refl wr.heap.size wr).alloc (Nat.le_refl _) (.cells #[.int .i64 od, .int .i64 ov, .string om, .int .i64 oq, .int .i64 on] 35)))
          have BX := Lib.hid (heap_new wr (.cells #[.int .i64 od, .int .i64 ov, .string om, .int .i64 oq, .int .i64 on] 35))
          clear x0 x1 x2 x3 x4 hwf
          generalize wr.alloc (.cells #[.int .i64 od, .int .i64 ov, .string om, .int .i64 oq, .int .i64 on] 35) = w2 at ST SU BX ⊢
          generalize wr.heap.size = bx at BX ⊢
          have y0 := cell_of_block (j := 0) BX.out rfl
          have y1 := cell_of_block (j := 1) BX.out rfl
          have y2 := cell_of_block (j := 2) BX.out rfl
          have y3 := cell_of_block (j := 3) BX.out rfl
          have y4 := cell_of_block (j := 4) BX.out rfl
          have C1 := Lib.hid (lrn_s ST.out ov om oq on)
          go_wp2_with fail
          ((with_reducible refine C1.out.mono ?_); rintro e w3 ⟨rfl, s3, t3⟩)
          replace BX := Lib.hid (box_tw BX.out ST.out t3)
          replace SU := Lib.hid (fst_other SU.out t3 ST.out.np ST.out.nm NQ.out.1.symm NQ.out.2.2.1.symm NQ.out.2.1.symm NQ.out.2.2.2.symm)
          replace ST := Lib.hid s3
          clear s3 t3 C1 y0 y1 y2 y3 y4
          have C2 := Lib.hid (lrn_s SU.out ov om oq on)
          have y0 := cell_of_block (j := 0) BX.out rfl
          have y1 := cell_of_block (j := 1) BX.out rfl
          have y2 := cell_of_block (j := 2) BX.out rfl
          have y3 := cell_of_block (j := 3) BX.out rfl
          have y4 := cell_of_block (j := 4) BX.out rfl
          go_wp2_with fail
          ((with_reducible refine C2.out.mono ?_); rintro e w4 ⟨rfl, s4, t4⟩)
          replace BX := Lib.hid (box_tw BX.out SU.out t4)
          replace ST := Lib.hid (fst_other ST.out t4 SU.out.np SU.out.nm NQ.out.1 NQ.out.2.1 NQ.out.2.2.1 NQ.out.2.2.2)
          replace SU := Lib.hid s4
          clear s4 t4 C2 y0 y1 y2 y3 y4
          have y0 := cell_of_block (j := 0) BX.out rfl
          have y1 := cell_of_block (j := 1) BX.out rfl
          have y2 := cell_of_block (j := 2) BX.out rfl
          have y3 := cell_of_block (j := 3) BX.out rfl
          have y4 := cell_of_block (j := 4) BX.out rfl
          by_cases hon : on ≤ 1000000000
          · by_cases hmx : L < on
            · replace HN := Lib.hid (at_lrn_le (room := a0) (ov := ov) (om := om) (p := oq) (now := on) HN.out (Int.le_of_lt hmx) (Int.le_refl on))
              generalize lrnF a0 R ov om oq on = R2 at ST SU HN
              have m1 : max L on = on := by omega
              go_wp2_with fail
              go_roundw
              case rel => exact ⟨k + 1, R2, on, by omega, by omega, by go_num, rfl, by omega, by omega, ST, SU, HN⟩
              case measure => simp [intOf]; omega
            · replace HN := Lib.hid (at_lrn_le (room := a0) (ov := ov) (om := om) (p := oq) (now := on) HN.out (Int.le_refl L) (Int.not_lt.1 hmx))
              generalize lrnF a0 R ov om oq on = R2 at ST SU HN
              have m1 : max L on = L := by omega
              go_wp2_with fail
              go_roundw
              case rel => exact ⟨k + 1, R2, L, by omega, by omega, by go_num, rfl, by omega, by omega, ST, SU, HN⟩
              case measure => simp [intOf]; omega
          · have g3 : decide (on ≤ 1000000000) = false := decide_eq_false hon
            go_wp2_with fail
            ((with_reducible refine (HL.out _).mono ?_); rintro e wz ⟨rfl, hz⟩)
            go_wp2_with fail
            go_ret
            exact ⟨by simp, ST.out.bel.trans (hz.mono ST.out.bel.size)⟩
        · have g1 : decide ((k : Int) < 60) = false := decide_eq_false (by omega)
          have g2 : decide ((k : Int) < (la2.length : Int)) = true := decide_eq_true (by omega)
          have C4 := Lib.hid (ent_s ST.out)
          go_wp2_with fail
          ((with_reducible refine C4.out.mono ?_); rintro e w7 ⟨ev, rfl, s7, t7⟩)
          obtain ⟨eq, ecap, rfl⟩ := s7.len
          replace ST := Lib.hid (ST.out.below t7)
          replace SU := Lib.hid (SU.out.below t7)
          clear s7 t7 C4
          have hle := ST.out.len
          have F0 := Lib.hid (show R.length ≤ R.length ∧ ∀ e ∈ R, ((0 : Nat) : Int) ≤ e.2.2.1 from ⟨Nat.le_refl _, fun e he => (ST.out.good.ok e he).2.2.2.1⟩)
          go_wp2_with fail
          go_loopw [15, 16] (fun g i wr => ∃ (j : Nat) (R' : List E4), j ≤ 16 ∧ i = .int .i64 j ∧ g = .int .i64 ((R.length - R'.length : Nat)) ∧ Hid (R'.length ≤ R.length ∧ ∀ e ∈ R', (j : Int) ≤ e.2.2.1) ∧ Hid (FSt w wr tp mb a0 a1 R') ∧ Hid (FSt w wr tu mu a0 a1 R)) (fun _ i _ => 16 - (intOf i).toNat)
          case atStart => exact ⟨0, R, by omega, rfl, by simp, F0, ST, SU⟩
          case round =>
            clear ST SU F0
            obtain ⟨j, R', hj, rfl, rfl, FF, ST, SU⟩ := hrel
            by_cases hj6 : j < 16
            · have hj7 : (j : Int) < 16 := by omega
              have C5 := Lib.hid (flu_s ST.out j)
              have F2 := Lib.hid (flu_up FF.out.2)
              have F3 := flu_len R' j
              have F1 := FF.out.1
              generalize fluF R' j = R3 at C5 F2 F3
              obtain ⟨x, hx⟩ : ∃ x : Nat, R.length - R'.length = x := ⟨_, rfl⟩
              obtain ⟨y, hy⟩ : ∃ y : Nat, R'.length - R3.length = y := ⟨_, rfl⟩
              rw [hx]
              rw [hy] at C5
              have hxy : x + y = R.length - R3.length := by omega
              have hxl : x + y ≤ 1024 := by omega
              have w1 : IntKind.i64.wrap ((x : Int) + y) = x + y := IntWalk.i64_in _ (by omega)
              have w2 : wrap64 ((x : Int) + y) = x + y := by unfold wrap64; omega
              clear hx hy
              go_wp2_with fail
              ((with_reducible refine C5.out.mono ?_); rintro e w8 ⟨rfl, s8, t8⟩)
              replace SU := Lib.hid (fst_other SU.out t8 ST.out.np ST.out.nm NQ.out.1.symm NQ.out.2.2.1.symm NQ.out.2.1.symm NQ.out.2.2.2.symm)
              replace ST := Lib.hid s8
              clear s8 t8 C5
              go_wp2_with fail
              go_roundw
              case rel => exact ⟨j + 1, R3, by omega, by go_num, by rw [← hxy]; simp, Lib.hid ⟨by omega, F2.out⟩, ST, SU⟩
              case measure => simp [intOf]; omega
            · obtain rfl : j = 16 := by omega
              obtain rfl := no_16 ST.out.good FF.out.2
              have hl0 : R.length - ([] : List E4).length = R.length := by simp
              rw [hl0]
              clear hl0 FF
              have w1 : IntKind.i64.wrap (L + a1) = L + a1 := IntWalk.i64_in _ (by omega)
              have w2 : wrap64 (L + a1) = L + a1 := by unfold wrap64; omega
              have C6 := Lib.hid (ent_s ST.out)
              go_wp2_with fail
              ((with_reducible refine C6.out.mono ?_); rintro e w9 ⟨ev2, rfl, s9, t9⟩)
              obtain ⟨eq2, ecap2, rfl⟩ := s9.len
              replace ST := Lib.hid (ST.out.below t9)
              replace SU := Lib.hid (SU.out.below t9)
              clear s9 t9 C6
              have C7 := Lib.hid (exp_s SU.out (L + a1))
              rw [exp_all HN.out (by omega) (by omega)] at C7
              have hl0 : R.length - ([] : List E4).length = R.length := by simp
              rw [hl0] at C7
              clear hl0
              go_wp2_with fail
              ((with_reducible refine C7.out.mono ?_); rintro e w10 ⟨rfl, s10, t10⟩)
              replace SU := Lib.hid s10
              clear s10 t10 C7 ST
              have C8 := Lib.hid (ent_s SU.out)
              go_wp2_with fail
              ((with_reducible refine C8.out.mono ?_); rintro e w11 ⟨ev3, rfl, s11, t11⟩)
              obtain ⟨eq3, ecap3, rfl⟩ := s11.len
              replace SU := Lib.hid (SU.out.below t11)
              clear s11 t11 C8
              go_wp2_with fail
              ((with_reducible refine (HL.out _).mono ?_); rintro e wz ⟨rfl, hz⟩)
              go_wp2_with fail
              go_ret
              exact ⟨by simp, SU.out.bel.trans (hz.mono SU.out.bel.size)⟩
      · have g2 : decide ((k : Int) < (la2.length : Int)) = false := decide_eq_false (by omega)
        have C4 := Lib.hid (ent_s ST.out)
        go_wp2_with fail
        ((with_reducible refine C4.out.mono ?_); rintro e w7 ⟨ev, rfl, s7, t7⟩)
        obtain ⟨eq, ecap, rfl⟩ := s7.len
        replace ST := Lib.hid (ST.out.below t7)
        replace SU := Lib.hid (SU.out.below t7)
        clear s7 t7 C4
        have hle := ST.out.len
        have F0 := Lib.hid (show R.length ≤ R.length ∧ ∀ e ∈ R, ((0 : Nat) : Int) ≤ e.2.2.1 from ⟨Nat.le_refl _, fun e he => (ST.out.good.ok e he).2.2.2.1⟩)
        go_wp2_with fail
        go_loopw [15, 16] (fun g i wr => ∃ (j : Nat) (R' : List E4), j ≤ 16 ∧ i = .int .i64 j ∧ g = .int .i64 ((R.length - R'.length : Nat)) ∧ Hid (R'.length ≤ R.length ∧ ∀ e ∈ R', (j : Int) ≤ e.2.2.1) ∧ Hid (FSt w wr tp mb a0 a1 R') ∧ Hid (FSt w wr tu mu a0 a1 R)) (fun _ i _ => 16 - (intOf i).toNat)
        case atStart => exact ⟨0, R, by omega, rfl, by simp, F0, ST, SU⟩
        case round =>
          clear ST SU F0
          obtain ⟨j, R', hj, rfl, rfl, FF, ST, SU⟩ := hrel
          by_cases hj6 : j < 16
          · have hj7 : (j : Int) < 16 := by omega
            have C5 := Lib.hid (flu_s ST.out j)
            have F2 := Lib.hid (flu_up FF.out.2)
            have F3 := flu_len R' j
            have F1 := FF.out.1
            generalize fluF R' j = R3 at C5 F2 F3
            obtain ⟨x, hx⟩ : ∃ x : Nat, R.length - R'.length = x := ⟨_, rfl⟩
            obtain ⟨y, hy⟩ : ∃ y : Nat, R'.length - R3.length = y := ⟨_, rfl⟩
            rw [hx]
            rw [hy] at C5
            have hxy : x + y = R.length - R3.length := by omega
            have hxl : x + y ≤ 1024 := by omega
            have w1 : IntKind.i64.wrap ((x : Int) + y) = x + y := IntWalk.i64_in _ (by omega)
            have w2 : wrap64 ((x : Int) + y) = x + y := by unfold wrap64; omega
            clear hx hy
            go_wp2_with fail
            ((with_reducible refine C5.out.mono ?_); rintro e w8 ⟨rfl, s8, t8⟩)
            replace SU := Lib.hid (fst_other SU.out t8 ST.out.np ST.out.nm NQ.out.1.symm NQ.out.2.2.1.symm NQ.out.2.1.symm NQ.out.2.2.2.symm)
            replace ST := Lib.hid s8
            clear s8 t8 C5
            go_wp2_with fail
            go_roundw
            case rel => exact ⟨j + 1, R3, by omega, by go_num, by rw [← hxy]; simp, Lib.hid ⟨by omega, F2.out⟩, ST, SU⟩
            case measure => simp [intOf]; omega
          · obtain rfl : j = 16 := by omega
            obtain rfl := no_16 ST.out.good FF.out.2
            have hl0 : R.length - ([] : List E4).length = R.length := by simp
            rw [hl0]
            clear hl0 FF
            have w1 : IntKind.i64.wrap (L + a1) = L + a1 := IntWalk.i64_in _ (by omega)
            have w2 : wrap64 (L + a1) = L + a1 := by unfold wrap64; omega
            have C6 := Lib.hid (ent_s ST.out)
            go_wp2_with fail
            ((with_reducible refine C6.out.mono ?_); rintro e w9 ⟨ev2, rfl, s9, t9⟩)
            obtain ⟨eq2, ecap2, rfl⟩ := s9.len
            replace ST := Lib.hid (ST.out.below t9)
            replace SU := Lib.hid (SU.out.below t9)
            clear s9 t9 C6
            have C7 := Lib.hid (exp_s SU.out (L + a1))
            rw [exp_all HN.out (by omega) (by omega)] at C7
            have hl0 : R.length - ([] : List E4).length = R.length := by simp
            rw [hl0] at C7
            clear hl0
            go_wp2_with fail
            ((with_reducible refine C7.out.mono ?_); rintro e w10 ⟨rfl, s10, t10⟩)
            replace SU := Lib.hid s10
            clear s10 t10 C7 ST
            have C8 := Lib.hid (ent_s SU.out)
            go_wp2_with fail
            ((with_reducible refine C8.out.mono ?_); rintro e w11 ⟨ev3, rfl, s11, t11⟩)
            obtain ⟨eq3, ecap3, rfl⟩ := s11.len
            replace SU := Lib.hid (SU.out.below t11)
            clear s11 t11 C8
            go_wp2_with fail
            ((with_reducible refine (HL.out _).mono ?_); rintro e wz ⟨rfl, hz⟩)
            go_wp2_with fail
            go_ret
            exact ⟨by simp, SU.out.bel.trans (hz.mono SU.out.bel.size)⟩

theorem own : ownKnob Try.prog.godebug = none := by kernel_rfl
theorem laidOut : laidOutB Try.prog = true := by kernel_rfl

set_option maxHeartbeats 1000000 in
set_option maxRecDepth 100000 in
theorem lifted (os : Os) (started : os.Started) (H : Type) (enc : TypeId × Value → H) :
    ReturnsInHanded {} Try.checked os 6 .any (Rows.fdbFlushesSpec.pre6 enc Try.prog Try.f6 Rows.fdbFlushesRow.domain false) (Rows.fdbFlushesSpec.post enc Try.prog Try.f6 false true false false) := by
  refine returnsInHanded_of_change_sized (C := Try.checked) own started (by kernel_rfl) Try.func6
    (ChangeSpec.witness6 (enc := enc) (C := Try.checked) false ⟨#[], #[.int .i64 0, .int .i64 0, .slice none 0 0], []⟩ 8 (by kernel_rfl) (by kernel_rfl) (by kernel_rfl) (by kernel_rfl)) ?_
  intro W base args ds gs before hval0 hW hcnd hsz0 hholds
  have hval : ∀ (j : Nat) t v, Try.f6.params[j]? = some t → args[j]? = some v → Value.okWide Try.prog W .any base t v := hval0
  have hsz : (DataW.weightsEach Try.prog (Try.f6.params.toList ++ Rows.fdbFlushesSpec.plain.varTypes Try.prog) (ds ++ gs)).all (· ≤ reachBytes) = true := hsz0
  have hW' := hW
  obtain ⟨p, q, hA0, hV, rfl, hfz, hnd⟩ := hW
  have hA : DataW.TrodAll enc Try.prog W 0 (fun _ => true) true Try.f6.params.toList args.toList ds p := hA0
  rw [Try.params6] at hA hval hsz
  obtain ⟨v0, vs0, d0, ds0, p0, q0, hargs, rfl, rfl, h0, r0⟩ := trodAll_cons hA
  obtain ⟨v1, vs1, d1, ds1, p1, q1, rfl, rfl, rfl, h1, r1⟩ := trodAll_cons r0
  obtain ⟨v2, vs2, d2, ds2, p2, q2, rfl, rfl, rfl, h2, r2⟩ := trodAll_cons r1
  obtain ⟨rfl, rfl, rfl⟩ := trodAll_nil r2
  obtain rfl : args = #[v0, v1, v2] := by cases args; simp_all
  obtain ⟨rfl, rfl⟩ := trodVars_none hV
  have k0 := h0
  have lt0 : ∀ x ∈ p0, x.block < W.heap.size := by obtain ⟨m, hm⟩ := k0; exact DataW.trod_lt m _ _ _ hm
  have k1 := h1
  have lt1 : ∀ x ∈ p1, x.block < W.heap.size := by obtain ⟨m, hm⟩ := k1; exact DataW.trod_lt m _ _ _ hm
  have k2 := h2
  have lt2 : ∀ x ∈ p2, x.block < W.heap.size := by obtain ⟨m, hm⟩ := k2; exact DataW.trod_lt m _ _ _ hm
  obtain ⟨a0, rfl, rfl, rfl, w0⟩ := open_int Try.underlying3 (hval 0 3 v0 rfl rfl) h0
  obtain ⟨a1, rfl, rfl, rfl, w1⟩ := open_int Try.underlying3 (hval 1 3 v1 rfl rfl) h1
  obtain ⟨sa2, sl2, sc2, rfl⟩ := okWide_slice Try.underlying22 (hval 2 22 v2 rfl rfl)
  obtain ⟨fu2, hf2⟩ := h2
  obtain ⟨vv2, L2, e2, hh2, qq2, ss2⟩ := openOpF hf2
  simp [Value.cells] at e2
  subst e2
  have ba0 := bounds_i64 w0
  have ba1 := bounds_i64 w1
  clear hA0 hval0
  refine (walk a0 a1 (.slice sa2 sl2 sc2) L2 W ba0.1 ba0.2 ba1.1 ba1.2 hh2 qq2 ss2).mono fun e W' ⟨he, bel⟩ => ?_
  subst he
  exact ⟨_, rfl, _, _, _, [], _, [], hW', trodAll_mk1 (shut_bool Try.underlying4 _), (trodAll_cons_mk (Below.trod laidOut (by kernel_rfl) (of_decide_eq_true (by kernel_rfl)) k0 bel lt0) (trodAll_cons_mk (Below.trod laidOut (by kernel_rfl) (of_decide_eq_true (by kernel_rfl)) k1 bel lt1) (trodAll_cons_mk (Below.trod laidOut (by kernel_rfl) (of_decide_eq_true (by kernel_rfl)) k2 bel lt2) trodAll_mk0))), rfl, bel.frame _, fun h => by cases h⟩

theorem over : Rows.fdbFlushesRow.holds Try.pinned (OpenSpec.ofChange Rows.fdbFlushesSpec) :=
  OpenClaim.holds_of_wide 6 Try.f6 rfl rfl rfl rfl rfl rfl rfl ⟨rfl, rfl, rfl, rfl, rfl⟩ rfl rfl rfl rfl rfl (by kernel_rfl) Try.func6 (by kernel_rfl)
    (of_decide_eq_true (by kernel_rfl)) (by unfold Func.isWrapper; first | (rw [if_pos (by decide +kernel)]; kernel_rfl) | (rw [if_neg (by decide +kernel)]; exact ⟨rfl, rfl⟩))
    (fun os started H enc _ => lifted os started H enc)

/-- The statement. -/
theorem proved : Rows.FdbFlushesSaid := over
#print axioms proved
end Go.Proofs.Ytodddahjibccoaa.fdbFlushesLaw
