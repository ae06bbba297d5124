/-
  'router.forget', 'Drop', 'Expire': what was heard before is all that is heard behind. Contracts over the translated program.
-/
import Derived.Test.YtggbnkbhobbopaaRtL
namespace Go.Proofs.Ytggbnkbhobbopaa
open Go Go.Maps Go.WideMaps
open Go.RowKit
set_option linter.unusedVariables false
set_option linter.unusedSimpArgs false
variable {w w' : World} {p fb hb : Nat} {age : Int} {F : List MB.T3} {L : List T3}

theorem invP (key : Value) (kl : Lit) (h : keyOf Try.prog 46 key = some kl) : ∃ x : Int × Int, key = (fun x : Int × Int => Value.agg #[.int .i64 x.1, .int .i64 x.2]) x := by
  obtain ⟨v, m, _, rfl, _⟩ := keyP_inv key kl h
  exact ⟨(v, m), rfl⟩
theorem Tw.grownN {w a c : World} {mb : Nat} (h : Tw w a mb mb) {row : Option Nat} (hg : a.grownBy c row) (hr : ∀ j, row = some j → w.heap.size ≤ j ∨ j = mb) : Tw w c mb mb :=
  ⟨hg.os.trans h.os, hg.tape.trans h.tape, hg.output.trans h.output, Nat.le_trans h.size hg.size, fun k hk h1 h2 => (hg.block k (Nat.lt_of_lt_of_le hk h.size) (fun e => by rcases hr k e.symm with h3 | h3 <;> omega)).trans (h.block k hk h1 h2)⟩

/-- What a call of the condition answers: yes or no; it leaves what lies there. -/
def GoesR (f : FuncId) (caps : List Value) (w : World) (mb : Nat) : Prop :=
  ∀ (U : World) (q r a : Int), Tw w U mb mb → 0 ≤ a → a ≤ 1099511627776 → Calls Try.prog f ((.agg #[.int .i64 q, .int .i64 r]) :: .int .i64 a :: caps).toArray U fun e w' => ∃ b, e = .returned (.bool b) ∧ Below U.heap.size U w'
theorem del_sub {L : List T3} {k : Lit} : ∀ x ∈ delT L k, x ∈ L := fun x hx => (List.mem_filter.1 hx).1
theorem del_len (L : List T3) (k : Lit) : (delT L k).length ≤ L.length := List.length_filter_le _ _
/-- What forget leaves. -/
def FgPost (p fb hb : Nat) (age : Int) (F : List MB.T3) (L : List T3) (w : World) (e : Ending) (w' : World) : Prop :=
  ∃ (n : Nat) (M : List T3), e = .returned (.int .i64 n) ∧ HasP w' p fb hb age F M ∧ (∀ x ∈ M, x ∈ L) ∧ M.length ≤ L.length ∧ Tw w w' hb hb

set_option maxHeartbeats 8000000 in
set_option maxRecDepth 100000 in
theorem forgetD_c (h : HasP w p fb hb age F L) (hg : GoodL L) (hl : L.length ≤ 1000000) (b0 : Nat) (HG : GoesR 18 [.pointer (some ⟨b0, 0, none⟩)] w hb) :
    Calls Try.prog 17 #[.pointer (some ⟨p, 0, none⟩), .func (.func 18) #[] #[.pointer (some ⟨b0, 0, none⟩)]] w (FgPost p fb hb age F L w) := by
  have H := Lib.hid h
  obtain ⟨-, -, c2⟩ := h.c
  have hm := Lib.hid h.heard
  have hlp := Lib.hid (And.intro h.lt h.ph)
  have HGG := Lib.hid HG
  have HGL := Lib.hid hg
  have HQ := Lib.hid (show ∀ (n : Nat) (M : List T3) U, HasP U p fb hb age F M → (∀ x ∈ M, x ∈ L) → M.length ≤ L.length → Tw w U hb hb → FgPost p fb hb age F L w (.returned (.int .i64 n)) U from fun n M U h1 h2 h3 h4 => ⟨n, M, rfl, h1, h2, h3, h4⟩)
  generalize FgPost p fb hb age F L w = Q at HQ ⊢
  clear h HG hg
  go_enter Try.func17, Try.ntmps17
  go_wp2_with (first
    | (at_range; refine wpList_range_mp _ rfl _ 41 rfl 46 3 law_PL und_MH hb L rfl hm.out ?_; intro w0 hrg0 hg0 hs0)
    | go_in)
  go_frame
  have HG0 := Lib.hid (And.intro hrg0 (And.intro hg0 hs0))
  clear hrg0 hg0 hs0 c2
  go_loopw [5, 6, 7] (fun s5 _ _ wr => ∃ (nn : Nat) (M S : List T3) (cnt : Nat), s5 = .int .i64 nn ∧ Hid (nn + S.length ≤ L.length) ∧ Hid (∀ x ∈ M, x ∈ L) ∧ Hid (M.length ≤ L.length) ∧ Hid (∀ x ∈ S, x ∈ L) ∧ Hid (Rg wr Try.prog 46 hb w.heap.size M S cnt) ∧ Hid (Tw w wr hb hb))
    (fun _ _ _ wr => wr.rangeLeft hb w.heap.size)
  case atStart => exact ⟨0, L, L, L.length, rfl, Lib.hid (by omega), Lib.hid (fun x hx => hx), Lib.hid (Nat.le_refl _), Lib.hid (fun x hx => hx), Lib.hid HG0.out.1, Lib.hid ((Tw.refl w hb hb).grownN HG0.out.2.1 (fun j hj => by cases hj))⟩
  case round =>
    obtain ⟨nn, M, S, cnt, rfl, hN, hML, hMl, hSL, hR, hT⟩ := hrel
    go_wp2_with (first
      | (at_next; refine wpList_next_mp _ rfl _ rfl 46 law_PL (fun x : Int × Int => Value.agg #[.int .i64 x.1, .int .i64 x.2]) invP hb w.heap.size _ S cnt rfl hR.out ?_ ?_)
      | go_in)
    · intro h0
      have HF := Lib.hid (HQ.out nn M wr (H.out.turnH hR.out.map hT.out) hML.out hMl.out hT.out)
      clear h0 hR HQ
      go_wp2
      exact HF.out
    · intro v2 m2 a2 kl S' w1 cnt1 hkey hpm hrg1 hlt1 hg1 hs1 hen
      try dsimp only at hkey hen ⊢
      have hin : (kl, a2) ∈ S := hpm.mem_iff.2 (by simp)
      obtain ⟨ha0, ha1⟩ := HGL.out _ (hSL.out _ hin)
      simp only at ha0 ha1
      have hT1 := Lib.hid (hT.out.grownN hg1 (fun j hj => by cases hj; exact Or.inl (Nat.le_refl _)))
      have hR1 := Lib.hid hrg1
      have hRl := Lib.hid hR.out.left_eq
      have hLT := Lib.hid hlt1
      have hSL1 := Lib.hid (show ∀ x ∈ S', x ∈ L from fun x hx => hSL.out x (hpm.mem_iff.2 (by simp [hx])))
      have hN1 := Lib.hid (show nn + 1 + S'.length ≤ L.length by have h1 := hpm.length_eq; have h2 := hN.out; rw [List.length_cons] at h1; omega)
      have hkx := Lib.hid hkey
      clear hkey hpm hrg1 hlt1 hg1 hs1 hR hT hin hN
      go_upto_region 7 with fail
      have hg2 := (World.grownBy_alloc w1 (.cells #[.int .i64 v2, .int .i64 m2] 46) none)
      have hT2 := Lib.hid (hT1.out.grownN hg2 (fun j hj => by cases hj))
      have hR2 := Lib.hid (hR1.out.kept hg2 (by simp) (by simp))
      have hs2 := Lib.hid (heap_new w1 (.cells #[.int .i64 v2, .int .i64 m2] 46))
      have hF := Lib.hid (HGG.out _ v2 m2 a2 hT2.out ha0 ha1)
      clear hg2 hT1 hR1
      generalize w1.alloc (.cells #[.int .i64 v2, .int .i64 m2] 46) = w2 at hT2 hR2 hs2 hF ⊢
      generalize w1.heap.size = eb at hs2 ⊢
      have y0 := cell_of_block (j := 0) hs2.out rfl
      have y1 := cell_of_block (j := 1) hs2.out rfl
      go_wp2_with fail
      ((with_reducible refine hF.out.mono ?_); rintro e w3 ⟨b, rfl, h3⟩)
      have hg4 : w2.grownBy w3 none := ⟨h3.os, h3.tape, h3.output, h3.size, fun k hk _ => h3.block k hk⟩
      have hT3 := Lib.hid (hT2.out.grownN hg4 (fun j hj => by cases hj))
      have hR3 := Lib.hid (hR2.out.kept hg4 (by simp) (by simp))
      have hs3 := Lib.hid (below_block h3 (lt_of_block hs2.out) hs2.out)
      clear h3 hg4 hT2 hR2 hs2 y0 y1 hF
      rcases Bool.eq_false_or_eq_true b with rfl | rfl
      · have x0 := cell_of_block (j := 0) hs3.out rfl
        have x1 := cell_of_block (j := 1) hs3.out rfl
        have c2 : w3.cell? ⟨p, 2, none⟩ = some (.map (some hb)) := cell_of_block (j := 2) ((hT3.out.block p hlp.out.1 hlp.out.2 hlp.out.2).trans H.out.own) rfl
        go_upto_region 8 with fail
        go_still_tail 5, (by kernel_rfl)
        change wpList _ _ _ _ _ w3.drew
        have hR4 := Lib.hid (show Rg w3.drew Try.prog 46 hb w.heap.size M S' cnt1 from hR3.out)
        clear x0 x1 c2 hs3
        go_wp2_with (first | (at_delete; refine wpList_delete_rg _ rfl _ _ 41 46 rfl 3 law_PL und_MH hb w.heap.size _ S' cnt1 rfl hR4.out _ _ rfl hkx.out ?_; intro w5 cnt2 hR5 hc5 ht5) | go_in)
        have hR6 := Lib.hid hR5
        have hT6 := Lib.hid ((show Tw w w3.drew hb hb from ⟨hT3.out.os, hT3.out.tape, hT3.out.output, hT3.out.size, hT3.out.block⟩).trans (Tw.turned (w := w3.drew) ht5))
        have hLE := Lib.hid hc5
        have hDn : nn ≤ 1000000 := by have := hN1.out; omega
        have hN6 := Lib.hid (show nn + 1 + (delT S' kl).length ≤ L.length by have h1 := del_len S' kl; have h2 := hN1.out; omega)
        have hM6 := Lib.hid (show ∀ x ∈ delT M kl, x ∈ L from fun x hx => hML.out x (del_sub x hx))
        have hS6 := Lib.hid (show ∀ x ∈ delT S' kl, x ∈ L from fun x hx => hSL1.out x (del_sub x hx))
        have hl6 := Lib.hid (Nat.le_trans (del_len M kl) hMl.out)
        have hw0 : IntKind.i64.wrap ((nn : Int) + 1) = (nn : Int) + 1 := IntWalk.i64_in _ (by omega)
        have hw1 : wrap64 ((nn : Int) + 1) = (nn : Int) + 1 := by unfold wrap64; omega
        clear hR5 ht5 hc5 hR4 hR3 hT3
        go_wp2_with fail
        go_roundw
        case rel => exact ⟨nn + 1, _, _, cnt2, by go_num, hN6, hM6, hl6, hS6, hR6, hT6⟩
        case measure => rw [hR6.out.left_eq, hRl.out]; exact Nat.lt_of_le_of_lt hLE.out hLT.out
      · have hN6 := Lib.hid (show nn + S'.length ≤ L.length by have h2 := hN1.out; omega)
        go_wp2_with fail
        go_roundw
        case rel => exact ⟨nn, M, S', cnt1, rfl, hN6, hML, hMl, hSL1, hR3, hT3⟩
        case measure => rw [hR3.out.left_eq, hRl.out]; exact hLT.out

set_option maxHeartbeats 8000000 in
set_option maxRecDepth 100000 in
theorem forgetE_c (h : HasP w p fb hb age F L) (hg : GoodL L) (hl : L.length ≤ 1000000) (b0 b1 : Nat) (HG : GoesR 19 [.pointer (some ⟨b0, 0, none⟩), .pointer (some ⟨b1, 0, none⟩)] w hb) :
    Calls Try.prog 17 #[.pointer (some ⟨p, 0, none⟩), .func (.func 19) #[] #[.pointer (some ⟨b0, 0, none⟩), .pointer (some ⟨b1, 0, none⟩)]] w (FgPost p fb hb age F L w) := by
  have H := Lib.hid h
  obtain ⟨-, -, c2⟩ := h.c
  have hm := Lib.hid h.heard
  have hlp := Lib.hid (And.intro h.lt h.ph)
  have HGG := Lib.hid HG
  have HGL := Lib.hid hg
  have HQ := Lib.hid (show ∀ (n : Nat) (M : List T3) U, HasP U p fb hb age F M → (∀ x ∈ M, x ∈ L) → M.length ≤ L.length → Tw w U hb hb → FgPost p fb hb age F L w (.returned (.int .i64 n)) U from fun n M U h1 h2 h3 h4 => ⟨n, M, rfl, h1, h2, h3, h4⟩)
  generalize FgPost p fb hb age F L w = Q at HQ ⊢
  clear h HG hg
  go_enter Try.func17, Try.ntmps17
  go_wp2_with (first
    | (at_range; refine wpList_range_mp _ rfl _ 41 rfl 46 3 law_PL und_MH hb L rfl hm.out ?_; intro w0 hrg0 hg0 hs0)
    | go_in)
  go_frame
  have HG0 := Lib.hid (And.intro hrg0 (And.intro hg0 hs0))
  clear hrg0 hg0 hs0 c2
  go_loopw [5, 6, 7] (fun s5 _ _ wr => ∃ (nn : Nat) (M S : List T3) (cnt : Nat), s5 = .int .i64 nn ∧ Hid (nn + S.length ≤ L.length) ∧ Hid (∀ x ∈ M, x ∈ L) ∧ Hid (M.length ≤ L.length) ∧ Hid (∀ x ∈ S, x ∈ L) ∧ Hid (Rg wr Try.prog 46 hb w.heap.size M S cnt) ∧ Hid (Tw w wr hb hb))
    (fun _ _ _ wr => wr.rangeLeft hb w.heap.size)
  case atStart => exact ⟨0, L, L, L.length, rfl, Lib.hid (by omega), Lib.hid (fun x hx => hx), Lib.hid (Nat.le_refl _), Lib.hid (fun x hx => hx), Lib.hid HG0.out.1, Lib.hid ((Tw.refl w hb hb).grownN HG0.out.2.1 (fun j hj => by cases hj))⟩
  case round =>
    obtain ⟨nn, M, S, cnt, rfl, hN, hML, hMl, hSL, hR, hT⟩ := hrel
    go_wp2_with (first
      | (at_next; refine wpList_next_mp _ rfl _ rfl 46 law_PL (fun x : Int × Int => Value.agg #[.int .i64 x.1, .int .i64 x.2]) invP hb w.heap.size _ S cnt rfl hR.out ?_ ?_)
      | go_in)
    · intro h0
      have HF := Lib.hid (HQ.out nn M wr (H.out.turnH hR.out.map hT.out) hML.out hMl.out hT.out)
      clear h0 hR HQ
      go_wp2
      exact HF.out
    · intro v2 m2 a2 kl S' w1 cnt1 hkey hpm hrg1 hlt1 hg1 hs1 hen
      try dsimp only at hkey hen ⊢
      have hin : (kl, a2) ∈ S := hpm.mem_iff.2 (by simp)
      obtain ⟨ha0, ha1⟩ := HGL.out _ (hSL.out _ hin)
      simp only at ha0 ha1
      have hT1 := Lib.hid (hT.out.grownN hg1 (fun j hj => by cases hj; exact Or.inl (Nat.le_refl _)))
      have hR1 := Lib.hid hrg1
      have hRl := Lib.hid hR.out.left_eq
      have hLT := Lib.hid hlt1
      have hSL1 := Lib.hid (show ∀ x ∈ S', x ∈ L from fun x hx => hSL.out x (hpm.mem_iff.2 (by simp [hx])))
      have hN1 := Lib.hid (show nn + 1 + S'.length ≤ L.length by have h1 := hpm.length_eq; have h2 := hN.out; rw [List.length_cons] at h1; omega)
      have hkx := Lib.hid hkey
      clear hkey hpm hrg1 hlt1 hg1 hs1 hR hT hin hN
      go_upto_region 7 with fail
      have hg2 := (World.grownBy_alloc w1 (.cells #[.int .i64 v2, .int .i64 m2] 46) none)
      have hT2 := Lib.hid (hT1.out.grownN hg2 (fun j hj => by cases hj))
      have hR2 := Lib.hid (hR1.out.kept hg2 (by simp) (by simp))
      have hs2 := Lib.hid (heap_new w1 (.cells #[.int .i64 v2, .int .i64 m2] 46))
      have hF := Lib.hid (HGG.out _ v2 m2 a2 hT2.out ha0 ha1)
      clear hg2 hT1 hR1
      generalize w1.alloc (.cells #[.int .i64 v2, .int .i64 m2] 46) = w2 at hT2 hR2 hs2 hF ⊢
      generalize w1.heap.size = eb at hs2 ⊢
      have y0 := cell_of_block (j := 0) hs2.out rfl
      have y1 := cell_of_block (j := 1) hs2.out rfl
      go_wp2_with fail
      ((with_reducible refine hF.out.mono ?_); rintro e w3 ⟨b, rfl, h3⟩)
      have hg4 : w2.grownBy w3 none := ⟨h3.os, h3.tape, h3.output, h3.size, fun k hk _ => h3.block k hk⟩
      have hT3 := Lib.hid (hT2.out.grownN hg4 (fun j hj => by cases hj))
      have hR3 := Lib.hid (hR2.out.kept hg4 (by simp) (by simp))
      have hs3 := Lib.hid (below_block h3 (lt_of_block hs2.out) hs2.out)
      clear h3 hg4 hT2 hR2 hs2 y0 y1 hF
      rcases Bool.eq_false_or_eq_true b with rfl | rfl
      · have x0 := cell_of_block (j := 0) hs3.out rfl
        have x1 := cell_of_block (j := 1) hs3.out rfl
        have c2 : w3.cell? ⟨p, 2, none⟩ = some (.map (some hb)) := cell_of_block (j := 2) ((hT3.out.block p hlp.out.1 hlp.out.2 hlp.out.2).trans H.out.own) rfl
        go_upto_region 8 with fail
        go_still_tail 5, (by kernel_rfl)
        change wpList _ _ _ _ _ w3.drew
        have hR4 := Lib.hid (show Rg w3.drew Try.prog 46 hb w.heap.size M S' cnt1 from hR3.out)
        clear x0 x1 c2 hs3
        go_wp2_with (first | (at_delete; refine wpList_delete_rg _ rfl _ _ 41 46 rfl 3 law_PL und_MH hb w.heap.size _ S' cnt1 rfl hR4.out _ _ rfl hkx.out ?_; intro w5 cnt2 hR5 hc5 ht5) | go_in)
        have hR6 := Lib.hid hR5
        have hT6 := Lib.hid ((show Tw w w3.drew hb hb from ⟨hT3.out.os, hT3.out.tape, hT3.out.output, hT3.out.size, hT3.out.block⟩).trans (Tw.turned (w := w3.drew) ht5))
        have hLE := Lib.hid hc5
        have hDn : nn ≤ 1000000 := by have := hN1.out; omega
        have hN6 := Lib.hid (show nn + 1 + (delT S' kl).length ≤ L.length by have h1 := del_len S' kl; have h2 := hN1.out; omega)
        have hM6 := Lib.hid (show ∀ x ∈ delT M kl, x ∈ L from fun x hx => hML.out x (del_sub x hx))
        have hS6 := Lib.hid (show ∀ x ∈ delT S' kl, x ∈ L from fun x hx => hSL1.out x (del_sub x hx))
        have hl6 := Lib.hid (Nat.le_trans (del_len M kl) hMl.out)
        have hw0 : IntKind.i64.wrap ((nn : Int) + 1) = (nn : Int) + 1 := IntWalk.i64_in _ (by omega)
        have hw1 : wrap64 ((nn : Int) + 1) = (nn : Int) + 1 := by unfold wrap64; omega
        clear hR5 ht5 hc5 hR4 hR3 hT3
        go_wp2_with fail
        go_roundw
        case rel => exact ⟨nn + 1, _, _, cnt2, by go_num, hN6, hM6, hl6, hS6, hR6, hT6⟩
        case measure => rw [hR6.out.left_eq, hRl.out]; exact Nat.lt_of_le_of_lt hLE.out hLT.out
      · have hN6 := Lib.hid (show nn + S'.length ≤ L.length by have h2 := hN1.out; omega)
        go_wp2_with fail
        go_roundw
        case rel => exact ⟨nn, M, S', cnt1, rfl, hN6, hML, hMl, hSL1, hR3, hT3⟩
        case measure => rw [hR3.out.left_eq, hRl.out]; exact hLT.out

set_option maxHeartbeats 2000000 in
set_option maxRecDepth 100000 in
theorem dropG {w : World} {hb b0 : Nat} {port : Int} (h : w.heap[b0]? = some (.cells #[.int .i64 port] 3 (0, 0))) (hne : b0 ≠ hb) : GoesR 18 [.pointer (some ⟨b0, 0, none⟩)] w hb := by
  intro U q r a hT h1 h2
  have h' : U.heap[b0]? = _ := (hT.block b0 (lt_of_block h) hne hne).trans h
  have HB := Lib.hid ((Below.refl U.heap.size U).alloc (Nat.le_refl _) (.cells #[.int .i64 q, .int .i64 r] 46))
  have hA := heap_old (p := .cells #[.int .i64 q, .int .i64 r] 46) h'
  have hN := heap_new U (.cells #[.int .i64 q, .int .i64 r] 46)
  have y0 := cell_of_block (j := 0) hA rfl
  have y1 := cell_of_block (j := 1) hN rfl
  clear h hA hN h' hT
  show Calls Try.prog _ #[.agg #[.int .i64 q, .int .i64 r], .int .i64 a, .pointer (some ⟨b0, 0, none⟩)] U _
  go_enter Try.func18, Try.ntmps18
  go_wp2_with fail
  go_ret
  exact ⟨_, rfl, HB.out⟩

set_option maxHeartbeats 2000000 in
set_option maxRecDepth 100000 in
theorem expG {w : World} {p fb hb b0 b1 : Nat} {age : Int} {F : List MB.T3} {L : List T3} (hp : HasP w p fb hb age F L) (a1 : 1 ≤ age) (a2 : age ≤ 1000000) {now : Int} (h : w.heap[b0]? = some (.cells #[.pointer (some ⟨p, 0, none⟩)] 24 (0, 0))) (k : w.heap[b1]? = some (.cells #[.int .i64 now] 3 (0, 0))) (hne : b0 ≠ hb) (hne1 : b1 ≠ hb) : GoesR 19 [.pointer (some ⟨b0, 0, none⟩), .pointer (some ⟨b1, 0, none⟩)] w hb := by
  intro U q r a hT h1 h2
  have h' : U.heap[b0]? = _ := (hT.block b0 (lt_of_block h) hne hne).trans h
  have k' : U.heap[b1]? = _ := (hT.block b1 (lt_of_block k) hne1 hne1).trans k
  have hB := (Below.refl U.heap.size U).alloc (Nat.le_refl _) (.cells #[.int .i64 q, .int .i64 r] 46)
  have HB := Lib.hid hB
  have hP : U.heap[p]? = _ := (hT.block p hp.lt hp.ph hp.ph).trans hp.own
  have hA := heap_old (p := .cells #[.int .i64 q, .int .i64 r] 46) h'
  have hC := heap_old (p := .cells #[.int .i64 q, .int .i64 r] 46) k'
  have hP2 := heap_old (p := .cells #[.int .i64 q, .int .i64 r] 46) hP
  have y0 := cell_of_block (j := 0) hA rfl
  have y1 := cell_of_block (j := 0) hC rfl
  have y2 := cell_of_block (j := 0) hP2 rfl
  clear h k hp h' k' hA hC hP hP2 hT hB
  show Calls Try.prog _ #[.agg #[.int .i64 q, .int .i64 r], .int .i64 a, .pointer (some ⟨b0, 0, none⟩), .pointer (some ⟨b1, 0, none⟩)] U _
  go_enter Try.func19, Try.ntmps19
  go_wp2
  go_ret
  exact ⟨_, rfl, HB.out⟩

/-- What Drop and Expire leave. -/
def DrPost (p fb hb : Nat) (age : Int) (F : List MB.T3) (L : List T3) (w : World) (e : Ending) (w' : World) : Prop :=
  ∃ (n : Nat) (M : List T3), e = .returned (.int .i64 n) ∧ HasP w' p fb hb age F M ∧ (∀ x ∈ M, x ∈ L) ∧ M.length ≤ L.length ∧ Tw w w' fb hb

set_option maxHeartbeats 2000000 in
set_option maxRecDepth 100000 in
theorem drop_c {w : World} {p fb hb : Nat} {age : Int} {F : List MB.T3} {L : List T3} (h : HasP w p fb hb age F L) (hg : GoodL L) (hl : L.length ≤ 1000000) (port : Int) :
    Calls Try.prog 9 #[.pointer (some ⟨p, 0, none⟩), .int .i64 port] w (DrPost p fb hb age F L w) := by
  have hB := (Below.refl w.heap.size w).alloc (Nat.le_refl _) (.cells #[.int .i64 port] 3)
  have hN := heap_new w (.cells #[.int .i64 port] 3)
  have C := Lib.hid (forgetD_c (h.below hB) hg hl w.heap.size (dropG hN (fun e => by have := h.heard.lt; omega)))
  have HQ := Lib.hid (show ∀ e U, FgPost p fb hb age F L (w.alloc (.cells #[.int .i64 port] 3)) e U → DrPost p fb hb age F L w e U from fun e U ⟨n, M, h1, h2, h3, h4, h5⟩ => ⟨n, M, h1, h2, h3, h4, ⟨h5.os.trans hB.os, h5.tape.trans hB.tape, h5.output.trans hB.output, Nat.le_trans hB.size h5.size, fun k hk _ k2 => (h5.block k (Nat.lt_of_lt_of_le hk hB.size) k2 k2).trans (hB.block k hk)⟩⟩)
  have HF := Lib.hid (show ∀ e U, FgPost p fb hb age F L (w.alloc (.cells #[.int .i64 port] 3)) e U → ∃ n : Nat, e = .returned (.int .i64 n) from fun e U ⟨n, M, h1, _⟩ => ⟨n, h1⟩)
  generalize DrPost p fb hb age F L w = Q at HQ ⊢
  clear h hB hN
  generalize FgPost p fb hb age F L (w.alloc (.cells #[.int .i64 port] 3)) = QF at C HQ HF
  go_enter Try.func9, Try.ntmps9
  go_wp2_with fail
  ((with_reducible refine C.out.mono ?_); intro e w1 h1)
  obtain ⟨n, rfl⟩ := HF.out _ _ h1
  have H1 := Lib.hid (HQ.out _ _ h1)
  clear h1
  go_wp2_with fail
  exact H1.out

set_option maxHeartbeats 2000000 in
set_option maxRecDepth 100000 in
theorem exp_c {w : World} {p fb hb : Nat} {age : Int} {F : List MB.T3} {L : List T3} (h : HasP w p fb hb age F L) (a1 : 1 ≤ age) (a2 : age ≤ 1000000) (hg : GoodL L) (hl : L.length ≤ 1000000) (now : Int) :
    Calls Try.prog 10 #[.pointer (some ⟨p, 0, none⟩), .int .i64 now] w (DrPost p fb hb age F L w) := by
  have hB := ((Below.refl w.heap.size w).alloc (Nat.le_refl _) (.cells #[.pointer (some ⟨p, 0, none⟩)] 24)).alloc (by simp) (.cells #[.int .i64 now] 3)
  have hN := heap_old (p := .cells #[.int .i64 now] 3) (heap_new w (.cells #[.pointer (some ⟨p, 0, none⟩)] 24))
  have hM : ((w.alloc (.cells #[.pointer (some ⟨p, 0, none⟩)] 24)).alloc (.cells #[.int .i64 now] 3)).heap[w.heap.size + 1]? = some (.cells #[.int .i64 now] 3 (0, 0)) := by simpa using heap_new (w.alloc (.cells #[.pointer (some ⟨p, 0, none⟩)] 24)) (.cells #[.int .i64 now] 3)
  have C := Lib.hid (forgetE_c (h.below hB) hg hl w.heap.size (w.heap.size + 1) (expG (h.below hB) a1 a2 hN hM (fun e => by have := h.heard.lt; omega) (fun e => by have := h.heard.lt; omega)))
  have y0 := cell_of_block (j := 0) hN rfl
  generalize hW : (w.alloc (.cells #[.pointer (some ⟨p, 0, none⟩)] 24)).alloc (.cells #[.int .i64 now] 3) = W at C hB y0
  have HQ := Lib.hid (show ∀ e U, FgPost p fb hb age F L W e U → DrPost p fb hb age F L w e U from fun e U ⟨n, M, h1, h2, h3, h4, h5⟩ => ⟨n, M, h1, h2, h3, h4, ⟨h5.os.trans hB.os, h5.tape.trans hB.tape, h5.output.trans hB.output, Nat.le_trans hB.size h5.size, fun k hk _ k2 => (h5.block k (Nat.lt_of_lt_of_le hk hB.size) k2 k2).trans (hB.block k hk)⟩⟩)
  have HF := Lib.hid (show ∀ e U, FgPost p fb hb age F L W e U → ∃ n : Nat, e = .returned (.int .i64 n) from fun e U ⟨n, M, h1, _⟩ => ⟨n, h1⟩)
  have HW := Lib.hid hW
  generalize DrPost p fb hb age F L w = Q at HQ ⊢
  generalize FgPost p fb hb age F L W = QF at C HQ HF
  clear h hB hN hM hW
  go_enter Try.func10, Try.ntmps10
  go_upto_region 1 with fail
  rw [HW.out]
  go_wp2_with fail
  ((with_reducible refine C.out.mono ?_); intro e w1 h1)
  obtain ⟨n, rfl⟩ := HF.out _ _ h1
  have H1 := Lib.hid (HQ.out _ _ h1)
  clear h1
  go_wp2_with fail
  exact H1.out

theorem forget_nil (v : Value) (w : World) : Calls Try.prog 17 #[.pointer none, v] w fun e w' => e = .returned (.int .i64 0) ∧ w' = w := by
  go_enter Try.func17, Try.ntmps17
  go_wp2
  go_ret
  exact ⟨rfl, rfl⟩
theorem drop_nil (port : Int) (w : World) : Calls Try.prog 9 #[.pointer none, .int .i64 port] w fun e w' => e = .returned (.int .i64 0) ∧ Below w.heap.size w w' := by
  have HB := Lib.hid ((Below.refl w.heap.size w).alloc (Nat.le_refl _) (.cells #[.int .i64 port] 3))
  have C := Lib.hid fun v U => forget_nil v U
  go_enter Try.func9, Try.ntmps9
  go_wp2_with fail
  ((with_reducible refine (C.out _ _).mono ?_); rintro e w1 ⟨rfl, rfl⟩)
  go_wp2_with fail
  go_ret
  exact ⟨rfl, HB.out⟩
theorem exp_nil (now : Int) (w : World) : Calls Try.prog 10 #[.pointer none, .int .i64 now] w fun e w' => e = .returned (.int .i64 0) ∧ Below w.heap.size w w' := by
  have HB := Lib.hid (((Below.refl w.heap.size w).alloc (Nat.le_refl _) (.cells #[.pointer none] 24)).alloc (by simp) (.cells #[.int .i64 now] 3))
  have C := Lib.hid fun v U => forget_nil v U
  go_enter Try.func10, Try.ntmps10
  go_wp2_with fail
  ((with_reducible refine (C.out _ _).mono ?_); rintro e w1 ⟨rfl, rfl⟩)
  go_wp2_with fail
  go_ret
  exact ⟨rfl, HB.out⟩
end Go.Proofs.Ytggbnkbhobbopaa
