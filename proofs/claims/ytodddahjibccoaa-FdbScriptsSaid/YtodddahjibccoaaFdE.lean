/-
  The program's table: forget, Expire, Flush. Contracts over the translated program.
-/
import Derived.Test.YtodddahjibccoaaFdM
namespace Go.Proofs.Ytodddahjibccoaa
open Go Go.Maps Go.WideMaps
open Go.RowKit
set_option linter.unusedVariables false
set_option linter.unusedSimpArgs false

variable {w w' : World} {p mb : Nat} {room age : Int} {R : List E4}

/-- What a call of the condition leaves and answers. -/
def GoesC (f : FuncId) (caps : List Value) (w : World) (mb : Nat) (g : Int × Int → Bool) : Prop :=
  ∀ (U : World) (q a : Int), Tw w U mb mb → 0 ≤ a → a ≤ 1099511627776 → Calls Try.prog f ((.agg #[.int .i64 q, .int .i64 a]) :: caps).toArray U fun e w' => e = .returned (.bool (g (q, a))) ∧ Below U.heap.size U w'

theorem flen {α : Type} (f : α → Bool) : ∀ l : List α, l.length = (l.filter f).length + (l.filter (fun x => !f x)).length
  | [] => rfl
  | x :: r => by
    have := flen f r
    cases h : f x <;> simp [List.filter_cons, h] <;> omega
theorem keep_snoc (g : Int × Int → Bool) (D : List E4) (x : E4) : (D ++ [x]).filter (fun e => !g e.2.2) = D.filter (fun e => !g e.2.2) ++ (if g x.2.2 then [] else [x]) := by
  rw [List.filter_append]
  cases h : g x.2.2 <;> simp [List.filter_cons, h]
theorem gone_snoc (g : Int × Int → Bool) (D : List E4) (x : E4) : ((D ++ [x]).filter (fun e => g e.2.2)).length = (D.filter (fun e => g e.2.2)).length + (if g x.2.2 then 1 else 0) := by
  rw [List.filter_append]
  cases h : g x.2.2 <;> simp [List.filter_cons, h]
theorem WideAt_key {v : Int} {m : ByteArray} (h : WfK v m) : WideAt.IsKeyLit (litE v m) := law_ST.key (keyE v m h)
theorem mF_app (A B : List E4) : mF (A ++ B) = mF A ++ mF B := by unfold mF; rw [List.map_append]
theorem Tw.ofMb {w w' : World} {p mb : Nat} (h : Tw w w' mb mb) : Tw w w' p mb := ⟨h.os, h.tape, h.output, h.size, fun k hk _ h2 => h.block k hk h2 h2⟩
theorem Tw.grownN {w a c : World} {mb : Nat} (h : Tw w a mb mb) {row : Option Nat} (hg : a.grownBy c row) (hr : ∀ j, row = some j → w.heap.size ≤ j ∨ j = mb) : Tw w c mb mb :=
  ⟨hg.os.trans h.os, hg.tape.trans h.tape, hg.output.trans h.output, Nat.le_trans h.size hg.size, fun k hk h1 h2 => (hg.block k (Nat.lt_of_lt_of_le hk h.size) (fun e => by rcases hr k e.symm with h3 | h3 <;> omega)).trans (h.block k hk h1 h2)⟩

set_option maxHeartbeats 8000000 in
set_option maxRecDepth 100000 in
theorem forgetE_c (h : HasF w p mb room age (mF R)) (hg : GoodF R) (hl : R.length ≤ 1000000) (b0 b1 : Nat) (g : Int × Int → Bool) (HG : GoesC 30 [.pointer (some ⟨b0, 0, none⟩), .pointer (some ⟨b1, 0, none⟩)] w mb g) :
    Calls Try.prog 29 #[.pointer (some ⟨p, 0, none⟩), .func (.func 30) #[] #[.pointer (some ⟨b0, 0, none⟩), .pointer (some ⟨b1, 0, none⟩)]] w fun e w' => e = .returned (.int .i64 ((R.filter (fun e => g e.2.2)).length : Nat)) ∧ HasF w' p mb room age (mF (R.filter (fun e => !g e.2.2))) ∧ Tw w w' mb mb := by
  have H := Lib.hid h
  have c2 := h.c2
  have hm := Lib.hid h.2
  have hlt := Lib.hid h.2.lt
  have hlp := Lib.hid (And.intro h.lt h.ne)
  have HGG := Lib.hid HG
  clear h HG
  go_enter Try.func29, Try.ntmps29
  go_wp2_with (first
    | (at_range; refine wpList_range_mp _ rfl _ 46 rfl 52 54 law_ST und_MF mb (mF R) rfl hm.out ?_; intro w0 hrg0 hg0 hs0)
    | go_in)
  go_frame
  have HG0 := Lib.hid (And.intro hrg0 (And.intro hg0 hs0))
  clear hrg0 hg0 hs0 c2
  go_loopw [5, 6, 7] (fun s5 _ _ wr => ∃ D S cnt, s5 = .int .i64 ((D.filter (fun e => g e.2.2)).length : Nat) ∧ Hid ((mF R).Perm (mF D ++ S)) ∧ Hid (WfE D) ∧ Hid (Rg wr Try.prog 52 mb w.heap.size (mF (D.filter (fun e => !g e.2.2)) ++ S) S cnt) ∧ Hid (Tw w wr mb mb))
    (fun _ _ _ wr => wr.rangeLeft mb w.heap.size)
  case atStart => exact ⟨[], mF R, (mF R).length, rfl, Lib.hid (List.Perm.refl _), Lib.hid (fun e he => by cases he), Lib.hid HG0.out.1, Lib.hid ((Tw.refl w mb mb).grownN HG0.out.2.1 (fun j hj => by cases hj))⟩
  case round =>
    obtain ⟨D, S, cnt, rfl, hP, hW, hR, hT⟩ := hrel
    go_wp2_with (first
      | (at_next; refine wpList_next_mp _ rfl _ rfl 52 law_ST (fun x : Int × ByteArray => Value.agg #[.int .i64 x.1, .string x.2]) invF mb w.heap.size _ S cnt rfl hR.out ?_ ?_)
      | go_in)
    · intro h0
      have hRD := Lib.hid (show R.Perm D by have := hP.out; rw [h0, List.append_nil] at this; exact done_F hg.wf hW.out this)
      have hM := Lib.hid (show Mp wr Try.prog 52 mb (mF (R.filter (fun e => !g e.2.2))) by
        have := hR.out.map
        rw [h0, List.append_nil] at this
        exact this.perm ((hRD.out.symm.filter _).map _))
      have hC := Lib.hid (show (D.filter (fun e => g e.2.2)).length = (R.filter (fun e => g e.2.2)).length from (hRD.out.symm.filter _).length_eq)
      clear h0 hP hR
      go_wp2
      go_ret
      exact ⟨by rw [← hC.out]; rfl, ⟨(hT.out.block p hlp.out.1 (fun e => hlp.out.2 e.symm) (fun e => hlp.out.2 e.symm)).trans H.out.1, hM.out⟩, hT.out⟩
    · intro v2 m2 p2 a2 kl S' w1 cnt1 hkey hpm hrg1 hlt1 hg1 hs1 hen
      try dsimp only at hkey hen ⊢
      obtain ⟨rfl, hk2⟩ := litF hkey
      have hPP := Lib.hid (show (mF R).Perm (mF (D ++ [(v2, m2, p2, a2)]) ++ S') by
        refine hP.out.trans ((List.Perm.append_left _ hpm).trans ?_)
        rw [mF_app]
        simp [mF])
      have hin := one_F hg.wf hk2 (hPP.out.mem_iff.2 (List.mem_append_left _ (List.mem_map.2 ⟨(v2, m2, p2, a2), by simp, rfl⟩)))
      obtain ⟨_, _, _, _, _, ha0, ha1⟩ := hg.ok _ hin
      simp only at ha0 ha1
      have hW1 := Lib.hid (show WfE (D ++ [(v2, m2, p2, a2)]) from fun e he => by
        rcases List.mem_append.1 he with he | he
        · exact hW.out e he
        · simp at he; subst he; exact hk2)
      have hT1 := Lib.hid (hT.out.grownN hg1 (fun j hj => by cases hj; exact Or.inl (Nat.le_refl _)))
      have hR1 := Lib.hid (hrg1.permL (List.Perm.append_left (mF (D.filter (fun e => !g e.2.2))) hpm) (List.Perm.refl S'))
      have hRl := Lib.hid hR.out.left_eq
      have hLT := Lib.hid hlt1
      have hDl := Lib.hid (show (D.filter (fun e => g e.2.2)).length ≤ 1000000 by
        have h1 := List.length_filter_le (fun e : E4 => g e.2.2) D
        have h2 := hPP.out.length_eq
        rw [len_mF, List.length_append, len_mF, List.length_append] at h2
        omega)
      have hK := Lib.hid (keep_snoc g D (v2, m2, p2, a2))
      have hN := Lib.hid (gone_snoc g D (v2, m2, p2, a2))
      have hkx := Lib.hid hkey
      have hsz := Lib.hid (show w.heap.size < w1.heap.size by have := hrg1.lt; exact this)
      clear hkey hpm hrg1 hlt1 hg1 hs1 hP hW hR hT hin
      go_upto_region 5 with fail
      have hg2 := (World.grownBy_alloc w1 (.cells #[.int .i64 v2, .string m2] 52) none)
      have hg3 := (World.grownBy_alloc (w1.alloc (.cells #[.int .i64 v2, .string m2] 52)) (.cells #[.int .i64 p2, .int .i64 a2] 54) none)
      have hT2 := Lib.hid ((hT1.out.grownN hg2 (fun j hj => by cases hj)).grownN hg3 (fun j hj => by cases hj))
      have hR2 := Lib.hid ((hR1.out.kept hg2 (by simp) (by simp)).kept hg3 (by simp) (by simp))
      have hs2 := Lib.hid (heap_old (p := .cells #[.int .i64 p2, .int .i64 a2] 54) (heap_new w1 (.cells #[.int .i64 v2, .string m2] 52)))
      have hh2 := Lib.hid (show ((w1.alloc (.cells #[.int .i64 v2, .string m2] 52)).alloc (.cells #[.int .i64 p2, .int .i64 a2] 54)).heap[w1.heap.size + 1]? = some (.cells #[.int .i64 p2, .int .i64 a2] 54 (0, 0)) from by simpa using heap_new (w1.alloc (.cells #[.int .i64 v2, .string m2] 52)) (.cells #[.int .i64 p2, .int .i64 a2] 54))
      have hF := Lib.hid (HGG.out _ p2 a2 hT2.out ha0 ha1)
      clear hg2 hg3 hT1 hR1
      generalize (w1.alloc (.cells #[.int .i64 v2, .string m2] 52)).alloc (.cells #[.int .i64 p2, .int .i64 a2] 54) = w2 at hT2 hR2 hs2 hh2 hF ⊢
      have y0 := cell_of_block (j := 0) hh2.out rfl
      have y1 := cell_of_block (j := 1) hh2.out rfl
      go_wp2_with fail
      ((with_reducible refine hF.out.mono ?_); rintro e w3 ⟨rfl, h3⟩)
      have hg4 : w2.grownBy w3 none := ⟨h3.os, h3.tape, h3.output, h3.size, fun k hk _ => h3.block k hk⟩
      have hT3 := Lib.hid (hT2.out.grownN hg4 (fun j hj => by cases hj))
      have hR3 := Lib.hid (hR2.out.kept hg4 (by simp) (by simp))
      have hs3 := Lib.hid (below_block h3 (lt_of_block hs2.out) hs2.out)
      clear h3 hg4 hT2 hR2 hs2 hh2 y0 y1 hF
      cases hgg : g (p2, a2) with
      | false =>
        have hKK := Lib.hid (show mF ((D ++ [(v2, m2, p2, a2)]).filter (fun e => !g e.2.2)) ++ S' = mF (D.filter (fun e => !g e.2.2)) ++ ((litE v2 m2, p2, a2) :: S') by rw [hK.out, if_neg (by simp [hgg]), mF_app]; simp [mF])
        have hNN := Lib.hid (show ((D ++ [(v2, m2, p2, a2)]).filter (fun e => g e.2.2)).length = (D.filter (fun e => g e.2.2)).length by rw [hN.out, if_neg (by simp [hgg])]; rfl)
        clear hgg
        go_wp2_with fail
        go_roundw
        case rel => exact ⟨_, S', cnt1, by rw [hNN.out], hPP, hW1, by rw [hKK.out]; exact hR3, hT3⟩
        case measure => rw [hR3.out.left_eq, hRl.out]; exact hLT.out
      | true =>
        have hKK := Lib.hid (show mF ((D ++ [(v2, m2, p2, a2)]).filter (fun e => !g e.2.2)) ++ S' = mF (D.filter (fun e => !g e.2.2)) ++ S' by rw [hK.out, if_pos hgg, List.append_nil])
        have hNN := Lib.hid (show ((D ++ [(v2, m2, p2, a2)]).filter (fun e => g e.2.2)).length = (D.filter (fun e => g e.2.2)).length + 1 by rw [hN.out, if_pos hgg])
        clear hN hK
        generalize (D.filter (fun e => g e.2.2)).length = nn at hDl hNN ⊢
        have hdr := Lib.hid (del_rest (WideAt_key hk2) (hR3.out.map.apart law_ST))
        have x0 := cell_of_block (j := 0) hs3.out rfl
        have x1 := cell_of_block (j := 1) hs3.out rfl
        have c2 : w3.cell? ⟨p, 2, none⟩ = some (.map (some mb)) := cell_of_block (j := 2) ((hT3.out.block p hlp.out.1 (fun e => hlp.out.2 e.symm) (fun e => hlp.out.2 e.symm)).trans H.out.1) rfl
        clear hgg
        go_upto_region 6 with fail
        go_still_tail 5, (by kernel_rfl)
        change wpList _ _ _ _ _ w3.drew
        have hR4 := Lib.hid (show Rg w3.drew Try.prog 52 mb w.heap.size (mF (D.filter (fun e => !g e.2.2)) ++ ((litE v2 m2, p2, a2) :: S')) S' cnt1 from hR3.out)
        clear x0 x1 c2 hs3
        go_wp2_with (first | (at_delete; refine wpList_delete_rg _ rfl _ _ 46 52 rfl 54 law_ST und_MF mb w.heap.size _ S' cnt1 rfl hR4.out _ _ rfl hkx.out ?_; intro w5 cnt2 hR5 hc5 ht5) | go_in)
        rw [hdr.out.1, hdr.out.2] at hR5
        have hR6 := Lib.hid hR5
        have hT6 := Lib.hid ((show Tw w w3.drew mb mb from ⟨hT3.out.os, hT3.out.tape, hT3.out.output, hT3.out.size, hT3.out.block⟩).trans (Tw.turned (w := w3.drew) ht5))
        have hLE := Lib.hid hc5
        have hDn := hDl.out
        have hw0 : IntKind.i64.wrap ((nn : Int) + 1) = (nn : Int) + 1 := IntWalk.i64_in _ (by omega)
        have hw1 : wrap64 ((nn : Int) + 1) = (nn : Int) + 1 := by unfold wrap64; omega
        clear hR5 ht5 hc5 hR4 hR3 hT3 hdr
        go_wp2_with fail
        go_roundw
        case rel => exact ⟨_, S', cnt2, by rw [hNN.out]; go_num, hPP, hW1, by rw [hKK.out]; exact hR6, hT6⟩
        case measure => rw [hR6.out.left_eq, hRl.out]; exact Nat.lt_of_le_of_lt hLE.out hLT.out

set_option maxHeartbeats 8000000 in
set_option maxRecDepth 100000 in
theorem forgetF_c (h : HasF w p mb room age (mF R)) (hg : GoodF R) (hl : R.length ≤ 1000000) (b0 : Nat) (g : Int × Int → Bool) (HG : GoesC 31 [.pointer (some ⟨b0, 0, none⟩)] w mb g) :
    Calls Try.prog 29 #[.pointer (some ⟨p, 0, none⟩), .func (.func 31) #[] #[.pointer (some ⟨b0, 0, none⟩)]] w fun e w' => e = .returned (.int .i64 ((R.filter (fun e => g e.2.2)).length : Nat)) ∧ HasF w' p mb room age (mF (R.filter (fun e => !g e.2.2))) ∧ Tw w w' mb mb := by
  have H := Lib.hid h
  have c2 := h.c2
  have hm := Lib.hid h.2
  have hlt := Lib.hid h.2.lt
  have hlp := Lib.hid (And.intro h.lt h.ne)
  have HGG := Lib.hid HG
  clear h HG
  go_enter Try.func29, Try.ntmps29
  go_wp2_with (first
    | (at_range; refine wpList_range_mp _ rfl _ 46 rfl 52 54 law_ST und_MF mb (mF R) rfl hm.out ?_; intro w0 hrg0 hg0 hs0)
    | go_in)
  go_frame
  have HG0 := Lib.hid (And.intro hrg0 (And.intro hg0 hs0))
  clear hrg0 hg0 hs0 c2
  go_loopw [5, 6, 7] (fun s5 _ _ wr => ∃ D S cnt, s5 = .int .i64 ((D.filter (fun e => g e.2.2)).length : Nat) ∧ Hid ((mF R).Perm (mF D ++ S)) ∧ Hid (WfE D) ∧ Hid (Rg wr Try.prog 52 mb w.heap.size (mF (D.filter (fun e => !g e.2.2)) ++ S) S cnt) ∧ Hid (Tw w wr mb mb))
    (fun _ _ _ wr => wr.rangeLeft mb w.heap.size)
  case atStart => exact ⟨[], mF R, (mF R).length, rfl, Lib.hid (List.Perm.refl _), Lib.hid (fun e he => by cases he), Lib.hid HG0.out.1, Lib.hid ((Tw.refl w mb mb).grownN HG0.out.2.1 (fun j hj => by cases hj))⟩
  case round =>
    obtain ⟨D, S, cnt, rfl, hP, hW, hR, hT⟩ := hrel
    go_wp2_with (first
      | (at_next; refine wpList_next_mp _ rfl _ rfl 52 law_ST (fun x : Int × ByteArray => Value.agg #[.int .i64 x.1, .string x.2]) invF mb w.heap.size _ S cnt rfl hR.out ?_ ?_)
      | go_in)
    · intro h0
      have hRD := Lib.hid (show R.Perm D by have := hP.out; rw [h0, List.append_nil] at this; exact done_F hg.wf hW.out this)
      have hM := Lib.hid (show Mp wr Try.prog 52 mb (mF (R.filter (fun e => !g e.2.2))) by
        have := hR.out.map
        rw [h0, List.append_nil] at this
        exact this.perm ((hRD.out.symm.filter _).map _))
      have hC := Lib.hid (show (D.filter (fun e => g e.2.2)).length = (R.filter (fun e => g e.2.2)).length from (hRD.out.symm.filter _).length_eq)
      clear h0 hP hR
      go_wp2
      go_ret
      exact ⟨by rw [← hC.out]; rfl, ⟨(hT.out.block p hlp.out.1 (fun e => hlp.out.2 e.symm) (fun e => hlp.out.2 e.symm)).trans H.out.1, hM.out⟩, hT.out⟩
    · intro v2 m2 p2 a2 kl S' w1 cnt1 hkey hpm hrg1 hlt1 hg1 hs1 hen
      try dsimp only at hkey hen ⊢
      obtain ⟨rfl, hk2⟩ := litF hkey
      have hPP := Lib.hid (show (mF R).Perm (mF (D ++ [(v2, m2, p2, a2)]) ++ S') by
        refine hP.out.trans ((List.Perm.append_left _ hpm).trans ?_)
        rw [mF_app]
        simp [mF])
      have hin := one_F hg.wf hk2 (hPP.out.mem_iff.2 (List.mem_append_left _ (List.mem_map.2 ⟨(v2, m2, p2, a2), by simp, rfl⟩)))
      obtain ⟨_, _, _, _, _, ha0, ha1⟩ := hg.ok _ hin
      simp only at ha0 ha1
      have hW1 := Lib.hid (show WfE (D ++ [(v2, m2, p2, a2)]) from fun e he => by
        rcases List.mem_append.1 he with he | he
        · exact hW.out e he
        · simp at he; subst he; exact hk2)
      have hT1 := Lib.hid (hT.out.grownN hg1 (fun j hj => by cases hj; exact Or.inl (Nat.le_refl _)))
      have hR1 := Lib.hid (hrg1.permL (List.Perm.append_left (mF (D.filter (fun e => !g e.2.2))) hpm) (List.Perm.refl S'))
      have hRl := Lib.hid hR.out.left_eq
      have hLT := Lib.hid hlt1
      have hDl := Lib.hid (show (D.filter (fun e => g e.2.2)).length ≤ 1000000 by
        have h1 := List.length_filter_le (fun e : E4 => g e.2.2) D
        have h2 := hPP.out.length_eq
        rw [len_mF, List.length_append, len_mF, List.length_append] at h2
        omega)
      have hK := Lib.hid (keep_snoc g D (v2, m2, p2, a2))
      have hN := Lib.hid (gone_snoc g D (v2, m2, p2, a2))
      have hkx := Lib.hid hkey
      have hsz := Lib.hid (show w.heap.size < w1.heap.size by have := hrg1.lt; exact this)
      clear hkey hpm hrg1 hlt1 hg1 hs1 hP hW hR hT hin
      go_upto_region 5 with fail
      have hg2 := (World.grownBy_alloc w1 (.cells #[.int .i64 v2, .string m2] 52) none)
      have hg3 := (World.grownBy_alloc (w1.alloc (.cells #[.int .i64 v2, .string m2] 52)) (.cells #[.int .i64 p2, .int .i64 a2] 54) none)
      have hT2 := Lib.hid ((hT1.out.grownN hg2 (fun j hj => by cases hj)).grownN hg3 (fun j hj => by cases hj))
      have hR2 := Lib.hid ((hR1.out.kept hg2 (by simp) (by simp)).kept hg3 (by simp) (by simp))
      have hs2 := Lib.hid (heap_old (p := .cells #[.int .i64 p2, .int .i64 a2] 54) (heap_new w1 (.cells #[.int .i64 v2, .string m2] 52)))
      have hh2 := Lib.hid (show ((w1.alloc (.cells #[.int .i64 v2, .string m2] 52)).alloc (.cells #[.int .i64 p2, .int .i64 a2] 54)).heap[w1.heap.size + 1]? = some (.cells #[.int .i64 p2, .int .i64 a2] 54 (0, 0)) from by simpa using heap_new (w1.alloc (.cells #[.int .i64 v2, .string m2] 52)) (.cells #[.int .i64 p2, .int .i64 a2] 54))
      have hF := Lib.hid (HGG.out _ p2 a2 hT2.out ha0 ha1)
      clear hg2 hg3 hT1 hR1
      generalize (w1.alloc (.cells #[.int .i64 v2, .string m2] 52)).alloc (.cells #[.int .i64 p2, .int .i64 a2] 54) = w2 at hT2 hR2 hs2 hh2 hF ⊢
      have y0 := cell_of_block (j := 0) hh2.out rfl
      have y1 := cell_of_block (j := 1) hh2.out rfl
      go_wp2_with fail
      ((with_reducible refine hF.out.mono ?_); rintro e w3 ⟨rfl, h3⟩)
      have hg4 : w2.grownBy w3 none := ⟨h3.os, h3.tape, h3.output, h3.size, fun k hk _ => h3.block k hk⟩
      have hT3 := Lib.hid (hT2.out.grownN hg4 (fun j hj => by cases hj))
      have hR3 := Lib.hid (hR2.out.kept hg4 (by simp) (by simp))
      have hs3 := Lib.hid (below_block h3 (lt_of_block hs2.out) hs2.out)
      clear h3 hg4 hT2 hR2 hs2 hh2 y0 y1 hF
      cases hgg : g (p2, a2) with
      | false =>
        have hKK := Lib.hid (show mF ((D ++ [(v2, m2, p2, a2)]).filter (fun e => !g e.2.2)) ++ S' = mF (D.filter (fun e => !g e.2.2)) ++ ((litE v2 m2, p2, a2) :: S') by rw [hK.out, if_neg (by simp [hgg]), mF_app]; simp [mF])
        have hNN := Lib.hid (show ((D ++ [(v2, m2, p2, a2)]).filter (fun e => g e.2.2)).length = (D.filter (fun e => g e.2.2)).length by rw [hN.out, if_neg (by simp [hgg])]; rfl)
        clear hgg
        go_wp2_with fail
        go_roundw
        case rel => exact ⟨_, S', cnt1, by rw [hNN.out], hPP, hW1, by rw [hKK.out]; exact hR3, hT3⟩
        case measure => rw [hR3.out.left_eq, hRl.out]; exact hLT.out
      | true =>
        have hKK := Lib.hid (show mF ((D ++ [(v2, m2, p2, a2)]).filter (fun e => !g e.2.2)) ++ S' = mF (D.filter (fun e => !g e.2.2)) ++ S' by rw [hK.out, if_pos hgg, List.append_nil])
        have hNN := Lib.hid (show ((D ++ [(v2, m2, p2, a2)]).filter (fun e => g e.2.2)).length = (D.filter (fun e => g e.2.2)).length + 1 by rw [hN.out, if_pos hgg])
        clear hN hK
        generalize (D.filter (fun e => g e.2.2)).length = nn at hDl hNN ⊢
        have hdr := Lib.hid (del_rest (WideAt_key hk2) (hR3.out.map.apart law_ST))
        have x0 := cell_of_block (j := 0) hs3.out rfl
        have x1 := cell_of_block (j := 1) hs3.out rfl
        have c2 : w3.cell? ⟨p, 2, none⟩ = some (.map (some mb)) := cell_of_block (j := 2) ((hT3.out.block p hlp.out.1 (fun e => hlp.out.2 e.symm) (fun e => hlp.out.2 e.symm)).trans H.out.1) rfl
        clear hgg
        go_upto_region 6 with fail
        go_still_tail 5, (by kernel_rfl)
        change wpList _ _ _ _ _ w3.drew
        have hR4 := Lib.hid (show Rg w3.drew Try.prog 52 mb w.heap.size (mF (D.filter (fun e => !g e.2.2)) ++ ((litE v2 m2, p2, a2) :: S')) S' cnt1 from hR3.out)
        clear x0 x1 c2 hs3
        go_wp2_with (first | (at_delete; refine wpList_delete_rg _ rfl _ _ 46 52 rfl 54 law_ST und_MF mb w.heap.size _ S' cnt1 rfl hR4.out _ _ rfl hkx.out ?_; intro w5 cnt2 hR5 hc5 ht5) | go_in)
        rw [hdr.out.1, hdr.out.2] at hR5
        have hR6 := Lib.hid hR5
        have hT6 := Lib.hid ((show Tw w w3.drew mb mb from ⟨hT3.out.os, hT3.out.tape, hT3.out.output, hT3.out.size, hT3.out.block⟩).trans (Tw.turned (w := w3.drew) ht5))
        have hLE := Lib.hid hc5
        have hDn := hDl.out
        have hw0 : IntKind.i64.wrap ((nn : Int) + 1) = (nn : Int) + 1 := IntWalk.i64_in _ (by omega)
        have hw1 : wrap64 ((nn : Int) + 1) = (nn : Int) + 1 := by unfold wrap64; omega
        clear hR5 ht5 hc5 hR4 hR3 hT3 hdr
        go_wp2_with fail
        go_roundw
        case rel => exact ⟨_, S', cnt2, by rw [hNN.out]; go_num, hPP, hW1, by rw [hKK.out]; exact hR6, hT6⟩
        case measure => rw [hR6.out.left_eq, hRl.out]; exact Nat.lt_of_le_of_lt hLE.out hLT.out

set_option maxHeartbeats 2000000 in
set_option maxRecDepth 100000 in
theorem goesE {mv : Value} (hp : w.heap[p]? = some (.cells #[.int .i64 room, .int .i64 age, mv] 48 (0, 0))) {b0 b1 : Nat} {t0 t1 : TypeId} {now : Int} (h0 : w.heap[b0]? = some (.cells #[.pointer (some ⟨p, 0, none⟩)] t0 (0, 0))) (h1 : w.heap[b1]? = some (.cells #[.int .i64 now] t1 (0, 0)))
    (ha : 0 ≤ age) (hb : age ≤ 1000000) (q a : Int) (a0 : 0 ≤ a) (a1 : a ≤ 1099511627776) :
    Calls Try.prog 30 #[.agg #[.int .i64 q, .int .i64 a], .pointer (some ⟨b0, 0, none⟩), .pointer (some ⟨b1, 0, none⟩)] w fun e w' => e = .returned (.bool (oldB age now (q, a))) ∧ Below w.heap.size w w' := by
  have hB := (Below.refl w.heap.size w).alloc (Nat.le_refl _) (.cells #[.int .i64 q, .int .i64 a] 54)
  have x0 := cell_of_block (j := 0) (below_block hB (lt_of_block h0) h0) rfl
  have x1 := cell_of_block (j := 0) (below_block hB (lt_of_block h1) h1) rfl
  have z0 := cell_of_block (j := 0) (heap_new w (.cells #[.int .i64 q, .int .i64 a] 54)) rfl
  have z1 := cell_of_block (j := 1) (heap_new w (.cells #[.int .i64 q, .int .i64 a] 54)) rfl
  have HO := Lib.hid (old_h (below_block hB (lt_of_block hp) hp) q a now ha hb a0 a1)
  have HB := Lib.hid hB
  clear hp h0 h1 hB
  go_enter Try.func30, Try.ntmps30
  go_upto_region 1 with fail
  generalize w.alloc (.cells #[.int .i64 q, .int .i64 a] 54) = W at x0 x1 z0 z1 HO HB ⊢
  go_wp2_with fail
  ((with_reducible refine HO.out.mono ?_); rintro e w3 ⟨rfl, h3⟩)
  have K := Lib.hid (HB.out.trans (h3.mono HB.out.size))
  clear h3 x0 x1 z0 z1
  go_wp2_with fail
  go_ret
  exact ⟨rfl, K.out⟩

set_option maxHeartbeats 2000000 in
set_option maxRecDepth 100000 in
theorem goesF {b0 : Nat} {t0 : TypeId} {port : Int} (h0 : w.heap[b0]? = some (.cells #[.int .i64 port] t0 (0, 0))) (q a : Int) :
    Calls Try.prog 31 #[.agg #[.int .i64 q, .int .i64 a], .pointer (some ⟨b0, 0, none⟩)] w fun e w' => e = .returned (.bool (decide (q = port))) ∧ Below w.heap.size w w' := by
  have hB := (Below.refl w.heap.size w).alloc (Nat.le_refl _) (.cells #[.int .i64 q, .int .i64 a] 54)
  have x0 := cell_of_block (j := 0) (below_block hB (lt_of_block h0) h0) rfl
  have z0 := cell_of_block (j := 0) (heap_new w (.cells #[.int .i64 q, .int .i64 a] 54)) rfl
  have z1 := cell_of_block (j := 1) (heap_new w (.cells #[.int .i64 q, .int .i64 a] 54)) rfl
  have HB := Lib.hid hB
  have e : decide (q = port) = (q == port) := rfl
  rw [e]
  clear h0 hB e
  go_enter Try.func31, Try.ntmps31
  go_upto_region 1 with fail
  generalize w.alloc (.cells #[.int .i64 q, .int .i64 a] 54) = W at x0 z0 z1 HB ⊢
  go_wp2_with fail
  go_ret
  exact ⟨rfl, HB.out⟩

set_option maxHeartbeats 4000000 in
set_option maxRecDepth 100000 in
theorem expire_c (h : HasF w p mb room age (mF R)) (hg : GoodF R) (hl : R.length ≤ 1000000) (ha : 0 ≤ age) (hb : age ≤ 1000000) (now : Int) :
    Calls Try.prog 15 #[.pointer (some ⟨p, 0, none⟩), .int .i64 now] w fun e w' => e = .returned (.int .i64 ((R.length - (expF R age now).length : Nat))) ∧ HasF w' p mb room age (mF (expF R age now)) ∧ Tw w w' p mb := by
  have hB := ((Below.refl w.heap.size w).alloc (Nat.le_refl _) (.cells #[.pointer (some ⟨p, 0, none⟩)] 23)).alloc (by simp) (.cells #[.int .i64 now] 3)
  have H1 := Lib.hid (h.below hB)
  have hb0 := Lib.hid (heap_old (p := .cells #[.int .i64 now] 3) (heap_new w (.cells #[.pointer (some ⟨p, 0, none⟩)] 23)))
  have hb1 := Lib.hid (show ((w.alloc (.cells #[.pointer (some ⟨p, 0, none⟩)] 23)).alloc (.cells #[.int .i64 now] 3)).heap[w.heap.size + 1]? = some (.cells #[.int .i64 now] 3 (0, 0)) from by simpa using heap_new (w.alloc (.cells #[.pointer (some ⟨p, 0, none⟩)] 23)) (.cells #[.int .i64 now] 3))
  have hlm := Lib.hid (And.intro h.2.lt h.lt)
  have hne := Lib.hid h.ne
  have HM := Lib.hid fun U => fmay_c now U
  have HB := Lib.hid hB
  have HG := Lib.hid fun (W : World) => forgetE_c (w := W) (p := p) (mb := mb) (room := room) (age := age) (R := R)
  have E2 := Lib.hid (show (R.filter (fun e => oldB age now e.2.2)).length = R.length - (R.filter (fun e => !oldB age now e.2.2)).length by
    have := flen (fun e : E4 => oldB age now e.2.2) R
    omega)
  clear h hB
  go_enter Try.func15, Try.ntmps15
  go_upto_region 1 with fail
  generalize (w.alloc (.cells #[.pointer (some ⟨p, 0, none⟩)] 23)).alloc (.cells #[.int .i64 now] 3) = W at H1 hb0 hb1 HB ⊢
  have x0 := cell_of_block (j := 0) hb0.out rfl
  have x1 := cell_of_block (j := 0) hb1.out rfl
  cases ht : timeB now with
  | false =>
    rw [ht] at HM
    have E := Lib.hid (show expF R age now = R by unfold expF; rw [ht]; rfl)
    go_wp2_with fail
    ((with_reducible refine (HM.out _).mono ?_); rintro e w1 ⟨rfl, rfl⟩)
    go_wp2_with fail
    go_ret
    rw [E.out]
    exact ⟨by simp, H1.out, Tw.ofBelow HB.out⟩
  | true =>
    rw [ht] at HM
    have E := Lib.hid (show expF R age now = R.filter (fun e => !oldB age now e.2.2) by unfold expF; rw [ht]; rfl)
    have HF := Lib.hid (HG.out W H1.out hg hl w.heap.size (w.heap.size + 1) (oldB age now) (fun U q a hT a0 a1 => by
      have e0 := (hT.block _ (lt_of_block hb0.out) (by have := hlm.out; omega) (by have := hlm.out; omega)).trans hb0.out
      have e1 := (hT.block _ (lt_of_block hb1.out) (by have := hlm.out; omega) (by have := hlm.out; omega)).trans hb1.out
      have e2 := (hT.block p H1.out.lt (fun e => hne.out e.symm) (fun e => hne.out e.symm)).trans H1.out.1
      exact goesE e2 e0 e1 ha hb q a a0 a1))
    go_wp2_with fail
    ((with_reducible refine (HM.out _).mono ?_); rintro e w1 ⟨rfl, rfl⟩)
    go_wp2_with fail
    ((with_reducible refine HF.out.mono ?_); rintro e w2 ⟨rfl, h2, t2⟩)
    have K := Lib.hid (And.intro h2 t2)
    clear h2 t2 x0 x1
    go_wp2_with fail
    go_ret
    rw [E.out]
    exact ⟨by rw [← E2.out]; rfl, K.out.1, (Tw.ofBelow HB.out).trans K.out.2.ofMb⟩

set_option maxHeartbeats 4000000 in
set_option maxRecDepth 100000 in
theorem flush_c (h : HasF w p mb room age (mF R)) (hg : GoodF R) (hl : R.length ≤ 1000000) (port : Int) :
    Calls Try.prog 16 #[.pointer (some ⟨p, 0, none⟩), .int .i64 port] w fun e w' => e = .returned (.int .i64 ((R.length - (fluF R port).length : Nat))) ∧ HasF w' p mb room age (mF (fluF R port)) ∧ Tw w w' p mb := by
  have hB := (Below.refl w.heap.size w).alloc (Nat.le_refl _) (.cells #[.int .i64 port] 3)
  have H1 := Lib.hid (h.below hB)
  have hb0 := Lib.hid (heap_new w (.cells #[.int .i64 port] 3))
  have hlm := Lib.hid (And.intro h.2.lt h.lt)
  have HB := Lib.hid hB
  have HG := Lib.hid fun (W : World) => forgetF_c (w := W) (p := p) (mb := mb) (room := room) (age := age) (R := R)
  have E2 := Lib.hid (show (R.filter (fun e => decide (e.2.2.1 = port))).length = R.length - (fluF R port).length by
    have := flen (fun e : E4 => decide (e.2.2.1 = port)) R
    unfold fluF
    omega)
  clear h hB
  go_enter Try.func16, Try.ntmps16
  go_upto_region 1 with fail
  generalize w.alloc (.cells #[.int .i64 port] 3) = W at H1 hb0 HB ⊢
  have x0 := cell_of_block (j := 0) hb0.out rfl
  have HF := Lib.hid (HG.out W H1.out hg hl w.heap.size (fun q => decide (q.1 = port)) (fun U q a hT a0 a1 => by
    have e0 := (hT.block _ (lt_of_block hb0.out) (by have := hlm.out; omega) (by have := hlm.out; omega)).trans hb0.out
    exact goesF e0 q a))
  go_wp2_with fail
  ((with_reducible refine HF.out.mono ?_); rintro e w2 ⟨rfl, h2, t2⟩)
  have K := Lib.hid (And.intro h2 t2)
  clear h2 t2 x0
  go_wp2_with fail
  go_ret
  exact ⟨by rw [← E2.out]; rfl, K.out.1, (Tw.ofBelow HB.out).trans K.out.2.ofMb⟩

end Go.Proofs.Ytodddahjibccoaa
