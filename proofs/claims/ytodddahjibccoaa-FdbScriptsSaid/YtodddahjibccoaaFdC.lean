/-
  The program's table: driveOut. A contract over the translated program.
-/
import Derived.Test.YtodddahjibccoaaFdB
import Derived.LoopTactic
namespace Go.Proofs.Ytodddahjibccoaa
open Go Go.Maps Go.WideMaps
open Go.RowKit
set_option linter.unusedVariables false
set_option linter.unusedSimpArgs false

/-! ### lists of stations, plainly -/
theorem perm_F : ∀ {l3 m3 : List T3}, l3.Perm m3 → ∀ l : List E4, l3 = mF l → ∃ m, l.Perm m ∧ m3 = mF m := by
  intro l3 m3 h
  induction h with
  | nil => intro l e; exact ⟨l, List.Perm.refl _, e⟩
  | cons x _ ih =>
    intro l e
    cases l with
    | nil => cases e
    | cons a r =>
      unfold mF at e
      rw [List.map_cons] at e
      injection e with e1 e2
      obtain ⟨m, h1, h2⟩ := ih r e2
      exact ⟨a :: m, h1.cons a, by unfold mF at *; rw [List.map_cons, h2, e1]⟩
  | swap x y r =>
    intro l e
    match l, e with
    | a :: b :: s, e =>
      unfold mF at e
      rw [List.map_cons, List.map_cons] at e
      injection e with e1 e2
      injection e2 with e2 e3
      exact ⟨b :: a :: s, List.Perm.swap b a s, by unfold mF; rw [List.map_cons, List.map_cons, e1, e2, e3]⟩
  | trans _ _ ih1 ih2 =>
    intro l e
    obtain ⟨m, h1, h2⟩ := ih1 l e
    obtain ⟨n, h3, h4⟩ := ih2 m h2
    exact ⟨n, h1.trans h3, h4⟩
theorem inj_mF {l m : List E4} (hl : WfE l) (hm : WfE m) (e : mF l = mF m) : l = m := by
  induction l generalizing m with
  | nil =>
    cases m with
    | nil => rfl
    | cons b m => cases e
  | cons a l ih =>
    cases m with
    | nil => cases e
    | cons b m =>
      unfold mF at e
      rw [List.map_cons, List.map_cons] at e
      injection e with e1 e2
      obtain ⟨a1, a2, a3⟩ := a
      obtain ⟨b1, b2, b3⟩ := b
      simp only [Prod.mk.injEq] at e1
      have h1 : WfK a1 a2 := hl (a1, a2, a3) (List.mem_cons_self ..)
      have h2 : WfK b1 b2 := hm (b1, b2, b3) (List.mem_cons_self ..)
      obtain ⟨rfl, rfl⟩ := litE_inj h1 h2 e1.1
      obtain rfl := e1.2
      rw [ih (fun e he => hl e (List.mem_cons_of_mem _ he)) (fun e he => hm e (List.mem_cons_of_mem _ he)) e2]
/-- What has been seen is all there is. -/
theorem done_F {R D : List E4} (hr : WfE R) (hd : WfE D) (h : (mF R).Perm (mF D)) : R.Perm D := by
  obtain ⟨m, h1, h2⟩ := perm_F h R rfl
  obtain rfl := inj_mF hd (fun e he => hr e (h1.mem_iff.2 he)) h2
  exact h1
/-- One that comes up is one of them. -/
theorem one_F {R : List E4} (hr : WfE R) {v : Int} {m : ByteArray} {q : Int × Int} (hk : WfK v m) (h : (litE v m, q) ∈ mF R) : (v, m, q) ∈ R := by
  obtain ⟨e, he, e1⟩ := List.mem_map.1 h
  obtain ⟨e1', e2', e3'⟩ := e
  simp only [Prod.mk.injEq] at e1
  obtain ⟨rfl, rfl⟩ := litE_inj (hr _ he) hk e1.1
  obtain rfl := e1.2
  exact he
theorem invF (key : Value) (kl : Lit) (h : keyOf Try.prog 52 key = some kl) : ∃ x : Int × ByteArray, key = (fun x : Int × ByteArray => Value.agg #[.int .i64 x.1, .string x.2]) x := by
  obtain ⟨v, m, _, rfl, _⟩ := keyE_inv key kl h
  exact ⟨(v, m), rfl⟩
theorem litF {v : Int} {m : ByteArray} {kl : Lit} (h : keyOf Try.prog 52 (.agg #[.int .i64 v, .string m]) = some kl) : kl = litE v m ∧ WfK v m := by
  obtain ⟨v', m', h1, h2, h3⟩ := keyE_inv _ kl h
  simp at h2
  obtain ⟨rfl, rfl⟩ := h2
  exact ⟨h3, h1⟩

/-- The oldest of D, of more the first station; (0, "", 2^40 + 1): there is none. -/
def BstF (D : List E4) (v : Int) (m : ByteArray) (a : Int) : Prop :=
  (D = [] ∧ v = 0 ∧ m = ⟨#[]⟩ ∧ a = 1099511627777) ∨ ∃ p, (v, m, p, a) ∈ D ∧ ∀ f ∈ D, a < f.2.2.2 ∨ (a = f.2.2.2 ∧ ltS f.1 f.2.1 v m = false)
theorem bst_new {D : List E4} {v : Int} {m : ByteArray} {a : Int} (h : BstF D v m a) {v2 : Int} {m2 : ByteArray} {p2 a2 : Int} (hl : a2 ≤ 1099511627776) (hq : a2 < a ∨ (a2 = a ∧ ltS v2 m2 v m = true)) : BstF (D ++ [(v2, m2, p2, a2)]) v2 m2 a2 := by
  refine Or.inr ⟨p2, by simp, fun f hf => ?_⟩
  rcases List.mem_append.1 hf with hf | hf
  · rcases h with ⟨rfl, _⟩ | ⟨p, _, h3⟩
    · cases hf
    · have := h3 f hf
      rcases hq with hq | ⟨rfl, hq⟩
      · rcases this with h | ⟨h, _⟩ <;> exact Or.inl (by omega)
      · rcases this with h | ⟨h, h'⟩
        · exact Or.inl h
        · refine Or.inr ⟨h, ?_⟩
          rcases hc : ltS f.1 f.2.1 v2 m2 with _ | _
          · rfl
          · have := ltS_trans hc hq
            rw [h'] at this
            cases this
  · simp at hf
    subst hf
    exact Or.inr ⟨rfl, ltS_irrefl _ _⟩
theorem bst_old {D : List E4} {v : Int} {m : ByteArray} {a : Int} (h : BstF D v m a) {v2 : Int} {m2 : ByteArray} {p2 a2 : Int} (hl : a2 ≤ 1099511627776) (hq : a < a2 ∨ (a = a2 ∧ ltS v2 m2 v m = false)) : BstF (D ++ [(v2, m2, p2, a2)]) v m a := by
  rcases h with ⟨rfl, _, _, h4⟩ | ⟨p, h2, h3⟩
  · omega
  · refine Or.inr ⟨p, by simp [h2], fun f hf => ?_⟩
    rcases List.mem_append.1 hf with hf | hf
    · exact h3 f hf
    · simp at hf
      subst hf
      exact hq

theorem up_tri {R : List E4} (hu : UpF R) {x y : E4} (hx : x ∈ R) (hy : y ∈ R) : x = y ∨ ltS x.1 x.2.1 y.1 y.2.1 = true ∨ ltS y.1 y.2.1 x.1 x.2.1 = true := by
  induction R with
  | nil => cases hx
  | cons a r ih =>
    obtain ⟨h1, h2⟩ := List.pairwise_cons.1 hu
    rcases List.mem_cons.1 hx with rfl | hx' <;> rcases List.mem_cons.1 hy with rfl | hy'
    · exact Or.inl rfl
    · exact Or.inr (Or.inl (h1 y hy'))
    · exact Or.inr (Or.inr (h1 x hx'))
    · exact ih h2 hx' hy'

/-- The oldest goes: it is the one at the place of the first of the least times. -/
theorem drv_F {R : List E4} (hg : GoodF R) {v : Int} {m : ByteArray} {a : Int} (hne : R ≠ []) (h : BstF R v m a) : delF R v m = R.eraseIdx (oldI R) := by
  rcases h with ⟨h, _⟩ | ⟨p, hy, hall⟩
  · exact absurd h hne
  · have key : ∀ S : List E4, UpF S → (v, m, p, a) ∈ S → (∀ f ∈ S, a < f.2.2.2 ∨ (a = f.2.2.2 ∧ ltS f.1 f.2.1 v m = false)) → (∀ f ∈ S, f ∈ R) →
        S.filter (fun e => !sameE e v m) = S.eraseIdx (S.findIdx (fun e => R.all (fun f => decide (e.2.2.2 ≤ f.2.2.2)))) := by
      intro S
      induction S with
      | nil => intro _ h; cases h
      | cons x r ih =>
        intro hu hm ha hs
        obtain ⟨h1, h2⟩ := List.pairwise_cons.1 hu
        by_cases hx : x = (v, m, p, a)
        · subst hx
          have e1 : R.all (fun f => decide (a ≤ f.2.2.2)) = true := by
            rw [List.all_eq_true]
            intro f hf
            have := hall f hf
            exact decide_eq_true (by omega)
          rw [List.findIdx_cons, show (R.all fun f => decide (((v, m, p, a) : E4).2.2.2 ≤ f.2.2.2)) = true from e1]
          simp only [cond_true, List.eraseIdx_cons_zero]
          rw [List.filter_cons, if_neg (by simp [sameE])]
          rw [List.filter_eq_self]
          intro e he
          have := ltS_ne (h1 e he)
          simp only [sameE, Bool.not_eq_true', decide_eq_false_iff_not]
          exact fun h => this ⟨h.1.symm, h.2.symm⟩
        · have hm' : (v, m, p, a) ∈ r := by
            rcases List.mem_cons.1 hm with e | e
            · exact absurd e.symm hx
            · exact e
          have hlt := h1 _ hm'
          have e1 : R.all (fun f => decide (x.2.2.2 ≤ f.2.2.2)) = false := by
            rw [List.all_eq_false]
            refine ⟨(v, m, p, a), hy, ?_⟩
            have h3 := ha x (by simp)
            simp only at hlt
            have : a < x.2.2.2 := by
              rcases h3 with h3 | ⟨_, h3⟩
              · exact h3
              · rw [h3] at hlt; cases hlt
            simp
            omega
          rw [List.findIdx_cons, e1]
          simp only [cond_false, List.eraseIdx_cons_succ]
          rw [List.filter_cons, if_pos (by
            have := ltS_ne hlt
            simp only [sameE, Bool.not_eq_true', decide_eq_false_iff_not]
            exact this)]
          rw [ih h2 hm' (fun f hf => ha f (by simp [hf])) (fun f hf => hs f (by simp [hf]))]
    exact key R hg.up hy hall (fun f hf => hf)

theorem box2 {w : World} {b : Nat} {x y u v : Value} {t : TypeId} (h : w.heap[b]? = some (.cells #[x, y] t (0, 0))) : (((w.setCell ⟨b, 0, none⟩ u).setCell ⟨b, 1, none⟩ v).drew).heap[b]? = some (.cells #[u, v] t (0, 0)) := by
  have := heap_store (j := 1) (v := v) (heap_store (j := 0) (v := u) h)
  show ((w.setCell ⟨b, 0, none⟩ u).setCell ⟨b, 1, none⟩ v).heap[b]? = _
  simpa using this
theorem grown2 (w : World) (b : Nat) (u v : Value) : w.grownBy (((w.setCell ⟨b, 0, none⟩ u).setCell ⟨b, 1, none⟩ v).drew) (some b) :=
  ⟨rfl, rfl, rfl, by simp [World.setCell, World.drew], fun k _ hk => (Below.heap_setCell _ _ _ _ (fun e => hk (by rw [e]))).trans (Below.heap_setCell _ _ _ _ (fun e => hk (by rw [e])))⟩

variable {w w' : World} {p mb : Nat} {room age : Int} {R : List E4}

set_option maxHeartbeats 8000000 in
set_option maxRecDepth 100000 in
theorem drive_c (h : HasF w p mb room age (mF R)) (hg : GoodF R) (hne : R ≠ []) :
    Calls Try.prog 28 #[.pointer (some ⟨p, 0, none⟩)] w fun e w' => e = .returned (.tuple #[]) ∧ HasF w' p mb room age (mF (R.eraseIdx (oldI R))) ∧ Tw w w' p mb := by
  have H := Lib.hid h
  have hB0 := (Below.refl w.heap.size w).alloc (Nat.le_refl _) (.cells #[.int .i64 0, .string ⟨#[]⟩] 52)
  have c2 := (h.below hB0).c2
  have hm := Lib.hid (h.below hB0).2
  have HB0 := Lib.hid hB0
  have HX := Lib.hid (heap_new w (.cells #[.int .i64 0, .string ⟨#[]⟩] 52))
  have e1 : (w.alloc (.cells #[.int .i64 0, .string ⟨#[]⟩] 52)).heap.size = w.heap.size + 1 := by simp
  have hlt := Lib.hid h.2.lt
  have hlp := Lib.hid h.lt
  clear h hB0
  go_enter Try.func28, Try.ntmps28
  go_wp2_with (first
    | (at_range; refine wpList_range_mp _ rfl _ 46 rfl 52 54 law_ST und_MF mb (mF R) rfl hm.out ?_; intro w0 hrg0 hg0 hs0)
    | go_in)
  go_frame
  rw [e1] at hrg0 hs0 ⊢
  have HG0 := Lib.hid (And.intro hrg0 (And.intro hg0 hs0))
  clear hrg0 hg0 hs0 e1 c2
  go_loopw [3, 4, 5] (fun s3 _ _ wr => ∃ D S cnt v m a, s3 = .int .i64 a ∧ Hid ((mF R).Perm (mF D ++ S)) ∧ Hid (WfE D) ∧ Hid (BstF D v m a) ∧ Hid (wr.heap[w.heap.size]? = some (.cells #[.int .i64 v, .string m] 52 (0, 0))) ∧ Hid (Rg wr Try.prog 52 mb (w.heap.size + 1) (mF R) S cnt) ∧ Hid (Below w.heap.size w wr))
    (fun _ _ _ wr => wr.rangeLeft mb (w.heap.size + 1))
  case atStart => exact ⟨[], mF R, (mF R).length, 0, ⟨#[]⟩, 1099511627777, rfl, Lib.hid (List.Perm.refl _), Lib.hid (fun e he => by cases he), Lib.hid (Or.inl ⟨rfl, rfl, rfl, rfl⟩), Lib.hid ((HG0.out.2.1.block _ (lt_of_block HX.out) (by simp)).trans HX.out), Lib.hid HG0.out.1, Lib.hid (HB0.out.grown HG0.out.2.1 HB0.out.size (fun j hj => by cases hj))⟩
  case round =>
    obtain ⟨D, S, cnt, v, m, a, rfl, hP, hW, hBt, hX, hR, hB⟩ := hrel
    go_wp2_with (first
      | (at_next; refine wpList_next_mp _ rfl _ rfl 52 law_ST (fun x : Int × ByteArray => Value.agg #[.int .i64 x.1, .string x.2]) invF mb (w.heap.size + 1) (mF R) S cnt rfl hR.out ?_ ?_)
      | go_in)
    · intro h0
      have hRD := Lib.hid (show R.Perm D by have := hP.out; rw [h0, List.append_nil] at this; exact done_F hg.wf hW.out this)
      have hBF := Lib.hid (show BstF R v m a by
        rcases hBt.out with ⟨rfl, _⟩ | ⟨q, h2, h3⟩
        · exact absurd hRD.out.eq_nil hne
        · exact Or.inr ⟨q, hRD.out.mem_iff.2 h2, fun f hf => h3 f (hRD.out.mem_iff.1 hf)⟩)
      have hk := Lib.hid (show WfK v m by
        rcases hBF.out with ⟨h, _⟩ | ⟨q, h2, _⟩
        · exact absurd h hne
        · exact hg.wf _ h2)
      have hkey := Lib.hid (keyE v m hk.out)
      have x0 := cell_of_block (j := 0) hX.out rfl
      have x1 := cell_of_block (j := 1) hX.out rfl
      have H2 := Lib.hid (H.out.below hB.out)
      have c2 := H2.out.c2
      clear h0 hP hR
      go_upto_region 7 with fail
      go_still_tail 5, (by kernel_rfl)
      change wpList _ _ _ _ _ wr.drew
      have hmp := Lib.hid (show Mp wr.drew Try.prog 52 mb (mF R) from H2.out.2)
      go_wp2_with (first | (at_delete; refine wpList_delete_mp _ rfl _ _ 46 52 rfl 54 law_ST und_MF mb (mF R) rfl hmp.out _ _ rfl hkey.out ?_; intro w3 hm3 ht3) | go_in)
      go_end0
      refine ⟨rfl, ?_, (Tw.ofBelow hB.out).trans ((show Tw wr wr.drew p mb from ⟨rfl, rfl, rfl, Nat.le_refl _, fun _ _ _ _ => rfl⟩).trans (Tw.turned (w := wr.drew) ht3))⟩
      rw [← drv_F hg hne hBF.out, ← del_F hg.wf hk.out]
      exact HasF.turn (w := wr.drew) H2.out hm3 ht3
    · intro v2 m2 p2 a2 kl S' w1 cnt1 hkey hpm hrg1 hlt1 hg1 hs1 hen
      try dsimp only at hkey hen ⊢
      obtain ⟨rfl, hk2⟩ := litF hkey
      have hPP := Lib.hid (show (mF R).Perm (mF (D ++ [(v2, m2, p2, a2)]) ++ S') by
        refine hP.out.trans ((List.Perm.append_left _ hpm).trans ?_)
        unfold mF
        rw [List.map_append]
        simp)
      have hin := one_F hg.wf hk2 (hPP.out.mem_iff.2 (List.mem_append_left _ (List.mem_map.2 ⟨(v2, m2, p2, a2), by simp, rfl⟩)))
      obtain ⟨_, _, _, _, _, ha0, ha1⟩ := hg.ok _ hin
      simp only at ha0 ha1
      have hW1 := Lib.hid (show WfE (D ++ [(v2, m2, p2, a2)]) from fun e he => by
        rcases List.mem_append.1 he with he | he
        · exact hW.out e he
        · simp at he; subst he; exact hk2)
      have hX1 := Lib.hid ((hg1.block _ (lt_of_block hX.out) (fun e => by have := Option.some.inj e; omega)).trans hX.out)
      have hB1 := Lib.hid (hB.out.grown hg1 hB.out.size (fun j hj => by cases hj; omega))
      have hR1 := Lib.hid hrg1
      have hRl := Lib.hid hR.out.left_eq
      have hLT := Lib.hid hlt1
      have hN := Lib.hid fun h => @bst_new D v m a hBt.out v2 m2 p2 a2 ha1 h
      have hO := Lib.hid fun h => @bst_old D v m a hBt.out v2 m2 p2 a2 ha1 h
      clear hkey hpm hrg1 hlt1 hg1 hs1 hP hW hBt hX hR hB hin hk2
      go_upto_region 5 with fail
      have hg2 := (World.grownBy_alloc w1 (.cells #[.int .i64 v2, .string m2] 52) none)
      have hB2 := Lib.hid (hB1.out.alloc hB1.out.size (.cells #[.int .i64 v2, .string m2] 52) |>.alloc (by have := hB1.out.size; simp; omega) (.cells #[.int .i64 p2, .int .i64 a2] 54))
      have hX2 := Lib.hid (heap_old (p := .cells #[.int .i64 p2, .int .i64 a2] 54) (heap_old (p := .cells #[.int .i64 v2, .string m2] 52) hX1.out))
      have hR2 := Lib.hid ((hR1.out.kept hg2 (by simp) (by simp)).kept (World.grownBy_alloc _ (.cells #[.int .i64 p2, .int .i64 a2] 54) none) (by simp) (by simp))
      have hs2 := Lib.hid (heap_old (p := .cells #[.int .i64 p2, .int .i64 a2] 54) (heap_new w1 (.cells #[.int .i64 v2, .string m2] 52)))
      have hh2 := Lib.hid (show ((w1.alloc (.cells #[.int .i64 v2, .string m2] 52)).alloc (.cells #[.int .i64 p2, .int .i64 a2] 54)).heap[w1.heap.size + 1]? = some (.cells #[.int .i64 p2, .int .i64 a2] 54 (0, 0)) from by simpa using heap_new (w1.alloc (.cells #[.int .i64 v2, .string m2] 52)) (.cells #[.int .i64 p2, .int .i64 a2] 54))
      have hlw := lt_of_block hX1.out
      have hnx : w1.heap.size + 1 ≠ w.heap.size := by omega
      have hny : w.heap.size ≠ w1.heap.size + 1 := by omega
      have hnz : w1.heap.size ≠ w.heap.size := by omega
      clear hg2 hB1 hX1 hR1 hlw
      generalize (w1.alloc (.cells #[.int .i64 v2, .string m2] 52)).alloc (.cells #[.int .i64 p2, .int .i64 a2] 54) = w2 at hB2 hX2 hR2 hs2 hh2 ⊢
      have y1 := cell_of_block (j := 1) hh2.out rfl
      have z0 := cell_of_block (j := 0) hs2.out rfl
      have z1 := cell_of_block (j := 1) hs2.out rfl
      have x0 := cell_of_block (j := 0) hX2.out rfl
      have x1 := cell_of_block (j := 1) hX2.out rfl
      have fr := fun j => free_of_block (j := j) hX2.out
      have hz := lt_of_block hX2.out
      have hCS := Lib.hid (cmpS_neg v2 m2 v m)
      by_cases q1 : a2 < a
      · have d1 : decide (a2 < a) = true := decide_eq_true q1
        have hNN := Lib.hid (hN.out (Or.inl q1))
        clear q1 hCS
        go_wp2_with fail
        go_region
        have hg7 := grown2 w2 w.heap.size (.int .i64 v2) (.string m2)
        have hX7 := Lib.hid (box2 (u := .int .i64 v2) (v := .string m2) hX2.out)
        have hR7 := Lib.hid (hR2.out.kept hg7 (fun e => by have := Option.some.inj e; have := hlt.out; omega) (fun e => by have := Option.some.inj e; omega))
        have hB7 := Lib.hid (hB2.out.grown hg7 hB2.out.size (fun j hj => by cases hj; exact Nat.le_refl _))
        clear hg7 x0 x1 y1 z0 z1 fr hz hN hO
        generalize ((w2.setCell ⟨w.heap.size, 0, none⟩ (.int .i64 v2)).setCell ⟨w.heap.size, 1, none⟩ (.string m2)).drew = w7 at hX7 hR7 hB7 ⊢
        go_wp2_with fail
        go_roundw
        case rel => exact ⟨_, _, _, _, _, _, rfl, hPP, hW1, hNN, hX7, hR7, hB7⟩
        case measure => rw [hR7.out.left_eq, hRl.out]; exact hLT.out
      · have d1 : decide (a2 < a) = false := decide_eq_false q1
        by_cases q2 : a2 = a
        · obtain ⟨k1, k2⟩ := eq_t q2
          by_cases q3 : ltS v2 m2 v m = true
          · have hNN := Lib.hid (hN.out (Or.inr ⟨q2, q3⟩))
            have d3 : decide (cmpS v2 m2 v m < 0) = true := decide_eq_true (hCS.out.2 q3)
            clear q1 q2 q3 hCS
            have HS := Lib.hid (bySt_b v2 m2 v m w2)
            go_wp2_with fail
            ((with_reducible refine HS.out.mono ?_); rintro e w3 ⟨rfl, h3⟩)
            have hX3 := Lib.hid (below_block h3 (lt_of_block hX2.out) hX2.out)
            have hR3 := Lib.hid (hR2.out.kept (row := none) ⟨h3.os, h3.tape, h3.output, h3.size, fun k hk _ => h3.block k hk⟩ (by simp) (by simp))
            have hB3 := Lib.hid (hB2.out.trans (h3.mono hB2.out.size))
            have hs3 := Lib.hid (below_block h3 (lt_of_block hs2.out) hs2.out)
            have hh3 := Lib.hid (below_block h3 (lt_of_block hh2.out) hh2.out)
            clear x0 x1 y1 z0 z1 fr hz h3 HS hX2 hR2 hB2 hs2 hh2
            have y1 := cell_of_block (j := 1) hh3.out rfl
            have z0 := cell_of_block (j := 0) hs3.out rfl
            have z1 := cell_of_block (j := 1) hs3.out rfl
            have x0 := cell_of_block (j := 0) hX3.out rfl
            have x1 := cell_of_block (j := 1) hX3.out rfl
            have fr := fun j => free_of_block (j := j) hX3.out
            have hz := lt_of_block hX3.out
            go_wp2_with fail
            go_region
            have hg7 := grown2 w3 w.heap.size (.int .i64 v2) (.string m2)
            have hX7 := Lib.hid (box2 (u := .int .i64 v2) (v := .string m2) hX3.out)
            have hR7 := Lib.hid (hR3.out.kept hg7 (fun e => by have := Option.some.inj e; have := hlt.out; omega) (fun e => by have := Option.some.inj e; omega))
            have hB7 := Lib.hid (hB3.out.grown hg7 hB3.out.size (fun j hj => by cases hj; exact Nat.le_refl _))
            clear hg7 x0 x1 y1 z0 z1 fr hz hN hO
            generalize ((w3.setCell ⟨w.heap.size, 0, none⟩ (.int .i64 v2)).setCell ⟨w.heap.size, 1, none⟩ (.string m2)).drew = w7 at hX7 hR7 hB7 ⊢
            go_wp2_with fail
            go_roundw
            case rel => exact ⟨_, _, _, _, _, _, rfl, hPP, hW1, hNN, hX7, hR7, hB7⟩
            case measure => rw [hR7.out.left_eq, hRl.out]; exact hLT.out
          · have hOO := Lib.hid (hO.out (Or.inr ⟨q2.symm, by simpa using q3⟩))
            have d3 : decide (cmpS v2 m2 v m < 0) = false := decide_eq_false fun h => q3 (hCS.out.1 h)
            clear q1 q2 q3 hCS
            have HS := Lib.hid (bySt_b v2 m2 v m w2)
            go_wp2_with fail
            ((with_reducible refine HS.out.mono ?_); rintro e w3 ⟨rfl, h3⟩)
            have hX3 := Lib.hid (below_block h3 (lt_of_block hX2.out) hX2.out)
            have hR3 := Lib.hid (hR2.out.kept (row := none) ⟨h3.os, h3.tape, h3.output, h3.size, fun k hk _ => h3.block k hk⟩ (by simp) (by simp))
            have hB3 := Lib.hid (hB2.out.trans (h3.mono hB2.out.size))
            have hs3 := Lib.hid (below_block h3 (lt_of_block hs2.out) hs2.out)
            have hh3 := Lib.hid (below_block h3 (lt_of_block hh2.out) hh2.out)
            clear x0 x1 y1 z0 z1 fr hz h3 HS hX2 hR2 hB2 hs2 hh2
            have y1 := cell_of_block (j := 1) hh3.out rfl
            have z0 := cell_of_block (j := 0) hs3.out rfl
            have z1 := cell_of_block (j := 1) hs3.out rfl
            have x0 := cell_of_block (j := 0) hX3.out rfl
            have x1 := cell_of_block (j := 1) hX3.out rfl
            have fr := fun j => free_of_block (j := j) hX3.out
            have hz := lt_of_block hX3.out
            clear x0 x1 y1 z0 z1 fr hz hN hO
            go_wp2_with fail
            go_roundw
            case rel => exact ⟨_, _, _, _, _, _, rfl, hPP, hW1, hOO, hX3, hR3, hB3⟩
            case measure => rw [hR3.out.left_eq, hRl.out]; exact hLT.out
        · obtain ⟨k1, k2⟩ := ne_t q2
          have hOO := Lib.hid (hO.out (Or.inl (by omega)))
          clear q1 q2 hCS
          go_wp2_with fail
          go_roundw
          case rel => exact ⟨_, _, _, _, _, _, rfl, hPP, hW1, hOO, hX2, hR2, hB2⟩
          case measure => rw [hR2.out.left_eq, hRl.out]; exact hLT.out

end Go.Proofs.Ytodddahjibccoaa
