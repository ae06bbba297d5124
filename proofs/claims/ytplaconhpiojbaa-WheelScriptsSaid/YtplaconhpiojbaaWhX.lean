/-
  The document's wheel: Due. A contract over the translated program.
-/
import Derived.Test.YtplaconhpiojbaaWhW
namespace Go.Proofs.Ytplaconhpiojbaa
open Go Go.Maps Go.WideMaps
open Go.RowKit
set_option linter.unusedVariables false
set_option linter.unusedSimpArgs false

/-- Sorted by when they are due, then by which arming they are of. -/
def SortedE (D : List E3) : Prop := D.Pairwise (fun x y => ¬ (y.2.1 < x.2.1 ∨ (y.2.1 = x.2.1 ∧ y.2.2 < x.2.2)))

theorem good_key {T : List E3} {a : Int} (hg : GoodE T a) {x y : E3} (hx : x ∈ T) (hy : y ∈ T) (e : x.1 = y.1) : x = y := by
  rcases pair_or hg.1 hx hy with h | h | h
  · exact h
  · exact absurd e h.1
  · exact absurd e.symm h.1

theorem due_head {T D : List E3} {j i : Nat} {now a : Int} {y : E3} (hg : GoodE T a) (hp : (dueE now T).Perm (D.drop j)) (hs : SortedE D) (hy : T[i]? = some y)
    (hmin : ∀ (j : Nat) (x : E3), j < T.length → T[j]? = some x → y.2.1 ≤ x.2.1) (hfst : ∀ (j : Nat) (x : E3), j < i → T[j]? = some x → y.2.1 < x.2.1) (hle : y.2.1 ≤ now) :
    D[j]? = some y ∧ (dueE now (delE T y.1)).Perm (D.drop (j + 1)) ∧ latE now (delE T y.1) = latE now T := by
  have hyT : y ∈ T := List.mem_of_getElem? hy
  have hyd : y ∈ dueE now T := List.mem_filter.2 ⟨hyT, by simpa using hle⟩
  have hyD : y ∈ D.drop j := hp.mem_iff.1 hyd
  obtain ⟨x, r, hxr⟩ : ∃ x r, D.drop j = x :: r := by
    cases hD : D.drop j with
    | nil => rw [hD] at hyD; cases hyD
    | cons x r => exact ⟨x, r, rfl⟩
  have hxT : x ∈ T := (List.mem_filter.1 (hp.mem_iff.2 (by rw [hxr]; simp))).1
  have hjl : j < D.length := by
    have := congrArg List.length hxr
    simp at this
    omega
  have hDj : D[j]? = some x := by
    have := congrArg (fun l => l[0]?) hxr
    simpa using this
  have hr : D.drop (j + 1) = r := by
    have := congrArg List.tail hxr
    simpa using this
  have hxy : x = y := by
    rw [hxr] at hyD
    rcases List.mem_cons.1 hyD with e | hyr
    · exact e.symm
    · have hs' := hs.sublist (List.drop_sublist j D)
      rw [hxr] at hs'
      have h1 := (List.pairwise_cons.1 hs').1 y hyr
      obtain ⟨m, hm, e⟩ := List.getElem_of_mem hxT
      have hm? : T[m]? = some x := by rw [List.getElem?_eq_getElem hm, e]
      have h2 := hmin m x hm hm?
      by_cases h3 : m < i
      · have := hfst m x h3 hm?
        omega
      · by_cases h4 : m = i
        · subst h4
          rw [hy] at hm?
          cases hm?
          rfl
        · obtain ⟨hi, e2⟩ := List.getElem?_eq_some_iff.1 hy
          have h5 := (List.pairwise_iff_getElem.1 hg.1 i m hi hm (by omega)).2
          rw [e2, e] at h5
          omega
  subst hxy
  refine ⟨hDj, ?_, ?_⟩
  · rw [hr]
    have e1 : dueE now (delE T x.1) = (dueE now T).filter (fun z => !decide (z.1 = x.1)) := by
      unfold dueE delE
      rw [List.filter_filter, List.filter_filter]
      exact List.filter_congr fun z _ => Bool.and_comm _ _
    rw [e1]
    have h1 := hp.filter (fun z => !decide (z.1 = x.1))
    rw [hxr, List.filter_cons, if_neg (by simp)] at h1
    refine h1.trans ?_
    rw [List.filter_eq_self.2 fun z hz => ?_]
    have h2 : (dueE now T).Pairwise (fun p q => p.1 ≠ q.1) := (hg.1.sublist List.filter_sublist).imp fun h => h.1
    have h3 := (hp.pairwise_iff (fun {_ _} hne => Ne.symm hne)).1 h2
    rw [hxr] at h3
    have := (List.pairwise_cons.1 h3).1 z hz
    simp [Ne.symm this]
  · unfold latE delE
    rw [List.filter_filter]
    refine List.filter_congr fun z hz => ?_
    by_cases e : z.1 = x.1
    · have := good_key hg hz hxT e
      subst this
      simp [hle]
    · simp [e]

theorem due_done {T D : List E3} {j : Nat} {now a : Int} (hp : (dueE now T).Perm (D.drop j)) (h : ∀ x ∈ T, now < x.2.1) (hj : j ≤ D.length) : j = D.length ∧ latE now T = T := by
  have e : dueE now T = [] := List.filter_eq_nil_iff.2 fun x hx => by have := h x hx; simp; omega
  rw [e] at hp
  have := hp.length_eq
  rw [List.length_drop] at this
  simp at this
  exact ⟨by omega, List.filter_eq_self.2 fun x hx => by have := h x hx; simp; omega⟩

theorem Tq.drewN {w w' : World} {B q : Nat} (h : Tq w w' B q) (n : Nat) : Tq w (w'.drewN n) B q := ⟨h.os, h.tape, h.output, h.size, h.block⟩

theorem HasR.grown {w w' : World} {B q : Nat} {room : Int} {T : List E3} {lv : Value} {base size n : Nat} {t : TypeId} {v : Value} {xs : List Value} (h : HasR w B q room T lv) (ho : w.ownsRow base t size v n xs) (ht1 : t ≠ 85) (ht2 : t ≠ 31)
    (hg : w.grownBy w' v.ownBlock) : HasR w' B q room T lv := by
  refine ⟨(hg.block q h.lt fun e => ?_).trans h.1, h.2.kept hg ?_⟩
  · obtain ⟨cs, f, e2⟩ := row_block ho e.symm
    have := h.1.symm.trans e2
    simp at this
    exact ht2 this.2.1.symm
  · rcases hb : lv.ownBlock with _ | g
    · exact Or.inl rfl
    · refine Or.inr fun e => ?_
      obtain ⟨cs, f, e2⟩ := row_block ho e.symm
      obtain ⟨cs', f', e3⟩ := row_block h.2 hb
      have := e3.symm.trans e2
      simp at this
      exact ht1 this.2.1.symm

theorem Tq.grew {w w' w2 : World} {B q : Nat} {row : Option Nat} (h : Tq w w' B q) (hg : w'.grownBy w2 row) (hr : ∀ g, row = some g → w.heap.size ≤ g) : Tq w w2 B q :=
  ⟨hg.os.trans h.os, hg.tape.trans h.tape, hg.output.trans h.output, Nat.le_trans h.size hg.size, fun k hk h1 h2 => (hg.block k (Nat.lt_of_lt_of_le hk h.size) (fun e => by have := hr k e.symm; omega)).trans (h.block k hk h1 h2)⟩

def sliceLen : Value → Nat
  | .slice _ n _ => n
  | _ => 0

theorem row_slen {w : World} {base e size n : Nat} {v : Value} {xs : List Value} (h : w.ownsRow base e size v n xs) : sliceLen v = n := by
  obtain ⟨p, cap, rfl⟩ := owns_slice h
  rfl

theorem und_SL : Try.prog.underlying 42 = some (.slice 9) := by kernel_rfl

theorem keysE_take (D : List E3) (k : Nat) {x : E3} (hx : D[k]? = some x) : (D.take (k + 1)).map (fun x => Value.string x.1) = (D.take k).map (fun x => Value.string x.1) ++ [.string x.1] := by
  rw [List.take_add_one, hx, List.map_append]
  rfl

set_option maxHeartbeats 8000000 in
set_option maxRecDepth 100000 in
theorem rdue_c {w : World} {B q : Nat} {room : Int} {T : List E3} {lv : Value} (h : HasR w B q room T lv) (now : Int) (hl : T.length < 1000000000) {a : Int} (hg : GoodE T a) {D : List E3} (hp : (dueE now T).Perm D) (hs : SortedE D) :
    Calls Try.prog 30 #[.pointer (some ⟨q, 0, none⟩), .int .i64 now] w fun e w' => ∃ v lv', e = .returned v ∧ w'.ownsRow w.heap.size 9 1 v D.length (D.map (fun x => .string x.1)) ∧ HasR w' B q room (latE now T) lv' ∧ Tq w w' B q := by
  obtain ⟨i0, hi, hz0, hz1, hz2⟩ := info_parts info_KS
  have hqlt := Lib.hid h.lt
  have hDl := Lib.hid (show D.length < 1000000000 by have := hp.length_eq; have := List.length_filter_le (fun x : E3 => decide (x.2.1 ≤ now)) T; unfold dueE at *; omega)
  have HS := Lib.hid hs
  have H0 := Lib.hid h
  have HP0 := Lib.hid hp
  have HG0 := Lib.hid hg
  clear h hp hs hg
  go_enter Try.func30, Try.ntmps30
  go_wp2
  go_loopw [5, 6] (fun s5 _ wr => ∃ (j : Nat) (T' : List E3) (lv' : Value), j ≤ D.length ∧ T'.length ≤ T.length ∧ Hid (wr.ownsRow w.heap.size 9 1 s5 j ((D.take j).map (fun x => Value.string x.1))) ∧ Hid (HasR wr B q room T' lv') ∧ Hid (Tq w wr B q) ∧ Hid (GoodE T' a) ∧ Hid ((dueE now T').Perm (D.drop j)) ∧ Hid (latE now T' = latE now T)) (fun s5 _ _ => D.length - sliceLen s5)
  case atStart => exact ⟨0, T, lv, Nat.zero_le _, Nat.le_refl _, Lib.hid (World.ownsRow_nil _ _ _ _), H0, Lib.hid (Tq.refl _ _ _), HG0, HP0, Lib.hid rfl⟩
  case round =>
    clear H0 HP0 HG0
    obtain ⟨j, T', lv', hj, hTl, hO, hH, hT, hG, hP, hL⟩ := hrel
    have F := Lib.hid (rfirst_c hH.out (by omega))
    have hOl := Lib.hid (row_slen hO.out)
    obtain ⟨p5, cap5, rfl⟩ := owns_slice hO.out
    go_upto_region 3 with (go_at_call 41; refine F.out.mono ?_; rintro e w1 ⟨b, n, rfl, hb, rfl⟩)
    have hO1 := Lib.hid (show (wr.drewN n).ownsRow w.heap.size 9 1 (.slice p5 j cap5) j ((D.take j).map (fun x => Value.string x.1)) from hO.out)
    have hH1 := Lib.hid (show HasR (wr.drewN n) B q room T' lv' from hH.out)
    have hT1 := Lib.hid (hT.out.drewN n)
    clear hO hH hT F
    generalize wr.drewN n = w1 at hO1 hH1 hT1 ⊢
    rcases hb.out with ⟨rfl, h2⟩ | ⟨i, y, rfl, h2, h3, h4, h5⟩
    · have E := Lib.hid (due_done (a := a) hP.out (fun x hx => by rw [List.length_eq_zero_iff.1 h2] at hx; cases hx) hj)
      clear h2 hb
      go_wp2
      go_ret
      obtain ⟨e1, e2⟩ := E.out
      refine ⟨_, lv', rfl, ?_, ?_, hT1.out⟩
      · have := hO1.out
        rw [e1, List.take_length] at this
        rw [← e1] at this ⊢
        exact this
      · rw [← hL.out, e2]
        exact hH1.out
    · obtain ⟨p, off, cap, rfl, hc⟩ := hH1.out.rows
      obtain ⟨g, rfl, y0, y1⟩ := hc i y h3
      have c1 := hH1.out.c1
      have k0 : decide ((i : Int) < 0) = false := decide_eq_false (by omega)
      have hi' : (i : Int) < (T'.length : Int) := by omega
      simp only [Option.map_some] at c1
      by_cases hq : now < y.2.1
      · have k1 : decide (now < y.2.1) = true := decide_eq_true hq
        have E := Lib.hid (due_done (a := a) hP.out (fun x hx => by obtain ⟨m, hm, e⟩ := List.getElem_of_mem hx; have := h4 m x hm (by rw [List.getElem?_eq_getElem hm, e]); omega) hj)
        clear hc h3 h4 h5 hb hq h2
        go_wp2
        go_ret
        obtain ⟨e1, e2⟩ := E.out
        refine ⟨_, .slice (Option.map (fun g => (⟨g, off, none⟩ : Addr)) (some g)) T'.length cap, rfl, ?_, ?_, hT1.out⟩
        · have := hO1.out
          rw [e1, List.take_length] at this
          rw [← e1] at this ⊢
          exact this
        · rw [← hL.out, e2]
          exact hH1.out
      · have k1 : decide (now < y.2.1) = false := decide_eq_false hq
        have E := Lib.hid (due_head hG.out hP.out HS.out h3 h4 h5 (by omega))
        have hjD := Lib.hid (show j + 1 ≤ D.length by have := (List.getElem?_eq_some_iff.1 E.out.1).1; omega)
        have hDl2 := hDl.out
        have hKT := Lib.hid (keysE_take D j E.out.1)
        have hw := Lib.hid hT1.out.size
        have HY := Lib.hid h3
        clear hc h3 h4 h5 hb hq h2
        go_upto_region 5 with fail
        go_wp2_with (at_builtin; refine wpList_append_own _ rfl _ _ 42 rfl w.heap.size 9 i0 (.string ⟨#[]⟩) 1 16 und_SL hi hz0 hz1 hz2 rfl (by decide) _ j _ rfl (hO1.out.alloc _) ⟨w1.heap.size, 0, none⟩ 1 1 [.string y.1] rfl rfl ?c1 ?c2 ?c3 ?c4 ?c5 ?_)
        case c1 => exact cell_one_new _ _ _
        case c2 => intro u hu; simp at hu; subst hu; rfl
        case c3 => unfold maxLen; omega
        case c4 => omega
        case c5 => have := hw.out; simp; omega
        intro v6 w6 hown6 hg6 _
        have hga := World.grownBy_alloc w1 (.cells #[.string y.1] 9) none
        have H6 := Lib.hid ((hH1.out.grown (World.ownsRow_nil w1 0 9 1) (by decide) (by decide) hga).grown (hO1.out.alloc (.cells #[.string y.1] 9)) (by decide) (by decide) hg6)
        have T6 := Lib.hid ((hT1.out.grew hga (fun g e => by cases e)).grew hg6 (fun g e => ((hO1.out.alloc (.cells #[.string y.1] 9)).lt g e).1))
        have O6 := Lib.hid (show w6.ownsRow w.heap.size 9 1 v6 (j + 1) ((D.take (j + 1)).map (fun x => Value.string x.1)) by rw [hKT.out]; first | exact hown6 | (rw [List.map_take]; exact hown6))
        obtain ⟨p6, off6, cap6, e6, hc6⟩ := H6.out.rows
        obtain ⟨p7, cap7, rfl⟩ := owns_slice hown6
        obtain ⟨g6, rfl, y0, y1⟩ := hc6 i y HY.out
        simp at e6
        obtain ⟨⟨rfl, rfl⟩, rfl⟩ := e6
        have c1 := H6.out.c1
        simp only [Option.map_some] at c1
        have CA := Lib.hid (rcancel_c H6.out y.1 (by omega) hG.out)
        clear hown6 hg6 hga hO1 hH1 hT1 hw hc6
        go_wp2_with (go_at_call 27; refine CA.out.mono ?_; rintro e w7 ⟨rfl, lv7, h7, t7⟩)
        have H7 := Lib.hid h7
        have T7 := Lib.hid (T6.out.trans t7)
        have O7 := Lib.hid (t7.row O6.out (by decide) (fun g e => by have := (O6.out.lt g e).1; have := hqlt.out; omega))
        have L7 := Lib.hid (E.out.2.2.trans hL.out)
        have hdl := List.length_filter_le (fun x : E3 => !decide (x.1 = y.1)) T'
        clear h7 t7 CA c1 y0 y1
        go_wp2_with fail
        go_roundw
        case rel => exact ⟨j + 1, delE T' y.1, lv7, hjD.out, Nat.le_trans hdl hTl, O7, H7, T7, Lib.hid (hG.out.del _), Lib.hid E.out.2.1, L7⟩
        case measure => have := hjD.out; show D.length - (j + 1) < D.length - sliceLen (Value.slice p5 j cap5); simp [sliceLen]; omega

end Go.Proofs.Ytplaconhpiojbaa
