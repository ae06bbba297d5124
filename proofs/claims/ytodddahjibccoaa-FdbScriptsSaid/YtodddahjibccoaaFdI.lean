/-
  The program's table: Entries, New; a table that is none. Contracts over the translated program.
-/
import Derived.Test.YtodddahjibccoaaFdH
import Derived.Test.YtodddahjibccoaaFdF
import Derived.Maps.AppendAt
namespace Go.Proofs.Ytodddahjibccoaa
open Go Go.Maps Go.WideMaps
open Go.RowKit
set_option linter.unusedVariables false
set_option linter.unusedSimpArgs false

variable {w w' : World} {p mb : Nat} {room age : Int} {R : List E4}
theorem info_EF : (Try.prog.info? 50).map (fun i => (i.zero, i.size, i.bytes)) = some (some (.agg #[.int .i64 0, .string ⟨#[]⟩, .int .i64 0, .int .i64 0]), 4, 40) := by kernel_rfl
theorem cellsE_new (w : World) (xs : List Value) (t : TypeId) : ∀ j u, xs[j]? = some u → (w.alloc (.cells xs.toArray t)).cell? ((⟨w.heap.size, 0, none⟩ : Addr).add j) = some u := by
  intro j u hj
  have e : (⟨w.heap.size, 0, none⟩ : Addr).add j = ⟨w.heap.size, j, none⟩ := by unfold Addr.add; split <;> simp_all
  rw [e]
  exact cell_of_block (heap_new w _) (by simpa using hj)
theorem rowE_snoc (D : List E4) (v : Int) (m : ByteArray) (q a : Int) : rowE (D ++ [(v, m, q, a)]) = rowE D ++ [.int .i64 v, .string m, .int .i64 q, .int .i64 a] := by
  unfold rowE
  rw [List.flatMap_append]
  simp [cells4]
theorem oneE (v : Int) (m : ByteArray) (q a : Int) : ∀ u ∈ [Value.int .i64 v, .string m, .int .i64 q, .int .i64 a], u.oneCell' = true := cells4_one (v, m, q, a)
theorem slice_own {w : World} {base e size n : Nat} {v : Value} {xs : List Value} (h : w.ownsRow base e size v n xs) : ∃ p cap, v = .slice p n cap := by
  rcases h.2 with ⟨rfl, rfl⟩ | ⟨g, cap, cur, rfl, _⟩
  · exact ⟨none, 0, rfl⟩
  · exact ⟨_, cap, rfl⟩
theorem fown_far {w : World} {base e size n r : Nat} {v : Value} {xs : List Value} (h : w.ownsRow base e size v n xs) (hr : r < base) : v.ownBlock = none ∨ v.ownBlock ≠ some r :=
  Or.inr (fun e => by have := (h.lt r e).1; omega)
theorem fnone_or (a : Option Nat) : a = none ∨ a ≠ none := by cases a <;> simp

set_option maxHeartbeats 8000000 in
set_option maxRecDepth 100000 in
theorem entries_c (h : HasF w p mb room age (mF R)) (hg : GoodF R) (hl : R.length ≤ 1000000) :
    Calls Try.prog 11 #[.pointer (some ⟨p, 0, none⟩)] w fun e w' => ∃ v, e = .returned v ∧ EntF w' w.heap.size v R ∧ Below w.heap.size w w' := by
  have H := Lib.hid h
  have c2 := h.c2
  have hm := Lib.hid h.2
  have hlt := Lib.hid h.2.lt
  obtain ⟨i0, hi, hz0, hz1, hz2⟩ := info_parts info_EF
  clear h
  go_enter Try.func11, Try.ntmps11
  go_wp2_with (first
    | (at_range; refine wpList_range_mp _ rfl _ 46 rfl 52 54 law_ST und_MF mb (mF R) rfl hm.out ?_; intro w0 hrg0 hg0 hs0)
    | go_in)
  go_frame
  have HG0 := Lib.hid (And.intro hrg0 (And.intro hg0 hs0))
  clear hrg0 hg0 hs0 c2
  go_loopw [3, 4, 5] (fun s3 _ _ wr => ∃ (D : List E4) (S : List T3) (cnt : Nat) (po : Option Addr) (co : Nat), s3 = .slice po D.length co ∧ Hid ((mF R).Perm (mF D ++ S)) ∧ Hid (WfE D) ∧ Hid (wr.ownsRow (w.heap.size + 1) 50 4 (.slice po D.length co) D.length (rowE D)) ∧ Hid (Rg wr Try.prog 52 mb w.heap.size (mF R) S cnt) ∧ Hid (Below w.heap.size w wr) ∧ Hid (w.heap.size + 1 ≤ wr.heap.size))
    (fun _ _ _ wr => wr.rangeLeft mb w.heap.size)
  case atStart => exact ⟨[], mF R, (mF R).length, none, 0, rfl, Lib.hid (List.Perm.refl _), Lib.hid (fun e he => by cases he), Lib.hid (World.ownsRow_nil _ _ _ _), Lib.hid HG0.out.1, Lib.hid ((Below.refl _ w).grown HG0.out.2.1 (Nat.le_refl _) (fun j hj => by cases hj)), Lib.hid (by have := HG0.out.2.2; omega)⟩
  case round =>
    obtain ⟨D, S, cnt, po, co, rfl, hP, hW, hO, hR, hB, hS⟩ := hrel
    go_wp2_with (first
      | (at_next; refine wpList_next_mp _ rfl _ rfl 52 law_ST (fun x : Int × ByteArray => Value.agg #[.int .i64 x.1, .string x.2]) invF mb w.heap.size (mF R) S cnt rfl hR.out ?_ ?_)
      | go_in)
    · intro h0
      have hRD := Lib.hid (show R.Perm D by have := hP.out; rw [h0, List.append_nil] at this; exact done_F hg.wf hW.out this)
      have hSo := Lib.hid (sortF_c hO.out (by have := hRD.out.length_eq; omega) hg.up hRD.out)
      clear h0 hP hR
      go_wp2_with fail
      ((with_reducible refine hSo.out.mono ?_); rintro e w1 ⟨rfl, hE, hb1⟩)
      have HE := Lib.hid hE
      have K := Lib.hid (hB.out.trans (hb1.mono (Nat.le_succ _)))
      clear hE hb1 hSo
      go_wp2_with fail
      go_ret
      refine ⟨_, rfl, ?_, K.out⟩
      rcases HE.out with h | ⟨g, cap, h1, h2, h3⟩
      · exact Or.inl h
      · exact Or.inr ⟨g, cap, h1, by omega, h3⟩
    · intro v2 m2 p2 a2 kl S' w1 cnt1 hkey hpm hrg1 hlt1 hg1 hs1 hen
      try dsimp only at hkey hen ⊢
      obtain ⟨rfl, hk2⟩ := litF hkey
      have hPP := Lib.hid (show (mF R).Perm (mF (D ++ [(v2, m2, p2, a2)]) ++ S') by
        refine hP.out.trans ((List.Perm.append_left _ hpm).trans ?_)
        rw [mF_app]
        simp [mF])
      have hW1 := Lib.hid (show WfE (D ++ [(v2, m2, p2, a2)]) from fun e he => by
        rcases List.mem_append.1 he with he | he
        · exact hW.out e he
        · simp at he; subst he; exact hk2)
      have hDl := Lib.hid (show D.length + 1 ≤ 1000000 by
        have h2 := hPP.out.length_eq
        rw [len_mF, List.length_append, len_mF, List.length_append, List.length_singleton] at h2
        omega)
      have hO1 := Lib.hid (hO.out.kept hg1 (fown_far hO.out (by omega)))
      have hB1 := Lib.hid (hB.out.grown hg1 hB.out.size (fun j hj => by cases hj; exact Nat.le_refl _))
      have hR1 := Lib.hid hrg1
      have hRl := Lib.hid hR.out.left_eq
      have hLT := Lib.hid hlt1
      have hS1 := Lib.hid (show w.heap.size + 1 ≤ w1.heap.size by rw [hs1]; exact hS.out)
      have hsn := Lib.hid (rowE_snoc D v2 m2 p2 a2)
      have hln := Lib.hid (show (D ++ [(v2, m2, p2, a2)]).length = D.length + 1 by simp)
      have h1c := Lib.hid (oneE v2 m2 p2 a2)
      clear hkey hpm hrg1 hlt1 hg1 hs1 hP hW hO hR hB hS hk2
      go_upto_region 7 with fail
      have hg2 := (World.grownBy_alloc w1 (.cells #[.int .i64 v2, .string m2] 52) none)
      have hg3 := (World.grownBy_alloc (w1.alloc (.cells #[.int .i64 v2, .string m2] 52)) (.cells #[.int .i64 p2, .int .i64 a2] 54) none)
      have hB2 := Lib.hid ((hB1.out.alloc hB1.out.size (.cells #[.int .i64 v2, .string m2] 52)).alloc (by have := hB1.out.size; simp; omega) (.cells #[.int .i64 p2, .int .i64 a2] 54))
      have hO2 := Lib.hid ((hO1.out.kept hg2 (fnone_or _)).kept hg3 (fnone_or _))
      have hR2 := Lib.hid ((hR1.out.kept hg2 (by simp) (by simp)).kept hg3 (by simp) (by simp))
      have hs2 := Lib.hid (heap_old (p := .cells #[.int .i64 p2, .int .i64 a2] 54) (heap_new w1 (.cells #[.int .i64 v2, .string m2] 52)))
      have hh2 := Lib.hid (show ((w1.alloc (.cells #[.int .i64 v2, .string m2] 52)).alloc (.cells #[.int .i64 p2, .int .i64 a2] 54)).heap[w1.heap.size + 1]? = some (.cells #[.int .i64 p2, .int .i64 a2] 54 (0, 0)) from by simpa using heap_new (w1.alloc (.cells #[.int .i64 v2, .string m2] 52)) (.cells #[.int .i64 p2, .int .i64 a2] 54))
      have hS2 := Lib.hid (show w.heap.size + 1 ≤ ((w1.alloc (.cells #[.int .i64 v2, .string m2] 52)).alloc (.cells #[.int .i64 p2, .int .i64 a2] 54)).heap.size by have := hS1.out; simp; omega)
      clear hg2 hg3 hB1 hO1 hR1 hS1
      generalize (w1.alloc (.cells #[.int .i64 v2, .string m2] 52)).alloc (.cells #[.int .i64 p2, .int .i64 a2] 54) = w2 at hB2 hO2 hR2 hs2 hh2 hS2 ⊢
      have x0 := cell_of_block (j := 0) hs2.out rfl
      have x1 := cell_of_block (j := 1) hs2.out rfl
      have y0 := cell_of_block (j := 0) hh2.out rfl
      have y1 := cell_of_block (j := 1) hh2.out rfl
      have A3 := Lib.hid (show D.length + 1 ≤ maxLen by unfold maxLen; have := hDl.out; omega)
      have A4 := Lib.hid (show (D.length + 1) * 40 ≤ 140737488355328 by have := hDl.out; omega)
      have A5 := Lib.hid (show w.heap.size + 1 ≤ (w2.alloc (.cells #[.int .i64 v2, .string m2, .int .i64 p2, .int .i64 a2] 50)).heap.size by have := hS2.out; simp; omega)
      have A6 := Lib.hid (cellsE_new w2 [.int .i64 v2, .string m2, .int .i64 p2, .int .i64 a2] 50)
      go_wp2_with (at_builtin; refine wpList_append_own _ rfl _ _ 36 rfl (w.heap.size + 1) 50 i0 (.agg #[.int .i64 0, .string ⟨#[]⟩, .int .i64 0, .int .i64 0]) 4 40 Try.underlying36 hi hz0 hz1 hz2 rfl (by decide) _ _ _ rfl (hO2.out.alloc _) ⟨w2.heap.size, 0, none⟩ 1 1 [.int .i64 v2, .string m2, .int .i64 p2, .int .i64 a2] rfl rfl A6.out h1c.out A3.out A4.out A5.out ?_)
      intro v' w5 hown' hgrow _
      have hga := Lib.hid (World.grownBy_alloc w2 (.cells #[.int .i64 v2, .string m2, .int .i64 p2, .int .i64 a2] 50) none)
      have hfar := Lib.hid (fun j hj => ((hO2.out.alloc (.cells #[.int .i64 v2, .string m2, .int .i64 p2, .int .i64 a2] 50)).lt j hj).1)
      have hO5 := Lib.hid hown'
      have hR5 := Lib.hid ((hR2.out.kept hga.out (by simp) (by simp)).kept hgrow (fun e => by have := hfar.out _ e.symm; have := hlt.out; omega) (fun e => by have := hfar.out _ e.symm; omega))
      have hB5 := Lib.hid ((hB2.out.grown hga.out hB2.out.size (fun j hj => by cases hj)).grown hgrow (by have := hB2.out.size; simp; omega) (fun j hj => by have := hfar.out j hj; omega))
      have hS5 := Lib.hid (Nat.le_trans A5.out hgrow.size)
      obtain ⟨p5, c5, rfl⟩ := slice_own hown'
      clear hown' hgrow hO2 hR2 hB2 hga hfar x0 x1 y0 y1 hs2 hh2
      go_wp2_with fail
      go_roundw
      case rel => exact ⟨_, _, _, p5, c5, by rw [hln.out], hPP, hW1, Lib.hid (by rw [hsn.out, hln.out]; exact hO5.out), hR5, hB5, hS5⟩
      case measure => rw [hR5.out.left_eq, hRl.out]; exact hLT.out

theorem new_no (room age : Int) (h : room < 1 ∨ 1024 < room ∨ age < 1 ∨ 1000000 < age) (w : World) : Calls Try.prog 8 #[.int .i64 room, .int .i64 age] w fun e w' => e = .returned (.tuple #[.pointer none, .int .i64 1]) ∧ w' = w := by
  by_cases h1 : room < 1
  · have d1 : decide (room < 1) = true := decide_eq_true h1
    clear h h1
    go_enter Try.func8, Try.ntmps8
    go_wp2
    go_ret2
    exact ⟨rfl, rfl⟩
  · have d1 : decide (room < 1) = false := decide_eq_false h1
    by_cases h2 : 1024 < room
    · have d2 : decide (1024 < room) = true := decide_eq_true h2
      clear h h1 h2
      go_enter Try.func8, Try.ntmps8
      go_wp2
      go_ret2
      exact ⟨rfl, rfl⟩
    · have d2 : decide (1024 < room) = false := decide_eq_false h2
      by_cases h3 : age < 1
      · have d3 : decide (age < 1) = true := decide_eq_true h3
        clear h h1 h2 h3
        go_enter Try.func8, Try.ntmps8
        go_wp2
        go_ret2
        exact ⟨rfl, rfl⟩
      · have d3 : decide (age < 1) = false := decide_eq_false h3
        have d4 : decide (1000000 < age) = true := decide_eq_true (by omega)
        clear h h1 h2 h3
        go_enter Try.func8, Try.ntmps8
        go_wp2
        go_ret2
        exact ⟨rfl, rfl⟩

theorem new_ok (room age : Int) (h1 : 1 ≤ room) (h2 : room ≤ 1024) (h3 : 1 ≤ age) (h4 : age ≤ 1000000) (w : World) : Calls Try.prog 8 #[.int .i64 room, .int .i64 age] w fun e w' => e = .returned (.tuple #[.pointer (some ⟨w.heap.size + 1, 0, none⟩), .int .i64 0]) ∧ HasF w' (w.heap.size + 1) w.heap.size room age [] ∧ Below w.heap.size w w' := by
  have hmm := @run_makeMap Try.prog
  have d1 : decide (room < 1) = false := decide_eq_false (by omega)
  have d2 : decide (1024 < room) = false := decide_eq_false (by omega)
  have d3 : decide (age < 1) = false := decide_eq_false (by omega)
  have d4 : decide (1000000 < age) = false := decide_eq_false (by omega)
  have hH : HasF ((w.alloc (.map #[] 0)).alloc (.cells #[.int .i64 room, .int .i64 age, .map (some w.heap.size)] 48)) (w.heap.size + 1) w.heap.size room age [] :=
    ⟨by simpa using heap_new (w.alloc (.map #[] 0)) (.cells #[.int .i64 room, .int .i64 age, .map (some w.heap.size)] 48), (Mp.made w _ _).kept (World.grownBy_alloc _ _ none) (by simp)⟩
  have hB := ((Below.refl w.heap.size w).alloc (Nat.le_refl _) (.map #[] 0)).alloc (by simp) (.cells #[.int .i64 room, .int .i64 age, .map (some w.heap.size)] 48)
  have HH := Lib.hid (And.intro hH hB)
  clear hH hB
  go_enter Try.func8, Try.ntmps8
  go_wp2
  go_ret2
  exact ⟨by simp, HH.out⟩

/-! ### a table that is none -/
theorem nilF_learn (v : Int) (m : ByteArray) (q now : Int) (w : World) : Calls Try.prog 14 #[.pointer none, .int .i64 v, .string m, .int .i64 q, .int .i64 now] w fun e w' => e = .returned (.bool false) ∧ Below w.heap.size w w' := by
  have hB := fun o1 o2 => Lib.hid (((Below.refl w.heap.size w).alloc (Nat.le_refl _) o1).alloc (by simp) o2)
  have hB1 := fun o1 => Lib.hid ((Below.refl w.heap.size w).alloc (Nat.le_refl _) o1)
  go_enter Try.func14, Try.ntmps14
  go_wp2_with fail
  go_ret
  first | exact ⟨rfl, Below.refl _ _⟩ | exact ⟨rfl, (hB _ _).out⟩ | exact ⟨rfl, (hB1 _).out⟩

theorem nilF_look (v : Int) (m : ByteArray) (now : Int) (w : World) : Calls Try.prog 13 #[.pointer none, .int .i64 v, .string m, .int .i64 now] w fun e w' => e = .returned (.tuple #[.int .i64 0, .bool false]) ∧ Below w.heap.size w w' := by
  have hB := fun o1 o2 => Lib.hid (((Below.refl w.heap.size w).alloc (Nat.le_refl _) o1).alloc (by simp) o2)
  have hB1 := fun o1 => Lib.hid ((Below.refl w.heap.size w).alloc (Nat.le_refl _) o1)
  go_enter Try.func13, Try.ntmps13
  go_wp2_with fail
  go_ret2
  first | exact ⟨rfl, Below.refl _ _⟩ | exact ⟨rfl, (hB _ _).out⟩ | exact ⟨rfl, (hB1 _).out⟩

theorem nilF_expire (now : Int) (w : World) : Calls Try.prog 15 #[.pointer none, .int .i64 now] w fun e w' => e = .returned (.int .i64 0) ∧ Below w.heap.size w w' := by
  have hB := fun o1 o2 => Lib.hid (((Below.refl w.heap.size w).alloc (Nat.le_refl _) o1).alloc (by simp) o2)
  have hB1 := fun o1 => Lib.hid ((Below.refl w.heap.size w).alloc (Nat.le_refl _) o1)
  go_enter Try.func15, Try.ntmps15
  go_wp2_with fail
  go_ret
  first | exact ⟨rfl, Below.refl _ _⟩ | exact ⟨rfl, (hB _ _).out⟩ | exact ⟨rfl, (hB1 _).out⟩

theorem nilF_flush (port : Int) (w : World) : Calls Try.prog 16 #[.pointer none, .int .i64 port] w fun e w' => e = .returned (.int .i64 0) ∧ Below w.heap.size w w' := by
  have hB := fun o1 o2 => Lib.hid (((Below.refl w.heap.size w).alloc (Nat.le_refl _) o1).alloc (by simp) o2)
  have hB1 := fun o1 => Lib.hid ((Below.refl w.heap.size w).alloc (Nat.le_refl _) o1)
  go_enter Try.func16, Try.ntmps16
  go_wp2_with fail
  go_ret
  first | exact ⟨rfl, Below.refl _ _⟩ | exact ⟨rfl, (hB _ _).out⟩ | exact ⟨rfl, (hB1 _).out⟩

theorem nilF_entries (w : World) : Calls Try.prog 11 #[.pointer none] w fun e w' => e = .returned (.slice none 0 0) ∧ Below w.heap.size w w' := by
  have hB := fun o1 o2 => Lib.hid (((Below.refl w.heap.size w).alloc (Nat.le_refl _) o1).alloc (by simp) o2)
  have hB1 := fun o1 => Lib.hid ((Below.refl w.heap.size w).alloc (Nat.le_refl _) o1)
  go_enter Try.func11, Try.ntmps11
  go_wp2_with fail
  go_ret
  first | exact ⟨rfl, Below.refl _ _⟩ | exact ⟨rfl, (hB _ _).out⟩ | exact ⟨rfl, (hB1 _).out⟩

end Go.Proofs.Ytodddahjibccoaa
