/-
  The entries sorted: the closure, slices.SortFunc. Contracts over the translated program.
-/
import Derived.Test.YtodddahjibccoaaFdG
import Derived.Test.YtodddahjibccoaaFdE
import Derived.Shelf.SlSortCmp.WholeK
import Derived.Shelf.SlSortCmp.NoneTotal
namespace Go.Proofs.Ytodddahjibccoaa
open Go Go.Maps Go.WideMaps
open Go.RowKit Go.Shelf Go.Lib Go.Sort
set_option linter.unusedVariables false
set_option linter.unusedSimpArgs false

set_option maxHeartbeats 8000000 in
set_option maxRecDepth 100000 in
theorem entCmp_c (v1 : Int) (m1 : ByteArray) (q1 a1 v2 : Int) (m2 : ByteArray) (q2 a2 : Int) (w : World) :
    Calls Try.prog 22 #[.agg #[.int .i64 v1, .string m1, .int .i64 q1, .int .i64 a1], .agg #[.int .i64 v2, .string m2, .int .i64 q2, .int .i64 a2]] w fun e w' => e = .returned (.int .i64 (cmpS v1 m1 v2 m2)) ∧ ∃ q os', w' = grow (w.drewN q) os' := by
  go_enter Try.func22, Try.ntmps22
  go_upto_region 1 with fail
  have x0 : ((w.alloc (.cells #[.int .i64 v1, .string m1, .int .i64 q1, .int .i64 a1] 50)).alloc (.cells #[.int .i64 v2, .string m2, .int .i64 q2, .int .i64 a2] 50)).cell? ⟨w.heap.size, 0, none⟩ = some (.int .i64 v1) := by simp [go_sem]
  have x1 : ((w.alloc (.cells #[.int .i64 v1, .string m1, .int .i64 q1, .int .i64 a1] 50)).alloc (.cells #[.int .i64 v2, .string m2, .int .i64 q2, .int .i64 a2] 50)).cell? ⟨w.heap.size, 1, none⟩ = some (.string m1) := by simp [go_sem]
  have y0 : ((w.alloc (.cells #[.int .i64 v1, .string m1, .int .i64 q1, .int .i64 a1] 50)).alloc (.cells #[.int .i64 v2, .string m2, .int .i64 q2, .int .i64 a2] 50)).cell? ⟨w.heap.size + 1, 0, none⟩ = some (.int .i64 v2) := by simp [go_sem]
  have y1 : ((w.alloc (.cells #[.int .i64 v1, .string m1, .int .i64 q1, .int .i64 a1] 50)).alloc (.cells #[.int .i64 v2, .string m2, .int .i64 q2, .int .i64 a2] 50)).cell? ⟨w.heap.size + 1, 1, none⟩ = some (.string m2) := by simp [go_sem]
  obtain ⟨os0, hos⟩ : ∃ os, Hid (((w.alloc (.cells #[.int .i64 v1, .string m1, .int .i64 q1, .int .i64 a1] 50)).alloc (.cells #[.int .i64 v2, .string m2, .int .i64 q2, .int .i64 a2] 50)) = grow w os) := ⟨_, Lib.hid (by rw [alloc_eq_grow, alloc_eq_grow, grow_grow])⟩
  generalize ((w.alloc (.cells #[.int .i64 v1, .string m1, .int .i64 q1, .int .i64 a1] 50)).alloc (.cells #[.int .i64 v2, .string m2, .int .i64 q2, .int .i64 a2] 50)) = W at x0 x1 y0 y1 hos ⊢
  have HC := Lib.hid fun U => bySt_c v1 m1 v2 m2 U
  go_wp2_with fail
  ((with_reducible refine (HC.out _).mono ?_); rintro e w1 ⟨rfl, q, os1, rfl⟩)
  have hE := Lib.hid (show grow (W.drewN q) os1 = grow (w.drewN q) (os0 ++ os1) by rw [hos.out]; show grow (grow (w.drewN q) os0) os1 = _; rw [grow_grow])
  clear x0 x1 y0 y1 hos
  generalize grow (W.drewN q) os1 = W2 at hE ⊢
  go_wp2_with fail
  go_ret
  exact ⟨rfl, q, _, hE.out⟩

def cells4 (e : E4) : List Value := [.int .i64 e.1, .string e.2.1, .int .i64 e.2.2.1, .int .i64 e.2.2.2]
def rowE (R : List E4) : List Value := R.flatMap cells4
instance : Inhabited E4 := ⟨(0, ⟨#[]⟩, 0, 0)⟩

theorem cells4_one (e : E4) : ∀ v ∈ cells4 e, v.oneCell' = true := by
  intro v hv
  simp [cells4] at hv
  rcases hv with rfl | rfl | rfl | rfl <;> rfl
theorem ltf_iff (x y : E4) : ltOf (fun x y : E4 => cmpS x.1 x.2.1 y.1 y.2.1) x y = true ↔ ltS x.1 x.2.1 y.1 y.2.1 = true := by
  unfold ltOf
  rw [decide_eq_true_iff]
  exact cmpS_neg _ _ _ _
theorem swo_F : SWO (ltOf (fun x y : E4 => cmpS x.1 x.2.1 y.1 y.2.1)) where
  irrefl x := by
    rw [← Bool.not_eq_true, ltf_iff, ltS_irrefl]
    simp
  trans x y z h1 h2 := by
    rw [ltf_iff] at h1 h2 ⊢
    exact ltS_trans h1 h2
  ntrans x y z h1 h2 := by
    rw [← Bool.not_eq_true, ltf_iff] at h1 h2 ⊢
    intro h3
    rcases k : ltS x.1 x.2.1 y.1 y.2.1 with _ | _
    · rcases k2 : ltS y.1 y.2.1 x.1 x.2.1 with _ | _
      · obtain ⟨e1, e2⟩ := ltS_tri k k2
        rw [e1, e2] at h3
        exact h2 h3
      · exact h2 (ltS_trans k2 h3)
    · exact h1 k

theorem rowE_len (D : List E4) : (rowE D).length = D.length * 4 := by
  induction D with
  | nil => rfl
  | cons x r ih => show (cells4 x ++ rowE r).length = _; rw [List.length_append, ih]; show 4 + _ = _; simp; omega
theorem rowE_get : ∀ (D : List E4) (i c : Nat), i < D.length → c < 4 → (rowE D)[i * 4 + c]? = (cells4 D[i]!)[c]?
  | [], i, c, h, _ => by simp at h
  | x :: r, 0, c, _, hc => by
    show (cells4 x ++ rowE r)[0 * 4 + c]? = _
    rw [List.getElem?_append_left (by show _ < 4; omega)]
    simp
  | x :: r, i + 1, c, h, hc => by
    show (cells4 x ++ rowE r)[(i + 1) * 4 + c]? = _
    rw [List.getElem?_append_right (by show 4 ≤ _; omega)]
    have e : (i + 1) * 4 + c - (cells4 x).length = i * 4 + c := by show _ - 4 = _; omega
    rw [e, rowE_get r i c (by simpa using h) hc]
    simp
theorem holdsK_own4 {w : World} {g e : Nat} {cur : Array Value} {D : List E4} (hb : w.heap[g]? = some (.cells cur e (0, 0))) (h4 : cur.toList.take (D.length * 4) = rowE D) : HoldsK cells4 4 w g 0 D.toArray := by
  intro j hj
  have hj' : j < D.length * 4 := by simpa using hj
  refine ⟨?_, by simp [World.frozen?, hb]⟩
  have h1 : (cur.toList.take (D.length * 4))[j]? = (rowE D)[j]? := by rw [h4]
  rw [List.getElem?_take_of_lt hj'] at h1
  have e1 : j = j / 4 * 4 + j % 4 := by omega
  have h2 := rowE_get D (j / 4) (j % 4) (by omega) (by omega)
  rw [← e1] at h2
  rw [h2] at h1
  simp only [World.cell?, hb, Nat.zero_add]
  rw [← Array.getElem?_toList, h1, get_flatK _ _ _ _ (by simpa using hj')]
  rw [List.getElem?_eq_getElem (show j % 4 < (cells4 D[j / 4]!).length by show _ < 4; omega)]
  congr 1
  rw [getElem!_pos (cells4 D.toArray[j / 4]!) (j % 4) (by show _ < 4; omega)]
  simp

/-- THE ENTRIES OF A SLICE, in memory made since base. -/
def EntF (w : World) (base : Nat) (v : Value) (D : List E4) : Prop :=
  (v = .slice none 0 0 ∧ D = []) ∨ ∃ g cap, v = .slice (some ⟨g, 0, none⟩) D.length cap ∧ base ≤ g ∧ g < w.heap.size ∧
    ∀ i e, D[i]? = some e → (w.cell? ⟨g, i * 4, none⟩ = some (.int .i64 e.1) ∧ w.cell? ⟨g, i * 4 + 1, none⟩ = some (.string e.2.1) ∧ w.cell? ⟨g, i * 4 + 2, none⟩ = some (.int .i64 e.2.2.1) ∧ w.cell? ⟨g, i * 4 + 3, none⟩ = some (.int .i64 e.2.2.2)) ∧ ∀ c, c < 4 → w.frozen? ⟨g, i * 4 + c, none⟩ = false

theorem one_order {D R : List E4} (hu : UpF R) (hp : R.Perm D) (hs : D.Pairwise (fun x y => ¬ ltS y.1 y.2.1 x.1 x.2.1 = true)) : D = R := by
  refine (List.Perm.eq_of_pairwise (le := fun x y : E4 => ¬ ltS y.1 y.2.1 x.1 x.2.1 = true) ?_ ?_ hs hp).symm
  · intro a b ha hb h1 h2
    rcases up_tri hu ha (hp.mem_iff.2 hb) with e | e | e
    · exact e
    · exact absurd e h2
    · exact absurd e h1
  · exact hu.imp fun {a b} h h2 => by rw [ltS_asym h] at h2; cases h2

theorem agg_EF (w : World) : (isAgg 50).run Try.prog w = .ok true w := Try.isAgg50 w
theorem siz_EF (w : World) : (Go.sizeOf 50).run Try.prog w = .ok 4 w := Try.sizeOf50 w

theorem sorted_F {w : World} {base g n cap : Nat} {D R : List E4} {d' : Array E4} {os : Array Obj} (hbase : base ≤ g) (hg : g < w.heap.size) (hH : HoldsK cells4 4 w g 0 D.toArray) (hu : UpF R) (hRD : R.Perm D)
    (hP : PermIn 0 D.length D.toArray d') (hS : SortedIn (ltOf (fun x y : E4 => cmpS x.1 x.2.1 y.1 y.2.1)) 0 D.length d') :
    EntF (sortWorldK cells4 4 w g 0 n d' os) base (.slice (some ⟨g, 0, none⟩) D.length cap) R ∧ RowKit.Below base w (sortWorldK cells4 4 w g 0 n d' os) := by
  have es : D.toArray.size = D.length := by simp
  rw [← es] at hP hS
  obtain ⟨hsz, _, hperm⟩ := hP
  have hsz' : d'.toList.length = D.length := by simpa using hsz
  have e1 : d'.extract 0 D.toArray.size = d' := by rw [← hsz]; exact Array.extract_size
  rw [e1, Array.extract_size] at hperm
  have hK := holdsK_sortWorldK cells4 4 w g 0 n D.toArray d' os hg hH hsz
  have hDp : R.Perm d'.toList := hRD.trans (by simpa using hperm.symm)
  have hso : d'.toList.Pairwise (fun x y => ¬ ltS y.1 y.2.1 x.1 x.2.1 = true) := by
    rw [List.pairwise_iff_getElem]
    intro i j hi hj hij hlt
    have hi' : i < d'.size := by simpa using hi
    have hj' : j < d'.size := by simpa using hj
    have := hS i j (Nat.zero_le _) hij (by omega)
    rw [getElem!_pos d' j hj', getElem!_pos d' i hi', ← Bool.not_eq_true, ltf_iff] at this
    exact this (by simpa using hlt)
  have hRe := one_order hu hDp hso
  constructor
  · refine Or.inr ⟨g, cap, by rw [← hRe, hsz'], hbase, lt_sortWorldK cells4 4 w g 0 n d' os hg, fun i x hx => ?_⟩
    rw [← hRe] at hx
    have hi : i < d'.size := by simpa using (List.getElem?_eq_some_iff.1 hx).1
    have hxx : d'[i]! = x := by
      rw [getElem!_pos d' i hi]
      have := (List.getElem?_eq_some_iff.1 hx).2
      simpa using this
    have c0 := hK.cell (i := i) (c := 0) hi (by omega)
    have c1 := hK.cell (i := i) (c := 1) hi (by omega)
    have c2 := hK.cell (i := i) (c := 2) hi (by omega)
    have c3 := hK.cell (i := i) (c := 3) hi (by omega)
    rw [hxx] at c0 c1 c2 c3
    simp only [Nat.zero_add] at c0 c1 c2 c3
    refine ⟨⟨c0.1, c1.1, c2.1, c3.1⟩, fun c hc => ?_⟩
    match c, hc with
    | 0, _ => exact c0.2
    | 1, _ => exact c1.2
    | 2, _ => exact c2.2
    | 3, _ => exact c3.2
  · refine ⟨rfl, rfl, rfl, ?_, fun k hk => ?_⟩
    · simp [sortWorldK, putRowK, putRow, mapBlock, Sort.ahead, grow]
    · unfold sortWorldK
      rw [heap_grow_old _ _ (by simp [putRowK, putRow, mapBlock, Sort.ahead]; omega)]
      have : g ≠ k := by omega
      simp [putRowK, putRow, mapBlock, Sort.ahead, Array.getElem?_modify, this]

theorem sortF_c {w : World} {base : Nat} {v : Value} {D R : List E4} (O : w.ownsRow base 50 4 v D.length (rowE D)) (hl : D.length < 1000000000) (hu : UpF R) (hRD : R.Perm D) :
    Calls Try.prog 21 #[v, .func (.func 22) #[] #[]] w fun e w' => e = .returned (.tuple #[]) ∧ EntF w' base v R ∧ RowKit.Below base w w' := by
  rcases O.2 with ⟨rfl, h0⟩ | ⟨g, cap, cur, rfl, hbase, hb, h1, h2, h3, h4⟩
  · have hD : D = [] := List.length_eq_zero_iff.1 h0
    subst hD
    refine (AnyF.slices_SortFunc_none lay_laysSortF none 0 _ w).mono ?_
    rintro e w' ⟨rfl, rfl⟩
    exact ⟨rfl, Or.inl ⟨rfl, hRD.eq_nil⟩, RowKit.Below.refl _ _⟩
  · have hH : HoldsK cells4 4 w g 0 D.toArray := holdsK_own4 hb h4
    have eg : ∀ args w, (callFunc 22 args).run Try.prog w = .ok (.enter 22 args) w := enters_of Try.func22 (by kernel_rfl) rfl
    have hglt : g < w.heap.size := (Array.getElem?_eq_some_iff.1 hb).1
    have hcon := AnyQ.slices_SortFunc lay_laysSortF 4 agg_EF siz_EF cells4 (fun _ => rfl) cells4_one (fun x y : E4 => cmpS x.1 x.2.1 y.1 y.2.1) swo_F 22 #[] g 0 cap D.toArray w eg
      (fun m os dk hs x y => entCmp_c x.1 x.2.1 x.2.2.1 x.2.2.2 y.1 y.2.1 y.2.2.1 y.2.2.2 _) hH hglt (by simp; omega)
    change Calls Try.prog 21 _ _ _ at hcon
    simp only [List.size_toArray] at hcon
    refine hcon.mono ?_
    rintro e w' ⟨rfl, d', n, os, hP, hS, rfl⟩
    exact ⟨rfl, sorted_F hbase hglt hH hu hRD hP hS⟩

end Go.Proofs.Ytodddahjibccoaa
