/-
  The wheel's entries sorted: slices.SortFunc at the entries of keys of type string. A contract over the translated program.
-/
import Derived.Test.YtplaconhpiojbaaWhG
import Derived.Test.YtplaconhpiojbaaWhS
namespace Go.Proofs.Ytplaconhpiojbaa
open Go Go.Maps Go.WideMaps
open Go.RowKit Go.Shelf Go.Lib Go.Sort
set_option linter.unusedVariables false
set_option linter.unusedSimpArgs false

instance : Inhabited T3 := ⟨(.nil, 0, 0)⟩

theorem cmpT_neg (a1 t1 a2 t2 : Int) : cmpT a1 t1 a2 t2 < 0 ↔ (a1 < a2 ∨ (a1 = a2 ∧ t1 < t2)) := by
  unfold cmpT cmpI
  repeat' split
  all_goals omega

def ltT (x y : T3) : Prop := x.2.1 < y.2.1 ∨ (x.2.1 = y.2.1 ∧ x.2.2 < y.2.2)
/-- No later one is less than an earlier one. -/
def SortedT (D : List T3) : Prop := D.Pairwise (fun x y => ¬ ltT y x)

theorem lt_iff (x y : T3) : ltOf (fun x y : T3 => cmpT x.2.1 x.2.2 y.2.1 y.2.2) x y = true ↔ ltT x y := by
  unfold ltOf ltT
  rw [decide_eq_true_iff]
  exact cmpT_neg _ _ _ _

theorem swo_T : SWO (ltOf (fun x y : T3 => cmpT x.2.1 x.2.2 y.2.1 y.2.2)) where
  irrefl x := by
    rw [← Bool.not_eq_true, lt_iff]
    unfold ltT
    omega
  trans x y z h1 h2 := by
    rw [lt_iff] at h1 h2 ⊢
    unfold ltT at *
    omega
  ntrans x y z h1 h2 := by
    rw [← Bool.not_eq_true, lt_iff] at h1 h2 ⊢
    unfold ltT at *
    omega

theorem cells3_one (x : T3) : ∀ v ∈ cells3 x, v.oneCell' = true := by
  intro v hv
  simp [cells3] at hv
  rcases hv with rfl | rfl | rfl
  · cases h : x.1 <;> rfl
  · rfl
  · rfl

theorem row_get : ∀ (D : List T3) (i c : Nat), i < D.length → c < 3 → (rowOf D)[i * 3 + c]? = (cells3 D[i]!)[c]?
  | [], i, c, h, _ => by simp at h
  | x :: r, 0, c, _, hc => by
    show (cells3 x ++ rowOf r)[0 * 3 + c]? = _
    rw [List.getElem?_append_left (by show _ < 3; omega)]
    simp
  | x :: r, i + 1, c, h, hc => by
    show (cells3 x ++ rowOf r)[(i + 1) * 3 + c]? = _
    rw [List.getElem?_append_right (by show 3 ≤ _; omega)]
    have e : (i + 1) * 3 + c - (cells3 x).length = i * 3 + c := by show _ - 3 = _; omega
    rw [e, row_get r i c (by simpa using h) hc]
    simp

theorem row_len (D : List T3) : (rowOf D).length = D.length * 3 := by
  induction D with
  | nil => rfl
  | cons x r ih => show (cells3 x ++ rowOf r).length = _; rw [List.length_append, ih]; show 3 + _ = _; simp; omega

theorem holdsK_of_own {w : World} {g e : Nat} {cur : Array Value} {D : List T3} (hb : w.heap[g]? = some (.cells cur e (0, 0))) (h4 : cur.toList.take (D.length * 3) = rowOf D) : HoldsK cells3 3 w g 0 D.toArray := by
  intro j hj
  have hj' : j < D.length * 3 := by simpa using hj
  refine ⟨?_, by simp [World.frozen?, hb]⟩
  have h1 : (cur.toList.take (D.length * 3))[j]? = (rowOf D)[j]? := by rw [h4]
  rw [List.getElem?_take_of_lt hj'] at h1
  have e1 : j = j / 3 * 3 + j % 3 := by omega
  have h2 := row_get D (j / 3) (j % 3) (by omega) (by omega)
  rw [← e1] at h2
  rw [h2] at h1
  simp only [World.cell?, hb, Nat.zero_add]
  rw [← Array.getElem?_toList, h1, get_flatK _ _ _ _ (by simpa using hj')]
  rw [List.getElem?_eq_getElem (show j % 3 < (cells3 D[j / 3]!).length by show _ < 3; omega)]
  congr 1
  rw [getElem!_pos (cells3 D.toArray[j / 3]!) (j % 3) (by show _ < 3; omega)]
  simp

/-- THE ENTRIES OF A SLICE. -/
def EntAt (w : World) (v : Value) (D : List T3) : Prop :=
  ∃ p off cap, v = .slice (p.map fun g => ⟨g, off, none⟩) D.length cap ∧ ∀ i x, D[i]? = some x → ∃ g, p = some g ∧ g < w.heap.size ∧
    w.cell? ⟨g, off + i * 3, none⟩ = some x.1.value ∧ w.cell? ⟨g, off + i * 3 + 1, none⟩ = some (.int .i64 x.2.1) ∧ w.cell? ⟨g, off + i * 3 + 2, none⟩ = some (.int .i64 x.2.2)

theorem sorted_post {w : World} {base g n cap : Nat} {D : List T3} {d' : Array T3} {os : Array Obj} (hbase : base ≤ g) (hg : g < w.heap.size) (hH : HoldsK cells3 3 w g 0 D.toArray)
    (hP : PermIn 0 D.length D.toArray d') (hS : SortedIn (ltOf (fun x y : T3 => cmpT x.2.1 x.2.2 y.2.1 y.2.2)) 0 D.length d') :
    ∃ D', D.Perm D' ∧ SortedT D' ∧ EntAt (sortWorldK cells3 3 w g 0 n d' os) (.slice (some ⟨g, 0, none⟩) D.length cap) D' ∧ RowKit.Below base w (sortWorldK cells3 3 w g 0 n d' os) := by
  have es : D.toArray.size = D.length := by simp
  rw [← es] at hP hS
  obtain ⟨hsz, _, hperm⟩ := hP
  have hsz' : d'.toList.length = D.length := by simpa using hsz
  have e1 : d'.extract 0 D.toArray.size = d' := by rw [← hsz]; exact Array.extract_size
  rw [e1, Array.extract_size] at hperm
  have hK := holdsK_sortWorldK cells3 3 w g 0 n D.toArray d' os hg hH hsz
  refine ⟨d'.toList, by simpa using hperm.symm, ?_, ⟨some g, 0, cap, by rw [hsz']; rfl, fun i x hx => ?_⟩, ?_⟩
  · unfold SortedT
    rw [List.pairwise_iff_getElem]
    intro i j hi hj hij hlt
    have hi' : i < d'.size := by simpa using hi
    have hj' : j < d'.size := by simpa using hj
    have := hS i j (Nat.zero_le _) hij (by omega)
    rw [getElem!_pos d' j hj', getElem!_pos d' i hi', ← Bool.not_eq_true, lt_iff] at this
    exact this (by simpa using hlt)
  · have hi : i < d'.size := by simpa using (List.getElem?_eq_some_iff.1 hx).1
    have hxx : d'[i]! = x := by
      rw [getElem!_pos d' i hi]
      have := (List.getElem?_eq_some_iff.1 hx).2
      simpa using this
    have c0 := (hK.cell (i := i) (c := 0) hi (by omega)).1
    have c1 := (hK.cell (i := i) (c := 1) hi (by omega)).1
    have c2 := (hK.cell (i := i) (c := 2) hi (by omega)).1
    rw [hxx] at c0 c1 c2
    exact ⟨g, rfl, lt_sortWorldK cells3 3 w g 0 n d' os hg, c0, c1, c2⟩
  · refine ⟨rfl, rfl, rfl, ?_, fun k hk => ?_⟩
    · simp [sortWorldK, putRowK, putRow, mapBlock, Sort.ahead, grow]
    · unfold sortWorldK
      rw [heap_grow_old _ _ (by simp [putRowK, putRow, mapBlock, Sort.ahead]; omega)]
      have : g ≠ k := by omega
      simp [putRowK, putRow, mapBlock, Sort.ahead, Array.getElem?_modify, this]

theorem agg_ES (w : World) : (isAgg 69).run Try.prog w = .ok true w := Try.isAgg69 w
theorem siz_ES (w : World) : (Go.sizeOf 69).run Try.prog w = .ok 3 w := Try.sizeOf69 w

theorem sortS_c {w : World} {base : Nat} {v : Value} {D : List T3} (O : w.ownsRow base 69 3 v D.length (rowOf D)) (hl : D.length < 1000000000) :
    Calls Try.prog 33 #[v, .func (.func 34) #[] #[]] w fun e w' =>
      e = .returned (.tuple #[]) ∧ ∃ D', D.Perm D' ∧ SortedT D' ∧ EntAt w' v D' ∧ RowKit.Below base w w' := by
  rcases O.2 with ⟨rfl, h0⟩ | ⟨g, cap, cur, rfl, hbase, hb, h1, h2, h3, h4⟩
  · have hD : D = [] := List.length_eq_zero_iff.1 h0
    subst hD
    refine (AnyF.slices_SortFunc_none lay_laysSortS none 0 _ w).mono ?_
    rintro e w' ⟨rfl, rfl⟩
    exact ⟨rfl, [], List.Perm.refl _, List.Pairwise.nil, ⟨none, 0, 0, rfl, fun i x h => by simp at h⟩, RowKit.Below.refl _ _⟩
  · have hH : HoldsK cells3 3 w g 0 D.toArray := holdsK_of_own hb h4
    have eg : ∀ args w, (callFunc 34 args).run Try.prog w = .ok (.enter 34 args) w := enters_of Try.func34 (by kernel_rfl) rfl
    have hglt : g < w.heap.size := (Array.getElem?_eq_some_iff.1 hb).1
    have hcon := AnyQ.slices_SortFunc lay_laysSortS 3 agg_ES siz_ES cells3 (fun _ => rfl) cells3_one (fun x y => cmpT x.2.1 x.2.2 y.2.1 y.2.2) swo_T 34 #[] g 0 cap D.toArray w eg
      (fun m os dk hs x y => due1S_c x.1.value y.1.value x.2.1 x.2.2 y.2.1 y.2.2 _) hH hglt (by simp; omega)
    change Calls Try.prog 33 _ _ _ at hcon
    simp only [List.size_toArray] at hcon
    refine hcon.mono ?_
    rintro e w' ⟨rfl, d', n, os, hP, hS, rfl⟩
    exact ⟨rfl, sorted_post hbase hglt hH hP hS⟩

end Go.Proofs.Ytplaconhpiojbaa
