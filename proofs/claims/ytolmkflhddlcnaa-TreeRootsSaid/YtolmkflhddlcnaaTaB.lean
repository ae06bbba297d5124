/-
  The ends of links: endsOf, the closure, the sort, allEnds. Contracts over the translated program.
-/
import Derived.Test.YtolmkflhddlcnaaTaA
import Derived.Test.YtolmkflhddlcnaaTrS
import Derived.Test.YtolmkflhddlcnaaPrG
import Derived.Test.YtolmkflhddlcnaaPrA
import Derived.Test.YtolmkflhddlcnaaOwnT
import Derived.Lib.QuietBelow
import Derived.StillTailTactics
import Derived.LoopTactic
import Derived.Laws.AppendOwn
import Derived.Shelf.SlSortCmp.WholeK
import Derived.Shelf.SlSortCmp.NoneTotal
namespace Go.Proofs.Ytolmkflhddlcnaa
open Go Go.RowKit Go.Shelf Go.Lib Go.Sort
set_option linter.unusedVariables false
set_option linter.unusedSimpArgs false

/-- An end of the program's: its bridge, its port, its link, its side. -/
abbrev Pe := Int × Int × Int × Int
def cellsPe (e : Pe) : List Value := [.int .i64 e.1, .int .i64 e.2.1, .int .i64 e.2.2.1, .int .i64 e.2.2.2]
def cellsLk (l : Lk) : List Value := [.int .i64 l.1, .int .i64 l.2.1, .int .i64 l.2.2.1, .int .i64 l.2.2.2.1, .int .i64 l.2.2.2.2]
def peA (i : Int) (l : Lk) : Pe := (l.1, l.2.1, i, 0)
def peB (i : Int) (l : Lk) : Pe := (l.2.2.1, l.2.2.2.1, i, 1)
def pendsGo : Int → List Lk → List Pe
  | _, [] => []
  | i, l :: r => peA i l :: peB i l :: pendsGo (i + 1) r
def pendsL (L : List Lk) : List Pe := pendsGo 0 L
theorem pendsGo_snoc (l : Lk) : ∀ (L : List Lk) (i : Int), pendsGo i (L ++ [l]) = pendsGo i L ++ [peA (i + L.length) l, peB (i + L.length) l]
  | [], i => by simp [pendsGo]
  | x :: r, i => by
    show peA i x :: peB i x :: pendsGo (i + 1) (r ++ [l]) = _
    rw [pendsGo_snoc l r (i + 1)]
    have e : i + 1 + (r.length : Int) = i + ((x :: r).length : Int) := by simp; omega
    rw [e]
    rfl
theorem pends_take {L : List Lk} {k : Nat} {l : Lk} (h : L[k]? = some l) : pendsL (L.take (k + 1)) = pendsL (L.take k) ++ [peA k l, peB k l] := by
  obtain ⟨hk, e⟩ := List.getElem?_eq_some_iff.1 h
  unfold pendsL
  rw [List.take_succ_eq_append_getElem hk, e, pendsGo_snoc, List.length_take, Nat.min_eq_left (by omega), Int.zero_add]
theorem pendsGo_len : ∀ (L : List Lk) (i : Int), (pendsGo i L).length = 2 * L.length
  | [], _ => rfl
  | x :: r, i => by show (pendsGo (i + 1) r).length + 1 + 1 = _; rw [pendsGo_len r]; simp; omega
theorem pends_len (L : List Lk) : (pendsL L).length = 2 * L.length := pendsGo_len L 0

/-- The order of ends: by bridge, then by port. -/
def cmpP (x y : Pe) : Int := if cmpN x.1 y.1 ≠ 0 then cmpN x.1 y.1 else cmpN x.2.1 y.2.1
def lssP (x y : Pe) : Prop := x.1 < y.1 ∨ (x.1 = y.1 ∧ x.2.1 < y.2.1)
theorem cmpP_neg (x y : Pe) : cmpP x y < 0 ↔ lssP x y := by
  unfold cmpP cmpN lssP
  repeat' split
  all_goals omega
def orP (x y : Int) : Int := if x ≠ 0 then x else y
instance : Inhabited Pe := ⟨(0, 0, 0, 0)⟩
theorem ltP_iff (x y : Pe) : ltOf cmpP x y = true ↔ lssP x y := by
  unfold ltOf
  rw [decide_eq_true_iff]
  exact cmpP_neg x y
theorem swo_P : SWO (ltOf cmpP) where
  irrefl x := by
    rw [← Bool.not_eq_true, ltP_iff]
    unfold lssP
    omega
  trans x y z h1 h2 := by
    rw [ltP_iff] at h1 h2 ⊢
    unfold lssP at *
    omega
  ntrans x y z h1 h2 := by
    rw [← Bool.not_eq_true, ltP_iff] at h1 h2 ⊢
    unfold lssP at *
    omega

set_option maxHeartbeats 2000000 in
set_option maxRecDepth 100000 in
theorem endsOf_c (i a pa b pb c : Int) (w : World) : Calls Try.prog 34 #[.int .i64 i, .agg #[.int .i64 a, .int .i64 pa, .int .i64 b, .int .i64 pb, .int .i64 c]] w fun e w' => e = .returned (.agg #[.int .i64 a, .int .i64 pa, .int .i64 i, .int .i64 0, .int .i64 b, .int .i64 pb, .int .i64 i, .int .i64 1]) ∧ Below w.heap.size w w' := by
  have hB := fun o p => Lib.hid (((Below.refl w.heap.size w).alloc (Nat.le_refl _) o).alloc (by simp) p)
  go_enter Try.func34, Try.ntmps34
  go_wp2_with fail
  refine bodyPost_ret (v := .agg #[.int .i64 a, .int .i64 pa, .int .i64 i, .int .i64 0, .int .i64 b, .int .i64 pb, .int .i64 i, .int .i64 1]) (by simp [results, Try.results34, go_sem]) rfl ⟨rfl, ?_⟩
  exact (hB _ _).out

set_option maxHeartbeats 4000000 in
set_option maxRecDepth 100000 in
theorem orP_c (b : Nat) (x y : Int) (w : World) (c0 : w.cell? ⟨b, 0, none⟩ = some (.int .i64 x)) (c1 : w.cell? ⟨b, 1, none⟩ = some (.int .i64 y)) :
    Calls Try.prog 37 #[.slice (some ⟨b, 0, none⟩) 2 2] w fun e w' => e = .returned (.int .i64 (orP x y)) ∧ w' = w := by
  unfold orP
  by_cases hx : x = 0
  · subst hx
    rw [if_neg (by simp)]
    by_cases hy : y = 0
    · subst hy
      go_enter Try.func37, Try.ntmps37
      go_wp2_with fail
      refine wp_loop_rounds 3 ?_
      rw [rounds_succ]
      go_wp2
      rw [rounds_succ]
      go_wp2
      rw [rounds_succ]
      go_wp2
      go_ret
      exact ⟨rfl, rfl⟩
    · have k1 := ne_t hy
      obtain ⟨k2, k3⟩ := k1
      go_enter Try.func37, Try.ntmps37
      go_wp2_with fail
      refine wp_loop_rounds 3 ?_
      rw [rounds_succ]
      go_wp2
      rw [rounds_succ]
      go_wp2
      go_ret
      exact ⟨rfl, rfl⟩
  · rw [if_pos hx]
    have k1 := ne_t hx
    obtain ⟨k2, k3⟩ := k1
    go_enter Try.func37, Try.ntmps37
    go_wp2_with fail
    refine wp_loop_rounds 3 ?_
    rw [rounds_succ]
    go_wp2
    go_ret
    exact ⟨rfl, rfl⟩

set_option maxHeartbeats 8000000 in
set_option maxRecDepth 100000 in
theorem endCmp_c (b1 p1 l1 s1 b2 p2 l2 s2 : Int) (w : World) :
    Calls Try.prog 36 #[.agg #[.int .i64 b1, .int .i64 p1, .int .i64 l1, .int .i64 s1], .agg #[.int .i64 b2, .int .i64 p2, .int .i64 l2, .int .i64 s2]] w fun e w' => e = .returned (.int .i64 (cmpP (b1, p1, l1, s1) (b2, p2, l2, s2))) ∧ ∃ q os', w' = grow (w.drewN q) os' := by
  go_enter Try.func36, Try.ntmps36
  go_upto_region 1 with fail
  have x0 : ((w.alloc (.cells #[.int .i64 b1, .int .i64 p1, .int .i64 l1, .int .i64 s1] 54)).alloc (.cells #[.int .i64 b2, .int .i64 p2, .int .i64 l2, .int .i64 s2] 54)).cell? ⟨w.heap.size, 0, none⟩ = some (.int .i64 b1) := by simp [go_sem]
  have x1 : ((w.alloc (.cells #[.int .i64 b1, .int .i64 p1, .int .i64 l1, .int .i64 s1] 54)).alloc (.cells #[.int .i64 b2, .int .i64 p2, .int .i64 l2, .int .i64 s2] 54)).cell? ⟨w.heap.size, 1, none⟩ = some (.int .i64 p1) := by simp [go_sem]
  have y0 : ((w.alloc (.cells #[.int .i64 b1, .int .i64 p1, .int .i64 l1, .int .i64 s1] 54)).alloc (.cells #[.int .i64 b2, .int .i64 p2, .int .i64 l2, .int .i64 s2] 54)).cell? ⟨w.heap.size + 1, 0, none⟩ = some (.int .i64 b2) := by simp [go_sem]
  have y1 : ((w.alloc (.cells #[.int .i64 b1, .int .i64 p1, .int .i64 l1, .int .i64 s1] 54)).alloc (.cells #[.int .i64 b2, .int .i64 p2, .int .i64 l2, .int .i64 s2] 54)).cell? ⟨w.heap.size + 1, 1, none⟩ = some (.int .i64 p2) := by simp [go_sem]
  obtain ⟨os0, hos⟩ : ∃ os, Hid (((w.alloc (.cells #[.int .i64 b1, .int .i64 p1, .int .i64 l1, .int .i64 s1] 54)).alloc (.cells #[.int .i64 b2, .int .i64 p2, .int .i64 l2, .int .i64 s2] 54)) = grow w os) := ⟨_, Lib.hid (by rw [alloc_eq_grow, alloc_eq_grow, grow_grow])⟩
  generalize ((w.alloc (.cells #[.int .i64 b1, .int .i64 p1, .int .i64 l1, .int .i64 s1] 54)).alloc (.cells #[.int .i64 b2, .int .i64 p2, .int .i64 l2, .int .i64 s2] 54)) = W at x0 x1 y0 y1 hos ⊢
  go_still_tail 10, (by kernel_rfl)
  repeat (first | still_call (compareI_c _ _ _) | still_step)
  refine wpStill_nil ?_
  change wpList _ _ _ _ _ W.drew
  have hE := Lib.hid (show grow (w.drewN 1) os0 = W.drew by rw [hos.out]; rfl)
  clear x0 x1 y0 y1 hos
  generalize W.drew = W2 at hE ⊢
  have HC := Lib.hid (fun (V : World) (x y : Int) => orP_c V.heap.size x y (V.alloc (.cells #[.int .i64 x, .int .i64 y] 3)) (by simp [go_sem]) (by simp [go_sem]))
  have hR := Lib.hid (show orP (cmpN b1 b2) (cmpN p1 p2) = cmpP (b1, p1, l1, s1) (b2, p2, l2, s2) from rfl)
  generalize cmpN b1 b2 = m1 at *
  generalize cmpN p1 p2 = m2 at *
  go_wp2_with (go_at_call 37; refine (HC.out _ _ _).mono ?_; rintro e w1 ⟨rfl, rfl⟩)
  go_ret
  refine ⟨by rw [← hR.out]; rfl, 1, os0.push (.cells #[.int .i64 m1, .int .i64 m2] 3), ?_⟩
  rw [← hE.out, alloc_eq_grow, grow_grow, Array.push_eq_append]

theorem cellsPe_one (e : Pe) : ∀ v ∈ cellsPe e, v.oneCell' = true := by
  intro v hv
  simp [cellsPe] at hv
  rcases hv with rfl | rfl | rfl | rfl <;> rfl
theorem rowP_len (D : List Pe) : (D.flatMap cellsPe).length = D.length * 4 := by
  induction D with
  | nil => rfl
  | cons x r ih => rw [List.flatMap_cons, List.length_append, ih]; show 4 + _ = _; simp; omega
theorem rowP_get : ∀ (D : List Pe) (i c : Nat), i < D.length → c < 4 → (D.flatMap cellsPe)[i * 4 + c]? = (cellsPe D[i]!)[c]?
  | [], i, c, h, _ => by simp at h
  | x :: r, 0, c, _, hc => by
    rw [List.flatMap_cons, List.getElem?_append_left (by show _ < 4; omega)]
    simp
  | x :: r, i + 1, c, h, hc => by
    rw [List.flatMap_cons, List.getElem?_append_right (by show 4 ≤ _; omega)]
    have e : (i + 1) * 4 + c - (cellsPe x).length = i * 4 + c := by show _ - 4 = _; omega
    rw [e, rowP_get r i c (by simpa using h) hc]
    simp
theorem holdsP {w : World} {g e : Nat} {cur : Array Value} {D : List Pe} (hb : w.heap[g]? = some (.cells cur e (0, 0))) (h4 : cur.toList.take (D.length * 4) = D.flatMap cellsPe) : HoldsK cellsPe 4 w g 0 D.toArray := by
  intro j hj
  have hj' : j < D.length * 4 := by simpa using hj
  refine ⟨?_, by simp [World.frozen?, hb]⟩
  have h1 : (cur.toList.take (D.length * 4))[j]? = (D.flatMap cellsPe)[j]? := by rw [h4]
  rw [List.getElem?_take_of_lt hj'] at h1
  have e1 : j = j / 4 * 4 + j % 4 := by omega
  have h2 := rowP_get D (j / 4) (j % 4) (by omega) (by omega)
  rw [← e1] at h2
  rw [h2] at h1
  simp only [World.cell?, hb, Nat.zero_add]
  rw [← Array.getElem?_toList, h1, get_flatK _ _ _ _ (by simpa using hj')]
  rw [List.getElem?_eq_getElem (show j % 4 < (cellsPe D[j / 4]!).length by show _ < 4; omega)]
  congr 1
  rw [getElem!_pos (cellsPe D.toArray[j / 4]!) (j % 4) (by show _ < 4; omega)]
  simp
theorem agg_P (w : World) : (isAgg 54).run Try.prog w = .ok true w := Try.isAgg54 w
theorem siz_P (w : World) : (Go.sizeOf 54).run Try.prog w = .ok 4 w := Try.sizeOf54 w
/-- Sorted. -/
def UpP (R : List Pe) : Prop := R.Pairwise fun x y => ¬ lssP y x
theorem sorted_P {w : World} {base g n cap : Nat} {D : List Pe} {d' : Array Pe} {os : Array Obj} (hbase : base ≤ g) (hg : g < w.heap.size) (hH : HoldsK cellsPe 4 w g 0 D.toArray)
    (hP : PermIn 0 D.length D.toArray d') (hS : SortedIn (ltOf cmpP) 0 D.length d') :
    ∃ R, R.Perm D ∧ UpP R ∧ RowsAt 4 cellsPe (sortWorldK cellsPe 4 w g 0 n d' os) (.slice (some ⟨g, 0, none⟩) D.length cap) R ∧ RowKit.Below base w (sortWorldK cellsPe 4 w g 0 n d' os) := by
  have es : D.toArray.size = D.length := by simp
  rw [← es] at hP hS
  obtain ⟨hsz, _, hperm⟩ := hP
  have hsz' : d'.toList.length = D.length := by simpa using hsz
  have e1 : d'.extract 0 D.toArray.size = d' := by rw [← hsz]; exact Array.extract_size
  rw [e1, Array.extract_size] at hperm
  have hK := holdsK_sortWorldK cellsPe 4 w g 0 n D.toArray d' os hg hH hsz
  have hDp : d'.toList.Perm D := by simpa using hperm
  have hso : UpP d'.toList := by
    unfold UpP
    rw [List.pairwise_iff_getElem]
    intro i j hi hj hij hlt
    have hi' : i < d'.size := by simpa using hi
    have hj' : j < d'.size := by simpa using hj
    have := hS i j (Nat.zero_le _) hij (by omega)
    rw [getElem!_pos d' j hj', getElem!_pos d' i hi', ← Bool.not_eq_true, ltP_iff] at this
    exact this (by simpa using hlt)
  refine ⟨d'.toList, hDp, hso, ⟨_, cap, g, 0, by rw [hsz'], fun _ => rfl, fun j x hx c u hu => ?_⟩, ?_⟩
  · have hi : j < d'.size := by simpa using (List.getElem?_eq_some_iff.1 hx).1
    have hxx : d'[j]! = x := by
      rw [getElem!_pos d' j hi]
      have := (List.getElem?_eq_some_iff.1 hx).2
      simpa using this
    have hc : c < 4 := (List.getElem?_eq_some_iff.1 hu).1
    have c0 := hK.cell (i := j) (c := c) hi hc
    rw [hxx] at c0
    have h1 := c0.1
    obtain ⟨hc', hu'⟩ := List.getElem?_eq_some_iff.1 hu
    rw [getElem!_pos (cellsPe x) c hc', hu'] at h1
    exact h1
  · refine ⟨rfl, rfl, rfl, ?_, fun k hk => ?_⟩
    · simp [sortWorldK, putRowK, putRow, mapBlock, Sort.ahead, grow]
    · unfold sortWorldK
      rw [heap_grow_old _ _ (by simp [putRowK, putRow, mapBlock, Sort.ahead]; omega)]
      have : g ≠ k := by omega
      simp [putRowK, putRow, mapBlock, Sort.ahead, Array.getElem?_modify, this]
theorem sortP_c {w : World} {base : Nat} {v : Value} {D : List Pe} (O : w.ownsRow base 54 4 v D.length (D.flatMap cellsPe)) (hl : D.length < 1000000000) :
    Calls Try.prog 35 #[v, .func (.func 36) #[] #[]] w fun e w' => e = .returned (.tuple #[]) ∧ ∃ R, R.Perm D ∧ UpP R ∧ RowsAt 4 cellsPe w' v R ∧ RowKit.Below base w w' := by
  rcases O.2 with ⟨rfl, h0⟩ | ⟨g, cap, cur, rfl, hbase, hb, h1, h2, h3, h4⟩
  · have hD : D = [] := List.length_eq_zero_iff.1 h0
    subst hD
    refine (AnyF.slices_SortFunc_none lay_laysSortP none 0 _ w).mono ?_
    rintro e w' ⟨rfl, rfl⟩
    exact ⟨rfl, [], List.Perm.refl _, List.Pairwise.nil, RowsAt.nil _, RowKit.Below.refl _ _⟩
  · have hH : HoldsK cellsPe 4 w g 0 D.toArray := holdsP hb h4
    have eg : ∀ args w, (callFunc 36 args).run Try.prog w = .ok (.enter 36 args) w := enters_of Try.func36 (by kernel_rfl) rfl
    have hglt : g < w.heap.size := (Array.getElem?_eq_some_iff.1 hb).1
    have hcon := AnyQ.slices_SortFunc lay_laysSortP 4 agg_P siz_P cellsPe (fun _ => rfl) cellsPe_one cmpP swo_P 36 #[] g 0 cap D.toArray w eg
      (fun m os dk hs x y => endCmp_c x.1 x.2.1 x.2.2.1 x.2.2.2 y.1 y.2.1 y.2.2.1 y.2.2.2 _) hH hglt (by simp; omega)
    change Calls Try.prog 35 _ _ _ at hcon
    simp only [List.size_toArray] at hcon
    refine hcon.mono ?_
    rintro e w' ⟨rfl, d', n, os, hP, hS, rfl⟩
    obtain ⟨R, r1, r2, r3, r4⟩ := sorted_P (n := n) (cap := cap) (os := os) hbase hglt hH hP hS
    exact ⟨rfl, R, r1, r2, r3, r4⟩

end Go.Proofs.Ytolmkflhddlcnaa
