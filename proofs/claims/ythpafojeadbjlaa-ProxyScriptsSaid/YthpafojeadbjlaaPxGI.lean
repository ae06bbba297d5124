/-
  slices.SortFunc at the places of a proxy: laid on the shelf.
  'Proxy.of': the places of a VLAN, sorted. Contracts over the translated program.
  'Proxy.of'. A contract over the translated program.
-/
import Derived.Test.YthpafojeadbjlaaProg
import Derived.Shelf.SlSortCmp.WholeK
import Derived.Shelf.SlSortCmp.NoneTotal
import Derived.Ground.SlsfProg
import Derived.Test.YthpafojeadbjlaaPxKE
import Derived.Test.YthpafojeadbjlaaStrL
import Derived.Maps.AppendAt
import Derived.Lib.QuietBelow
namespace Go.Proofs.Ythpafojeadbjlaa
open Go Go.Maps Go.WideMaps Go.RowKit Go.Shelf Go.Lib Go.Sort
set_option linter.unusedVariables false
set_option linter.unusedSimpArgs false

def lay_laysSortP_ren : Go.Shelf.Ren := ⟨fun | 6 => 64 | 15 => 79 | 14 => 78 | 28 => 91 | 29 => 92 | 20 => 83 | 21 => 84 | 22 => 85 | 23 => 86 | 24 => 87 | 25 => 88 | 26 => 89 | 27 => 90 | 46 => 102 | 47 => 103 | 48 => 104 | 49 => 105 | 50 => 106 | 57 => 110 | n => n, fun | 22 => 86 | 24 => 77 | 25 => 105 | 3 => 3 | 39 => 114 | 0 => 0 | 53 => 125 | 55 => 127 | 4 => 4 | 46 => 118 | 45 => 117 | 50 => 122 | 5 => 5 | 9 => 9 | 66 => 135 | 70 => 139 | 76 => 143 | 77 => 144 | n => n, fun | n => n⟩

theorem lay_laysSortP : Go.Proofs.SlLaysF0.n6 Try.prog lay_laysSortP_ren := {
  mixed := by kernel_rfl
  f6 := ⟨Try.f64.name, by decide, Try.func64.trans (congrArg some (by kernel_rfl))⟩
  f14 := ⟨Try.f78.name, by decide, Try.func78.trans (congrArg some (by kernel_rfl))⟩
  f15 := Try.func79.trans (congrArg some (by kernel_rfl))
  f20 := ⟨Try.f83.name, by decide, Try.func83.trans (congrArg some (by kernel_rfl))⟩
  f21 := ⟨Try.f84.name, by decide, Try.func84.trans (congrArg some (by kernel_rfl))⟩
  f22 := ⟨Try.f85.name, by decide, Try.func85.trans (congrArg some (by kernel_rfl))⟩
  f23 := ⟨Try.f86.name, by decide, Try.func86.trans (congrArg some (by kernel_rfl))⟩
  f24 := ⟨Try.f87.name, by decide, Try.func87.trans (congrArg some (by kernel_rfl))⟩
  f25 := ⟨Try.f88.name, by decide, Try.func88.trans (congrArg some (by kernel_rfl))⟩
  f26 := ⟨Try.f89.name, by decide, Try.func89.trans (congrArg some (by kernel_rfl))⟩
  f27 := ⟨Try.f90.name, by decide, Try.func90.trans (congrArg some (by kernel_rfl))⟩
  f28 := Try.func91.trans (congrArg some (by kernel_rfl))
  f29 := Try.func92.trans (congrArg some (by kernel_rfl))
  f46 := ⟨Try.f102.name, by decide, Try.func102.trans (congrArg some (by kernel_rfl))⟩
  f47 := Try.func103.trans (congrArg some (by kernel_rfl))
  f48 := Try.func104.trans (congrArg some (by kernel_rfl))
  f49 := ⟨Try.f105.name, by decide, Try.func105.trans (congrArg some (by kernel_rfl))⟩
  f50 := ⟨Try.f106.name, by decide, Try.func106.trans (congrArg some (by kernel_rfl))⟩
  f57 := ⟨Try.f110.name, by decide, Try.func110.trans (congrArg some (by kernel_rfl))⟩
  t0 := Try.underlying0
  a0 := Try.isAgg0
  z0 := Try.sizeOf0
  v0 := Try.zeroValue0
  t3 := Try.underlying3
  a3 := Try.isAgg3
  z3 := Try.sizeOf3
  v3 := Try.zeroValue3
  t4 := Try.underlying4
  a4 := Try.isAgg4
  z4 := Try.sizeOf4
  v4 := Try.zeroValue4
  t5 := Try.underlying5
  a5 := Try.isAgg5
  z5 := Try.sizeOf5
  v5 := Try.zeroValue5
  t9 := Try.underlying9
  a9 := Try.isAgg9
  z9 := Try.sizeOf9
  v9 := Try.zeroValue9
  t22 := Try.underlying86
  a22 := Try.isAgg86
  z22 := Try.sizeOf86
  v22 := Try.zeroValue86
  t25 := Try.underlying105
  a25 := Try.isAgg105
  z25 := Try.sizeOf105
  v25 := Try.zeroValue105
  t39 := Try.underlying114
  a39 := Try.isAgg114
  z39 := Try.sizeOf114
  v39 := Try.zeroValue114
  t45 := Try.underlying117
  a45 := Try.isAgg117
  z45 := Try.sizeOf117
  v45 := Try.zeroValue117
  t46 := Try.underlying118
  a46 := Try.isAgg118
  z46 := Try.sizeOf118
  v46 := Try.zeroValue118
  t50 := Try.underlying122
  a50 := Try.isAgg122
  z50 := Try.sizeOf122
  v50 := Try.zeroValue122
  t53 := Try.underlying125
  a53 := Try.isAgg125
  z53 := Try.sizeOf125
  v53 := Try.zeroValue125
  t55 := Try.underlying127
  a55 := Try.isAgg127
  z55 := Try.sizeOf127
  v55 := Try.zeroValue127
  t66 := Try.underlying135
  a66 := Try.isAgg135
  z66 := Try.sizeOf135
  v66 := Try.zeroValue135
  t70 := Try.underlying139
  a70 := Try.isAgg139
  z70 := Try.sizeOf139
  v70 := Try.zeroValue139
  t76 := Try.underlying143
  a76 := Try.isAgg143
  z76 := Try.sizeOf143
  v76 := Try.zeroValue143
  t77 := Try.underlying144
  a77 := Try.isAgg144
  z77 := Try.sizeOf144
  v77 := Try.zeroValue144 }

variable {w w' : World} {p mb : Nat} {room : Int} {R : List Pr}

/-- cmp.Compare at addresses. -/
def cmpG (a b : ByteArray) : Int := if sl a b then -1 else if sl b a then 1 else 0
theorem cmpG_neg (a b : ByteArray) : cmpG a b < 0 ↔ sl a b = true := by
  unfold cmpG
  rcases h : sl a b with _ | _
  · rcases h2 : sl b a with _ | _ <;> simp
  · simp
theorem sgtrB_of {x y : ByteArray} {r : Bool} (h : blt y x = r) (t : TypeId) : binOp .gtr t (.string x) (.string y) = pure (.bool r) := by
  have e : (!Op.bytesLess x.toList y.toList && !x.toList == y.toList) = blt y x := by
    rcases h1 : blt y x with _ | _
    · rcases h2 : blt x y with _ | _
      · obtain rfl := blt_tri h1 h2
        simp
      · unfold blt at h2
        rw [h2]
        rfl
    · have h2 := blt_asym h1
      have h3 : x.toList ≠ y.toList := fun e => blt_ne h1 (bl_ext (by rw [← Lib.toList_data, ← Lib.toList_data, e])).symm
      unfold blt at h2
      rw [h2]
      simp [h3]
  rw [← h, ← e]
  simp [binOp, Op.stringOp]
theorem sgtrG_of {x y : ByteArray} {r : Bool} (h : sl y x = r) (t : TypeId) : binOp .gtr t (.string x) (.string y) = pure (.bool r) := sgtrB_of (show blt y x = r from h) t
theorem fnanG_c (a : ByteArray) (w : World) : Calls Try.prog 80 #[.string a] w fun e w' => e = .returned (.bool false) ∧ w' = w := by
  have g1 := fun t => sneq_of (x := a) (y := a) (r := true) (decide_eq_true rfl) t
  go_enter Try.func80, Try.ntmps80
  go_wp2
  go_ret
  exact ⟨by simp, rfl⟩

theorem fcompareG_c (a b : ByteArray) (w : World) : Calls Try.prog 66 #[.string a, .string b] w fun e w' => e = .returned (.int .i64 (cmpG a b)) ∧ w' = w := by
  have HN := fun x W => Lib.hid (fnanG_c x W)
  unfold cmpG
  cases h1 : sl a b with
  | true =>
    have k1 := fun t => slss_of h1 t
    rw [if_pos rfl]
    clear h1
    go_enter Try.func66, Try.ntmps66
    go_wp2_with (go_at_call 80; refine (HN _ _).out.mono ?_; rintro e w1 ⟨rfl, rfl⟩)
    go_ret
    exact ⟨rfl, rfl⟩
  | false =>
    have k1 := fun t => slss_of h1 t
    rw [if_neg (by simp)]
    cases h2 : sl b a with
    | true =>
      have k2 := fun t => sgtrG_of h2 t
      rw [if_pos rfl]
      clear h1 h2
      go_enter Try.func66, Try.ntmps66
      go_wp2_with (go_at_call 80; refine (HN _ _).out.mono ?_; rintro e w1 ⟨rfl, rfl⟩)
      go_ret
      exact ⟨rfl, rfl⟩
    | false =>
      have k2 := fun t => sgtrG_of h2 t
      rw [if_neg (by simp)]
      clear h1 h2
      go_enter Try.func66, Try.ntmps66
      go_wp2_with (go_at_call 80; refine (HN _ _).out.mono ?_; rintro e w1 ⟨rfl, rfl⟩)
      go_ret
      exact ⟨rfl, rfl⟩


abbrev Pk := Int × ByteArray
instance : Inhabited Pk := ⟨(0, ⟨#[]⟩)⟩
def cellsPk (e : Pk) : List Value := [.int .i64 e.1, .string e.2]
def rowPk (D : List Pk) : List Value := D.flatMap cellsPk
def pkR (x : Pr) : Pk := (x.vl, x.gr)

set_option maxHeartbeats 8000000 in
set_option maxRecDepth 100000 in
theorem pcmp_c (v1 : Int) (g1 : ByteArray) (v2 : Int) (g2 : ByteArray) (w : World) :
    Calls Try.prog 65 #[.agg #[.int .i64 v1, .string g1], .agg #[.int .i64 v2, .string g2]] w fun e w' => e = .returned (.int .i64 (cmpG g1 g2)) ∧ ∃ q os', w' = grow (w.drewN q) os' := by
  go_enter Try.func65, Try.ntmps65
  go_upto_region 1 with fail
  have x1 : ((w.alloc (.cells #[.int .i64 v1, .string g1] 77)).alloc (.cells #[.int .i64 v2, .string g2] 77)).cell? ⟨w.heap.size, 1, none⟩ = some (.string g1) := by simp [go_sem]
  have y1 : ((w.alloc (.cells #[.int .i64 v1, .string g1] 77)).alloc (.cells #[.int .i64 v2, .string g2] 77)).cell? ⟨w.heap.size + 1, 1, none⟩ = some (.string g2) := by simp [go_sem]
  obtain ⟨os0, hos⟩ : ∃ os, Hid (((w.alloc (.cells #[.int .i64 v1, .string g1] 77)).alloc (.cells #[.int .i64 v2, .string g2] 77)) = grow w os) := ⟨_, Lib.hid (by rw [alloc_eq_grow, alloc_eq_grow, grow_grow])⟩
  generalize ((w.alloc (.cells #[.int .i64 v1, .string g1] 77)).alloc (.cells #[.int .i64 v2, .string g2] 77)) = W at x1 y1 hos ⊢
  have HC := Lib.hid fun U => fcompareG_c g1 g2 U
  go_wp2_with fail
  ((with_reducible refine (HC.out _).mono ?_); rintro e w1 ⟨rfl, rfl⟩)
  clear x1 y1
  go_wp2_with fail
  go_ret
  exact ⟨rfl, 0, os0, hos.out⟩

theorem cellsPk_one (e : Pk) : ∀ v ∈ cellsPk e, v.oneCell' = true := by
  intro v hv
  simp [cellsPk] at hv
  rcases hv with rfl | rfl <;> rfl
theorem ltg_iff (x y : Pk) : ltOf (fun x y : Pk => cmpG x.2 y.2) x y = true ↔ sl x.2 y.2 = true := by
  unfold ltOf
  rw [decide_eq_true_iff]
  exact cmpG_neg _ _
theorem swo_G : SWO (ltOf (fun x y : Pk => cmpG x.2 y.2)) where
  irrefl x := by
    rw [← Bool.not_eq_true, ltg_iff, sl_irrefl]
    simp
  trans x y z h1 h2 := by
    rw [ltg_iff] at h1 h2 ⊢
    exact sl_trans h1 h2
  ntrans x y z h1 h2 := by
    rw [← Bool.not_eq_true, ltg_iff] at h1 h2 ⊢
    intro h3
    rcases k : sl x.2 y.2 with _ | _
    · rcases k2 : sl y.2 x.2 with _ | _
      · have e1 := sl_tri k k2
        rw [e1] at h3
        exact h2 h3
      · exact h2 (sl_trans k2 h3)
    · exact h1 k
theorem rowPk_len (D : List Pk) : (rowPk D).length = D.length * 2 := by
  induction D with
  | nil => rfl
  | cons x r ih => show (cellsPk x ++ rowPk r).length = _; rw [List.length_append, ih]; show 2 + _ = _; simp; omega
theorem rowPk_get : ∀ (D : List Pk) (i c : Nat), i < D.length → c < 2 → (rowPk D)[i * 2 + c]? = (cellsPk D[i]!)[c]?
  | [], i, c, h, _ => by simp at h
  | x :: r, 0, c, _, hc => by
    show (cellsPk x ++ rowPk r)[0 * 2 + c]? = _
    rw [List.getElem?_append_left (by show _ < 2; omega)]
    simp
  | x :: r, i + 1, c, h, hc => by
    show (cellsPk x ++ rowPk r)[(i + 1) * 2 + c]? = _
    rw [List.getElem?_append_right (by show 2 ≤ _; omega)]
    have e : (i + 1) * 2 + c - (cellsPk x).length = i * 2 + c := by show _ - 2 = _; omega
    rw [e, rowPk_get r i c (by simpa using h) hc]
    simp
theorem holdsK_own2 {w : World} {g e : Nat} {cur : Array Value} {D : List Pk} (hb : w.heap[g]? = some (.cells cur e (0, 0))) (h4 : cur.toList.take (D.length * 2) = rowPk D) : HoldsK cellsPk 2 w g 0 D.toArray := by
  intro j hj
  have hj' : j < D.length * 2 := by simpa using hj
  refine ⟨?_, by simp [World.frozen?, hb]⟩
  have h1 : (cur.toList.take (D.length * 2))[j]? = (rowPk D)[j]? := by rw [h4]
  rw [List.getElem?_take_of_lt hj'] at h1
  have e1 : j = j / 2 * 2 + j % 2 := by omega
  have h2 := rowPk_get D (j / 2) (j % 2) (by omega) (by omega)
  rw [← e1] at h2
  rw [h2] at h1
  simp only [World.cell?, hb, Nat.zero_add]
  rw [← Array.getElem?_toList, h1, get_flatK _ _ _ _ (by simpa using hj')]
  rw [List.getElem?_eq_getElem (show j % 2 < (cellsPk D[j / 2]!).length by show _ < 2; omega)]
  congr 1
  rw [getElem!_pos (cellsPk D.toArray[j / 2]!) (j % 2) (by show _ < 2; omega)]
  simp

/-- PLACES OF A SLICE, in memory made since base. -/
def PkAt (w : World) (base : Nat) (v : Value) (D : List Pk) : Prop :=
  (v = .slice none 0 0 ∧ D = []) ∨ ∃ g cap, v = .slice (some ⟨g, 0, none⟩) D.length cap ∧ base ≤ g ∧ g < w.heap.size ∧
    ∀ i e, D[i]? = some e → w.cell? ⟨g, i * 2, none⟩ = some (.int .i64 e.1) ∧ w.cell? ⟨g, i * 2 + 1, none⟩ = some (.string e.2)
def UpG (D : List Pk) : Prop := D.Pairwise (fun x y => sl x.2 y.2 = true)
theorem one_orderG {D Rs : List Pk} (hu : UpG Rs) (hp : Rs.Perm D) (hs : D.Pairwise (fun x y => ¬ sl y.2 x.2 = true)) : D = Rs := by
  refine (List.Perm.eq_of_pairwise (le := fun x y : Pk => ¬ sl y.2 x.2 = true) ?_ ?_ hs hp).symm
  · intro a b ha hb h1 h2
    have tri : ∀ l : List Pk, UpG l → ∀ a ∈ l, ∀ b ∈ l, a = b ∨ sl a.2 b.2 = true ∨ sl b.2 a.2 = true := by
      intro l
      induction l with
      | nil => intro _ a ha; cases ha
      | cons x r ih =>
        intro hl a ha b hb
        obtain ⟨q1, q2⟩ := List.pairwise_cons.1 hl
        rcases List.mem_cons.1 ha with h1 | h1
        · rcases List.mem_cons.1 hb with h2 | h2
          · exact Or.inl (h1.trans h2.symm)
          · exact Or.inr (Or.inl (by rw [h1]; exact q1 b h2))
        · rcases List.mem_cons.1 hb with h2 | h2
          · exact Or.inr (Or.inr (by rw [h2]; exact q1 a h1))
          · exact ih q2 a h1 b h2
    rcases tri Rs hu a ha b (hp.mem_iff.2 hb) with e | e | e
    · exact e
    · exact absurd e h2
    · exact absurd e h1
  · exact hu.imp fun {a b} h h2 => by rw [sl_asym h] at h2; cases h2
theorem agg_PK (w : World) : (isAgg 77).run Try.prog w = .ok true w := Try.isAgg77 w
theorem siz_PK (w : World) : (Go.sizeOf 77).run Try.prog w = .ok 2 w := Try.sizeOf77 w
theorem sorted_G {w : World} {base g n cap : Nat} {D Rs : List Pk} {d' : Array Pk} {os : Array Obj} (hbase : base ≤ g) (hg : g < w.heap.size) (hH : HoldsK cellsPk 2 w g 0 D.toArray) (hu : UpG Rs) (hRD : Rs.Perm D)
    (hP : PermIn 0 D.length D.toArray d') (hS : SortedIn (ltOf (fun x y : Pk => cmpG x.2 y.2)) 0 D.length d') :
    PkAt (sortWorldK cellsPk 2 w g 0 n d' os) base (.slice (some ⟨g, 0, none⟩) D.length cap) Rs ∧ RowKit.Below base w (sortWorldK cellsPk 2 w g 0 n d' os) := by
  have es : D.toArray.size = D.length := by simp
  rw [← es] at hP hS
  obtain ⟨hsz, _, hperm⟩ := hP
  have hsz' : d'.toList.length = D.length := by simpa using hsz
  have e1 : d'.extract 0 D.toArray.size = d' := by rw [← hsz]; exact Array.extract_size
  rw [e1, Array.extract_size] at hperm
  have hK := holdsK_sortWorldK cellsPk 2 w g 0 n D.toArray d' os hg hH hsz
  have hDp : Rs.Perm d'.toList := hRD.trans (by simpa using hperm.symm)
  have hso : d'.toList.Pairwise (fun x y => ¬ sl y.2 x.2 = true) := by
    rw [List.pairwise_iff_getElem]
    intro i j hi hj hij hlt
    have hi' : i < d'.size := by simpa using hi
    have hj' : j < d'.size := by simpa using hj
    have := hS i j (Nat.zero_le _) hij (by omega)
    rw [getElem!_pos d' j hj', getElem!_pos d' i hi', ← Bool.not_eq_true, ltg_iff] at this
    exact this (by simpa using hlt)
  have hRe := one_orderG hu hDp hso
  constructor
  · refine Or.inr ⟨g, cap, by rw [← hRe, hsz'], hbase, lt_sortWorldK cellsPk 2 w g 0 n d' os hg, fun i x hx => ?_⟩
    rw [← hRe] at hx
    have hi : i < d'.size := by simpa using (List.getElem?_eq_some_iff.1 hx).1
    have hxx : d'[i]! = x := by
      rw [getElem!_pos d' i hi]
      have := (List.getElem?_eq_some_iff.1 hx).2
      simpa using this
    have c0 := hK.cell (i := i) (c := 0) hi (by omega)
    have c1 := hK.cell (i := i) (c := 1) hi (by omega)
    rw [hxx] at c0 c1
    simp only [Nat.zero_add] at c0 c1
    exact ⟨c0.1, c1.1⟩
  · refine ⟨rfl, rfl, rfl, ?_, fun k hk => ?_⟩
    · simp [sortWorldK, putRowK, putRow, mapBlock, Sort.ahead, grow]
    · unfold sortWorldK
      rw [heap_grow_old _ _ (by simp [putRowK, putRow, mapBlock, Sort.ahead]; omega)]
      have : g ≠ k := by omega
      simp [putRowK, putRow, mapBlock, Sort.ahead, Array.getElem?_modify, this]
theorem sortG_c {w : World} {base : Nat} {v : Value} {D Rs : List Pk} (O : w.ownsRow base 77 2 v D.length (rowPk D)) (hl : D.length < 1000000000) (hu : UpG Rs) (hRD : Rs.Perm D) :
    Calls Try.prog 64 #[v, .func (.func 65) #[] #[]] w fun e w' => e = .returned (.tuple #[]) ∧ PkAt w' base v Rs ∧ RowKit.Below base w w' := by
  rcases O.2 with ⟨rfl, h0⟩ | ⟨g, cap, cur, rfl, hbase, hb, h1, h2, h3, h4⟩
  · have hD : D = [] := List.length_eq_zero_iff.1 h0
    subst hD
    refine (AnyF.slices_SortFunc_none lay_laysSortP none 0 _ w).mono ?_
    rintro e w' ⟨rfl, rfl⟩
    exact ⟨rfl, Or.inl ⟨rfl, hRD.eq_nil⟩, RowKit.Below.refl _ _⟩
  · have hH : HoldsK cellsPk 2 w g 0 D.toArray := holdsK_own2 hb h4
    have eg : ∀ args w, (callFunc 65 args).run Try.prog w = .ok (.enter 65 args) w := enters_of Try.func65 (by kernel_rfl) rfl
    have hglt : g < w.heap.size := (Array.getElem?_eq_some_iff.1 hb).1
    have hcon := AnyQ.slices_SortFunc lay_laysSortP 2 agg_PK siz_PK cellsPk (fun _ => rfl) cellsPk_one (fun x y : Pk => cmpG x.2 y.2) swo_G 65 #[] g 0 cap D.toArray w eg
      (fun m os dk hs x y => pcmp_c x.1 x.2 y.1 y.2 _) hH hglt (by simp; omega)
    change Calls Try.prog 64 _ _ _ at hcon
    simp only [List.size_toArray] at hcon
    refine hcon.mono ?_
    rintro e w' ⟨rfl, d', n, os, hP, hS, rfl⟩
    exact ⟨rfl, sorted_G hbase hglt hH hu hRD hP hS⟩

theorem perm_map_inv {α β : Type} (f : α → β) : ∀ {l3 m3 : List β}, l3.Perm m3 → ∀ l : List α, l3 = l.map f → ∃ m, l.Perm m ∧ m3 = m.map f := by
  intro l3 m3 h
  induction h with
  | nil => intro l e; exact ⟨l, List.Perm.refl _, e⟩
  | cons x _ ih =>
    intro l e
    cases l with
    | nil => cases e
    | cons a r =>
      rw [List.map_cons] at e
      injection e with e1 e2
      obtain ⟨m, h1, h2⟩ := ih r e2
      exact ⟨a :: m, h1.cons a, by rw [List.map_cons, h2, e1]⟩
  | swap x y r =>
    intro l e
    match l, e with
    | a :: b :: s, e =>
      rw [List.map_cons, List.map_cons] at e
      injection e with e1 e2
      injection e2 with e2 e3
      exact ⟨b :: a :: s, List.Perm.swap b a s, by rw [List.map_cons, List.map_cons, e1, e2, e3]⟩
  | trans _ _ ih1 ih2 =>
    intro l e
    obtain ⟨m, h1, h2⟩ := ih1 l e
    obtain ⟨n, h3, h4⟩ := ih2 m h2
    exact ⟨n, h1.trans h3, h4⟩
def WfPk (e : Pk) : Prop := WfK e.1 e.2
def litPk (e : Pk) : Lit := litE e.1 e.2
theorem inj_lit : ∀ {l m : List Pk}, (∀ e ∈ l, WfPk e) → (∀ e ∈ m, WfPk e) → l.map litPk = m.map litPk → l = m
  | [], [], _, _, _ => rfl
  | [], b :: m, _, _, e => by cases e
  | a :: l, [], _, _, e => by cases e
  | a :: l, b :: m, hl, hm, e => by
    rw [List.map_cons, List.map_cons] at e
    injection e with e1 e2
    have := litE_inj (hl a (by simp)) (hm b (by simp)) e1
    rw [inj_lit (fun x hx => hl x (by simp [hx])) (fun x hx => hm x (by simp [hx])) e2, Prod.ext this.1 this.2]
theorem perm_lit {l m : List Pk} (hl : ∀ e ∈ l, WfPk e) (hm : ∀ e ∈ m, WfPk e) (h : (l.map litPk).Perm (m.map litPk)) : l.Perm m := by
  obtain ⟨k, h1, h2⟩ := perm_map_inv litPk h l rfl
  have := inj_lit hm (fun e he => hl e (h1.mem_iff.2 he)) h2
  rw [this]
  exact h1
theorem keys_mP (R : List Pr) : (mP R).map (·.1) = (R.map pkR).map litPk := by
  unfold mP
  rw [List.map_map, List.map_map]
  rfl
theorem invP (key : Value) (kl : Lit) (h : keyOf Try.prog 77 key = some kl) : ∃ x : Pk, key = Value.agg #[.int .i64 x.1, .string x.2] := by
  obtain ⟨v, m, -, rfl, -⟩ := keyE_inv key kl h
  exact ⟨(v, m), rfl⟩
theorem litP {x : Pk} {kl : Lit} (h : keyOf Try.prog 77 (.agg #[.int .i64 x.1, .string x.2]) = some kl) : kl = litPk x ∧ WfPk x := by
  obtain ⟨v, m, h1, h2, rfl⟩ := keyE_inv _ kl h
  simp only [Value.agg.injEq] at h2
  simp at h2
  obtain ⟨e1, e2⟩ := h2
  unfold litPk WfPk
  rw [e1, e2]
  exact ⟨rfl, h1⟩
/-- Those of a VLAN. -/
def ofPk (v : Int) (D : List Pk) : List Pk := D.filter (fun e => decide (e.1 = v))
theorem of_pk (R : List Pr) (v : Int) : ofPk v (R.map pkR) = (ofR R v).map pkR := by
  unfold ofPk ofR
  rw [List.filter_map]
  rfl
theorem of_up (h : UpR R) (v : Int) : UpG ((ofR R v).map pkR) := by
  unfold UpG ofR
  rw [List.pairwise_map]
  have h1 : (R.filter fun x => decide (x.vl = v)).Pairwise (fun a b => ltK a.vl a.gr b.vl b.gr = true) := h.sublist List.filter_sublist
  refine List.Pairwise.imp_of_mem ?_ h1
  intro a b ha hb hab
  have e1 := (List.mem_filter.1 ha).2
  have e2 := (List.mem_filter.1 hb).2
  simp at e1 e2
  rw [ltK_iff] at hab
  rcases hab with hab | ⟨-, hab⟩
  · omega
  · exact hab
theorem info_PK : (Try.prog.info? 77).map (fun i => (i.zero, i.size, i.bytes)) = some (some (.agg #[.int .i64 0, .string ⟨#[]⟩]), 2, 24) := by kernel_rfl
theorem cellsP_new (w : World) (xs : List Value) (t : TypeId) : ∀ j u, xs[j]? = some u → (w.alloc (.cells xs.toArray t)).cell? ((⟨w.heap.size, 0, none⟩ : Addr).add j) = some u := by
  intro j u hj
  have e : (⟨w.heap.size, 0, none⟩ : Addr).add j = ⟨w.heap.size, j, none⟩ := by unfold Addr.add; split <;> simp_all
  rw [e]
  exact cell_of_block (heap_new w _) (by simpa using hj)
theorem rowPk_snoc (D : List Pk) (v : Int) (m : ByteArray) : rowPk (D ++ [(v, m)]) = rowPk D ++ [.int .i64 v, .string m] := by
  unfold rowPk
  rw [List.flatMap_append]
  simp [cellsPk]
theorem slice_ownP {w : World} {base e size n : Nat} {v : Value} {xs : List Value} (h : w.ownsRow base e size v n xs) : ∃ p cap, v = .slice p n cap := by
  rcases h.2 with ⟨rfl, rfl⟩ | ⟨g, cap, cur, rfl, _⟩
  · exact ⟨none, 0, rfl⟩
  · exact ⟨_, cap, rfl⟩
theorem pown_far {w : World} {base e size n r : Nat} {v : Value} {xs : List Value} (h : w.ownsRow base e size v n xs) (hr : r < base) : v.ownBlock = none ∨ v.ownBlock ≠ some r :=
  Or.inr (fun e => by have := (h.lt r e).1; omega)
theorem pnone_or (a : Option Nat) : a = none ∨ a ≠ none := by cases a <;> simp

theorem pof_nil (v : Int) (w : World) : Calls Try.prog 44 #[.pointer none, .int .i64 v] w fun e w' => e = .returned (.slice none 0 0) ∧ w' = w := by
  go_enter Try.func44, Try.ntmps44
  go_wp2
  go_ret
  exact ⟨rfl, rfl⟩

set_option maxHeartbeats 8000000 in
set_option maxRecDepth 100000 in
theorem pof_c (h : HasP w p mb room R) (hg : GoodR R room) (hr : room ≤ 4096) (v : Int) :
    Calls Try.prog 44 #[.pointer (some ⟨p, 0, none⟩), .int .i64 v] w fun e w' => ∃ u, e = .returned u ∧ PkAt w' w.heap.size u ((ofR R v).map pkR) ∧ Below w.heap.size w w' := by
  have H := Lib.hid h
  have c1 := h.c1
  have hm := Lib.hid h.map
  have hlt := Lib.hid h.map.lt
  have HL := Lib.hid (show (mP R).length ≤ 4096 by rw [len_mP]; have := hg.len; omega)
  have HW := Lib.hid (show ∀ e ∈ R.map pkR, WfPk e from fun e he => by obtain ⟨x, hx, rfl⟩ := List.mem_map.1 he; exact hg.wf x hx)
  have HU := Lib.hid (of_up hg.up v)
  have HP := Lib.hid (of_pk R v)
  obtain ⟨i0, hi, hz0, hz1, hz2⟩ := info_parts info_PK
  clear h hg hr
  go_enter Try.func44, Try.ntmps44
  go_wp2_with (first
    | (at_range; refine MV.wpList_range_mp _ rfl _ 72 rfl 77 28 law_ST und_MP mb (mP R) rfl hm.out ?_; intro w0 hrg0 hg0 hs0)
    | go_in)
  go_frame
  have HG0 := Lib.hid (And.intro hrg0 (And.intro hg0 hs0))
  clear hrg0 hg0 hs0 c1
  go_loopw [5, 6] (fun s5 _ wr => ∃ (D : List Pk) (S : List MV.T3) (cnt : Nat) (po : Option Addr) (co : Nat), s5 = .slice po (ofPk v D).length co ∧ Hid (((mP R).map (·.1)).Perm (D.map litPk ++ S.map (·.1))) ∧ Hid (∀ e ∈ D, WfPk e) ∧ Hid (wr.ownsRow (w.heap.size + 1) 77 2 (.slice po (ofPk v D).length co) (ofPk v D).length (rowPk (ofPk v D))) ∧ Hid (MV.Rg wr Try.prog 77 mb w.heap.size (mP R) S cnt) ∧ Hid (Below w.heap.size w wr) ∧ Hid (w.heap.size + 1 ≤ wr.heap.size))
    (fun _ _ wr => wr.rangeLeft mb w.heap.size)
  case atStart => exact ⟨[], mP R, (mP R).length, none, 0, rfl, Lib.hid (List.Perm.refl _), Lib.hid (fun e he => by cases he), Lib.hid (World.ownsRow_nil _ _ _ _), Lib.hid HG0.out.1, Lib.hid ((Below.refl _ w).grown HG0.out.2.1 (Nat.le_refl _) (fun j hj => by cases hj)), Lib.hid (by have := HG0.out.2.2; omega)⟩
  case round =>
    obtain ⟨D, S, cnt, po, co, rfl, hP, hWf, hO, hR, hB, hS⟩ := hrel
    go_wp2_with (first
      | (at_next; refine MV.wpList_next_mp _ rfl _ rfl 77 law_ST (fun x : Pk => Value.agg #[.int .i64 x.1, .string x.2]) invP mb w.heap.size (mP R) S cnt rfl hR.out ?_ ?_)
      | go_in)
    · intro h0
      have hRD := Lib.hid (show ((ofR R v).map pkR).Perm (ofPk v D) by
        have h9 := hP.out
        rw [h0, List.map_nil, List.append_nil, keys_mP] at h9
        have h8 := perm_lit HW.out hWf.out h9
        rw [← HP.out]
        exact h8.filter _)
      have hDl := Lib.hid (show (ofPk v D).length < 1000000000 by
        have h9 := hP.out.length_eq
        rw [h0] at h9
        simp at h9
        have := List.length_filter_le (fun e : Pk => decide (e.1 = v)) D
        have := HL.out
        unfold ofPk
        omega)
      have hSo := Lib.hid (sortG_c hO.out hDl.out HU.out hRD.out)
      clear h0 hP hR
      go_wp2_with fail
      ((with_reducible refine hSo.out.mono ?_); rintro e w1 ⟨rfl, hE, hb1⟩)
      have HE := Lib.hid hE
      have K := Lib.hid (hB.out.trans (hb1.mono (Nat.le_succ _)))
      have hln := Lib.hid hRD.out.length_eq
      clear hE hb1 hSo
      go_wp2_with fail
      go_ret
      refine ⟨_, rfl, ?_, K.out⟩
      rcases HE.out with h | ⟨g, cap, h1, h2, h3⟩
      · exact Or.inl h
      · exact Or.inr ⟨g, cap, h1, by omega, h3⟩
    · intro v2 m2 p1 kl S' w1 cnt1 hkey hpm hrg1 hlt1 hg1 hs1 hen
      try dsimp only at hkey hen ⊢
      obtain ⟨rfl, hk2⟩ := litP (x := (v2, m2)) hkey
      have hPP := Lib.hid (show ((mP R).map (·.1)).Perm ((D ++ [(v2, m2)]).map litPk ++ S'.map (·.1)) by
        refine hP.out.trans ((List.Perm.append_left _ (hpm.map _)).trans ?_)
        rw [List.map_append, List.append_assoc]
        exact List.Perm.refl _)
      have hW1 := Lib.hid (show ∀ e ∈ D ++ [(v2, m2)], WfPk e from fun e he => by
        rcases List.mem_append.1 he with he | he
        · exact hWf.out e he
        · simp at he; subst he; exact hk2)
      have hDl := Lib.hid (show (ofPk v D).length + 1 ≤ 1000000 by
        have h2 := hPP.out.length_eq
        simp at h2
        have := List.length_filter_le (fun e : Pk => decide (e.1 = v)) D
        have := HL.out
        unfold ofPk
        omega)
      have hO1 := Lib.hid (hO.out.kept hg1 (pown_far hO.out (by omega)))
      have hB1 := Lib.hid (hB.out.grown hg1 hB.out.size (fun j hj => by cases hj; exact Nat.le_refl _))
      have hR1 := Lib.hid hrg1
      have hRl := Lib.hid hR.out.left_eq
      have hLT := Lib.hid hlt1
      have hS1 := Lib.hid (show w.heap.size + 1 ≤ w1.heap.size by rw [hs1]; exact hS.out)
      clear hkey hpm hrg1 hlt1 hg1 hs1 hP hWf hO hR hB hS hk2
      go_upto_region 7 with fail
      have hg2 := (World.grownBy_alloc w1 (.cells #[.int .i64 v2, .string m2] 77) none)
      have hB2 := Lib.hid (hB1.out.alloc hB1.out.size (.cells #[.int .i64 v2, .string m2] 77))
      have hO2 := Lib.hid (hO1.out.kept hg2 (pnone_or _))
      have hR2 := Lib.hid (hR1.out.kept hg2 (by simp) (by simp))
      have hs2 := Lib.hid (heap_new w1 (.cells #[.int .i64 v2, .string m2] 77))
      have hS2 := Lib.hid (show w.heap.size + 1 ≤ (w1.alloc (.cells #[.int .i64 v2, .string m2] 77)).heap.size by have := hS1.out; simp; omega)
      clear hg2 hB1 hO1 hR1 hS1
      generalize w1.alloc (.cells #[.int .i64 v2, .string m2] 77) = w2 at hB2 hO2 hR2 hs2 hS2 ⊢
      have x0 := cell_of_block (j := 0) hs2.out rfl
      have x1 := cell_of_block (j := 1) hs2.out rfl
      by_cases hv : v2 = v
      · subst hv
        have hsn := Lib.hid (show ofPk v2 (D ++ [(v2, m2)]) = ofPk v2 D ++ [(v2, m2)] by unfold ofPk; rw [List.filter_append]; simp)
        have hsr := Lib.hid (rowPk_snoc (ofPk v2 D) v2 m2)
        have hln := Lib.hid (show (ofPk v2 D ++ [(v2, m2)]).length = (ofPk v2 D).length + 1 by simp)
        have h1c := Lib.hid (cellsPk_one (v2, m2))
        have A3 := Lib.hid (show (ofPk v2 D).length + 1 ≤ maxLen by unfold maxLen; have := hDl.out; omega)
        have A4 := Lib.hid (show ((ofPk v2 D).length + 1) * 24 ≤ 140737488355328 by have := hDl.out; omega)
        have A5 := Lib.hid (show w.heap.size + 1 ≤ (w2.alloc (.cells #[.int .i64 v2, .string m2] 77)).heap.size by have := hS2.out; simp; omega)
        have A6 := Lib.hid (cellsP_new w2 [.int .i64 v2, .string m2] 77)
        have e1 : (v2 == v2) = true := by simp
        have e2 : decide (v2 = v2) = true := by simp
        go_wp2_with (at_builtin; refine wpList_append_own _ rfl _ _ 86 rfl (w.heap.size + 1) 77 i0 (.agg #[.int .i64 0, .string ⟨#[]⟩]) 2 24 Try.underlying86 hi hz0 hz1 hz2 rfl (by decide) _ _ _ rfl (hO2.out.alloc _) ⟨w2.heap.size, 0, none⟩ 1 1 [.int .i64 v2, .string m2] rfl rfl A6.out h1c.out A3.out A4.out A5.out ?_)
        intro v' w5 hown' hgrow _
        have hga := Lib.hid (World.grownBy_alloc w2 (.cells #[.int .i64 v2, .string m2] 77) none)
        have hfar := Lib.hid (fun j hj => ((hO2.out.alloc (.cells #[.int .i64 v2, .string m2] 77)).lt j hj).1)
        have hO5 := Lib.hid hown'
        have hR5 := Lib.hid ((hR2.out.kept hga.out (by simp) (by simp)).kept hgrow (fun e => by have := hfar.out _ e.symm; have := hlt.out; omega) (fun e => by have := hfar.out _ e.symm; omega))
        have hB5 := Lib.hid ((hB2.out.grown hga.out hB2.out.size (fun j hj => by cases hj)).grown hgrow (by have := hB2.out.size; simp; omega) (fun j hj => by have := hfar.out j hj; omega))
        have hS5 := Lib.hid (Nat.le_trans A5.out hgrow.size)
        obtain ⟨p5, c5, rfl⟩ := slice_ownP hown'
        clear hown' hgrow hO2 hR2 hB2 hga hfar x0 x1 hs2
        go_wp2_with fail
        go_roundw
        case rel => exact ⟨D ++ [(v2, m2)], S', cnt1, p5, c5, by rw [hsn.out, hln.out], hPP, hW1, Lib.hid (by rw [hsn.out, hsr.out, hln.out]; exact hO5.out), hR5, hB5, hS5⟩
        case measure => rw [hR5.out.left_eq, hRl.out]; exact hLT.out
      · have hsn := Lib.hid (show ofPk v (D ++ [(v2, m2)]) = ofPk v D by unfold ofPk; rw [List.filter_append]; simp [hv])
        obtain ⟨e1, e2⟩ := ne_t hv
        have e3 : decide (v2 = v) = false := decide_eq_false hv
        clear hv
        go_wp2_with fail
        go_roundw
        case rel => exact ⟨D ++ [(v2, m2)], S', cnt1, po, co, by rw [hsn.out], hPP, hW1, Lib.hid (by rw [hsn.out]; exact hO2.out), hR2, hB2, hS2⟩
        case measure => rw [hR2.out.left_eq, hRl.out]; exact hLT.out

end Go.Proofs.Ythpafojeadbjlaa
