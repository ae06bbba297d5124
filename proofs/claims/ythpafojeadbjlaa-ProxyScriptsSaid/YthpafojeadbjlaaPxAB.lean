/-
  What many want, told as one, plainly: the filter of a state, and of many states together. It speaks of no function.
  'proxy.Filter'. A contract over the translated program.
  'proxy.Merge'. A contract over the translated program.
-/
import Derived.Test.YthpafojeadbjlaaGrS
import Derived.Test.YthpafojeadbjlaaFlP
import Derived.Test.YthpafojeadbjlaaGrC
import Derived.Test.YthpafojeadbjlaaFlE
import Derived.Test.YthpafojeadbjlaaRowStR
import Derived.Deep.RegionHeld3
import Derived.Deep.RegionLaw
namespace Go.Proofs.Ythpafojeadbjlaa
open Go Go.Maps Go.RowKit
set_option linter.unusedVariables false
set_option linter.unusedSimpArgs false

/-- Two filters in their form that admit the same, and agree on all others, are one. -/
theorem fl_unique {f g : Fl} (hf : Up f.src) (hg : Up g.src) (he : f.ex = g.ex) (ha : ∀ s, admB f s = admB g s) : f = g := by
  obtain ⟨fe, fl⟩ := f
  obtain ⟨ge, gl⟩ := g
  obtain rfl : fe = ge := he
  congr 1
  refine up_unique fl gl hf hg (fun x => ?_)
  have h : admB ⟨fe, fl⟩ x = admB ⟨fe, gl⟩ x := ha x
  unfold admB at h
  simp only at h
  have h2 : hasS fl x = hasS gl x := by
    revert h
    cases hasS fl x <;> cases hasS gl x <;> cases fe <;> simp
  constructor
  · intro hx
    rw [← hasS_iff, ← h2, hasS_iff]
    exact hx
  · intro hx
    rw [← hasS_iff, h2, hasS_iff]
    exact hx

/-- Is a source one of those that the filter names? -/
def selX (fe : Bool) (x : Tm) : Bool := decide (x.2 = 0) == fe
/-- What a state lets through. -/
def filP (s : St) (now : Int) : Fl := ⟨(expS s now).1.ex, nmS ((expS s now).1.src.filter (selX (expS s now).1.ex))⟩

theorem up_keeps (ex : Bool) (now : Int) : ∀ l : List Tm, Up (nmS l) → Up (nmS (l.flatMap (keepX ex now))) ∧ ∀ x ∈ nmS (l.flatMap (keepX ex now)), x ∈ nmS l
  | [], h => ⟨h, fun x hx => hx⟩
  | x :: r, h => by
    have h1 : Up (nmS r) := up_tail (x := x.1) h
    obtain ⟨i1, i2⟩ := up_keeps ex now r h1
    have hh := up_head (x := x.1) (t := nmS r) h
    have hk : nmS (keepX ex now x) = [x.1] ∨ nmS (keepX ex now x) = [] := by
      unfold keepX
      repeat' split
      · exact Or.inl rfl
      · exact Or.inl rfl
      · exact Or.inr rfl
    have e : nmS ((x :: r).flatMap (keepX ex now)) = nmS (keepX ex now x) ++ nmS (r.flatMap (keepX ex now)) := by
      unfold nmS
      rw [List.flatMap_cons, List.map_append]
    rw [e]
    rcases hk with hk | hk
    · rw [hk]
      refine ⟨List.pairwise_cons.2 ⟨fun y hy => hh y (i2 y hy), i1⟩, fun y hy => ?_⟩
      rcases List.mem_cons.1 hy with h0 | hy
      · rw [h0]
        exact List.mem_cons_self
      · exact List.mem_cons_of_mem _ (i2 y hy)
    · rw [hk]
      exact ⟨i1, fun y hy => List.mem_cons_of_mem _ (i2 y hy)⟩

theorem exp_up (s : St) (now : Int) : Up (nmS (expS s now).1.src) := by
  unfold expS
  by_cases h : okS s = true
  · rw [if_pos h]
    exact (up_keeps _ _ _ ((upB_iff _).1 ((ok_iff s).1 h).2.2.2.2)).1
  · rw [if_neg h]
    exact List.Pairwise.nil
theorem nm_sub {l m : List Tm} (h : l.Sublist m) : (nmS l).Sublist (nmS m) := h.map _
theorem fil_up (s : St) (now : Int) : Up (filP s now).src := (exp_up s now).sublist (nm_sub List.filter_sublist)
theorem exp_len60 (s : St) (now : Int) : (expS s now).1.src.length ≤ 60 := by
  unfold expS
  by_cases h : okS s = true
  · rw [if_pos h]
    exact Nat.le_trans (keeps_len _ _ _) ((ok_iff s).1 h).1
  · rw [if_neg h]
    exact Nat.zero_le _
theorem fil_len (s : St) (now : Int) : (filP s now).src.length ≤ 60 := by
  have h := exp_len60 s now
  have h2 := List.length_filter_le (selX (expS s now).1.ex) (expS s now).1.src
  show (nmS _).length ≤ 60
  rw [nm_len]
  omega

/-- Of a state without Except no source is blocked. -/
theorem exp_runs (s : St) (now : Int) (he : (expS s now).1.ex = false) : ∀ x ∈ (expS s now).1.src, x.2 ≠ 0 := by
  unfold expS at he ⊢
  by_cases h : okS s = true
  · rw [if_pos h] at he ⊢
    obtain ⟨-, h2, h3, h4, -⟩ := (ok_iff s).1 h
    intro x hx
    have he' : exE s now = false := he
    obtain ⟨y, hy, hyx⟩ := List.mem_flatMap.1 (show x ∈ s.src.flatMap (keepX (exE s now) now) from hx)
    rw [he'] at hyx
    unfold keepX at hyx
    have h5 := h4 y hy
    split at hyx
    · next hn =>
      simp at hyx
      subst hyx
      unfold okX at h5
      unfold exE at he'
      rcases Bool.eq_false_or_eq_true s.ex with e | e
      · rw [e] at he' h3
        simp at he' h3 h5
        omega
      · rw [e] at h5
        simp at h5
        omega
    · simp at hyx
  · rw [if_neg h]
    intro x hx
    cases hx

theorem fil_same (s : St) (now : Int) : filP s now = filS (expS s now).1 := by
  have h := exp_runs s now
  unfold filP filS
  generalize (expS s now).1 = t at h ⊢
  obtain ⟨ex, tm, l⟩ := t
  simp only at h ⊢
  congr 2
  refine List.filter_congr fun x hx => ?_
  unfold selX
  rcases Bool.eq_false_or_eq_true ex with e | e
  · rw [e]; cases decide (x.2 = 0) <;> rfl
  · rw [e, decide_eq_false (h e x hx)]; rfl

theorem exp_none (s : St) (now : Int) (h : (expS s now).2 = false) : (expS s now).1.ex = false ∧ (expS s now).1.src = [] := by
  unfold expS at h ⊢
  by_cases h1 : okS s = true
  · rw [if_pos h1] at h ⊢
    have h2 : anyS (stE s now) = false := h
    unfold anyS at h2
    rw [Bool.or_eq_false_iff] at h2
    refine ⟨h2.1, ?_⟩
    show (stE s now).src = []
    have := h2.2
    rw [decide_eq_false_iff_not] at this
    exact List.eq_nil_of_length_eq_zero (by omega)
  · rw [if_neg h1]
    exact ⟨rfl, rfl⟩

/-- A filter of a state admits just what the state lets through. -/
theorem fil_adm (s : St) (now : Int) (a : ByteArray) : admB (filP s now) a = admS s a now := by
  unfold admS
  rw [fil_same]
  rcases h : (expS s now).2 with _ | _
  · obtain ⟨h1, h2⟩ := exp_none s now h
    unfold filS admB
    rw [h1, h2]
    rfl
  · simp

/-! ### together -/
def noF : Fl := ⟨false, []⟩
def mergeF (l : List Fl) : Fl := l.foldl orF noF

theorem or_src_up (f g : Fl) : Up (orF f g).src := p_or_up f g
theorem fold_up : ∀ (l : List Fl) (f : Fl), Up f.src → Up (l.foldl orF f).src
  | [], f, h => h
  | g :: r, f, h => fold_up r (orF f g) (p_or_up f g)
theorem merge_up (l : List Fl) : Up (mergeF l).src := fold_up l noF List.Pairwise.nil
theorem fold_ex : ∀ (l : List Fl) (f : Fl), (l.foldl orF f).ex = (f.ex || l.any (·.ex))
  | [], f => by simp
  | g :: r, f => by
    rw [List.foldl_cons, fold_ex r (orF f g), List.any_cons]
    show ((f.ex || g.ex) || _) = _
    rw [Bool.or_assoc]
theorem fold_adm : ∀ (l : List Fl) (f : Fl) (s : ByteArray), admB (l.foldl orF f) s = (admB f s || l.any (admB · s))
  | [], f, s => by simp
  | g :: r, f, s => by
    rw [List.foldl_cons, fold_adm r (orF f g), List.any_cons, p_or_adm, Bool.or_assoc]
theorem merge_ex (l : List Fl) : (mergeF l).ex = l.any (·.ex) := by
  unfold mergeF
  rw [fold_ex]
  rfl
theorem merge_adm (l : List Fl) (s : ByteArray) : admB (mergeF l) s = l.any (admB · s) := by
  unfold mergeF
  rw [fold_adm]
  rfl
theorem merge_app (a b : List Fl) : mergeF (a ++ b) = orF (mergeF a) (mergeF b) := by
  refine fl_unique (merge_up _) (p_or_up _ _) ?_ (fun s => ?_)
  · show _ = ((mergeF a).ex || (mergeF b).ex)
    rw [merge_ex, merge_ex, merge_ex, List.any_append]
  · rw [p_or_adm, merge_adm, merge_adm, merge_adm, List.any_append]
theorem merge_one (f : Fl) (h : Up f.src) : mergeF [f] = f := by
  refine fl_unique (merge_up _) h ?_ (fun s => ?_)
  · rw [merge_ex]; simp
  · rw [merge_adm]; simp
/-- Whatever the order, and how often each. -/
theorem merge_mem {a b : List Fl} (h : ∀ f, f ∈ a ↔ f ∈ b) : mergeF a = mergeF b := by
  refine fl_unique (merge_up _) (merge_up _) ?_ (fun s => ?_)
  · rw [merge_ex, merge_ex, Bool.eq_iff_iff, List.any_eq_true, List.any_eq_true]
    exact ⟨fun ⟨x, hx, hy⟩ => ⟨x, (h x).1 hx, hy⟩, fun ⟨x, hx, hy⟩ => ⟨x, (h x).2 hx, hy⟩⟩
  · rw [merge_adm, merge_adm, Bool.eq_iff_iff, List.any_eq_true, List.any_eq_true]
    exact ⟨fun ⟨x, hx, hy⟩ => ⟨x, (h x).1 hx, hy⟩, fun ⟨x, hx, hy⟩ => ⟨x, (h x).2 hx, hy⟩⟩
theorem fold_len : ∀ (l : List Fl) (f : Fl), (∀ g ∈ l, g.src.length ≤ 60) → (l.foldl orF f).src.length ≤ f.src.length + 60 * l.length
  | [], f, _ => by simp
  | g :: r, f, h => by
    have h1 := fold_len r (orF f g) (fun x hx => h x (by simp [hx]))
    have h2 := p_join_len (· || ·) f g
    have h3 := h g (by simp)
    rw [List.foldl_cons, List.length_cons]
    have h4 : (orF f g).src.length ≤ f.src.length + g.src.length := h2
    omega
theorem merge_len {l : List Fl} (h : ∀ g ∈ l, g.src.length ≤ 60) : (mergeF l).src.length ≤ 60 * l.length := by
  have := fold_len l noF h
  show (l.foldl orF noF).src.length ≤ _
  have e : noF.src.length = 0 := rfl
  omega
/-- The filters of states. -/
def filsP (l : List St) (now : Int) : List Fl := l.map (filP · now)
theorem fils_len (l : List St) (now : Int) : ∀ g ∈ filsP l now, g.src.length ≤ 60 := by
  intro g hg
  obtain ⟨s, -, rfl⟩ := List.mem_map.1 hg
  exact fil_len s now
theorem mergeS_len (l : List St) (now : Int) : (mergeF (filsP l now)).src.length ≤ 60 * l.length := by
  have := merge_len (fils_len l now)
  rwa [show (filsP l now).length = l.length from by unfold filsP; rw [List.length_map]] at this
theorem fold_take {l : List Fl} {k : Nat} {x : Fl} (h : l[k]? = some x) : mergeF (l.take (k + 1)) = orF (mergeF (l.take k)) x := by
  unfold mergeF
  rw [List.take_succ_eq_append_getElem (List.getElem?_eq_some_iff.1 h).1, (List.getElem?_eq_some_iff.1 h).2, List.foldl_append]
  rfl

set_option maxHeartbeats 8000000 in
set_option maxRecDepth 100000 in
theorem pfil_c (ex : Bool) (tm : Int) (v : Value) (l : List Tm) (now : Int) (w : World) (hl : l.length ≤ 1000000) (h : RowsAt 2 cellsTm w v l) : Calls Try.prog 12 #[.agg #[.bool ex, .int .i64 tm, v], .int .i64 now] w (FPost (filP ⟨ex, tm, l⟩ now) w) := by
  have GX := Lib.hid fun (U : World) (kz : Below w.heap.size w U) => gexp_c ex tm v l now U hl (h.below kz)
  have HV := Lib.hid (show filP ⟨ex, tm, l⟩ now = ⟨(expS ⟨ex, tm, l⟩ now).1.ex, nmS ((expS ⟨ex, tm, l⟩ now).1.src.filter (selX (expS ⟨ex, tm, l⟩ now).1.ex))⟩ from rfl)
  have HLEN := Lib.hid (Nat.le_trans (exp_len ⟨ex, tm, l⟩ now) hl)
  obtain ⟨p, cap, rfl⟩ := h.slice
  generalize expS ⟨ex, tm, l⟩ now = X at GX HV HLEN
  obtain ⟨⟨fe, ft, fl⟩, is⟩ := X
  generalize filP ⟨ex, tm, l⟩ now = R at HV ⊢
  dsimp only at GX HV HLEN
  have HQ := Lib.hid (show ∀ U v, AddrsG w.heap.size true U v (nmS (fl.filter (selX fe))) → Below w.heap.size w U → FPost R w (.returned (.agg #[.bool fe, v])) U from fun U v h1 h2 => by rw [HV.out]; exact ⟨v, rfl, h1, h2⟩)
  generalize FPost R w = Q at HQ ⊢
  clear HV
  generalize l.length = n at hl GX ⊢
  clear h hl
  obtain ⟨i0, hi0, hz0, hz1, hz2⟩ := info_parts info_Ad
  have hB1 := Lib.hid (show Below w.heap.size w ((w.alloc (.cells #[.bool ex, .int .i64 tm, .slice p n cap] 32)).alloc (.cells #[.bool false, .slice none 0 0] 28)) from ((Below.refl _ w).alloc (Nat.le_refl _) _).alloc (by simp) _)
  have RB1 := Lib.hid (show ((w.alloc (.cells #[.bool ex, .int .i64 tm, .slice p n cap] 32)).alloc (.cells #[.bool false, .slice none 0 0] 28)).heap[w.heap.size + 1]? = some (.cells #[.bool false, .slice none 0 0] 28 (0, 0)) from by simpa using heap_new (w.alloc (.cells #[.bool ex, .int .i64 tm, .slice p n cap] 32)) (.cells #[.bool false, .slice none 0 0] 28))
  go_enter Try.func12, Try.ntmps12
  go_wp2_with fail
  ((with_reducible refine (GX.out _ hB1.out).mono ?_); rintro e w3 ⟨vs, rfl, hr, k3⟩)
  have hB3 := Lib.hid (hB1.out.trans (k3.mono hB1.out.size))
  have RB3 := Lib.hid (below_block k3 (lt_of_block RB1.out) RB1.out)
  obtain ⟨q, qc, qb, qo, rfl, hq, hqc⟩ := hr
  have HQP := Lib.hid hq
  have HQC := Lib.hid hqc
  obtain ⟨m, hm⟩ : ∃ m, m = fl.length := ⟨_, rfl⟩
  have HMM := Lib.hid hm
  rw [← hm] at HLEN ⊢
  clear hq hqc hm k3 hB1 GX RB1
  go_upto_region 3 with fail
  have HLB := Lib.hid (heap_old (p := .cells #[.bool fe, .slice none 0 0] 28) (heap_new w3 (.cells #[.bool fe, .int .i64 ft, .slice q m qc] 32)))
  have HFB := Lib.hid (show ((w3.alloc (.cells #[.bool fe, .int .i64 ft, .slice q m qc] 32)).alloc (.cells #[.bool fe, .slice none 0 0] 28)).heap[w3.heap.size + 1]? = some (.cells #[.bool fe, .slice none 0 0] 28 (0, 0)) from by have h := heap_new (w3.alloc (.cells #[.bool fe, .int .i64 ft, .slice q m qc] 32)) (.cells #[.bool fe, .slice none 0 0] 28); simpa using h)
  have KB := Lib.hid (show Below w3.heap.size w3 ((w3.alloc (.cells #[.bool fe, .int .i64 ft, .slice q m qc] 32)).alloc (.cells #[.bool fe, .slice none 0 0] 28)) from ((Below.refl _ w3).alloc (Nat.le_refl _) _).alloc (by simp) _)
  generalize (w3.alloc (.cells #[.bool fe, .int .i64 ft, .slice q m qc] 32)).alloc (.cells #[.bool fe, .slice none 0 0] 28) = W4 at HLB HFB KB ⊢
  generalize hfb : w3.heap.size + 1 = fb at HFB ⊢
  obtain ⟨lb, hlb⟩ : ∃ lb, lb = w3.heap.size := ⟨_, rfl⟩
  have HNLF := Lib.hid (show lb ≠ fb by omega)
  have HGF := Lib.hid (show w3.heap.size ≤ fb by omega)
  rw [← hlb] at HLB ⊢
  clear hfb
  obtain ⟨B3, hB3e⟩ : ∃ B3, B3 = w3.heap.size := ⟨_, rfl⟩
  rw [← hB3e] at HGF hlb KB
  have HBE := Lib.hid hB3e
  clear hlb hB3e
  have HSZ := Lib.hid (fun (U : World) (h : Below B3 w3 U) => show B3 ≤ U.heap.size from by rw [HBE.out]; exact h.size)
  have HR1 := Lib.hid (show w.heap.size + 1 < B3 from by have h := lt_of_block RB3.out; rw [HBE.out]; exact h)
  have l2 : W4.cell? ⟨lb, 2, none⟩ = some (.slice q m qc) := cell_of_block HLB.out rfl
  go_wp2_with fail
  go_loopw [10, 23] (fun _ i wr => ∃ (k c : Nat) (sv : Value), k ≤ m ∧ c ≤ k ∧ i = .int .i64 k ∧ Hid (wr.ownsRow B3 35 1 sv c ((nmS ((fl.take k).filter (selX fe))).map Value.string)) ∧ Hid (wr.heap[fb]? = some (.cells #[.bool fe, sv] 28 (0, 0))) ∧ Hid (wr.heap[lb]? = some (.cells #[.bool fe, .int .i64 ft, .slice q m qc] 32 (0, 0))) ∧ Hid (Below B3 w3 wr)) (fun _ i _ => m - (intOf i).toNat)
  case atStart => exact ⟨0, 0, _, Nat.zero_le _, Nat.le_refl _, rfl, Lib.hid (World.ownsRow_nil _ _ _ _), HFB, HLB, KB⟩
  case round =>
    clear l2 HLB HFB KB
    obtain ⟨k, c, sv, hk, hck, rfl, HO, HF, HL, KB⟩ := hrel
    obtain ⟨sp, sc, rfl⟩ := g_slice HO.out
    have hmb : m ≤ 1000000 := HLEN.out
    by_cases hlt : k < m
    · obtain ⟨x, hx⟩ : ∃ x, fl[k]? = some x := ⟨_, List.getElem?_eq_getElem (by rw [← HMM.out]; exact hlt)⟩
      have hne : fl ≠ [] := by rintro rfl; simp at hx
      obtain rfl := HQP.out hne
      have HTK := Lib.hid (fil_take (f := selX fe) hx)
      have KB3 : Below w3.heap.size w3 wr := by rw [← HBE.out]; exact KB.out
      have x0 : wr.cell? ⟨qb, qo + k * 2, none⟩ = some (.string x.1) := gcell_below KB3 (HQC.out k _ hx 0 _ rfl)
      have x1 : wr.cell? ⟨qb, qo + k * 2 + 1, none⟩ = some (.int .i64 x.2) := gcell_below KB3 (HQC.out k _ hx 1 _ rfl)
      obtain ⟨xs, xa⟩ := x
      dsimp only at x0 x1 HTK
      have d1 : decide (k < m) = true := decide_eq_true hlt
      have d2 : decide ((k : Int) < (m : Int)) = true := decide_eq_true (by omega)
      have d3 : decide (m ≤ k) = false := decide_eq_false (by omega)
      have d4 : decide (0 ≤ (k : Int)) = true := decide_eq_true (by omega)
      clear hx hne KB3
      go_upto_region 6 with fail
      have HE1 := Lib.hid (heap_new wr (.cells #[.string xs, .int .i64 xa] 65))
      have HO1 := Lib.hid (HO.out.alloc (.cells #[.string xs, .int .i64 xa] 65))
      have KB1 := Lib.hid (KB.out.alloc (HSZ.out _ KB.out) (.cells #[.string xs, .int .i64 xa] 65))
      have HL1 := Lib.hid (heap_old (p := .cells #[.string xs, .int .i64 xa] 65) HL.out)
      have HF1 := Lib.hid (heap_old (p := .cells #[.string xs, .int .i64 xa] 65) HF.out)
      clear x0 x1 HO KB HL HF d1 d2 d3 d4
      generalize wr.alloc (.cells #[.string xs, .int .i64 xa] 65) = W1 at HE1 HO1 KB1 HL1 HF1 ⊢
      generalize wr.heap.size = eb at HE1 ⊢
      have l0 : W1.cell? ⟨lb, 0, none⟩ = some (.bool fe) := cell_of_block HL1.out rfl
      have e1 : W1.cell? ⟨eb, 1, none⟩ = some (.int .i64 xa) := cell_of_block HE1.out rfl
      have e0 : W1.cell? ⟨eb, 0, none⟩ = some (.string xs) := cell_of_block HE1.out rfl
      have f1 : W1.cell? ⟨fb, 1, none⟩ = some (.slice sp c sc) := cell_of_block HF1.out rfl
      rcases Bool.eq_false_or_eq_true fe with rfl | rfl
      · by_cases hz : xa = 0
        · subst hz
          have HT2 := Lib.hid (show (nmS ((fl.take (k + 1)).filter (selX true))).map Value.string = (nmS ((fl.take k).filter (selX true))).map Value.string ++ [.string xs] by rw [HTK.out]; rfl)
          clear HTK
          go_upto_region 8 with fail
          have NEW := Lib.hid (g_new W1 [.string xs] 35)
          have HO5 := Lib.hid (HO1.out.alloc (.cells #[.string xs] 35))
          have K5 := Lib.hid (KB1.out.alloc (HSZ.out _ KB1.out) (.cells #[.string xs] 35))
          have HL5 := Lib.hid (heap_old (p := .cells #[.string xs] 35) HL1.out)
          have HF5 := Lib.hid (heap_old (p := .cells #[.string xs] 35) HF1.out)
          have n11 := Lib.hid (show c + 1 ≤ maxLen by have h3 := HLEN.out; unfold maxLen; omega)
          have n22 := Lib.hid (show (c + 1) * 16 ≤ 140737488355328 by have h3 := HLEN.out; omega)
          have n33 := Lib.hid (HSZ.out _ K5.out)
          have oc := Lib.hid (one_str xs)
          clear HO1 KB1 HE1 HL1 HF1
          go_wp2_with (at_builtin; refine wpList_append_own _ rfl _ _ 26 rfl B3 35 i0 (.string ByteArray.empty) 1 16 Try.underlying26 hi0 hz0 hz1 hz2 rfl (by decide) _ _ _ rfl HO5.out ⟨W1.heap.size, 0, none⟩ 1 1 [.string xs] rfl rfl NEW.out oc.out n11.out n22.out n33.out ?_)
          intro v' w6 hown' hgrow _
          have HO6 := Lib.hid hown'
          have K6 := Lib.hid (K5.out.grown hgrow n33.out (fun j hj => (HO5.out.lt j hj).1))
          have HL6 := Lib.hid (g_keeps HO5.out hgrow HL5.out (by decide))
          have HF6 := Lib.hid (g_keeps HO5.out hgrow HF5.out (by decide))
          clear hown' hgrow HO5 K5 NEW e0 e1 l0 f1 HL5 HF5
          obtain ⟨vp, vc, rfl⟩ := g_slice HO6.out
          have m2 : w6.cell? ⟨fb, 1, none⟩ = some (.slice sp c sc) := cell_of_block HF6.out rfl
          have fm2 := free_of_block (j := 1) HF6.out
          have HO7 := Lib.hid (g_set (j := 1) (u := .slice vp (c + 1) vc) HO6.out HF6.out (by decide))
          have HF7 := Lib.hid (heap_store (j := 1) (v := .slice vp (c + 1) vc) HF6.out)
          have HL7 := Lib.hid (heap_store_other (j := 1) (v := .slice vp (c + 1) vc) HL6.out HNLF.out)
          have K7 := Lib.hid (K6.out.setCell (p := ⟨fb, 1, none⟩) HGF.out (.slice vp (c + 1) vc))
          go_wp2_with fail
          go_roundw
          case rel => exact ⟨k + 1, c + 1, _, by omega, by omega, by go_num, Lib.hid (by rw [HT2.out]; exact HO7.out), HF7, HL7, K7⟩
          case measure => simp [intOf]; omega
        · have q1 : (xa == 0) = false := by simp [hz]
          have q2 : decide (xa = 0) = false := decide_eq_false hz
          have HT2 := Lib.hid (show (nmS ((fl.take (k + 1)).filter (selX true))).map Value.string = (nmS ((fl.take k).filter (selX true))).map Value.string by rw [HTK.out]; simp [selX, hz])
          clear HTK
          go_wp2_with fail
          go_roundw
          case rel => exact ⟨k + 1, c, _, by omega, by omega, by go_num, Lib.hid (by rw [HT2.out]; exact HO1.out), HF1, HL1, KB1⟩
          case measure => simp [intOf]; omega
      · by_cases hz : xa = 0
        · subst hz
          have HT2 := Lib.hid (show (nmS ((fl.take (k + 1)).filter (selX false))).map Value.string = (nmS ((fl.take k).filter (selX false))).map Value.string by rw [HTK.out]; simp [selX])
          clear HTK
          go_wp2_with fail
          go_roundw
          case rel => exact ⟨k + 1, c, _, by omega, by omega, by go_num, Lib.hid (by rw [HT2.out]; exact HO1.out), HF1, HL1, KB1⟩
          case measure => simp [intOf]; omega
        · have q1 : (xa == 0) = false := by simp [hz]
          have q2 : decide (xa = 0) = false := decide_eq_false hz
          have HT2 := Lib.hid (show (nmS ((fl.take (k + 1)).filter (selX false))).map Value.string = (nmS ((fl.take k).filter (selX false))).map Value.string ++ [.string xs] by rw [HTK.out]; simp [selX, hz])
          clear HTK
          go_upto_region 8 with fail
          have NEW := Lib.hid (g_new W1 [.string xs] 35)
          have HO5 := Lib.hid (HO1.out.alloc (.cells #[.string xs] 35))
          have K5 := Lib.hid (KB1.out.alloc (HSZ.out _ KB1.out) (.cells #[.string xs] 35))
          have HL5 := Lib.hid (heap_old (p := .cells #[.string xs] 35) HL1.out)
          have HF5 := Lib.hid (heap_old (p := .cells #[.string xs] 35) HF1.out)
          have n11 := Lib.hid (show c + 1 ≤ maxLen by have h3 := HLEN.out; unfold maxLen; omega)
          have n22 := Lib.hid (show (c + 1) * 16 ≤ 140737488355328 by have h3 := HLEN.out; omega)
          have n33 := Lib.hid (HSZ.out _ K5.out)
          have oc := Lib.hid (one_str xs)
          clear HO1 KB1 HE1 HL1 HF1
          go_wp2_with (at_builtin; refine wpList_append_own _ rfl _ _ 26 rfl B3 35 i0 (.string ByteArray.empty) 1 16 Try.underlying26 hi0 hz0 hz1 hz2 rfl (by decide) _ _ _ rfl HO5.out ⟨W1.heap.size, 0, none⟩ 1 1 [.string xs] rfl rfl NEW.out oc.out n11.out n22.out n33.out ?_)
          intro v' w6 hown' hgrow _
          have HO6 := Lib.hid hown'
          have K6 := Lib.hid (K5.out.grown hgrow n33.out (fun j hj => (HO5.out.lt j hj).1))
          have HL6 := Lib.hid (g_keeps HO5.out hgrow HL5.out (by decide))
          have HF6 := Lib.hid (g_keeps HO5.out hgrow HF5.out (by decide))
          clear hown' hgrow HO5 K5 NEW e0 e1 l0 f1 HL5 HF5
          obtain ⟨vp, vc, rfl⟩ := g_slice HO6.out
          have m2 : w6.cell? ⟨fb, 1, none⟩ = some (.slice sp c sc) := cell_of_block HF6.out rfl
          have fm2 := free_of_block (j := 1) HF6.out
          have HO7 := Lib.hid (g_set (j := 1) (u := .slice vp (c + 1) vc) HO6.out HF6.out (by decide))
          have HF7 := Lib.hid (heap_store (j := 1) (v := .slice vp (c + 1) vc) HF6.out)
          have HL7 := Lib.hid (heap_store_other (j := 1) (v := .slice vp (c + 1) vc) HL6.out HNLF.out)
          have K7 := Lib.hid (K6.out.setCell (p := ⟨fb, 1, none⟩) HGF.out (.slice vp (c + 1) vc))
          go_wp2_with fail
          go_roundw
          case rel => exact ⟨k + 1, c + 1, _, by omega, by omega, by go_num, Lib.hid (by rw [HT2.out]; exact HO7.out), HF7, HL7, K7⟩
          case measure => simp [intOf]; omega
    · obtain rfl : k = m := by omega
      rw [List.take_of_length_le (by rw [HMM.out]; exact Nat.le_refl _)] at HO
      have HA := Lib.hid (AddrsG.of_owns HO.out)
      have KW := Lib.hid (show Below w.heap.size w wr from hB3.out.trans (by have h := KB.out; rw [HBE.out] at h; exact h.mono hB3.out.size))
      have RBw := Lib.hid (show wr.heap[w.heap.size + 1]? = some (.cells #[.bool false, .slice none 0 0] 28 (0, 0)) from (KB.out.block _ HR1.out).trans RB3.out)
      have f0 : wr.cell? ⟨fb, 0, none⟩ = some (.bool fe) := cell_of_block HF.out rfl
      have f1 : wr.cell? ⟨fb, 1, none⟩ = some (.slice sp c sc) := cell_of_block HF.out rfl
      have y0 := cell_of_block (j := 0) RBw.out rfl
      have y1 := cell_of_block (j := 1) RBw.out rfl
      have fr := (fun j : Nat => free_of_block (j := j) RBw.out)
      have HL9 := Lib.hid (show c = (nmS (fl.filter (selX fe))).length by have h := HO.out.1; simpa using h.symm)
      clear hlt HO HF HL
      go_wp2_with fail
      refine bodyPost_ret (v := .agg #[.bool fe, .slice sp c sc]) (by simp [results, Try.results12, go_sem, y0, y1]) rfl (HQ.out _ _ ?_ ?_)
      · have hw : w.heap.size + 1 < B3 := HR1.out
        exact ((HA.out.store (c := w.heap.size + 1) hw).store (c := w.heap.size + 1) hw).mono (by omega) (fun h => h)
      · exact (KW.out.setCell (p := ⟨w.heap.size + 1, 0, none⟩) (by show _ ≤ w.heap.size + 1; omega) _).setCell (p := ⟨w.heap.size + 1, 1, none⟩) (by show _ ≤ w.heap.size + 1; omega) _

/-- A list of states, that may be cut. -/
def StsAt (w : World) (v : Value) (L : List StR) : Prop :=
  RowsAt 3 cellsStR w v L ∧ (∀ p n c, v = .slice p n c → n ≤ c) ∧ ∀ r ∈ L, RowsAt 2 cellsTm w r.srcv r.src ∧ r.src.length ≤ 1000000
theorem StsAt.below {w w' : World} {v : Value} {L : List StR} (h : StsAt w v L) (k : Below w.heap.size w w') : StsAt w' v L :=
  ⟨h.1.below k, h.2.1, fun r hr => ⟨(h.2.2 r hr).1.below k, (h.2.2 r hr).2⟩⟩
theorem StsAt.take {w : World} {p : Option Addr} {n c : Nat} {L : List StR} (h : StsAt w (.slice p n c) L) (k : Nat) (hk : k ≤ n) : StsAt w (.slice p k c) (L.take k) := by
  obtain ⟨⟨q, d, b, off, hv, hp, hc⟩, h2, h3⟩ := h
  simp only [Value.slice.injEq] at hv
  obtain ⟨rfl, rfl, rfl⟩ := hv
  have e : (L.take k).length = k := by rw [List.length_take]; omega
  refine ⟨⟨p, c, b, off, by rw [e], fun hne => hp (by rintro rfl; simp at hne), fun j x hj => hc j x ?_⟩, ?_, fun r hr => h3 r (List.mem_of_mem_take hr)⟩
  · have hjk : j < k := by have := (List.getElem?_eq_some_iff.1 hj).1; omega
    rw [List.getElem?_take_of_lt hjk] at hj
    exact hj
  · intro p' n' c' e'
    simp only [Value.slice.injEq] at e'
    obtain ⟨rfl, rfl, rfl⟩ := e'
    have := h2 _ _ _ rfl
    omega
theorem StsAt.drop {w : World} {b off n c : Nat} {L : List StR} (h : StsAt w (.slice (some ⟨b, off, none⟩) n c) L) (k : Nat) (hk : k < n) : StsAt w (.slice (some ⟨b, off + k * 3, none⟩) (n - k) (c - k)) (L.drop k) := by
  obtain ⟨⟨q, d, b', off', hv, hp, hc⟩, h2, h3⟩ := h
  simp only [Value.slice.injEq] at hv
  obtain ⟨rfl, rfl, rfl⟩ := hv
  have e := hp (by rintro rfl; simp at hk)
  simp only [Option.some.injEq, Addr.mk.injEq, and_true] at e
  obtain ⟨rfl, rfl⟩ := e
  refine ⟨⟨_, c - k, b, off + k * 3, by rw [List.length_drop], fun hne => rfl, fun j x hj i u hu => ?_⟩, ?_, fun r hr => h3 r (List.mem_of_mem_drop hr)⟩
  · rw [List.getElem?_drop] at hj
    have := hc (k + j) x hj i u hu
    rw [show off + k * 3 + j * 3 + i = off + (k + j) * 3 + i from by omega]
    exact this
  · intro p' n' c' e'
    simp only [Value.slice.injEq] at e'
    obtain ⟨rfl, rfl, rfl⟩ := e'
    have := h2 _ _ _ rfl
    omega
theorem StsAt.place {w : World} {p : Option Addr} {n c : Nat} {L : List StR} (h : StsAt w (.slice p n c) L) (hn : 0 < n) : ∃ b off, p = some ⟨b, off, none⟩ := by
  obtain ⟨⟨q, d, b, off, hv, hp, hc⟩, h2, h3⟩ := h
  simp only [Value.slice.injEq] at hv
  obtain ⟨rfl, rfl, rfl⟩ := hv
  exact ⟨b, off, hp (by rintro rfl; simp at hn)⟩
theorem StsAt.len {w : World} {p : Option Addr} {n c : Nat} {L : List StR} (h : StsAt w (.slice p n c) L) : n = L.length ∧ n ≤ c := by
  obtain ⟨⟨q, d, b, off, hv, hp, hc⟩, h2, h3⟩ := h
  simp only [Value.slice.injEq] at hv
  exact ⟨hv.2.1, h2 _ _ _ rfl⟩
/-- The states, plainly. -/
def stO (r : StR) : St := ⟨r.ex, r.tm, r.src⟩
def filsR (L : List StR) (now : Int) : List Fl := L.map fun r => filP (stO r) now
theorem filsR_len (L : List StR) (now : Int) : ∀ g ∈ filsR L now, g.src.length ≤ 60 := by
  intro g hg
  obtain ⟨s, -, rfl⟩ := List.mem_map.1 hg
  exact fil_len _ now
theorem mergeR_len (L : List StR) (now : Int) : (mergeF (filsR L now)).src.length ≤ 60 * L.length := by
  have := merge_len (filsR_len L now)
  rwa [show (filsR L now).length = L.length from by unfold filsR; rw [List.length_map]] at this

theorem px_call {W w w' : World} (h : Below W.heap.size W w) (k : Below w.heap.size w w') : Below W.heap.size W w' := h.trans (k.mono h.size)
theorem run_lo (p : Option Addr) (n c h : Nat) (hh : h ≤ c) (U : World) : (Instr.slice 22 (.slice p n c) none (some (.int .i64 h)) none).run Try.prog U = .ok (.slice p h c) U := by
  have := run_slice_h (P := Try.prog) (w := U) 22 p n c (by rw [show Try.prog.elem 22 = 32 from by kernel_rfl]; exact Try.underlying22) .i64 h (by omega) (by omega)
  rw [this, show Try.prog.elem 22 = 32 from by kernel_rfl, Try.sizeOf32]
  simp [Result.andThen, sliced, Addr.add]
theorem run_hi (b o n c h : Nat) (h0 : 0 < h) (hh : h < n) (hc : n ≤ c) (U : World) : (Instr.slice 22 (.slice (some ⟨b, o, none⟩) n c) (some (.int .i64 h)) none none).run Try.prog U = .ok (.slice (some ⟨b, o + h * 3, none⟩) (n - h) (c - h)) U := by
  have := run_slice_l (P := Try.prog) (w := U) 22 (some ⟨b, o, none⟩) n c (by rw [show Try.prog.elem 22 = 32 from by kernel_rfl]; exact Try.underlying22) .i64 h (by omega) (by omega)
  rw [this, show Try.prog.elem 22 = 32 from by kernel_rfl, Try.sizeOf32]
  have e : ¬ c = h := by omega
  have e2 : ¬ h * 3 = 0 := by omega
  simp [Result.andThen, sliced, Addr.add, e, e2]

set_option maxHeartbeats 8000000 in
set_option maxRecDepth 100000 in
theorem merge0_c (p : Option Addr) (c : Nat) (now : Int) (w : World) : Calls Try.prog 14 #[.slice p 0 c, .int .i64 now] w (FPost noF w) := by
  have RB := Lib.hid (heap_new w (.cells #[.bool false, .slice none 0 0] 28))
  have KB := Lib.hid ((Below.refl w.heap.size w).alloc (Nat.le_refl _) (.cells #[.bool false, .slice none 0 0] 28))
  go_enter Try.func14, Try.ntmps14
  go_upto_region 1 with fail
  generalize w.alloc (.cells #[.bool false, .slice none 0 0] 28) = W at RB KB ⊢
  have y0 := cell_of_block (j := 0) RB.out rfl
  have y1 := cell_of_block (j := 1) RB.out rfl
  have fr := (fun j : Nat => free_of_block (j := j) RB.out)
  go_wp2_with fail
  refine bodyPost_ret (v := .agg #[.bool false, .slice none 0 0]) (by simp [results, Try.results14, go_sem, y0, y1]) rfl ⟨_, rfl, ?_, ?_⟩
  · exact AddrsG.nil _ _ _
  · exact (KB.out.setCell (p := ⟨w.heap.size, 0, none⟩) (Nat.le_refl _) _).setCell (p := ⟨w.heap.size, 1, none⟩) (Nat.le_refl _) _

set_option maxHeartbeats 8000000 in
set_option maxRecDepth 100000 in
theorem merge1_c (p : Option Addr) (c : Nat) (r : StR) (now : Int) (w : World) (h : StsAt w (.slice p 1 c) [r]) : Calls Try.prog 14 #[.slice p 1 c, .int .i64 now] w (FPost (filP (stO r) now) w) := by
  have RB := Lib.hid (heap_new w (.cells #[.bool false, .slice none 0 0] 28))
  have KB := Lib.hid ((Below.refl w.heap.size w).alloc (Nat.le_refl _) (.cells #[.bool false, .slice none 0 0] 28))
  obtain ⟨b, off, rfl⟩ := h.place (by omega)
  obtain ⟨⟨q, d, b', off', hv, hp, hc⟩, h2, h3⟩ := h
  have e := hp (by simp)
  simp only [Value.slice.injEq] at hv
  rw [← hv.1] at e
  simp only [Option.some.injEq, Addr.mk.injEq, and_true] at e
  obtain ⟨rfl, rfl⟩ := e
  have kk := (Below.refl w.heap.size w).alloc (Nat.le_refl _) (.cells #[.bool false, .slice none 0 0] 28)
  have x0 := gcell_below kk (hc 0 r rfl 0 _ rfl)
  have x1 := gcell_below kk (hc 0 r rfl 1 _ rfl)
  have x2 := gcell_below kk (hc 0 r rfl 2 _ rfl)
  simp only [Nat.zero_mul, Nat.add_zero] at x0 x1 x2
  have HF := Lib.hid (fun U (k : Below w.heap.size w U) => pfil_c r.ex r.tm r.srcv r.src now U (h3 r (by simp)).2 ((h3 r (by simp)).1.below k))
  have hR : filP (stO r) now = filP ⟨r.ex, r.tm, r.src⟩ now := rfl
  rw [hR]
  generalize filP ⟨r.ex, r.tm, r.src⟩ now = R at HF ⊢
  obtain ⟨re, rl⟩ := R
  unfold FPost at HF
  clear hc h2 h3 hp hv kk hR
  go_enter Try.func14, Try.ntmps14
  go_upto_region 1 with fail
  generalize w.alloc (.cells #[.bool false, .slice none 0 0] 28) = W at RB KB x0 x1 x2 ⊢
  go_wp2_with fail
  ((with_reducible refine (HF.out _ KB.out).mono ?_); rintro e w3 ⟨v3, rfl, a3, k3⟩)
  have RB3 := Lib.hid (below_block k3 (lt_of_block RB.out) RB.out)
  have A3 := Lib.hid a3
  have K3 := Lib.hid (KB.out.trans (k3.mono KB.out.size))
  have hsz := Lib.hid (show w.heap.size < W.heap.size from lt_of_block RB.out)
  obtain ⟨p3, c3, rfl⟩ := a3.slice
  clear a3 k3 x0 x1 x2
  have y0 := cell_of_block (j := 0) RB3.out rfl
  have y1 := cell_of_block (j := 1) RB3.out rfl
  have fr := (fun j : Nat => free_of_block (j := j) RB3.out)
  go_wp2_with fail
  refine bodyPost_ret (v := .agg #[.bool re, .slice p3 rl.length c3]) (by simp [results, Try.results14, go_sem, y0, y1]) rfl ⟨_, rfl, ?_, ?_⟩
  · exact ((A3.out.store (c := w.heap.size) hsz.out).store (c := w.heap.size) hsz.out).mono (Nat.le_of_lt hsz.out) (fun h => h)
  · exact (K3.out.setCell (p := ⟨w.heap.size, 0, none⟩) (Nat.le_refl _) _).setCell (p := ⟨w.heap.size, 1, none⟩) (Nat.le_refl _) _

set_option maxHeartbeats 8000000 in
set_option maxRecDepth 100000 in
theorem merge2_c (b off n c : Nat) (now : Int) (A B : List StR) (w : World) (hn : 2 ≤ n) (hb : n ≤ 1000) (hA : A.length = n / 2) (hB : B.length = n - n / 2) (hc : n ≤ c)
    (MA0 : ∀ U, Below w.heap.size w U → Calls Try.prog 14 #[.slice (some ⟨b, off, none⟩) (n / 2) c, .int .i64 now] U (FPost (mergeF (filsR A now)) U))
    (MB0 : ∀ U, Below w.heap.size w U → Calls Try.prog 14 #[.slice (some ⟨b, off + n / 2 * 3, none⟩) (n - n / 2) (c - n / 2), .int .i64 now] U (FPost (mergeF (filsR B now)) U)) :
    Calls Try.prog 14 #[.slice (some ⟨b, off, none⟩) n c, .int .i64 now] w (FPost (mergeF (filsR (A ++ B) now)) w) := by
  have MA := Lib.hid MA0
  have MB := Lib.hid MB0
  have la := mergeR_len A now
  have lb := mergeR_len B now
  have EQ : mergeF (filsR (A ++ B) now) = orF (mergeF (filsR A now)) (mergeF (filsR B now)) := by
    unfold filsR
    rw [List.map_append]
    exact merge_app _ _
  rw [EQ]
  have OR0 := fun U v1 v2 h1 h2 => or_c (mergeF (filsR A now)).ex (mergeF (filsR B now)).ex v1 v2 (mergeF (filsR A now)).src (mergeF (filsR B now)).src U (by omega) (by omega) h1 h2
  have OR := Lib.hid OR0
  have S1 := Lib.hid (run_lo (some ⟨b, off, none⟩) n c (n / 2) (by omega))
  have S2 := Lib.hid (run_hi b off n c (n / 2) (by omega) (by omega) hc)
  generalize mergeF (filsR A now) = FA at MA OR ⊢
  generalize mergeF (filsR B now) = FB at MB OR ⊢
  clear la lb EQ OR0 MA0 MB0
  obtain ⟨ae, al⟩ := FA
  obtain ⟨be, bl⟩ := FB
  simp only at OR
  generalize orF ⟨ae, al⟩ ⟨be, bl⟩ = R at OR ⊢
  obtain ⟨re, rl⟩ := R
  unfold FPost at MA MB OR
  simp only at MA MB OR
  have RB := Lib.hid (heap_new w (.cells #[.bool false, .slice none 0 0] 28))
  have KB := Lib.hid ((Below.refl w.heap.size w).alloc (Nat.le_refl _) (.cells #[.bool false, .slice none 0 0] 28))
  have Q0 := Lib.hid (show ((n / 2 : Nat) : Int) = Int.tdiv (n : Int) 2 from by rw [Int.tdiv_eq_ediv_of_nonneg (by omega)]; omega)
  rw [Q0.out] at S1 S2
  have t1 : 0 ≤ Int.tdiv (n : Int) 2 := by rw [← Q0.out]; omega
  have t2 : Int.tdiv (n : Int) 2 ≤ 100000 := by rw [← Q0.out]; omega
  have d1 : decide ((n : Int) = 0) = false := decide_eq_false (by omega)
  have d2 : decide ((n : Int) = 1) = false := decide_eq_false (by omega)
  have d3 : decide (n = 0) = false := decide_eq_false (by omega)
  have d4 : decide (n = 1) = false := decide_eq_false (by omega)
  go_enter Try.func14, Try.ntmps14
  go_upto_region 1 with fail
  generalize w.alloc (.cells #[.bool false, .slice none 0 0] 28) = W at RB KB ⊢
  go_upto_region 7 with fail
  have s1 := S1.out
  have s2 := S2.out
  have kk := KB.out.drew
  have RB0 : W.drew.heap[w.heap.size]? = some (.cells #[.bool false, .slice none 0 0] 28 (0, 0)) := RB.out
  clear KB RB
  have RB := RB0
  clear RB0
  refine wp_region_held_drew (S := fun U => (Instr.slice 22 (.slice (some ⟨b, off, none⟩) n c) none (some (.int .i64 (Int.tdiv (n : Int) 2))) none).run Try.prog U = .ok (.slice (some ⟨b, off, none⟩) (n / 2) c) U ∧ (Instr.slice 22 (.slice (some ⟨b, off, none⟩) n c) (some (.int .i64 (Int.tdiv (n : Int) 2))) none none).run Try.prog U = .ok (.slice (some ⟨b, off + n / 2 * 3, none⟩) (n - n / 2) (c - n / 2)) U) (by kernel_rfl) ⟨s1 _, s2 _⟩ (fun hH => ?_)
  generalize W.drew = Y0 at kk RB hH ⊢
  refine wpAnyH_take (i := 0) (oi := { dst := some 21, op := Op.move (Operand.tmp 0), type := 22, pos := "proxy.go:36", after := #[], guard := none }) (v := .slice (some ⟨b, off, none⟩) n c) rfl (by kernel_rfl) (by kernel_rfl) (by kernel_rfl) (fun _ _ _ h => h) (Or.inl ⟨by kernel_rfl, ?_⟩) hH ?_
  · intro w hSw; (try dsimp only at hSw); go_simp; (try rfl)
  try simp only [Act.put, List.setIfInBounds_toArray, List.set_cons_zero, List.set_cons_succ]
  refine wpAnyH_take (i := 1) (oi := { dst := some 22, op := Op.move (Operand.tmp 5), type := 3, pos := "proxy.go:36", after := #[], guard := none }) (v := .int .i64 (Int.tdiv (n : Int) 2)) rfl (by kernel_rfl) (by kernel_rfl) (by kernel_rfl) (fun _ _ _ h => h) (Or.inl ⟨by kernel_rfl, ?_⟩) hH ?_
  · intro w hSw; (try dsimp only at hSw); go_simp; (try rfl)
  try simp only [Act.put, List.setIfInBounds_toArray, List.set_cons_zero, List.set_cons_succ]
  refine wpAnyH_take (i := 2) (oi := { dst := some 23, op := Op.slice 22 (Operand.tmp 21) none (some (Operand.tmp 22)) none, type := 22, pos := "proxy.go:36", after := #[{ on := 0, ground := Ground.data }, { on := 1, ground := Ground.data }], guard := none }) (v := .slice (some ⟨b, off, none⟩) (n / 2) c) rfl (by kernel_rfl) (by kernel_rfl) (by kernel_rfl) (fun _ _ _ h => h) (Or.inl ⟨by kernel_rfl, ?_⟩) hH ?_
  · intro w hSw; (try dsimp only at hSw); go_simp; rw [if_pos ⟨by omega, by omega⟩, show ((n : Int) / 2).toNat = n / 2 by omega]
  try simp only [Act.put, List.setIfInBounds_toArray, List.set_cons_zero, List.set_cons_succ]
  refine wpAnyH_take (i := 3) (oi := { dst := some 24, op := Op.move (Operand.tmp 1), type := 3, pos := "proxy.go:36", after := #[], guard := none }) (v := .int .i64 now) rfl (by kernel_rfl) (by kernel_rfl) (by kernel_rfl) (fun _ _ _ h => h) (Or.inl ⟨by kernel_rfl, ?_⟩) hH ?_
  · intro w hSw; (try dsimp only at hSw); go_simp; (try rfl)
  try simp only [Act.put, List.setIfInBounds_toArray, List.set_cons_zero, List.set_cons_succ]
  refine wpAnyH_take (i := 5) (oi := { dst := some 26, op := Op.move (Operand.tmp 0), type := 22, pos := "proxy.go:36", after := #[], guard := none }) (v := .slice (some ⟨b, off, none⟩) n c) rfl (by kernel_rfl) (by kernel_rfl) (by kernel_rfl) (fun _ _ _ h => h) (Or.inl ⟨by kernel_rfl, ?_⟩) hH ?_
  · intro w hSw; (try dsimp only at hSw); go_simp; (try rfl)
  try simp only [Act.put, List.setIfInBounds_toArray, List.set_cons_zero, List.set_cons_succ]
  refine wpAnyH_take (i := 6) (oi := { dst := some 27, op := Op.move (Operand.tmp 5), type := 3, pos := "proxy.go:36", after := #[], guard := none }) (v := .int .i64 (Int.tdiv (n : Int) 2)) rfl (by kernel_rfl) (by kernel_rfl) (by kernel_rfl) (fun _ _ _ h => h) (Or.inl ⟨by kernel_rfl, ?_⟩) hH ?_
  · intro w hSw; (try dsimp only at hSw); go_simp; (try rfl)
  try simp only [Act.put, List.setIfInBounds_toArray, List.set_cons_zero, List.set_cons_succ]
  refine wpAnyH_take (i := 7) (oi := { dst := some 28, op := Op.slice 22 (Operand.tmp 26) (some (Operand.tmp 27)) none none, type := 22, pos := "proxy.go:36", after := #[{ on := 5, ground := Ground.data }, { on := 6, ground := Ground.data }], guard := none }) (v := .slice (some ⟨b, off + n / 2 * 3, none⟩) (n - n / 2) (c - n / 2)) rfl (by kernel_rfl) (by kernel_rfl) (by kernel_rfl) (fun _ _ _ h => h) (Or.inl ⟨by kernel_rfl, ?_⟩) hH ?_
  · intro w hSw; (try dsimp only at hSw); go_simp; rw [if_pos ⟨by omega, by omega⟩, show ((n : Int) / 2).toNat = n / 2 by omega, if_neg (show ¬ c = n / 2 by omega)]
  try simp only [Act.put, List.setIfInBounds_toArray, List.set_cons_zero, List.set_cons_succ]
  refine wpAnyH_take (i := 8) (oi := { dst := some 29, op := Op.move (Operand.tmp 1), type := 3, pos := "proxy.go:36", after := #[], guard := none }) (v := .int .i64 now) rfl (by kernel_rfl) (by kernel_rfl) (by kernel_rfl) (fun _ _ _ h => h) (Or.inl ⟨by kernel_rfl, ?_⟩) hH ?_
  · intro w hSw; (try dsimp only at hSw); go_simp; (try rfl)
  try simp only [Act.put, List.setIfInBounds_toArray, List.set_cons_zero, List.set_cons_succ]
  refine wpAnyH_ready (rs := [4]) (by kernel_rfl) (by simp) ?_
  refine AllReadyH.cons rfl (fun K hK => ?_) AllReadyH.nil
  go_simp
  with_reducible refine (MA.out _ kk).mono ?_
  rintro e Y1 ⟨va, rfl, aa, hb⟩
  (try go_wp2_with fail)
  replace RB := below_block hb (lt_of_block RB) RB
  replace kk := kk.trans (hb.mono kk.size)
  clear hb
  obtain ⟨pa, ca, rfl⟩ := aa.slice
  refine hK.out _ _ (⟨s1 _, s2 _⟩) (fun hH => ?_)
  clear hK K
  try simp only [Act.put, List.setIfInBounds_toArray, List.set_cons_zero, List.set_cons_succ]
  refine wpAnyH_ready (rs := [9]) (by kernel_rfl) (by simp) ?_
  refine AllReadyH.cons rfl (fun K hK => ?_) AllReadyH.nil
  go_simp
  with_reducible refine (MB.out _ kk).mono ?_
  rintro e Y2 ⟨vb, rfl, ab, hb⟩
  (try go_wp2_with fail)
  replace RB := below_block hb (lt_of_block RB) RB
  replace aa := aa.below hb
  replace kk := kk.trans (hb.mono kk.size)
  clear hb
  obtain ⟨pb, cb, rfl⟩ := ab.slice
  refine hK.out _ _ (⟨s1 _, s2 _⟩) (fun hH => ?_)
  clear hK K
  try simp only [Act.put, List.setIfInBounds_toArray, List.set_cons_zero, List.set_cons_succ]
  refine wpAnyH_ready (rs := [10]) (by kernel_rfl) (by simp) ?_
  refine AllReadyH.cons rfl (fun K hK => ?_) AllReadyH.nil
  have hwy := kk.size
  have hwz9 := lt_of_block RB
  go_simp
  with_reducible refine (OR.out _ _ _ aa.at ab.at).mono ?_
  rintro e Y3 ⟨vc, rfl, ac, hb⟩
  (try go_wp2_with fail)
  replace RB := below_block hb (lt_of_block RB) RB
  replace aa := aa.below hb
  replace ab := ab.below hb
  replace kk := kk.trans (hb.mono kk.size)
  clear hb
  obtain ⟨pc, cc, rfl⟩ := ac.slice
  refine hK.out _ _ (⟨s1 _, s2 _⟩) (fun hH => ?_)
  clear hK K
  try simp only [Act.put, List.setIfInBounds_toArray, List.set_cons_zero, List.set_cons_succ]
  refine wpAnyH_ready (rs := [11]) (by kernel_rfl) (by simp) ?_
  refine AllReadyH.cons rfl (fun K hK => ?_) AllReadyH.nil
  have z0 := cell_of_block (j := 0) RB rfl
  have z1 := cell_of_block (j := 1) RB rfl
  have fz := fun j : Nat => free_of_block (j := j) RB
  go_simp
  clear z0 z1 fz
  have hwz := lt_of_block RB
  refine hK.out _ _ (⟨s1 _, s2 _⟩) (fun hH => ?_)
  clear hK K
  try simp only [Act.put, List.setIfInBounds_toArray, List.set_cons_zero, List.set_cons_succ]
  refine wpAnyH_done (by kernel_rfl) ?_ _
  have z0 : ((Y3.setCell ⟨w.heap.size, 0, none⟩ (.bool re)).setCell ⟨w.heap.size, 1, none⟩ (.slice pc rl.length cc)).cell? ⟨w.heap.size, 0, none⟩ = some (.bool re) := cell_of_block (heap_store (j := 1) (v := .slice pc rl.length cc) (heap_store (j := 0) (v := .bool re) RB)) rfl
  have z1 : ((Y3.setCell ⟨w.heap.size, 0, none⟩ (.bool re)).setCell ⟨w.heap.size, 1, none⟩ (.slice pc rl.length cc)).cell? ⟨w.heap.size, 1, none⟩ = some (.slice pc rl.length cc) := cell_of_block (heap_store (j := 1) (v := .slice pc rl.length cc) (heap_store (j := 0) (v := .bool re) RB)) rfl
  have HP : FPost ⟨re, rl⟩ w (.returned (.agg #[.bool re, .slice pc rl.length cc])) ((Y3.setCell ⟨w.heap.size, 0, none⟩ (.bool re)).setCell ⟨w.heap.size, 1, none⟩ (.slice pc rl.length cc)) :=
    ⟨_, rfl, ((ac.store (c := w.heap.size) hwz9).store (c := w.heap.size) hwz9).mono hwy (fun h => h), (kk.setCell (p := ⟨w.heap.size, 0, none⟩) (Nat.le_refl _) _).setCell (p := ⟨w.heap.size, 1, none⟩) (Nat.le_refl _) _⟩
  generalize (Y3.setCell ⟨w.heap.size, 0, none⟩ (.bool re)).setCell ⟨w.heap.size, 1, none⟩ (.slice pc rl.length cc) = wz at z0 z1 HP ⊢
  have HPP := Lib.hid HP
  clear HP hH
  go_wp2_with fail
  exact bodyPost_ret (v := .agg #[.bool re, .slice pc rl.length cc]) (by simp [results, Try.results14, go_sem, z0, z1]) rfl HPP.out

/-- Merge, of whatever states. -/
theorem pmerge_c : ∀ (k : Nat) (L : List StR) (p : Option Addr) (n c : Nat) (now : Int) (w : World), L.length ≤ k → L.length ≤ 1000 → StsAt w (.slice p n c) L →
    Calls Try.prog 14 #[.slice p n c, .int .i64 now] w (FPost (mergeF (filsR L now)) w) := by
  intro k
  induction k with
  | zero =>
    intro L p n c now w hk h1 h
    obtain ⟨hn, -⟩ := h.len
    obtain rfl : L = [] := List.eq_nil_of_length_eq_zero (by omega)
    obtain rfl : n = 0 := hn
    exact merge0_c p c now w
  | succ k ih =>
    intro L p n c now w hk h1 h
    obtain ⟨hn, hc⟩ := h.len
    by_cases h0 : n = 0
    · subst h0
      obtain rfl : L = [] := List.eq_nil_of_length_eq_zero (by omega)
      exact merge0_c p c now w
    · by_cases h2 : n = 1
      · subst h2
        obtain ⟨r, rfl⟩ : ∃ r, L = [r] := by
          match L, hn with
          | [r], _ => exact ⟨r, rfl⟩
        have := merge1_c p c r now w h
        rw [← merge_one (filP (stO r) now) (fil_up _ _)] at this
        exact this
      · obtain ⟨b, off, rfl⟩ := h.place (by omega)
        have e : L = L.take (n / 2) ++ L.drop (n / 2) := (List.take_append_drop _ _).symm
        have la : (L.take (n / 2)).length = n / 2 := by rw [List.length_take]; omega
        have lb : (L.drop (n / 2)).length = n - n / 2 := by rw [List.length_drop]; omega
        have := merge2_c b off n c now (L.take (n / 2)) (L.drop (n / 2)) w (by omega) (by omega) la lb hc
          (fun U hU => ih _ _ _ _ now U (by omega) (by omega) ((h.take (n / 2) (by omega)).below hU))
          (fun U hU => ih _ _ _ _ now U (by omega) (by omega) ((h.drop (n / 2) (by omega)).below hU))
        rw [← e] at this
        exact this

/-- A filter as an answer, wherever its list lies. -/
def FAt (f : Fl) (w : World) (e : Ending) (w' : World) : Prop := ∃ v, e = .returned (.agg #[.bool f.ex, v]) ∧ AddrsAt w' v f.src ∧ Below w.heap.size w w'
theorem FPost.toAt {f : Fl} {w : World} {e : Ending} {w' : World} (h : FPost f w e w') : FAt f w e w' := by
  obtain ⟨v, h1, h2, h3⟩ := h
  exact ⟨v, h1, h2.at, h3⟩

end Go.Proofs.Ythpafojeadbjlaa
