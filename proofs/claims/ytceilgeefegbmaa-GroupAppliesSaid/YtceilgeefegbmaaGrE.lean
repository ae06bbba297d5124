/-
  'group.begin'. A contract over the translated program.
-/
import Derived.Test.YtceilgeefegbmaaGrD
import Derived.Test.YtceilgeefegbmaaGrK
namespace Go.Proofs.Ytceilgeefegbmaa
open Go Go.Maps Go.WideMaps
open Go.RowKit
set_option linter.unusedVariables false
set_option linter.unusedSimpArgs false

/-- The entries of a state's sources. -/
def entL (l : List Tm) : List T3 := l.foldl (fun L x => putT L (ky x.1) x.2) []
theorem ent_take {l : List Tm} {k : Nat} {x : Tm} (h : l[k]? = some x) : entL (l.take (k + 1)) = putT (entL (l.take k)) (ky x.1) x.2 := by
  rw [List.take_succ_eq_append_getElem (List.getElem?_eq_some_iff.1 h).1, (List.getElem?_eq_some_iff.1 h).2]
  simp [entL]
theorem ent_len : ∀ (l : List Tm) (L : List T3), (l.foldl (fun L x => putT L (ky x.1) x.2) L).length ≤ L.length + l.length
  | [], L => by simp
  | x :: r, L => by
    have h1 := ent_len r (putT L (ky x.1) x.2)
    have h2 := put_len L (ky x.1) x.2
    rw [List.foldl_cons, List.length_cons]
    omega

/-- A change that was begun. -/
def BegPost (ex : Bool) (tm : Int) (L : List T3) (tl : List ByteArray) (w : World) (e : Ending) (w' : World) : Prop :=
  ∃ c mb tv, e = .returned (.pointer (some ⟨c, 0, none⟩)) ∧ w.heap.size ≤ c ∧ w.heap.size ≤ mb ∧ Ch w' c mb ex tm tv false (.slice none 0 0) L ∧ AddrsG w.heap.size true w' tv tl ∧ Below w.heap.size w w'

theorem field_F1 (ex : Bool) (p : Option Addr) (n c : Nat) (U : World) : (Instr.field 61 (.agg #[.bool ex, .slice p n c]) 1).run Try.prog U = .ok (.slice p n c) U := by
  have h1 := Try.underlying61
  have h2 := Try.isAgg35
  have h3 := Try.sizeOf35
  simp [Instr.field, asAgg, part, go_sem, h2, h3]

set_option maxHeartbeats 8000000 in
set_option maxRecDepth 100000 in
theorem begin_c (ex : Bool) (tm : Int) (v : Value) (l : List Tm) (tv : Value) (tl : List ByteArray) (w : World) (hl : l.length ≤ 1000000) (h : RowsAt 2 cellsTm w v l) (hs : ∀ x ∈ l, x.1.size ≤ maxLen) (htl : tl.length ≤ 1000000) (hta : AddrsAt w tv tl) : Calls Try.prog 30 #[.agg #[.bool ex, .int .i64 tm, v], tv] w (BegPost ex tm (entL l) (ris tl) w) := by
  have NC := Lib.hid fun (U : World) (kz : Below w.heap.size w U) => norm_c false tv tl U htl (hta.below kz)
  have HS := Lib.hid hs
  obtain ⟨tp, tc, rfl⟩ := hta.slice
  obtain ⟨p, cap, b, off, rfl, hp, hc⟩ := h
  have HP := Lib.hid hp
  have HC := Lib.hid hc
  obtain ⟨n, hn⟩ : ∃ n, n = l.length := ⟨_, rfl⟩
  have HNN := Lib.hid hn
  rw [← hn] at hl ⊢
  generalize tl.length = tn at htl NC ⊢
  clear hp hc hn hs hta htl
  have HQ := Lib.hid (show ∀ c mb tv U, w.heap.size ≤ c → w.heap.size ≤ mb → Ch U c mb ex tm tv false (.slice none 0 0) (entL l) → AddrsG w.heap.size true U tv (ris tl) → Below w.heap.size w U → BegPost ex tm (entL l) (ris tl) w (.returned (.pointer (some ⟨c, 0, none⟩))) U from fun c mb tv U h1 h2 h3 h4 h5 => ⟨c, mb, tv, rfl, h1, h2, h3, h4, h5⟩)
  generalize BegPost ex tm (entL l) (ris tl) w = Q at HQ ⊢
  have hmm := @run_makeMap Try.prog
  have KB := Lib.hid (show Below w.heap.size w (((w.alloc (.cells #[.bool ex, .int .i64 tm, .slice p n cap] 24)).alloc (.map #[] 0)).alloc (.cells #[.bool ex, .int .i64 tm, .map (some (w.heap.size + 1)), .slice none 0 0, .bool false, .slice none 0 0] 71)) from (((Below.refl _ w).alloc (Nat.le_refl _) _).alloc (by simp) _).alloc (by simp; omega) _)
  have HB := Lib.hid (show (((w.alloc (.cells #[.bool ex, .int .i64 tm, .slice p n cap] 24)).alloc (.map #[] 0)).alloc (.cells #[.bool ex, .int .i64 tm, .map (some (w.heap.size + 1)), .slice none 0 0, .bool false, .slice none 0 0] 71)).heap[w.heap.size]? = some (.cells #[.bool ex, .int .i64 tm, .slice p n cap] 24 (0, 0)) from heap_old (heap_old (heap_new w _)))
  have HH := Lib.hid (show Ch (((w.alloc (.cells #[.bool ex, .int .i64 tm, .slice p n cap] 24)).alloc (.map #[] 0)).alloc (.cells #[.bool ex, .int .i64 tm, .map (some (w.heap.size + 1)), .slice none 0 0, .bool false, .slice none 0 0] 71)) (w.heap.size + 1 + 1) (w.heap.size + 1) ex tm (.slice none 0 0) false (.slice none 0 0) [] from by
    have M := Mp.made (w.alloc (.cells #[.bool ex, .int .i64 tm, .slice p n cap] 24)) Try.prog 25
    have e : (w.alloc (.cells #[.bool ex, .int .i64 tm, .slice p n cap] 24)).heap.size = w.heap.size + 1 := by simp
    rw [e] at M
    have h2 := heap_new ((w.alloc (.cells #[.bool ex, .int .i64 tm, .slice p n cap] 24)).alloc (.map #[] 0)) (.cells #[.bool ex, .int .i64 tm, .map (some (w.heap.size + 1)), .slice none 0 0, .bool false, .slice none 0 0] 71)
    have e2 : ((w.alloc (.cells #[.bool ex, .int .i64 tm, .slice p n cap] 24)).alloc (.map #[] 0)).heap.size = w.heap.size + 1 + 1 := by simp
    rw [e2] at h2
    exact ⟨h2, M.ofHeap (((Below.refl _ ((w.alloc (.cells #[.bool ex, .int .i64 tm, .slice p n cap] 24)).alloc (.map #[] 0))).alloc (Nat.le_refl _) _).block _ (by simp))⟩)
  go_enter Try.func30, Try.ntmps30
  go_upto_region 2 with fail
  generalize ((w.alloc (.cells #[.bool ex, .int .i64 tm, .slice p n cap] 24)).alloc (.map #[] 0)).alloc (.cells #[.bool ex, .int .i64 tm, .map (some (w.heap.size + 1)), .slice none 0 0, .bool false, .slice none 0 0] 71) = W2 at KB HB HH ⊢
  generalize hmb : w.heap.size + 1 = mb at HH ⊢
  generalize hcb : mb + 1 = cb at HH ⊢
  have HGM := Lib.hid (show w.heap.size ≤ mb by omega)
  have HGC := Lib.hid (show w.heap.size ≤ cb by omega)
  have s2 : W2.cell? ⟨w.heap.size, 2, none⟩ = some (.slice p n cap) := cell_of_block HB.out rfl
  clear hmb hcb hmm HB
  go_wp2_with fail
  go_loopw [7, 18] (fun _ i wr => ∃ k : Nat, k ≤ n ∧ i = .int .i64 k ∧ Hid (Ch wr cb mb ex tm (.slice none 0 0) false (.slice none 0 0) (entL (l.take k))) ∧ Hid (Below w.heap.size w wr)) (fun _ i _ => n - (intOf i).toNat)
  case atStart => exact ⟨0, Nat.zero_le _, rfl, HH, KB⟩
  case round =>
    clear s2 HH KB
    obtain ⟨k, hk, rfl, HH, KB⟩ := hrel
    by_cases hlt : k < n
    · obtain ⟨x, hx⟩ : ∃ x, l[k]? = some x := ⟨_, List.getElem?_eq_getElem (by rw [← HNN.out]; exact hlt)⟩
      have hne : l ≠ [] := by rintro rfl; simp at hx
      obtain rfl := HP.out hne
      have HTK := Lib.hid (ent_take hx)
      have hkey := Lib.hid (keyA x.1 (HS.out x (List.mem_of_getElem? hx)))
      have HLN := Lib.hid (show (entL (l.take k)).length < maxLen by have h1 := ent_len (l.take k) []; rw [List.length_take] at h1; simp at h1; unfold maxLen entL; omega)
      have x0 : wr.cell? ⟨b, off + k * 2, none⟩ = some (.string x.1) := gcell_below KB.out (HC.out k _ hx 0 _ rfl)
      have x1 : wr.cell? ⟨b, off + k * 2 + 1, none⟩ = some (.int .i64 x.2) := gcell_below KB.out (HC.out k _ hx 1 _ rfl)
      generalize x.1 = xs at x0 HTK hkey
      generalize x.2 = xa at x1 HTK
      have d1 : decide (k < n) = true := decide_eq_true hlt
      have d2 : decide ((k : Int) < (n : Int)) = true := decide_eq_true (by omega)
      have d3 : decide (n ≤ k) = false := decide_eq_false (by omega)
      have d4 : decide (0 ≤ (k : Int)) = true := decide_eq_true (by omega)
      clear hx hne
      generalize entL (l.take k) = Lk at HH HTK HLN
      go_upto_region 5 with fail
      have HE1 := Lib.hid (heap_new wr (.cells #[.string xs, .int .i64 xa] 56))
      have KB1 := Lib.hid (KB.out.alloc KB.out.size (.cells #[.string xs, .int .i64 xa] 56))
      have HH1 := Lib.hid (HH.out.below ((Below.refl _ wr).alloc (Nat.le_refl _) (.cells #[.string xs, .int .i64 xa] 56)))
      clear x0 x1 d1 d2 d3 d4 HH KB
      generalize wr.alloc (.cells #[.string xs, .int .i64 xa] 56) = W1 at HE1 KB1 HH1 ⊢
      generalize wr.heap.size = eb at HE1 ⊢
      have e0 : W1.cell? ⟨eb, 0, none⟩ = some (.string xs) := cell_of_block HE1.out rfl
      have e1 : W1.cell? ⟨eb, 1, none⟩ = some (.int .i64 xa) := cell_of_block HE1.out rfl
      have c2 := HH1.out.c2
      go_still_tail 8, (by kernel_rfl)
      change wpList _ _ _ _ _ W1.drew
      have HH2 := Lib.hid (show Ch W1.drew cb mb ex tm (.slice none 0 0) false (.slice none 0 0) Lk from HH1.out)
      have KB2 := Lib.hid (show Below w.heap.size w W1.drew from KB1.out.drew)
      have hm := Lib.hid HH2.out.2
      go_wp2_with (first | (at_mapUpdate; refine wpList_store_mp _ rfl _ _ _ 69 rfl 25 3 law_KA und_MA mb Lk rfl hm.out HLN.out _ _ _ rfl rfl hkey.out ?_; intro w5 hm5 ht5) | go_in)
      have HH5 := Lib.hid (HH2.out.turn hm5 ht5)
      have K5 := Lib.hid (KB2.out.trans ((Tw.turned (p := cb) ht5).below HGC.out HGM.out KB2.out.size))
      go_roundw
      case rel => exact ⟨k + 1, by omega, by go_num, Lib.hid (by rw [HTK.out]; exact HH5.out), K5⟩
      case measure => simp [intOf]; omega
    · obtain rfl : k = n := by omega
      rw [List.take_of_length_le (by rw [HNN.out]; exact Nat.le_refl _)] at HH
      clear hlt
      go_wp2_with fail
      ((with_reducible refine (NC.out _ KB.out).mono ?_); rintro e w6 ⟨nv, rfl, na, k6⟩)
      have HH6 := Lib.hid (HH.out.below k6)
      have KB6 := Lib.hid (KB.out.trans (k6.mono KB.out.size))
      obtain ⟨np, nc, rfl⟩ := na.slice
      have NA := Lib.hid ((na.store (c := cb) (j := 3) (u := .slice np (ris tl).length nc) HH.out.lt).mono KB.out.size (fun h => h))
      have c3 := HH6.out.c3
      have f3 := HH6.out.fz 3
      have HH7 := Lib.hid (show Ch (w6.setCell ⟨cb, 3, none⟩ (.slice np (ris tl).length nc)) cb mb ex tm (.slice np (ris tl).length nc) false (.slice none 0 0) (entL l) from ⟨heap_store (j := 3) (v := .slice np (ris tl).length nc) HH6.out.1, HH6.out.2.setCell HH6.out.ne _⟩)
      have KB7 := Lib.hid (KB6.out.setCell (p := ⟨cb, 3, none⟩) HGC.out (.slice np (ris tl).length nc))
      have ff := field_F1 (normF ⟨false, tl⟩).ex np (normF ⟨false, tl⟩).src.length nc w6
      clear na k6 NC
      go_wp2_with fail
      exact HQ.out _ _ _ _ HGC.out HGM.out HH7.out NA.out KB7.out
end Go.Proofs.Ytceilgeefegbmaa
