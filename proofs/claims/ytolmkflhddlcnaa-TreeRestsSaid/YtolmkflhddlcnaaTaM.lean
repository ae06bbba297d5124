/-
  The document's 'heard' of trees: what a bridge's ports hear. A contract over the translated program.
-/
import Derived.Test.YtolmkflhddlcnaaTaG
import Derived.Test.YtolmkflhddlcnaaTrJ
import Derived.Deep.RegionHeld3
import Derived.StillTailTactics
namespace Go.Proofs.Ytolmkflhddlcnaa
open Go.RowKit
set_option linter.unusedVariables false
set_option linter.unusedSimpArgs false

theorem listB_ne {n : Nat} (f : Nat → V4) (h : 1 ≤ n) : listB n f ≠ [] := by
  intro e
  have h2 := congrArg List.length e
  rw [listB_len] at h2
  simp at h2
  omega
/-- A list of what was heard is a block of its own. -/
def HdsIn (w : World) (g : Nat) (t : TypeId) (H : List Hd) : Prop := ∃ cs, w.heap[g]? = some (.cells cs t (0, 0)) ∧ cs.size = H.length * 6 ∧ ∀ j h, H[j]? = some h → ∀ i u, (cellsHd h)[i]? = some u → cs[j * 6 + i]? = some u
theorem HdsIn.cell {w : World} {g : Nat} {t : TypeId} {H : List Hd} (h : HdsIn w g t H) {j : Nat} {x : Hd} (hj : H[j]? = some x) {i : Nat} {u : Value} (hu : (cellsHd x)[i]? = some u) : w.cell? ⟨g, j * 6 + i, none⟩ = some u := by
  obtain ⟨cs, h1, -, h3⟩ := h
  exact cell_of_block h1 (h3 j x hj i u hu)
theorem HdsIn.free {w : World} {g : Nat} {t : TypeId} {H : List Hd} (h : HdsIn w g t H) (j : Nat) : w.frozen? ⟨g, j, none⟩ = false := by
  obtain ⟨cs, h1, -⟩ := h
  exact free_of_block h1
theorem HdsIn.below {w w' : World} {g : Nat} {t : TypeId} {H : List Hd} (h : HdsIn w g t H) (k : Below w.heap.size w w') : HdsIn w' g t H := by
  obtain ⟨cs, h1, h2⟩ := h
  exact ⟨cs, below_block k (lt_of_block h1) h1, h2⟩
theorem HdsIn.drew {w : World} {g : Nat} {t : TypeId} {H : List Hd} (h : HdsIn w g t H) : HdsIn w.drew g t H := h
theorem HdsIn.lt {w : World} {g : Nat} {t : TypeId} {H : List Hd} (h : HdsIn w g t H) : g < w.heap.size := by
  obtain ⟨cs, h1, -⟩ := h
  exact lt_of_block h1
theorem HdsIn.rows {w : World} {g n : Nat} {t : TypeId} {H : List Hd} (h : HdsIn w g t H) (hn : H.length = n) : RowsAt 6 cellsHd w (.slice (some ⟨g, 0, none⟩) n n) H := by
  subst hn
  exact ⟨_, _, g, 0, rfl, fun _ => rfl, fun j x hj i u hu => by rw [Nat.zero_add]; exact h.cell hj hu⟩
def wr6 (w : World) (g o : Nat) (v0 v1 v2 v3 v4 v5 : Value) : World := (((((w.setCell ⟨g, o, none⟩ v0).setCell ⟨g, o + 1, none⟩ v1).setCell ⟨g, o + 2, none⟩ v2).setCell ⟨g, o + 3, none⟩ v3).setCell ⟨g, o + 4, none⟩ v4).setCell ⟨g, o + 5, none⟩ v5
theorem HdsIn.put {w : World} {g : Nat} {t : TypeId} {H : List Hd} (h : HdsIn w g t H) {p : Nat} (hp : p < H.length) (x : Hd) : HdsIn (wr6 w g (p * 6) (.bool x.1) (.int .u64 x.2.1) (.int .i64 x.2.2.1) (.int .u64 x.2.2.2.1) (.int .i64 x.2.2.2.2.1) (.int .i64 x.2.2.2.2.2)) g t (H.set p x) := by
  obtain ⟨cs, h1, h2, h3⟩ := h
  refine ⟨_, heap_store (heap_store (heap_store (heap_store (heap_store (heap_store h1))))), by simp [h2], fun j y hj i u hu => ?_⟩
  have hi : i < 6 := by have := (List.getElem?_eq_some_iff.1 hu).1; simpa [cellsHd] using this
  by_cases hjp : j = p
  · subst hjp
    obtain rfl : x = y := by rw [List.getElem?_set_self hp] at hj; exact Option.some.inj hj
    have hs : j * 6 + 5 < cs.size := by rw [h2]; omega
    rcases i with _ | _ | _ | _ | _ | _ | i
    all_goals first
      | omega
      | (simp [cellsHd] at hu
         subst hu
         simp only [Array.getElem?_setIfInBounds, Array.size_setIfInBounds]
         simp
         omega)
  · rw [List.getElem?_set_ne (by omega)] at hj
    have := h3 j y hj i u hu
    repeat rw [Array.getElem?_setIfInBounds_ne (by omega)]
    exact this
theorem below_wr6 {B : Nat} {w0 w : World} (h : Below B w0 w) {g : Nat} (hg : B ≤ g) (o : Nat) (v0 v1 v2 v3 v4 v5 : Value) : Below B w0 (wr6 w g o v0 v1 v2 v3 v4 v5) :=
  (((((h.setCell (p := ⟨g, o, none⟩) hg _).setCell (p := ⟨g, o + 1, none⟩) hg _).setCell (p := ⟨g, o + 2, none⟩) hg _).setCell (p := ⟨g, o + 3, none⟩) hg _).setCell (p := ⟨g, o + 4, none⟩) hg _).setCell (p := ⟨g, o + 5, none⟩) hg _

theorem hdAt_no {id : Nat → Int} {A : List En} {bf : Nat → V4} {b j : Nat} {e : En} (h : ¬ (e.1 = (b : Int) ∧ e.2.1 = (j : Int))) : hdAt id (A ++ [e]) bf b j = hdAt id A bf b j := by
  unfold hdAt
  rw [List.find?_append]
  have : List.find? (fun e : En => e.1 == (b : Int) && e.2.1 == (j : Int)) [e] = none := by
    rw [List.find?_cons_of_neg (by simpa using h)]
    rfl
  rw [this, Option.or_none]
theorem hdAt_yes {id : Nat → Int} {A : List En} {bf : Nat → V4} {b j : Nat} {e : En} (h : e.1 = (b : Int) ∧ e.2.1 = (j : Int)) (hA : ∀ f ∈ A, sameE f e = false) : hdAt id (A ++ [e]) bf b j = hearH id bf e := by
  unfold hdAt
  have h1 : List.find? (fun e : En => e.1 == (b : Int) && e.2.1 == (j : Int)) A = none := by
    rw [List.find?_eq_none]
    intro f hf hq
    have := hA f hf
    unfold sameE at this
    simp at hq this
    rw [h.1, h.2] at this
    exact this hq.1 hq.2
  rw [List.find?_append, h1, Option.none_or, List.find?_cons_of_pos (by simpa using h)]
theorem hds_no {id : Nat → Int} {A : List En} {bf : Nat → V4} {b : Nat} {e : En} (h : ¬ e.1 = (b : Int)) : hdsT id (A ++ [e]) bf b = hdsT id A bf b := by
  unfold hdsT
  apply List.map_congr_left
  intro j _
  exact hdAt_no fun k => h k.1
theorem hds_yes {id : Nat → Int} {A : List En} {bf : Nat → V4} {b p : Nat} {e : En} (h : e.1 = (b : Int)) (hp : e.2.1 = (p : Int)) (hp16 : p < 16) (hA : ∀ f ∈ A, sameE f e = false) : hdsT id (A ++ [e]) bf b = (hdsT id A bf b).set p (hearH id bf e) := by
  apply List.ext_getElem?
  intro j
  by_cases hj : j < 16
  · rw [hds_at _ _ _ _ hj]
    by_cases hjp : j = p
    · subst hjp
      rw [List.getElem?_set_self (by rw [hds_len]; exact hj), hdAt_yes ⟨h, hp⟩ hA]
    · rw [List.getElem?_set_ne (by omega), hds_at _ _ _ _ hj, hdAt_no (by rw [hp]; omega)]
  · rw [List.getElem?_eq_none (by rw [hds_len]; omega), List.getElem?_eq_none (by rw [List.length_set, hds_len]; omega)]
theorem keys_take {ids : List Int} {L : List Lk} (hM : MayT ids L) {k : Nat} {x : En} (hx : (endsL L)[k]? = some x) : ∀ f ∈ (endsL L).take k, sameE f x = false := by
  intro f hf
  obtain ⟨i, hi⟩ := List.mem_iff_getElem?.1 hf
  have hik : i < k := by have := (List.getElem?_eq_some_iff.1 hi).1; rw [List.length_take] at this; omega
  rw [List.getElem?_take_of_lt hik] at hi
  have h1 := (List.pairwise_iff_getElem.1 hM.keys) i k (List.getElem?_eq_some_iff.1 hi).1 (List.getElem?_eq_some_iff.1 hx).1 hik
  rw [(List.getElem?_eq_some_iff.1 hi).2, (List.getElem?_eq_some_iff.1 hx).2] at h1
  exact h1

theorem info_Hr : (Try.prog.info? 89).map (fun i => (i.zero, i.size, i.bytes)) = some (some (.agg #[.bool false, .int .u64 0, .int .i64 0, .int .u64 0, .int .i64 0, .int .i64 0]), 6, 48) := by kernel_rfl
def blankRow : Array Value := madeCells (Value.agg #[.bool false, .int .u64 0, .int .i64 0, .int .u64 0, .int .i64 0, .int .i64 0]).cells (16 * 6)
theorem blank_in (w : World) (t : TypeId) (id : Nat → Int) (bf : Nat → V4) (b : Nat) : HdsIn (w.alloc (.cells blankRow t)) w.heap.size t (hdsT id [] bf b) := by
  refine ⟨_, heap_new _ _, by rw [hds_len]; simp [blankRow, size_madeCells], fun j h hj i u hu => ?_⟩
  have hj16 : j < 16 := by have := (List.getElem?_eq_some_iff.1 hj).1; rwa [hds_len] at this
  rw [hds_at _ _ _ _ hj16] at hj
  obtain rfl : blankH = h := Option.some.inj hj
  have hi : i < 6 := by have := (List.getElem?_eq_some_iff.1 hu).1; simpa [cellsHd] using this
  have h1 : (j * 6 + i) % 6 = i := by omega
  have h2 : j * 6 + i < 16 * 6 := by omega
  unfold blankRow madeCells
  rw [Array.getElem?_map, Array.getElem?_range]
  simp only [h2, if_true, Option.map_some, Value.cells]
  rcases i with _ | _ | _ | _ | _ | _ | i
  all_goals first
    | omega
    | (simp [cellsHd, blankH] at hu; subst hu; simp [h1])

set_option maxHeartbeats 8000000 in
set_option maxRecDepth 100000 in
theorem rheard_c {w : World} {vi vl vb : Value} {ids : List Int} {L : List Lk} {bf : Nat → V4} (hi : RowsAt 1 cellsU64 w vi ids) (hl : RowsAt 5 cellsLk w vl (endsL L)) (hb : RowsAt 4 cellsV4 w vb (listB ids.length bf)) (hM : MayT ids L) (b : Nat) :
    Calls Try.prog 32 #[vi, vl, vb, .int .i64 (b : Int)] w fun r w' => ∃ u, r = .returned u ∧ RowsAt 6 cellsHd w' u (hdsT (idAt ids) (endsL L) bf b) ∧ Below w.heap.size w w' := by
  have n1 := hM.n1
  have n12 := hM.n12
  have hE80 : (endsL L).length ≤ 80 := by have := hM.l40; rw [ends_len]; omega
  obtain ⟨pi, capi, bi, offi, rfl, hpi, hci⟩ := hi
  obtain ⟨pl, capl, bl, offl, rfl, hpl, hcl⟩ := hl
  obtain ⟨pv, capv, bv, offv, rfl, hpv, hcv⟩ := hb
  have hne : ids ≠ [] := by rintro rfl; simp at n1
  obtain rfl := hpi hne
  obtain rfl := hpv (listB_ne bf n1)
  rw [listB_len]
  have HM := Lib.hid hM
  have HPL := Lib.hid hpl
  have HCI := Lib.hid hci
  have HCL := Lib.hid hcl
  have HCV := Lib.hid hcv
  obtain ⟨i0, hi0, hz0, hz1, hz2⟩ := info_parts info_Hr
  have hmk : ∀ U : World, (Instr.makeSlice 69 (.int .i64 16) (.int .i64 16)).run Try.prog U = .ok (.slice (some ⟨U.heap.size, 0, none⟩) 16 16) (U.alloc (.cells blankRow 89)) := fun U => by
    have h := run_make (P := Try.prog) U 69 89 i0 (.agg #[.bool false, .int .u64 0, .int .i64 0, .int .u64 0, .int .i64 0, .int .i64 0]) Try.underlying69 hi0 hz0 .i64 .i64 16 16 (by omega) (Int.le_refl _) (by rw [hz2]; omega) (by omega)
    rw [hz1] at h
    exact h
  obtain ⟨E0, hE⟩ : ∃ E0, E0 = endsL L := ⟨_, rfl⟩
  have HEE := Lib.hid hE
  rw [← hE] at HPL HCL hE80
  rw [← hE]
  obtain ⟨ne, hne0⟩ : ∃ ne, ne = E0.length := ⟨_, rfl⟩
  have HNE := Lib.hid hne0
  rw [← hne0] at hE80
  rw [← hne0]
  obtain ⟨n, hn⟩ : ∃ n, n = ids.length := ⟨_, rfl⟩
  have HNN := Lib.hid hn
  rw [← hn] at n1 n12
  rw [← hn]
  clear hpi hpl hpv hci hcl hcv hne hM hE hne0 hn
  go_enter Try.func32, Try.ntmps32
  go_upto_region 2 with fail
  have HG0 := Lib.hid (blank_in w 89 (idAt ids) bf b)
  have KB0 := Lib.hid (show Below w.heap.size w (w.alloc (.cells blankRow 89)) from (Below.refl _ w).alloc (Nat.le_refl _) _)
  generalize w.alloc (.cells blankRow 89) = W1 at HG0 KB0 ⊢
  clear hmk
  go_wp2_with fail
  go_loopw [10, 11] (fun i _ wr => ∃ k : Nat, k ≤ ne ∧ i = .int .i64 k ∧ Hid (HdsIn wr w.heap.size 89 (hdsT (idAt ids) (E0.take k) bf b)) ∧ Hid (Below w.heap.size w wr)) (fun i _ _ => ne - (intOf i).toNat)
  case atStart => exact ⟨0, Nat.zero_le _, rfl, HG0, KB0⟩
  case round =>
    clear HG0 KB0
    obtain ⟨k, hk, rfl, HG, KB⟩ := hrel
    by_cases hlt : k < ne
    · obtain ⟨x, hx⟩ : ∃ x, E0[k]? = some x := ⟨_, List.getElem?_eq_getElem (by rw [← HNE.out]; exact hlt)⟩
      have hneE : E0 ≠ [] := by rintro rfl; simp at hx
      obtain rfl := HPL.out hneE
      have hlt' : k < E0.length := (List.getElem?_eq_some_iff.1 hx).1
      have HTK := Lib.hid (show E0.take (k + 1) = E0.take k ++ [x] by rw [List.take_succ_eq_append_getElem hlt', (List.getElem?_eq_some_iff.1 hx).2])
      have hok := end_ok HM.out (show x ∈ endsL L by rw [← HEE.out]; exact List.mem_of_getElem? hx)
      have HKY := Lib.hid (show ∀ f ∈ E0.take k, sameE f x = false by rw [HEE.out]; exact keys_take HM.out (by rw [← HEE.out]; exact hx))
      have q0 := hok.p0
      have q1 := hok.p1
      have q2 := hok.t0
      have q3 := hok.t1
      rw [← HNN.out] at q3
      obtain ⟨xa, xp, xt, xf, xc⟩ := x
      simp only at q0 q1 q2 q3
      obtain ⟨p, rfl⟩ : ∃ p : Nat, xp = (p : Int) := ⟨xp.toNat, by omega⟩
      obtain ⟨β, rfl⟩ : ∃ β : Nat, xt = (β : Int) := ⟨xt.toNat, by omega⟩
      have hp16 : p < 16 := by omega
      have hβ : β < n := by omega
      clear q0 q1 q2 q3
      have x0 : wr.cell? ⟨bl, offl + k * 5, none⟩ = some (.int .i64 xa) := gcell_below KB.out (HCL.out k _ hx 0 _ rfl)
      have x1 : wr.cell? ⟨bl, offl + k * 5 + 1, none⟩ = some (.int .i64 (p : Int)) := gcell_below KB.out (HCL.out k _ hx 1 _ rfl)
      have x2 : wr.cell? ⟨bl, offl + k * 5 + 2, none⟩ = some (.int .i64 (β : Int)) := gcell_below KB.out (HCL.out k _ hx 2 _ rfl)
      have x3 : wr.cell? ⟨bl, offl + k * 5 + 3, none⟩ = some (.int .i64 xf) := gcell_below KB.out (HCL.out k _ hx 3 _ rfl)
      have x4 : wr.cell? ⟨bl, offl + k * 5 + 4, none⟩ = some (.int .i64 xc) := gcell_below KB.out (HCL.out k _ hx 4 _ rfl)
      have d1 : decide (k < ne) = true := decide_eq_true hlt
      have d2 : decide ((k : Int) < (ne : Int)) = true := decide_eq_true (by omega)
      have d3 : decide (ne ≤ k) = false := decide_eq_false (by omega)
      have d4 : decide (0 ≤ (k : Int)) = true := decide_eq_true (by omega)
      clear hx hneE hlt' hok
      by_cases hxa : xa = (b : Int)
      · obtain ⟨e1, e2⟩ := eq_t hxa
        have HST := Lib.hid (hds_yes (id := idAt ids) (bf := bf) (A := E0.take k) (e := (xa, (p : Int), (β : Int), xf, xc)) hxa rfl hp16 HKY.out)
        rw [← HTK.out] at HST
        clear hxa
        go_upto_region 6 with fail
        clear e1 e2
        have ci : wr.cell? ⟨bi, offi + β, none⟩ = some (.int .u64 (idAt ids β)) := gcell_below KB.out (by have := HCI.out β _ (idAt_at (by rw [← HNN.out]; exact hβ)) 0 _ rfl; simpa using this)
        have c0 : wr.cell? ⟨bv, offv + β * 4, none⟩ = some (.int .u64 (bf β).1) := gcell_below KB.out (HCV.out β _ (listB_at bf (by rw [← HNN.out]; exact hβ)) 0 _ rfl)
        have c1 : wr.cell? ⟨bv, offv + β * 4 + 1, none⟩ = some (.int .i64 (bf β).2.1) := gcell_below KB.out (HCV.out β _ (listB_at bf (by rw [← HNN.out]; exact hβ)) 1 _ rfl)
        have c2 : wr.cell? ⟨bv, offv + β * 4 + 2, none⟩ = some (.int .u64 (bf β).2.2.1) := gcell_below KB.out (HCV.out β _ (listB_at bf (by rw [← HNN.out]; exact hβ)) 2 _ rfl)
        have c3 : wr.cell? ⟨bv, offv + β * 4 + 3, none⟩ = some (.int .i64 (bf β).2.2.2) := gcell_below KB.out (HCV.out β _ (listB_at bf (by rw [← HNN.out]; exact hβ)) 3 _ rfl)
        have b1 : decide (β < n) = true := decide_eq_true hβ
        have b2 : decide ((β : Int) < (n : Int)) = true := decide_eq_true (by omega)
        have b3 : decide (n ≤ β) = false := decide_eq_false (by omega)
        have b4 : decide (0 ≤ (β : Int)) = true := decide_eq_true (by omega)
        have HV := Lib.hid (show hearH (idAt ids) bf (xa, (p : Int), (β : Int), xf, xc) = (true, (bf β).1, (bf β).2.1, idAt ids β, xf, xc) from rfl)
        rw [HV.out] at HST
        clear HV
        generalize idAt ids β = idb at ci HST
        generalize bf β = vv at c0 c1 c2 c3 HST
        obtain ⟨r, c, g, q⟩ := vv
        simp only at c0 c1 c2 c3 HST
        have KF := Lib.hid fun (U : World) (kz : Below wr.heap.size wr U) => (⟨gcell_below kz x2, gcell_below kz x3, gcell_below kz ci, gcell_below kz c0, gcell_below kz c1, gcell_below kz c2, gcell_below kz c3⟩ : U.cell? ⟨bl, offl + k * 5 + 2, none⟩ = some (.int .i64 (β : Int)) ∧ U.cell? ⟨bl, offl + k * 5 + 3, none⟩ = some (.int .i64 xf) ∧ U.cell? ⟨bi, offi + β, none⟩ = some (.int .u64 idb) ∧ U.cell? ⟨bv, offv + β * 4, none⟩ = some (.int .u64 r) ∧ U.cell? ⟨bv, offv + β * 4 + 1, none⟩ = some (.int .i64 c) ∧ U.cell? ⟨bv, offv + β * 4 + 2, none⟩ = some (.int .u64 g) ∧ U.cell? ⟨bv, offv + β * 4 + 3, none⟩ = some (.int .i64 q))
        have k0 := (Below.refl wr.heap.size wr).drew
        have TC := Lib.hid fun (U : World) => rtells_c idb r c g q xf U
        refine wp_region_held_drew (S := fun U => U.cell? ⟨bl, offl + k * 5 + 2, none⟩ = some (.int .i64 (β : Int)) ∧ U.cell? ⟨bl, offl + k * 5 + 3, none⟩ = some (.int .i64 xf) ∧ U.cell? ⟨bi, offi + β, none⟩ = some (.int .u64 idb) ∧ U.cell? ⟨bv, offv + β * 4, none⟩ = some (.int .u64 r) ∧ U.cell? ⟨bv, offv + β * 4 + 1, none⟩ = some (.int .i64 c) ∧ U.cell? ⟨bv, offv + β * 4 + 2, none⟩ = some (.int .u64 g) ∧ U.cell? ⟨bv, offv + β * 4 + 3, none⟩ = some (.int .i64 q)) (by kernel_rfl) (KF.out _ k0) (fun hH => ?_)
        refine wpAnyH_take (i := 0) (oi := { dst := some 26, op := Op.move (Operand.tmp 0), type := 22, pos := "ref.go:69", after := #[], guard := none }) (v := .slice (some ⟨bi, offi, none⟩) n capi) rfl (by kernel_rfl) (by kernel_rfl) (by kernel_rfl) (fun _ _ _ h => h) (Or.inl ⟨by kernel_rfl, ?_⟩) hH ?_
        · intro w hSw; (try dsimp only at hSw); go_simp; (try rfl)
        try simp only [Act.put, List.setIfInBounds_toArray, List.set_cons_zero, List.set_cons_succ]
        refine wpAnyH_take (i := 1) (oi := { dst := some 27, op := Op.move (Operand.tmp 1), type := 46, pos := "ref.go:69", after := #[], guard := none }) (v := .slice (some ⟨bl, offl, none⟩) ne capl) rfl (by kernel_rfl) (by kernel_rfl) (by kernel_rfl) (fun _ _ _ h => h) (Or.inl ⟨by kernel_rfl, ?_⟩) hH ?_
        · intro w hSw; (try dsimp only at hSw); go_simp; (try rfl)
        try simp only [Act.put, List.setIfInBounds_toArray, List.set_cons_zero, List.set_cons_succ]
        refine wpAnyH_take (i := 2) (oi := { dst := some 28, op := Op.move (Operand.tmp 10), type := 3, pos := "ref.go:69", after := #[], guard := none }) (v := .int .i64 (k : Int)) rfl (by kernel_rfl) (by kernel_rfl) (by kernel_rfl) (fun _ _ _ h => h) (Or.inl ⟨by kernel_rfl, ?_⟩) hH ?_
        · intro w hSw; (try dsimp only at hSw); go_simp; (try rfl)
        try simp only [Act.put, List.setIfInBounds_toArray, List.set_cons_zero, List.set_cons_succ]
        refine wpAnyH_take (i := 3) (oi := { dst := some 29, op := Op.indexAddr 46 (Operand.tmp 27) (Operand.tmp 28), type := 0, pos := "ref.go:69", after := #[{ on := 1, ground := Ground.data }, { on := 2, ground := Ground.data }], guard := none }) (v := .pointer (some ⟨bl, offl + k * 5, none⟩)) rfl (by kernel_rfl) (by kernel_rfl) (by kernel_rfl) (fun _ _ _ h => h) (Or.inl ⟨by kernel_rfl, ?_⟩) hH ?_
        · intro w hSw; (try dsimp only at hSw); go_simp; (try rfl)
        try simp only [Act.put, List.setIfInBounds_toArray, List.set_cons_zero, List.set_cons_succ]
        refine wpAnyH_take (i := 4) (oi := { dst := some 30, op := Op.fieldAddr 49 (Operand.tmp 29) 2, type := 0, pos := "ref.go:69", after := #[{ on := 3, ground := Ground.data }], guard := none }) (v := .pointer (some ⟨bl, offl + k * 5 + 2, none⟩)) rfl (by kernel_rfl) (by kernel_rfl) (by kernel_rfl) (fun _ _ _ h => h) (Or.inl ⟨by kernel_rfl, ?_⟩) hH ?_
        · intro w hSw; (try dsimp only at hSw); go_simp; (try rfl)
        try simp only [Act.put, List.setIfInBounds_toArray, List.set_cons_zero, List.set_cons_succ]
        refine wpAnyH_take (i := 5) (oi := { dst := some 31, op := Op.load 3 (Operand.tmp 30), type := 3, pos := "ref.go:69", after := #[{ on := 4, ground := Ground.data }], guard := none }) (v := .int .i64 (β : Int)) rfl (by kernel_rfl) (by kernel_rfl) (by kernel_rfl) (fun _ _ _ h => h) (Or.inl ⟨by kernel_rfl, ?_⟩) hH ?_
        · intro w hSw; (try dsimp only at hSw); go_simp; (try rfl)
        try simp only [Act.put, List.setIfInBounds_toArray, List.set_cons_zero, List.set_cons_succ]
        refine wpAnyH_take (i := 6) (oi := { dst := some 32, op := Op.indexAddr 22 (Operand.tmp 26) (Operand.tmp 31), type := 0, pos := "ref.go:69", after := #[{ on := 0, ground := Ground.data }, { on := 5, ground := Ground.data }], guard := none }) (v := .pointer (some ⟨bi, offi + β, none⟩)) rfl (by kernel_rfl) (by kernel_rfl) (by kernel_rfl) (fun _ _ _ h => h) (Or.inl ⟨by kernel_rfl, ?_⟩) hH ?_
        · intro w hSw; (try dsimp only at hSw); go_simp; (try rfl)
        try simp only [Act.put, List.setIfInBounds_toArray, List.set_cons_zero, List.set_cons_succ]
        refine wpAnyH_take (i := 7) (oi := { dst := some 33, op := Op.load 44 (Operand.tmp 32), type := 44, pos := "ref.go:69", after := #[{ on := 6, ground := Ground.data }], guard := none }) (v := .int .u64 idb) rfl (by kernel_rfl) (by kernel_rfl) (by kernel_rfl) (fun _ _ _ h => h) (Or.inl ⟨by kernel_rfl, ?_⟩) hH ?_
        · intro w hSw; (try dsimp only at hSw); go_simp; (try rfl)
        try simp only [Act.put, List.setIfInBounds_toArray, List.set_cons_zero, List.set_cons_succ]
        refine wpAnyH_take (i := 8) (oi := { dst := some 34, op := Op.move (Operand.tmp 2), type := 63, pos := "ref.go:69", after := #[], guard := none }) (v := .slice (some ⟨bv, offv, none⟩) n capv) rfl (by kernel_rfl) (by kernel_rfl) (by kernel_rfl) (fun _ _ _ h => h) (Or.inl ⟨by kernel_rfl, ?_⟩) hH ?_
        · intro w hSw; (try dsimp only at hSw); go_simp; (try rfl)
        try simp only [Act.put, List.setIfInBounds_toArray, List.set_cons_zero, List.set_cons_succ]
        refine wpAnyH_take (i := 9) (oi := { dst := some 35, op := Op.move (Operand.tmp 1), type := 46, pos := "ref.go:69", after := #[], guard := none }) (v := .slice (some ⟨bl, offl, none⟩) ne capl) rfl (by kernel_rfl) (by kernel_rfl) (by kernel_rfl) (fun _ _ _ h => h) (Or.inl ⟨by kernel_rfl, ?_⟩) hH ?_
        · intro w hSw; (try dsimp only at hSw); go_simp; (try rfl)
        try simp only [Act.put, List.setIfInBounds_toArray, List.set_cons_zero, List.set_cons_succ]
        refine wpAnyH_take (i := 10) (oi := { dst := some 36, op := Op.move (Operand.tmp 10), type := 3, pos := "ref.go:69", after := #[], guard := none }) (v := .int .i64 (k : Int)) rfl (by kernel_rfl) (by kernel_rfl) (by kernel_rfl) (fun _ _ _ h => h) (Or.inl ⟨by kernel_rfl, ?_⟩) hH ?_
        · intro w hSw; (try dsimp only at hSw); go_simp; (try rfl)
        try simp only [Act.put, List.setIfInBounds_toArray, List.set_cons_zero, List.set_cons_succ]
        refine wpAnyH_take (i := 11) (oi := { dst := some 37, op := Op.indexAddr 46 (Operand.tmp 35) (Operand.tmp 36), type := 0, pos := "ref.go:69", after := #[{ on := 9, ground := Ground.data }, { on := 10, ground := Ground.data }], guard := none }) (v := .pointer (some ⟨bl, offl + k * 5, none⟩)) rfl (by kernel_rfl) (by kernel_rfl) (by kernel_rfl) (fun _ _ _ h => h) (Or.inl ⟨by kernel_rfl, ?_⟩) hH ?_
        · intro w hSw; (try dsimp only at hSw); go_simp; (try rfl)
        try simp only [Act.put, List.setIfInBounds_toArray, List.set_cons_zero, List.set_cons_succ]
        refine wpAnyH_take (i := 12) (oi := { dst := some 38, op := Op.fieldAddr 49 (Operand.tmp 37) 2, type := 0, pos := "ref.go:69", after := #[{ on := 11, ground := Ground.data }], guard := none }) (v := .pointer (some ⟨bl, offl + k * 5 + 2, none⟩)) rfl (by kernel_rfl) (by kernel_rfl) (by kernel_rfl) (fun _ _ _ h => h) (Or.inl ⟨by kernel_rfl, ?_⟩) hH ?_
        · intro w hSw; (try dsimp only at hSw); go_simp; (try rfl)
        try simp only [Act.put, List.setIfInBounds_toArray, List.set_cons_zero, List.set_cons_succ]
        refine wpAnyH_take (i := 13) (oi := { dst := some 39, op := Op.load 3 (Operand.tmp 38), type := 3, pos := "ref.go:69", after := #[{ on := 12, ground := Ground.data }], guard := none }) (v := .int .i64 (β : Int)) rfl (by kernel_rfl) (by kernel_rfl) (by kernel_rfl) (fun _ _ _ h => h) (Or.inl ⟨by kernel_rfl, ?_⟩) hH ?_
        · intro w hSw; (try dsimp only at hSw); go_simp; (try rfl)
        try simp only [Act.put, List.setIfInBounds_toArray, List.set_cons_zero, List.set_cons_succ]
        refine wpAnyH_take (i := 14) (oi := { dst := some 40, op := Op.indexAddr 63 (Operand.tmp 34) (Operand.tmp 39), type := 0, pos := "ref.go:69", after := #[{ on := 8, ground := Ground.data }, { on := 13, ground := Ground.data }], guard := none }) (v := .pointer (some ⟨bv, offv + β * 4, none⟩)) rfl (by kernel_rfl) (by kernel_rfl) (by kernel_rfl) (fun _ _ _ h => h) (Or.inl ⟨by kernel_rfl, ?_⟩) hH ?_
        · intro w hSw; (try dsimp only at hSw); go_simp; (try rfl)
        try simp only [Act.put, List.setIfInBounds_toArray, List.set_cons_zero, List.set_cons_succ]
        refine wpAnyH_take (i := 15) (oi := { dst := some 41, op := Op.load 79 (Operand.tmp 40), type := 79, pos := "ref.go:69", after := #[{ on := 14, ground := Ground.data }], guard := none }) (v := .agg #[.int .u64 r, .int .i64 c, .int .u64 g, .int .i64 q]) rfl (by kernel_rfl) (by kernel_rfl) (by kernel_rfl) (fun _ _ _ h => h) (Or.inl ⟨by kernel_rfl, ?_⟩) hH ?_
        · intro w hSw; (try dsimp only at hSw); go_simp; (try rfl)
        try simp only [Act.put, List.setIfInBounds_toArray, List.set_cons_zero, List.set_cons_succ]
        refine wpAnyH_take (i := 16) (oi := { dst := some 42, op := Op.move (Operand.tmp 1), type := 46, pos := "ref.go:69", after := #[], guard := none }) (v := .slice (some ⟨bl, offl, none⟩) ne capl) rfl (by kernel_rfl) (by kernel_rfl) (by kernel_rfl) (fun _ _ _ h => h) (Or.inl ⟨by kernel_rfl, ?_⟩) hH ?_
        · intro w hSw; (try dsimp only at hSw); go_simp; (try rfl)
        try simp only [Act.put, List.setIfInBounds_toArray, List.set_cons_zero, List.set_cons_succ]
        refine wpAnyH_take (i := 17) (oi := { dst := some 43, op := Op.move (Operand.tmp 10), type := 3, pos := "ref.go:69", after := #[], guard := none }) (v := .int .i64 (k : Int)) rfl (by kernel_rfl) (by kernel_rfl) (by kernel_rfl) (fun _ _ _ h => h) (Or.inl ⟨by kernel_rfl, ?_⟩) hH ?_
        · intro w hSw; (try dsimp only at hSw); go_simp; (try rfl)
        try simp only [Act.put, List.setIfInBounds_toArray, List.set_cons_zero, List.set_cons_succ]
        refine wpAnyH_take (i := 18) (oi := { dst := some 44, op := Op.indexAddr 46 (Operand.tmp 42) (Operand.tmp 43), type := 0, pos := "ref.go:69", after := #[{ on := 16, ground := Ground.data }, { on := 17, ground := Ground.data }], guard := none }) (v := .pointer (some ⟨bl, offl + k * 5, none⟩)) rfl (by kernel_rfl) (by kernel_rfl) (by kernel_rfl) (fun _ _ _ h => h) (Or.inl ⟨by kernel_rfl, ?_⟩) hH ?_
        · intro w hSw; (try dsimp only at hSw); go_simp; (try rfl)
        try simp only [Act.put, List.setIfInBounds_toArray, List.set_cons_zero, List.set_cons_succ]
        refine wpAnyH_take (i := 19) (oi := { dst := some 45, op := Op.fieldAddr 49 (Operand.tmp 44) 3, type := 0, pos := "ref.go:69", after := #[{ on := 18, ground := Ground.data }], guard := none }) (v := .pointer (some ⟨bl, offl + k * 5 + 3, none⟩)) rfl (by kernel_rfl) (by kernel_rfl) (by kernel_rfl) (fun _ _ _ h => h) (Or.inl ⟨by kernel_rfl, ?_⟩) hH ?_
        · intro w hSw; (try dsimp only at hSw); go_simp; (try rfl)
        try simp only [Act.put, List.setIfInBounds_toArray, List.set_cons_zero, List.set_cons_succ]
        refine wpAnyH_take (i := 20) (oi := { dst := some 46, op := Op.load 3 (Operand.tmp 45), type := 3, pos := "ref.go:69", after := #[{ on := 19, ground := Ground.data }], guard := none }) (v := .int .i64 xf) rfl (by kernel_rfl) (by kernel_rfl) (by kernel_rfl) (fun _ _ _ h => h) (Or.inl ⟨by kernel_rfl, ?_⟩) hH ?_
        · intro w hSw; (try dsimp only at hSw); go_simp; (try rfl)
        try simp only [Act.put, List.setIfInBounds_toArray, List.set_cons_zero, List.set_cons_succ]
        refine wpAnyH_ready (rs := [21, 22]) (by kernel_rfl) (by simp) ?_
        refine AllReadyH.cons rfl (fun K hK => ?_) ?_
        · go_simp
          with_reducible refine (TC.out _).mono ?_
          rintro e w8 ⟨rfl, hb8⟩
          try go_wp2_with fail
          have k8 := k0.trans (hb8.mono k0.size)
          refine hK.out _ _ (KF.out _ k8) (fun hH => ?_)
          clear hK K
          try simp only [Act.put, List.setIfInBounds_toArray, List.set_cons_zero, List.set_cons_succ]
          refine wpAnyH_ready (rs := [22]) (by kernel_rfl) (by simp) ?_
          refine AllReadyH.cons rfl (fun K hK => ?_) AllReadyH.nil
          go_simp
          refine hK.out _ _ (KF.out _ (k8.alloc k8.size _)) (fun hH => ?_)
          clear hK K
          try simp only [Act.put, List.setIfInBounds_toArray, List.set_cons_zero, List.set_cons_succ]
          refine wpAnyH_ready (rs := [23]) (by kernel_rfl) (by simp) ?_
          refine AllReadyH.cons rfl (fun K hK => ?_) AllReadyH.nil
          go_simp
          have kx := k8.alloc k8.size (.cells #[.int .u64 r, .int .i64 c, .int .u64 idb, .int .i64 xf] 79)
          have bx := heap_new w8 (.cells #[.int .u64 r, .int .i64 c, .int .u64 idb, .int .i64 xf] 79)
          refine hK.out _ _ (KF.out _ kx) (fun hH => ?_)
          clear hK K
          try simp only [Act.put, List.setIfInBounds_toArray, List.set_cons_zero, List.set_cons_succ]
          refine wpAnyH_done (by kernel_rfl) ?_ _
          clear k8 hb8
          generalize w8.alloc (.cells #[.int .u64 r, .int .i64 c, .int .u64 idb, .int .i64 xf] 79) = WX at kx bx hH ⊢
          generalize w8.heap.size = xb at bx ⊢
          clear hH c0 c1 c2 c3 ci b1 b2 b3 b4 KF TC k0
          have HGX := Lib.hid (HG.out.below kx)
          have KX := Lib.hid (KB.out.trans (kx.mono KB.out.size))
          have y1 := gcell_below kx x1
          have y4 := gcell_below kx x4
          have s0 : WX.cell? ⟨xb, 0, none⟩ = some (.int .u64 r) := cell_of_block bx rfl
          have s1 : WX.cell? ⟨xb, 1, none⟩ = some (.int .i64 c) := cell_of_block bx rfl
          have s2 : WX.cell? ⟨xb, 2, none⟩ = some (.int .u64 idb) := cell_of_block bx rfl
          have s3 : WX.cell? ⟨xb, 3, none⟩ = some (.int .i64 xf) := cell_of_block bx rfl
          obtain ⟨ho, hho⟩ : ∃ ho, (hdsT (idAt ids) (E0.take k) bf b)[p]? = some ho := ⟨_, hds_at _ _ _ _ hp16⟩
          obtain ⟨h0, h1, h2, h3, h4, h5⟩ := ho
          have z0 : WX.cell? ⟨w.heap.size, p * 6, none⟩ = some (.bool h0) := HGX.out.cell hho (i := 0) rfl
          have z1 : WX.cell? ⟨w.heap.size, p * 6 + 1, none⟩ = some (.int .u64 h1) := HGX.out.cell hho (i := 1) rfl
          have z2 : WX.cell? ⟨w.heap.size, p * 6 + 2, none⟩ = some (.int .i64 h2) := HGX.out.cell hho (i := 2) rfl
          have z3 : WX.cell? ⟨w.heap.size, p * 6 + 3, none⟩ = some (.int .u64 h3) := HGX.out.cell hho (i := 3) rfl
          have z4 : WX.cell? ⟨w.heap.size, p * 6 + 4, none⟩ = some (.int .i64 h4) := HGX.out.cell hho (i := 4) rfl
          have z5 : WX.cell? ⟨w.heap.size, p * 6 + 5, none⟩ = some (.int .i64 h5) := HGX.out.cell hho (i := 5) rfl
          have f0 := HGX.out.free (p * 6)
          have f1 := HGX.out.free (p * 6 + 1)
          have f2 := HGX.out.free (p * 6 + 2)
          have f3 := HGX.out.free (p * 6 + 3)
          have f4 := HGX.out.free (p * 6 + 4)
          have f5 := HGX.out.free (p * 6 + 5)
          have ltg := HGX.out.lt
          have b1 : decide (p < 16) = true := decide_eq_true hp16
          have b2 : decide ((p : Int) < 16) = true := decide_eq_true (by omega)
          have b3 : decide (16 ≤ p) = false := decide_eq_false (by omega)
          have b4 : decide (0 ≤ (p : Int)) = true := decide_eq_true (by omega)
          have b5 : (p : Int) < 16 := by omega
          have HPUT := Lib.hid (show HdsIn ((((((WX.setCell ⟨w.heap.size, p * 6, none⟩ (.bool true)).setCell ⟨w.heap.size, p * 6 + 1, none⟩ (.int .u64 r)).setCell ⟨w.heap.size, p * 6 + 2, none⟩ (.int .i64 c)).setCell ⟨w.heap.size, p * 6 + 3, none⟩ (.int .u64 idb)).setCell ⟨w.heap.size, p * 6 + 4, none⟩ (.int .i64 xf)).setCell ⟨w.heap.size, p * 6 + 5, none⟩ (.int .i64 xc)).drew w.heap.size 89 _ from (HGX.out.put (p := p) (by rw [hds_len]; exact hp16) (true, r, c, idb, xf, xc)).drew)
          rw [← HST.out] at HPUT
          have KPUT := Lib.hid (show Below w.heap.size w ((((((WX.setCell ⟨w.heap.size, p * 6, none⟩ (.bool true)).setCell ⟨w.heap.size, p * 6 + 1, none⟩ (.int .u64 r)).setCell ⟨w.heap.size, p * 6 + 2, none⟩ (.int .i64 c)).setCell ⟨w.heap.size, p * 6 + 3, none⟩ (.int .u64 idb)).setCell ⟨w.heap.size, p * 6 + 4, none⟩ (.int .i64 xf)).setCell ⟨w.heap.size, p * 6 + 5, none⟩ (.int .i64 xc)).drew from (below_wr6 KX.out (Nat.le_refl _) (p * 6) (.bool true) (.int .u64 r) (.int .i64 c) (.int .u64 idb) (.int .i64 xf) (.int .i64 xc)).drew)
          clear hho x0 x1 x2 x3 x4 kx bx
          go_wp2_with fail
          go_still_tail 14, (by kernel_rfl)
          change wpList _ _ _ _ _ WX.drew
          go_wp2_with fail
          go_roundw
          case rel => exact ⟨k + 1, by omega, by go_num, HPUT, KPUT⟩
          case measure => simp [intOf]; omega
        · refine AllReadyH.cons rfl (fun K hK => ?_) AllReadyH.nil
          go_simp
          have k1 := (k0.alloc k0.size (.cells #[.int .u64 0, .int .i64 0, .int .u64 0, .int .i64 0] 79))
          have b1x : ((wr.alloc (.cells #[.int .u64 0, .int .i64 0, .int .u64 0, .int .i64 0] 79)).drew).heap[wr.heap.size]? = some (.cells #[.int .u64 0, .int .i64 0, .int .u64 0, .int .i64 0] 79 (0, 0)) := heap_new wr (.cells #[.int .u64 0, .int .i64 0, .int .u64 0, .int .i64 0] 79)
          refine hK.out _ _ (KF.out _ k1) (fun hH => ?_)
          clear hK K
          try simp only [Act.put, List.setIfInBounds_toArray, List.set_cons_zero, List.set_cons_succ]
          refine wpAnyH_ready (rs := [21]) (by kernel_rfl) (by simp) ?_
          refine AllReadyH.cons rfl (fun K hK => ?_) AllReadyH.nil
          go_simp
          with_reducible refine (TC.out _).mono ?_
          rintro e w8 ⟨rfl, hb8⟩
          try go_wp2_with fail
          have k8 := k1.trans (hb8.mono k1.size)
          have b8 := below_block hb8 (lt_of_block b1x) b1x
          refine hK.out _ _ (KF.out _ k8) (fun hH => ?_)
          clear hK K
          try simp only [Act.put, List.setIfInBounds_toArray, List.set_cons_zero, List.set_cons_succ]
          have z0 := cell_of_block (j := 0) b8 rfl
          have fz0 := free_of_block (j := 0) b8
          have z1 := cell_of_block (j := 1) b8 rfl
          have fz1 := free_of_block (j := 1) b8
          have z2 := cell_of_block (j := 2) b8 rfl
          have fz2 := free_of_block (j := 2) b8
          have z3 := cell_of_block (j := 3) b8 rfl
          have fz3 := free_of_block (j := 3) b8
          refine wpAnyH_ready (rs := [23]) (by kernel_rfl) (by simp) ?_
          refine AllReadyH.cons rfl (fun K hK => ?_) AllReadyH.nil
          go_simp
          have kx := ((((k8.setCell (p := ⟨wr.heap.size, 0, none⟩) (Nat.le_refl _) (.int .u64 r)).setCell (p := ⟨wr.heap.size, 1, none⟩) (Nat.le_refl _) (.int .i64 c)).setCell (p := ⟨wr.heap.size, 2, none⟩) (Nat.le_refl _) (.int .u64 idb)).setCell (p := ⟨wr.heap.size, 3, none⟩) (Nat.le_refl _) (.int .i64 xf))
          have bx : ((((w8.setCell ⟨wr.heap.size, 0, none⟩ (.int .u64 r)).setCell ⟨wr.heap.size, 1, none⟩ (.int .i64 c)).setCell ⟨wr.heap.size, 2, none⟩ (.int .u64 idb)).setCell ⟨wr.heap.size, 3, none⟩ (.int .i64 xf)).heap[wr.heap.size]? = some (.cells #[.int .u64 r, .int .i64 c, .int .u64 idb, .int .i64 xf] 79 (0, 0)) := (heap_store (j := 3) (v := .int .i64 xf) (heap_store (j := 2) (v := .int .u64 idb) (heap_store (j := 1) (v := .int .i64 c) (heap_store (j := 0) (v := .int .u64 r) b8))))
          refine hK.out _ _ (KF.out _ kx) (fun hH => ?_)
          clear hK K
          try simp only [Act.put, List.setIfInBounds_toArray, List.set_cons_zero, List.set_cons_succ]
          refine wpAnyH_done (by kernel_rfl) ?_ _
          clear k8 hb8 b1x b8 z0 z1 z2 z3 fz0 fz1 fz2 fz3
          generalize ((((w8.setCell ⟨wr.heap.size, 0, none⟩ (.int .u64 r)).setCell ⟨wr.heap.size, 1, none⟩ (.int .i64 c)).setCell ⟨wr.heap.size, 2, none⟩ (.int .u64 idb)).setCell ⟨wr.heap.size, 3, none⟩ (.int .i64 xf)) = WX at kx bx hH ⊢
          clear hH c0 c1 c2 c3 ci b1 b2 b3 b4 KF TC k0
          have HGX := Lib.hid (HG.out.below kx)
          have KX := Lib.hid (KB.out.trans (kx.mono KB.out.size))
          have y1 := gcell_below kx x1
          have y4 := gcell_below kx x4
          have s0 : WX.cell? ⟨wr.heap.size, 0, none⟩ = some (.int .u64 r) := cell_of_block bx rfl
          have s1 : WX.cell? ⟨wr.heap.size, 1, none⟩ = some (.int .i64 c) := cell_of_block bx rfl
          have s2 : WX.cell? ⟨wr.heap.size, 2, none⟩ = some (.int .u64 idb) := cell_of_block bx rfl
          have s3 : WX.cell? ⟨wr.heap.size, 3, none⟩ = some (.int .i64 xf) := cell_of_block bx rfl
          obtain ⟨ho, hho⟩ : ∃ ho, (hdsT (idAt ids) (E0.take k) bf b)[p]? = some ho := ⟨_, hds_at _ _ _ _ hp16⟩
          obtain ⟨h0, h1, h2, h3, h4, h5⟩ := ho
          have z0 : WX.cell? ⟨w.heap.size, p * 6, none⟩ = some (.bool h0) := HGX.out.cell hho (i := 0) rfl
          have z1 : WX.cell? ⟨w.heap.size, p * 6 + 1, none⟩ = some (.int .u64 h1) := HGX.out.cell hho (i := 1) rfl
          have z2 : WX.cell? ⟨w.heap.size, p * 6 + 2, none⟩ = some (.int .i64 h2) := HGX.out.cell hho (i := 2) rfl
          have z3 : WX.cell? ⟨w.heap.size, p * 6 + 3, none⟩ = some (.int .u64 h3) := HGX.out.cell hho (i := 3) rfl
          have z4 : WX.cell? ⟨w.heap.size, p * 6 + 4, none⟩ = some (.int .i64 h4) := HGX.out.cell hho (i := 4) rfl
          have z5 : WX.cell? ⟨w.heap.size, p * 6 + 5, none⟩ = some (.int .i64 h5) := HGX.out.cell hho (i := 5) rfl
          have f0 := HGX.out.free (p * 6)
          have f1 := HGX.out.free (p * 6 + 1)
          have f2 := HGX.out.free (p * 6 + 2)
          have f3 := HGX.out.free (p * 6 + 3)
          have f4 := HGX.out.free (p * 6 + 4)
          have f5 := HGX.out.free (p * 6 + 5)
          have ltg := HGX.out.lt
          have b1 : decide (p < 16) = true := decide_eq_true hp16
          have b2 : decide ((p : Int) < 16) = true := decide_eq_true (by omega)
          have b3 : decide (16 ≤ p) = false := decide_eq_false (by omega)
          have b4 : decide (0 ≤ (p : Int)) = true := decide_eq_true (by omega)
          have b5 : (p : Int) < 16 := by omega
          have HPUT := Lib.hid (show HdsIn ((((((WX.setCell ⟨w.heap.size, p * 6, none⟩ (.bool true)).setCell ⟨w.heap.size, p * 6 + 1, none⟩ (.int .u64 r)).setCell ⟨w.heap.size, p * 6 + 2, none⟩ (.int .i64 c)).setCell ⟨w.heap.size, p * 6 + 3, none⟩ (.int .u64 idb)).setCell ⟨w.heap.size, p * 6 + 4, none⟩ (.int .i64 xf)).setCell ⟨w.heap.size, p * 6 + 5, none⟩ (.int .i64 xc)).drew w.heap.size 89 _ from (HGX.out.put (p := p) (by rw [hds_len]; exact hp16) (true, r, c, idb, xf, xc)).drew)
          rw [← HST.out] at HPUT
          have KPUT := Lib.hid (show Below w.heap.size w ((((((WX.setCell ⟨w.heap.size, p * 6, none⟩ (.bool true)).setCell ⟨w.heap.size, p * 6 + 1, none⟩ (.int .u64 r)).setCell ⟨w.heap.size, p * 6 + 2, none⟩ (.int .i64 c)).setCell ⟨w.heap.size, p * 6 + 3, none⟩ (.int .u64 idb)).setCell ⟨w.heap.size, p * 6 + 4, none⟩ (.int .i64 xf)).setCell ⟨w.heap.size, p * 6 + 5, none⟩ (.int .i64 xc)).drew from (below_wr6 KX.out (Nat.le_refl _) (p * 6) (.bool true) (.int .u64 r) (.int .i64 c) (.int .u64 idb) (.int .i64 xf) (.int .i64 xc)).drew)
          clear hho x0 x1 x2 x3 x4 kx bx
          go_wp2_with fail
          go_still_tail 14, (by kernel_rfl)
          change wpList _ _ _ _ _ WX.drew
          go_wp2_with fail
          go_roundw
          case rel => exact ⟨k + 1, by omega, by go_num, HPUT, KPUT⟩
          case measure => simp [intOf]; omega
      · obtain ⟨e1, e2⟩ := ne_t hxa
        have HST := Lib.hid (hds_no (id := idAt ids) (bf := bf) (A := E0.take k) (e := (xa, (p : Int), (β : Int), xf, xc)) hxa)
        rw [← HTK.out] at HST
        clear hxa
        go_wp2_with fail
        go_roundw
        case rel => exact ⟨k + 1, by omega, by go_num, Lib.hid (by rw [HST.out]; exact HG.out), KB⟩
        case measure => simp [intOf]; omega
    · obtain rfl : k = ne := by omega
      rw [List.take_of_length_le (by rw [HNE.out]; exact Nat.le_refl _)] at HG
      clear hlt
      go_wp2_with fail
      go_ret
      exact ⟨_, rfl, HG.out.rows (hds_len _ _ _ _), KB.out⟩
end Go.Proofs.Ytolmkflhddlcnaa
