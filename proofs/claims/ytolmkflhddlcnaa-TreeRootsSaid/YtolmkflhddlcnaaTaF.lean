/-
  'tree.lay': the mesh of bridges and links. A contract over the translated program.
-/
import Derived.Test.YtolmkflhddlcnaaTaG
import Derived.Deep.RegionLaw
import Derived.Deep.AppendLies
import Derived.Deep.RegionHeld3
namespace Go.Proofs.Ytolmkflhddlcnaa
open Go.RowKit
set_option linter.unusedVariables false
set_option linter.unusedSimpArgs false

theorem gcell_only {w w' : World} {a b o : Nat} {v : Value} (x : Only a w w') (hne : b ≠ a) (h : w.cell? ⟨b, o, none⟩ = some v) : w'.cell? ⟨b, o, none⟩ = some v := by
  have e := x.block b (gcell_lt h) hne
  unfold World.cell? at h ⊢
  simp only at h ⊢
  rw [e]
  exact h
/-- The mesh in the making. -/
structure MkM (W w : World) (m : Nat) (vi vl sv : Value) (ab n : Nat) (va : Nat → Value) (D : List Pe) (bs : List V4) : Prop where
  mesh : w.heap[m]? = some (.cells #[vi, vl, .slice (some ⟨ab, 0, none⟩) n n, sv] 65 (0, 0))
  atm : AtM w W.heap.size ab n va D
  own : w.ownsRow W.heap.size 79 4 sv bs.length (bs.flatMap cellsV4)
  bel : Below W.heap.size W w
  geM : W.heap.size ≤ m
theorem MkM.below {W w w' : World} {m ab n : Nat} {vi vl sv : Value} {va : Nat → Value} {D : List Pe} {bs : List V4} (h : MkM W w m vi vl sv ab n va D bs) (k : Below w.heap.size w w') : MkM W w' m vi vl sv ab n va D bs :=
  ⟨below_block k (lt_of_block h.mesh) h.mesh, h.atm.below k, iowns_below h.own k, h.bel.trans (k.mono h.bel.size), h.geM⟩
/-- One best vector more. -/
theorem MkM.best {W w w7 : World} {m ab n : Nat} {vi vl sv nv : Value} {bs : List V4} {v : V4} (h : MkM W w m vi vl sv ab n (fun _ => .slice none 0 0) [] bs)
    (hm : w7.heap[m]? = some (.cells #[vi, vl, .slice (some ⟨ab, 0, none⟩) n n, sv] 65 (0, 0))) (hab : ∀ cs, w.heap[ab]? = some (.cells cs 51 (0, 0)) → w7.heap[ab]? = some (.cells cs 51 (0, 0)))
    (ho : w7.ownsRow W.heap.size 79 4 nv (bs.length + 1) (bs.flatMap cellsV4 ++ cellsV4 v)) (hb : Below W.heap.size W w7) :
    MkM W (w7.setCell ⟨m, 3, none⟩ nv) m vi vl nv ab n (fun _ => .slice none 0 0) [] (bs ++ [v]) := by
  have hx := Only.setCell w7 m 3 nv
  refine ⟨heap_store hm, ?_, ?_, hb.setCell (p := ⟨m, 3, none⟩) h.geM nv, h.geM⟩
  · obtain ⟨cs, h1, h2⟩ := h.atm.blk
    have hne : ab ≠ m := fun e => by
      have e1 := hab cs h1
      rw [e, hm] at e1
      exact absurd e1 (by simp)
    have h3 := hx.cells (hab cs h1) hne
    exact ⟨⟨cs, h3, h2⟩, fun b hb => World.ownsRow_nil _ _ _ _, fun b c _ _ _ g h => by simp [Value.ownBlock] at h, h.atm.geA, fun cs' f h' => by rw [h3] at h'; cases h'; exact h.atm.sz _ _ h1⟩
  · rw [List.length_append, List.flatMap_append]
    have e : [v].flatMap cellsV4 = cellsV4 v := by simp
    rw [e]
    exact owns_only ho hx hm (by decide)
/-- One end more. -/
theorem MkM.end_ {W w w7 : World} {m ab n β g7 c7 H : Nat} {vi vl sv : Value} {va : Nat → Value} {D : List Pe} {bs : List V4} {e : Pe} (h : MkM W w m vi vl sv ab n va D bs) (hβ : β < n) (he : e.1 = (β : Int))
    (hown : w7.ownsRow W.heap.size 54 4 (.slice (some ⟨g7, 0, none⟩) ((atP D β).length + 1) c7) ((atP D β).length + 1) ((atP D β).flatMap cellsPe ++ cellsPe e)) (hg : w.grownBy w7 (va β).ownBlock) (hat : (va β).ownBlock = some g7 ∨ g7 = H) (hH : w.heap.size = H) (hb : Below W.heap.size W w7) :
    MkM W (w7.setCell ⟨ab, β, none⟩ (.slice (some ⟨g7, 0, none⟩) ((atP D β).length + 1) c7)) m vi vl sv ab n (fun b => if b = β then .slice (some ⟨g7, 0, none⟩) ((atP D β).length + 1) c7 else va b) (D ++ [e]) bs := by
  have ha := h.atm.step hβ he hown hg hat hH
  have hx := Only.setCell w7 ab β (.slice (some ⟨g7, 0, none⟩) ((atP D β).length + 1) c7)
  obtain ⟨cs, h1, h2⟩ := h.atm.blk
  have hab7 : w7.heap[ab]? = some (.cells cs 51 (0, 0)) := own_keeps (h.atm.own β hβ) hg h1 (by decide)
  have hm7 : w7.heap[m]? = some (.cells #[vi, vl, .slice (some ⟨ab, 0, none⟩) n n, sv] 65 (0, 0)) := own_keeps (h.atm.own β hβ) hg h.mesh (by decide)
  refine ⟨hx.cells hm7 (fun e => ?_), ha, ?_, hb.setCell (p := ⟨ab, β, none⟩) h.atm.geA _, h.geM⟩
  · rw [e, hab7] at hm7
    exact absurd hm7 (by simp)
  · have h5 : w7.ownsRow W.heap.size 79 4 sv bs.length (bs.flatMap cellsV4) := owns_grown h.own hg (fun g h3 h4 => by
      rcases h.own.2 with ⟨hv, -⟩ | ⟨g1, cap, cur, hv, -, hh, -⟩
      · rw [hv] at h3; simp [Value.ownBlock] at h3
      · rw [hv] at h3
        simp [Value.ownBlock] at h3
        subst h3
        rcases (h.atm.own β hβ).2 with ⟨hv2, -⟩ | ⟨g2, cap2, cur2, hv2, -, hh2, -⟩
        · rw [hv2] at h4; simp [Value.ownBlock] at h4
        · rw [hv2] at h4
          simp [Value.ownBlock] at h4
          subst h4
          rw [hh] at hh2
          exact absurd hh2 (by simp))
    exact owns_only h5 hx hab7 (by decide)

set_option maxHeartbeats 8000000 in
set_option maxRecDepth 100000 in
theorem lay_c (vi vl : Value) (ids : List Int) (L : List Lk) (w : World) (hi : RowsAt 1 cellsU64 w vi ids) (hL : RowsAt 5 cellsLk w vl L) (n1 : 1 ≤ ids.length) (n12 : ids.length ≤ 12) (l40 : L.length ≤ 40) (hok : ∀ e ∈ pendsL L, 0 ≤ e.1 ∧ e.1 < ids.length) :
    Calls Try.prog 25 #[vi, vl] w fun e w' => ∃ m ab vb R, e = .returned (.pointer (some ⟨m, 0, none⟩)) ∧ R.Perm (pendsL L) ∧ UpP R ∧ HasM w' m vi vl vb ab ids.length ids L R (ids.map ownV) ∧ Below w.heap.size w w' ∧ w.heap.size ≤ m := by
  obtain ⟨pl, capl, rfl⟩ := hL.slice
  have HI0 := Lib.hid hi
  obtain ⟨pi, capi, bb, offi, rfl, hpi, hci⟩ := hi
  have hne : ids ≠ [] := by rintro rfl; simp at n1
  obtain rfl := hpi hne
  have HI := Lib.hid fun (U : World) (kz : Below w.heap.size w U) (j : Nat) (x : Int) (hj : ids[j]? = some x) => gcell_below kz (show w.cell? ⟨bb, offi + j, none⟩ = some (.int .u64 x) by have := hci j x hj 0 _ rfl; simpa using this)
  have HL := Lib.hid hL
  have HOK := Lib.hid hok
  obtain ⟨ib, hib, hbz0, hbz1, hbz2⟩ := info_parts info_Es
  obtain ⟨i0, hi, hz0, hz1, hz2⟩ := info_parts info_V4
  obtain ⟨i1, hi1, hy0, hy1, hy2⟩ := info_parts info_Pe
  have hmk : ∀ U : World, (Instr.makeSlice 62 (.int .i64 (ids.length : Int)) (.int .i64 (ids.length : Int))).run Try.prog U = .ok (.slice (some ⟨U.heap.size, 0, none⟩) ids.length ids.length) (U.alloc (.cells (nilRow ids.length) 51)) := fun U => by
    have h := run_make (P := Try.prog) U 62 51 ib (.slice none 0 0) Try.underlying62 hib hbz0 .i64 .i64 (ids.length : Int) (ids.length : Int) (by omega) (Int.le_refl _) (by rw [hbz2]; omega) (by omega)
    rw [hbz1, Int.toNat_natCast, nilRow_made] at h
    exact h
  clear hpi hci hL hne hok
  go_enter Try.func25, Try.ntmps25
  go_upto_region 2 with fail
  have M0 := Lib.hid (show MkM w ((w.alloc (.cells (nilRow ids.length) 51)).alloc (.cells #[.slice (some ⟨bb, offi, none⟩) ids.length capi, .slice pl L.length capl, .slice (some ⟨w.heap.size, 0, none⟩) ids.length ids.length, .slice none 0 0] 65)) (w.alloc (.cells (nilRow ids.length) 51)).heap.size (.slice (some ⟨bb, offi, none⟩) ids.length capi) (.slice pl L.length capl) (.slice none 0 0) w.heap.size ids.length (fun _ => .slice none 0 0) [] [] from by
    have a1 : AtM (w.alloc (.cells (nilRow ids.length) 51)) w.heap.size w.heap.size ids.length (fun _ => .slice none 0 0) [] := atM_start (w1 := w) (Nat.le_refl _)
    exact ⟨heap_new _ _, a1.below ((Below.refl _ _).alloc (Nat.le_refl _) _), World.ownsRow_nil _ _ _ _, ((Below.refl _ w).alloc (Nat.le_refl _) _).alloc (by simp) _, by simp⟩)
  generalize (w.alloc (.cells (nilRow ids.length) 51)).alloc (.cells #[.slice (some ⟨bb, offi, none⟩) ids.length capi, .slice pl L.length capl, .slice (some ⟨w.heap.size, 0, none⟩) ids.length ids.length, .slice none 0 0] 65) = w2 at M0 ⊢
  (try rw [show (w.alloc (.cells (nilRow ids.length) 51)).heap.size = w.heap.size + 1 by simp] at M0)
  generalize w.heap.size + 1 = m at M0 ⊢
  obtain ⟨ab, hab⟩ : ∃ ab, ab = w.heap.size := ⟨_, rfl⟩
  clear hmk
  obtain ⟨n, hn⟩ : ∃ n, n = ids.length := ⟨_, rfl⟩
  have HNN := Lib.hid hn
  rw [← hn] at M0 n1 n12 HOK HI0 ⊢
  clear hn
  go_wp2_with fail
  go_loopw [7, 19] (fun _ i wr => ∃ (k : Nat) (sv : Value), k ≤ n ∧ i = .int .i64 k ∧ Hid (MkM w wr m (.slice (some ⟨bb, offi, none⟩) n capi) (.slice pl L.length capl) sv w.heap.size n (fun _ => .slice none 0 0) [] ((ids.take k).map ownV))) (fun _ i _ => n - (intOf i).toNat)
  case atStart => exact ⟨0, _, Nat.zero_le _, rfl, M0⟩
  case round =>
    obtain ⟨k, sv, hk, rfl, HM⟩ := hrel
    by_cases hlt : k < n
    · obtain ⟨x, hx⟩ : ∃ x, ids[k]? = some x := ⟨_, List.getElem?_eq_getElem (by rw [← HNN.out]; exact hlt)⟩
      have HT := Lib.hid (show (ids.take (k + 1)).map ownV = (ids.take k).map ownV ++ [ownV x] by rw [List.take_succ_eq_append_getElem (by rw [← HNN.out]; exact hlt), (List.getElem?_eq_some_iff.1 hx).2, List.map_append]; rfl)
      have HLL := Lib.hid (show ((ids.take k).map ownV).length = k by rw [List.length_map, List.length_take]; have := HNN.out; omega)
      have xc := HI.out _ HM.out.bel k x hx
      have x3 : wr.cell? ⟨m, 3, none⟩ = some sv := cell_of_block HM.out.mesh rfl
      have lt1 : m < wr.heap.size := lt_of_block HM.out.mesh
      have d1 : decide (k < n) = true := decide_eq_true hlt
      have d2 : decide ((k : Int) < (n : Int)) = true := decide_eq_true (by omega)
      have d3 : decide (n ≤ k) = false := decide_eq_false (by omega)
      have d4 : decide (0 ≤ (k : Int)) = true := decide_eq_true (by omega)
      have k0 := (Below.refl wr.heap.size wr).drew
      have CO := Lib.hid fun (U : World) (kz : Below wr.heap.size wr U) => (pown_c x U).mono (R' := fun e w' => e = .returned (.agg #[.int .u64 x, .int .i64 0, .int .u64 x, .int .i64 0]) ∧ Below wr.heap.size wr w') (by rintro e w' ⟨rfl, hb⟩; exact ⟨rfl, k_call kz hb⟩)
      have ho := HM.out.own
      rw [HLL.out] at ho
      have OA := Lib.hid fun (U : World) (kz : Below wr.heap.size wr U) => (show (U.alloc (.cells #[.int .u64 x, .int .i64 0, .int .u64 x, .int .i64 0] 79)).ownsRow w.heap.size 79 4 sv k (((ids.take k).map ownV).flatMap cellsV4) from (iowns_below ho kz).alloc _)
      have CA := Lib.hid fun (U : World) => (show ∀ j u, ([.int .u64 x, .int .i64 0, .int .u64 x, .int .i64 0] : List Value)[j]? = some u → (U.alloc (.cells #[.int .u64 x, .int .i64 0, .int .u64 x, .int .i64 0] 79)).cell? ((⟨U.heap.size, 0, none⟩ : Addr).add j) = some u from cells_new U [.int .u64 x, .int .i64 0, .int .u64 x, .int .i64 0] 79)
      have hsz1 := Lib.hid fun (U : World) (kz : Below wr.heap.size wr U) => (show w.heap.size ≤ (U.alloc (.cells #[.int .u64 x, .int .i64 0, .int .u64 x, .int .i64 0] 79)).heap.size by have h1 := HM.out.bel.size; have h2 := kz.size; simp; omega)
      have BA := Lib.hid fun (U : World) (kz : Below wr.heap.size wr U) => (show Below wr.heap.size wr (U.alloc (.cells #[.int .u64 x, .int .i64 0, .int .u64 x, .int .i64 0] 79)) from kz.alloc kz.size _)
      have n11 := Lib.hid (show k + 1 ≤ maxLen by unfold maxLen; omega)
      have n22 := Lib.hid (show (k + 1) * 32 ≤ 140737488355328 by omega)
      have oc := Lib.hid (show ∀ u ∈ ([.int .u64 x, .int .i64 0, .int .u64 x, .int .i64 0] : List Value), u.oneCell' = true from fun u hu => by simp at hu; rcases hu with rfl | rfl | rfl | rfl <;> rfl)
      clear hx ho
      go_wp2_with fail
      go_region_law (first
        | (refine step_append_lies _ rfl _ _ 63 rfl w.heap.size 79 i0 (.agg #[.int .u64 0, .int .i64 0, .int .u64 0, .int .i64 0]) 4 32 Try.underlying63 hi hz0 hz1 hz2 rfl (by decide) sv k (((ids.take k).map ownV).flatMap cellsV4) rfl (OA.out _ k8) ⟨w8.heap.size, 0, none⟩ 1 1 [.int .u64 x, .int .i64 0, .int .u64 x, .int .i64 0] rfl rfl (CA.out _) oc.out (by decide) n11.out n22.out (hsz1.out _ k8) _ rfl ?_; intro g7 c7 w7 hown7 hg7 hat7 hlt7; have hm7 := Lib.hid (own_keeps (OA.out _ k8) hg7 (k := m) (below_block (BA.out _ k8) (lt_of_block HM.out.mesh) HM.out.mesh) (by decide)); have ha7 := Lib.hid (fun cs (h : wr.heap[w.heap.size]? = some (.cells cs 51 (0, 0))) => own_keeps (OA.out _ k8) hg7 (below_block (BA.out _ k8) (lt_of_block h) h) (by decide)); have B7 := Lib.hid ((HM.out.bel.trans ((BA.out _ k8).mono HM.out.bel.size)).grown hg7 (hsz1.out _ k8) (fun j hj => ((OA.out _ k8).lt j hj).1)); have OW7 := Lib.hid hown7; have z1 := cell_of_block (j := 3) hm7.out rfl; have fr := free_of_block (j := 3) hm7.out; clear hown7 hg7 hat7 hlt7)
        | (go_simp; go_at_call 39; (with_reducible refine (CO.out _ k0).mono ?_); rintro e w8 ⟨rfl, k8⟩; have x8 := gcell_below k8 x3; have y8 := gcell_below (BA.out _ k8) x3))
      all_goals
        have M8 := Lib.hid (HM.out.best (v := ownV x) (nv := .slice (some ⟨g7, 0, none⟩) (k + 1) c7) hm7.out ha7.out (by rw [HLL.out]; exact OW7.out) B7.out)
        rw [← HT.out] at M8
        clear z1 fr x3 x8 y8 xc lt1 d1 d2 d3 d4
        go_wp2_with fail
        go_roundw
        case rel => exact ⟨k + 1, _, by omega, by go_num, M8⟩
        case measure => simp [intOf]; omega
    · obtain rfl : n = k := by omega
      rw [List.take_of_length_le (by rw [← HNN.out]; exact Nat.le_refl _)] at HM
      clear hlt
      have AE := Lib.hid (allEnds_c (.slice pl L.length capl) L wr (by omega) (HL.out.below HM.out.bel))
      go_wp2_with fail
      ((with_reducible refine AE.out.mono ?_); rintro e w3 ⟨u, R, rfl, r1, r2, r3, r4⟩)
      have HM3 := Lib.hid (HM.out.below r4)
      have RP := Lib.hid r1
      have RU := Lib.hid r2
      have RK := Lib.hid (show ∀ e ∈ R, 0 ≤ e.1 ∧ e.1 < n from fun e he => HOK.out e (r1.mem_iff.1 he))
      obtain ⟨pe, cape, bu, offe, rfl, hpe, hce⟩ := r3
      have HPE := Lib.hid hpe
      have HRN := Lib.hid (show R.length ≤ 80 by have := r1.length_eq; rw [pends_len] at this; omega)
      have HC0 := Lib.hid hce
      clear r1 r2 r4 hpe hce AE HM M0
      go_wp2_with fail
      go_loopw [9, 38] (fun _ i wr => ∃ (k : Nat) (va : Nat → Value), k ≤ R.length ∧ i = .int .i64 k ∧ Hid (MkM w wr m (.slice (some ⟨bb, offi, none⟩) n capi) (.slice pl L.length capl) sv w.heap.size n va (R.take k) (ids.map ownV)) ∧ Hid (∀ j x, R[j]? = some x → ∀ c u, (cellsPe x)[c]? = some u → wr.cell? ⟨bu, offe + j * 4 + c, none⟩ = some u) ∧ Hid (∀ b, b < n → (va b).ownBlock ≠ some bu)) (fun _ i _ => R.length - (intOf i).toNat)
      case atStart => exact ⟨0, _, Nat.zero_le _, rfl, HM3, HC0, Lib.hid (fun b _ h => by simp [Value.ownBlock] at h)⟩
      case round =>
        clear HM3 HC0
        obtain ⟨k, va, hk, rfl, HM, HC, HF⟩ := hrel
        have hrn80 := HRN.out
        by_cases hlt : k < R.length
        · obtain ⟨x, hx⟩ : ∃ x, R[k]? = some x := ⟨_, List.getElem?_eq_getElem hlt⟩
          have hneR : R ≠ [] := by rintro rfl; simp at hlt
          obtain rfl := HPE.out hneR
          have HT := Lib.hid (show R.take (k + 1) = R.take k ++ [x] by rw [List.take_succ_eq_append_getElem hlt, (List.getElem?_eq_some_iff.1 hx).2])
          obtain ⟨kx0, kx1⟩ := RK.out x (List.mem_of_getElem? hx)
          obtain ⟨xb, xp, xl, xs⟩ := x
          simp only at kx0 kx1
          obtain ⟨β, rfl⟩ : ∃ β : Nat, xb = (β : Int) := ⟨xb.toNat, by omega⟩
          have hβ : β < n := by omega
          have x0 : wr.cell? ⟨bu, offe + k * 4, none⟩ = some (.int .i64 (β : Int)) := HC.out k _ hx 0 _ rfl
          have x1 : wr.cell? ⟨bu, offe + k * 4 + 1, none⟩ = some (.int .i64 xp) := HC.out k _ hx 1 _ rfl
          have x2 : wr.cell? ⟨bu, offe + k * 4 + 2, none⟩ = some (.int .i64 xl) := HC.out k _ hx 2 _ rfl
          have x3 : wr.cell? ⟨bu, offe + k * 4 + 3, none⟩ = some (.int .i64 xs) := HC.out k _ hx 3 _ rfl
          have hbu : bu < wr.heap.size := gcell_lt x0
          have d1 : decide (k < R.length) = true := decide_eq_true hlt
          have d2 : decide ((k : Int) < (R.length : Int)) = true := decide_eq_true (by omega)
          have d3 : decide (R.length ≤ k) = false := decide_eq_false (by omega)
          have d4 : decide (0 ≤ (k : Int)) = true := decide_eq_true (by omega)
          have HX := Lib.hid hx
          clear hx hneR kx0 kx1
          go_upto_region 10 with fail
          have HM1 := Lib.hid (HM.out.below ((Below.refl _ wr).alloc (Nat.le_refl _) (.cells #[.int .i64 (β : Int), .int .i64 xp, .int .i64 xl, .int .i64 xs] 54)))
          have HC1 := Lib.hid (fun j x hj c u hc => gcell_below ((Below.refl _ wr).alloc (Nat.le_refl _) (.cells #[.int .i64 (β : Int), .int .i64 xp, .int .i64 xl, .int .i64 xs] 54)) (HC.out j x hj c u hc))
          have HB1 := Lib.hid (heap_new wr (.cells #[.int .i64 (β : Int), .int .i64 xp, .int .i64 xl, .int .i64 xs] 54))
          have HG1 := Lib.hid (fun b (hb : b < n) g (hg : (va b).ownBlock = some g) => owns_lt (HM.out.atm.own b hb) hg)
          have HE1 := Lib.hid (show wr.heap.size < (wr.alloc (.cells #[.int .i64 (β : Int), .int .i64 xp, .int .i64 xl, .int .i64 xs] 54)).heap.size by simp)
          clear x0 x1 x2 x3 d1 d2 d3 d4 HM HC
          generalize wr.alloc (.cells #[.int .i64 (β : Int), .int .i64 xp, .int .i64 xl, .int .i64 xs] 54) = W1 at HM1 HC1 HB1 HE1 ⊢
          generalize wr.heap.size = eb at hbu HB1 HG1 HE1 ⊢
          have z0 : W1.cell? ⟨eb, 0, none⟩ = some (.int .i64 (β : Int)) := cell_of_block HB1.out rfl
          have z1 : W1.cell? ⟨eb, 1, none⟩ = some (.int .i64 xp) := cell_of_block HB1.out rfl
          have z2 : W1.cell? ⟨eb, 2, none⟩ = some (.int .i64 xl) := cell_of_block HB1.out rfl
          have z3 : W1.cell? ⟨eb, 3, none⟩ = some (.int .i64 xs) := cell_of_block HB1.out rfl
          have y2 : W1.cell? ⟨m, 2, none⟩ = some (.slice (some ⟨w.heap.size, 0, none⟩) n n) := cell_of_block HM1.out.mesh rfl
          have y3 : W1.cell? ⟨w.heap.size, β, none⟩ = some (va β) := HM1.out.atm.cell hβ
          have lt1 : m < W1.heap.size := lt_of_block HM1.out.mesh
          have lt2 : w.heap.size < W1.heap.size := gcell_lt y3
          have lt3 : eb < W1.heap.size := HE1.out
          have b1 : decide (β < n) = true := decide_eq_true hβ
          have b2 : decide ((β : Int) < (n : Int)) = true := decide_eq_true (by omega)
          have b3 : decide (n ≤ β) = false := decide_eq_false (by omega)
          have b4 : decide (0 ≤ (β : Int)) = true := decide_eq_true (by omega)
          have ho := HM1.out.atm.own β hβ
          obtain ⟨cn, hcn⟩ : ∃ cn, cn = (atP (R.take k) β).length := ⟨_, rfl⟩
          have hcn80 : cn ≤ 80 := by
            have e1 : (atP (R.take k) β).length ≤ (R.take k).length := List.length_filter_le _ _
            rw [List.length_take] at e1
            have := HRN.out
            omega
          rw [← hcn] at ho
          have HCN := Lib.hid hcn
          have OA := Lib.hid (show ((W1.alloc (.cells #[.int .i64 (β : Int), .int .i64 xp, .int .i64 xl, .int .i64 xs] 54)).drew).ownsRow w.heap.size 54 4 (va β) cn ((atP (R.take k) β).flatMap cellsPe) from ho.alloc _)
          have CA := Lib.hid (show ∀ j u, ([.int .i64 (β : Int), .int .i64 xp, .int .i64 xl, .int .i64 xs] : List Value)[j]? = some u → ((W1.alloc (.cells #[.int .i64 (β : Int), .int .i64 xp, .int .i64 xl, .int .i64 xs] 54)).drew).cell? ((⟨W1.heap.size, 0, none⟩ : Addr).add j) = some u from cells_new W1 [.int .i64 (β : Int), .int .i64 xp, .int .i64 xl, .int .i64 xs] 54)
          have BW := Lib.hid (show Below W1.heap.size W1 ((W1.alloc (.cells #[.int .i64 (β : Int), .int .i64 xp, .int .i64 xl, .int .i64 xs] 54)).drew) from ((Below.refl _ W1).alloc (Nat.le_refl _) _).drew)
          have MU := Lib.hid (HM1.out.below BW.out)
          have hsz1 := Lib.hid (show w.heap.size ≤ ((W1.alloc (.cells #[.int .i64 (β : Int), .int .i64 xp, .int .i64 xl, .int .i64 xs] 54)).drew).heap.size from MU.out.bel.size)
          have n11 := Lib.hid (show cn + 1 ≤ maxLen by unfold maxLen; omega)
          have n22 := Lib.hid (show (cn + 1) * 32 ≤ 140737488355328 by omega)
          have oc := Lib.hid (show ∀ u ∈ ([.int .i64 (β : Int), .int .i64 xp, .int .i64 xl, .int .i64 xs] : List Value), u.oneCell' = true from fun u hu => by simp at hu; rcases hu with rfl | rfl | rfl | rfl <;> rfl)
          have HNE := Lib.hid (show bu ≠ w.heap.size from fun e => by
            have := HC1.out k (β, xp, xl, xs) (HX.out) 0 _ rfl
            rw [e] at this
            exact HM1.out.atm.not_int this)
          clear ho hcn
          go_wp2_with fail
          have KF := Lib.hid fun (U : World) (kz : Below W1.heap.size W1 U) => (⟨gcell_below kz y2, gcell_below kz z0, gcell_below kz z1, gcell_below kz z2, gcell_below kz z3⟩ : U.cell? ⟨m, 2, none⟩ = some (.slice (some ⟨w.heap.size, 0, none⟩) n n) ∧ U.cell? ⟨eb, 0, none⟩ = some (.int .i64 (β : Int)) ∧ U.cell? ⟨eb, 1, none⟩ = some (.int .i64 xp) ∧ U.cell? ⟨eb, 2, none⟩ = some (.int .i64 xl) ∧ U.cell? ⟨eb, 3, none⟩ = some (.int .i64 xs))
          have k0 := (Below.refl W1.heap.size W1).drew
          refine wp_region_held_drew (S := fun U => U.cell? ⟨m, 2, none⟩ = some (.slice (some ⟨w.heap.size, 0, none⟩) n n) ∧ U.cell? ⟨eb, 0, none⟩ = some (.int .i64 (β : Int)) ∧ U.cell? ⟨eb, 1, none⟩ = some (.int .i64 xp) ∧ U.cell? ⟨eb, 2, none⟩ = some (.int .i64 xl) ∧ U.cell? ⟨eb, 3, none⟩ = some (.int .i64 xs)) (by kernel_rfl) (KF.out _ k0) (fun hH => ?_)
          refine wpAnyH_take (i := 0) (oi := { dst := some 42, op := Op.move (Operand.tmp 5), type := 57, pos := "round.go:23", after := #[], guard := none }) (v := .pointer (some ⟨m, 0, none⟩)) rfl (by kernel_rfl) (by kernel_rfl) (by kernel_rfl) (fun _ _ _ h => h) (Or.inl ⟨by kernel_rfl, ?_⟩) hH ?_
          · intro w hSw; (try dsimp only at hSw); go_simp
          try simp only [Act.put, List.setIfInBounds_toArray, List.set_cons_zero, List.set_cons_succ]
          refine wpAnyH_take (i := 1) (oi := { dst := some 43, op := Op.nilCheck (Operand.tmp 42), type := 0, pos := "round.go:23", after := #[{ on := 0, ground := Ground.data }], guard := none }) (v := .pointer (some ⟨m, 0, none⟩)) rfl (by kernel_rfl) (by kernel_rfl) (by kernel_rfl) (fun _ _ _ h => h) (Or.inl ⟨by kernel_rfl, ?_⟩) hH ?_
          · intro w hSw; (try dsimp only at hSw); go_simp
          try simp only [Act.put, List.setIfInBounds_toArray, List.set_cons_zero, List.set_cons_succ]
          refine wpAnyH_take (i := 2) (oi := { dst := some 44, op := Op.fieldAddr 65 (Operand.tmp 43) 2, type := 0, pos := "round.go:23", after := #[{ on := 1, ground := Ground.data }], guard := none }) (v := .pointer (some ⟨m, 2, none⟩)) rfl (by kernel_rfl) (by kernel_rfl) (by kernel_rfl) (fun _ _ _ h => h) (Or.inl ⟨by kernel_rfl, ?_⟩) hH ?_
          · intro w hSw; (try dsimp only at hSw); go_simp
          try simp only [Act.put, List.setIfInBounds_toArray, List.set_cons_zero, List.set_cons_succ]
          refine wpAnyH_take (i := 3) (oi := { dst := some 45, op := Op.load 62 (Operand.tmp 44), type := 62, pos := "round.go:23", after := #[{ on := 2, ground := Ground.data }], guard := none }) (v := .slice (some ⟨w.heap.size, 0, none⟩) n n) rfl (by kernel_rfl) (by kernel_rfl) (by kernel_rfl) (fun _ _ _ h => h) (Or.inl ⟨by kernel_rfl, ?_⟩) hH ?_
          · intro w hSw; (try dsimp only at hSw); go_simp
          try simp only [Act.put, List.setIfInBounds_toArray, List.set_cons_zero, List.set_cons_succ]
          refine wpAnyH_take (i := 4) (oi := { dst := some 46, op := Op.fieldAddr 54 (Operand.tmp 9) 0, type := 0, pos := "round.go:23", after := #[], guard := none }) (v := .pointer (some ⟨eb, 0, none⟩)) rfl (by kernel_rfl) (by kernel_rfl) (by kernel_rfl) (fun _ _ _ h => h) (Or.inl ⟨by kernel_rfl, ?_⟩) hH ?_
          · intro w hSw; (try dsimp only at hSw); go_simp
          try simp only [Act.put, List.setIfInBounds_toArray, List.set_cons_zero, List.set_cons_succ]
          refine wpAnyH_take (i := 5) (oi := { dst := some 47, op := Op.load 3 (Operand.tmp 46), type := 3, pos := "round.go:23", after := #[{ on := 4, ground := Ground.data }], guard := none }) (v := .int .i64 (β : Int)) rfl (by kernel_rfl) (by kernel_rfl) (by kernel_rfl) (fun _ _ _ h => h) (Or.inl ⟨by kernel_rfl, ?_⟩) hH ?_
          · intro w hSw; (try dsimp only at hSw); go_simp
          try simp only [Act.put, List.setIfInBounds_toArray, List.set_cons_zero, List.set_cons_succ]
          refine wpAnyH_take (i := 6) (oi := { dst := some 48, op := Op.move (Operand.tmp 5), type := 57, pos := "round.go:23", after := #[], guard := none }) (v := .pointer (some ⟨m, 0, none⟩)) rfl (by kernel_rfl) (by kernel_rfl) (by kernel_rfl) (fun _ _ _ h => h) (Or.inl ⟨by kernel_rfl, ?_⟩) hH ?_
          · intro w hSw; (try dsimp only at hSw); go_simp
          try simp only [Act.put, List.setIfInBounds_toArray, List.set_cons_zero, List.set_cons_succ]
          refine wpAnyH_take (i := 7) (oi := { dst := some 49, op := Op.nilCheck (Operand.tmp 48), type := 0, pos := "round.go:23", after := #[{ on := 6, ground := Ground.data }], guard := none }) (v := .pointer (some ⟨m, 0, none⟩)) rfl (by kernel_rfl) (by kernel_rfl) (by kernel_rfl) (fun _ _ _ h => h) (Or.inl ⟨by kernel_rfl, ?_⟩) hH ?_
          · intro w hSw; (try dsimp only at hSw); go_simp
          try simp only [Act.put, List.setIfInBounds_toArray, List.set_cons_zero, List.set_cons_succ]
          refine wpAnyH_take (i := 8) (oi := { dst := some 50, op := Op.fieldAddr 65 (Operand.tmp 49) 2, type := 0, pos := "round.go:23", after := #[{ on := 7, ground := Ground.data }], guard := none }) (v := .pointer (some ⟨m, 2, none⟩)) rfl (by kernel_rfl) (by kernel_rfl) (by kernel_rfl) (fun _ _ _ h => h) (Or.inl ⟨by kernel_rfl, ?_⟩) hH ?_
          · intro w hSw; (try dsimp only at hSw); go_simp
          try simp only [Act.put, List.setIfInBounds_toArray, List.set_cons_zero, List.set_cons_succ]
          refine wpAnyH_take (i := 9) (oi := { dst := some 51, op := Op.load 62 (Operand.tmp 50), type := 62, pos := "round.go:23", after := #[{ on := 8, ground := Ground.data }], guard := none }) (v := .slice (some ⟨w.heap.size, 0, none⟩) n n) rfl (by kernel_rfl) (by kernel_rfl) (by kernel_rfl) (fun _ _ _ h => h) (Or.inl ⟨by kernel_rfl, ?_⟩) hH ?_
          · intro w hSw; (try dsimp only at hSw); go_simp
          try simp only [Act.put, List.setIfInBounds_toArray, List.set_cons_zero, List.set_cons_succ]
          refine wpAnyH_take (i := 10) (oi := { dst := some 52, op := Op.fieldAddr 54 (Operand.tmp 9) 0, type := 0, pos := "round.go:23", after := #[], guard := none }) (v := .pointer (some ⟨eb, 0, none⟩)) rfl (by kernel_rfl) (by kernel_rfl) (by kernel_rfl) (fun _ _ _ h => h) (Or.inl ⟨by kernel_rfl, ?_⟩) hH ?_
          · intro w hSw; (try dsimp only at hSw); go_simp
          try simp only [Act.put, List.setIfInBounds_toArray, List.set_cons_zero, List.set_cons_succ]
          refine wpAnyH_take (i := 11) (oi := { dst := some 53, op := Op.load 3 (Operand.tmp 52), type := 3, pos := "round.go:23", after := #[{ on := 10, ground := Ground.data }], guard := none }) (v := .int .i64 (β : Int)) rfl (by kernel_rfl) (by kernel_rfl) (by kernel_rfl) (fun _ _ _ h => h) (Or.inl ⟨by kernel_rfl, ?_⟩) hH ?_
          · intro w hSw; (try dsimp only at hSw); go_simp
          try simp only [Act.put, List.setIfInBounds_toArray, List.set_cons_zero, List.set_cons_succ]
          refine wpAnyH_take (i := 12) (oi := { dst := some 54, op := Op.indexAddr 62 (Operand.tmp 51) (Operand.tmp 53), type := 0, pos := "round.go:23", after := #[{ on := 9, ground := Ground.data }, { on := 11, ground := Ground.data }], guard := none }) (v := .pointer (some ⟨w.heap.size, β, none⟩)) rfl (by kernel_rfl) (by kernel_rfl) (by kernel_rfl) (fun _ _ _ h => h) (Or.inl ⟨by kernel_rfl, ?_⟩) hH ?_
          · intro w hSw; (try dsimp only at hSw); go_simp
          try simp only [Act.put, List.setIfInBounds_toArray, List.set_cons_zero, List.set_cons_succ]
          refine wpAnyH_take (i := 14) (oi := { dst := some 56, op := Op.load 54 (Operand.tmp 9), type := 54, pos := "round.go:23", after := #[], guard := none }) (v := .agg #[.int .i64 (β : Int), .int .i64 xp, .int .i64 xl, .int .i64 xs]) rfl (by kernel_rfl) (by kernel_rfl) (by kernel_rfl) (fun _ _ _ h => h) (Or.inl ⟨by kernel_rfl, ?_⟩) hH ?_
          · intro w hSw; (try dsimp only at hSw); go_simp
          try simp only [Act.put, List.setIfInBounds_toArray, List.set_cons_zero, List.set_cons_succ]
          refine wpAnyH_ready (rs := [13, 15]) (by kernel_rfl) (by simp) ?_
          refine AllReadyH.cons rfl (fun K hK => ?_) ?_
          · go_simp
            refine hK.out _ _ (KF.out _ k0) (fun hH => ?_)
            clear hK K
            try simp only [Act.put, List.setIfInBounds_toArray, List.set_cons_zero, List.set_cons_succ]
            refine wpAnyH_ready (rs := [15]) (by kernel_rfl) (by simp) ?_
            refine AllReadyH.cons rfl (fun K hK => ?_) AllReadyH.nil
            go_simp
            refine hK.out _ _ (KF.out _ BW.out) (fun hH => ?_)
            clear hK K
            try simp only [Act.put, List.setIfInBounds_toArray, List.set_cons_zero, List.set_cons_succ]
            refine wpAnyH_ready (rs := [16]) (by kernel_rfl) (by simp) ?_
            refine AllReadyH.cons rfl (fun K hK => ?_) AllReadyH.nil
            refine step_append_lies _ rfl _ _ 51 rfl w.heap.size 54 i1 (.agg #[.int .i64 0, .int .i64 0, .int .i64 0, .int .i64 0]) 4 32 Try.underlying51 hi1 hy0 hy1 hy2 rfl (by decide) (va β) cn ((atP (R.take k) β).flatMap cellsPe) rfl OA.out ⟨W1.heap.size, 0, none⟩ 1 1 [.int .i64 (β : Int), .int .i64 xp, .int .i64 xl, .int .i64 xs] rfl rfl CA.out oc.out (by decide) n11.out n22.out hsz1.out _ rfl ?_
            intro g7 c7 w7 hown7 hg7 hat7 hlt7
            have A7 := Lib.hid (own_keeps OA.out hg7 (k := w.heap.size) (MU.out.atm.blk.choose_spec.1) (by decide))
            have B7 := Lib.hid (MU.out.bel.grown hg7 hsz1.out (fun j hj => (OA.out.lt j hj).1))
            have OW7 := Lib.hid hown7
            have G7 := Lib.hid hg7
            have T7 := Lib.hid hat7
            have q1 := cell_of_block A7.out (MU.out.atm.blk.choose_spec.2 β hβ)
            have fr := free_of_block (j := β) A7.out
            have e7 := (hg7.cell_far ⟨eb, 0, none⟩ (gcell_lt (gcell_below BW.out z0)) (fun e => Nat.lt_irrefl _ (HG1.out β hβ eb e.symm))).trans (gcell_below BW.out z0)
            have m7 := cell_of_block (j := 2) (own_keeps OA.out hg7 (k := m) MU.out.mesh (by decide)) rfl
            have e7b := (hg7.cell_far ⟨eb, 1, none⟩ (gcell_lt (gcell_below BW.out z1)) (fun e => Nat.lt_irrefl _ (HG1.out β hβ eb e.symm))).trans (gcell_below BW.out z1)
            have e7c := (hg7.cell_far ⟨eb, 2, none⟩ (gcell_lt (gcell_below BW.out z2)) (fun e => Nat.lt_irrefl _ (HG1.out β hβ eb e.symm))).trans (gcell_below BW.out z2)
            have e7d := (hg7.cell_far ⟨eb, 3, none⟩ (gcell_lt (gcell_below BW.out z3)) (fun e => Nat.lt_irrefl _ (HG1.out β hβ eb e.symm))).trans (gcell_below BW.out z3)
            have mb7 := own_keeps OA.out hg7 (k := m) MU.out.mesh (by decide)
            have eb7 := (show w7.heap[eb]? = some (.cells #[.int .i64 (β : Int), .int .i64 xp, .int .i64 xl, .int .i64 xs] 54 (0, 0)) from (hg7.block eb (lt_of_block (below_block BW.out (lt_of_block HB1.out) HB1.out)) (fun e => Nat.lt_irrefl _ (HG1.out β hβ eb e.symm))).trans (below_block BW.out (lt_of_block HB1.out) HB1.out))
            have hn1 : m ≠ w.heap.size := fun e => by rw [e] at mb7; exact absurd (mb7.symm.trans A7.out) (by simp)
            have hn2 : eb ≠ w.heap.size := fun e => by rw [e] at eb7; exact absurd (eb7.symm.trans A7.out) (by simp)
            clear hown7 hg7 hat7 hlt7
            refine hK.out _ _ (⟨m7, e7, e7b, e7c, e7d⟩) (fun hH => ?_)
            clear hK K
            try simp only [Act.put, List.setIfInBounds_toArray, List.set_cons_zero, List.set_cons_succ]
            refine wpAnyH_take (i := 17) (oi := { dst := some 59, op := Op.indexAddr 62 (Operand.tmp 45) (Operand.tmp 47), type := 0, pos := "round.go:23", after := #[{ on := 3, ground := Ground.data }, { on := 5, ground := Ground.data }, { on := 0, ground := Ground.phase }, { on := 1, ground := Ground.phase }, { on := 2, ground := Ground.phase }, { on := 3, ground := Ground.phase }, { on := 4, ground := Ground.phase }, { on := 5, ground := Ground.phase }, { on := 6, ground := Ground.phase }, { on := 7, ground := Ground.phase }, { on := 8, ground := Ground.phase }, { on := 9, ground := Ground.phase }, { on := 10, ground := Ground.phase }, { on := 11, ground := Ground.phase }, { on := 12, ground := Ground.phase }, { on := 13, ground := Ground.phase }, { on := 14, ground := Ground.phase }, { on := 15, ground := Ground.phase }, { on := 16, ground := Ground.phase }], guard := none }) (v := .pointer (some ⟨w.heap.size, β, none⟩)) rfl (by kernel_rfl) (by kernel_rfl) (by kernel_rfl) (fun _ _ _ h => h) (Or.inl ⟨by kernel_rfl, ?_⟩) hH ?_
            · intro w hSw; (try dsimp only at hSw); go_simp
            try simp only [Act.put, List.setIfInBounds_toArray, List.set_cons_zero, List.set_cons_succ]
            refine wpAnyH_ready (rs := [18]) (by kernel_rfl) (by simp) ?_
            refine AllReadyH.cons rfl (fun K hK => ?_) AllReadyH.nil
            go_simp
            refine hK.out _ _ (⟨gcell_only (Only.setCell w7 w.heap.size β (.slice (some ⟨g7, 0, none⟩) (cn + 1) c7)) hn1 m7, gcell_only (Only.setCell w7 w.heap.size β (.slice (some ⟨g7, 0, none⟩) (cn + 1) c7)) hn2 e7, gcell_only (Only.setCell w7 w.heap.size β (.slice (some ⟨g7, 0, none⟩) (cn + 1) c7)) hn2 e7b, gcell_only (Only.setCell w7 w.heap.size β (.slice (some ⟨g7, 0, none⟩) (cn + 1) c7)) hn2 e7c, gcell_only (Only.setCell w7 w.heap.size β (.slice (some ⟨g7, 0, none⟩) (cn + 1) c7)) hn2 e7d⟩) (fun hH => ?_)
            clear hK K
            try simp only [Act.put, List.setIfInBounds_toArray, List.set_cons_zero, List.set_cons_succ]
            refine wpAnyH_done (by kernel_rfl) ?_ _
            rw [HCN.out] at OW7
            have M8 := Lib.hid (MU.out.end_ (e := (β, xp, xl, xs)) hβ rfl OW7.out G7.out T7.out rfl B7.out)
            rw [← HT.out, ← HCN.out] at M8
            have F8 := Lib.hid (show ∀ b, b < n → (if b = β then (.slice (some ⟨g7, 0, none⟩) (cn + 1) c7 : Value) else va b).ownBlock ≠ some bu from fun b hb => by
              by_cases e : b = β
              · rw [if_pos e]
                intro e2
                simp [Value.ownBlock] at e2
                rcases T7.out with e3 | e3
                · rw [e2] at e3; exact HF.out β hβ e3
                · have := BW.out.size
                  rw [← e3, e2] at this
                  omega
              · rw [if_neg e]; exact HF.out b hb)
            have C8 := Lib.hid (show ∀ j x, R[j]? = some x → ∀ c u, (cellsPe x)[c]? = some u → (w7.setCell ⟨w.heap.size, β, none⟩ (.slice (some ⟨g7, 0, none⟩) (cn + 1) c7)).cell? ⟨bu, offe + j * 4 + c, none⟩ = some u from fun j x hj c u hc => by
              have e1 := gcell_below BW.out (HC1.out j x hj c u hc)
              have e2 := (G7.out.cell_far ⟨bu, offe + j * 4 + c, none⟩ (gcell_lt e1) (fun e => HF.out β hβ e.symm)).trans e1
              exact gcell_only (Only.setCell w7 w.heap.size β _) HNE.out e2)
            clear z0 z1 z2 z3 y2 y3 lt1 lt2 lt3 b1 b2 b3 b4 q1 fr e7 m7 e7b e7c e7d mb7 eb7 hn1 hn2 hH
            go_wp2_with fail
            go_roundw
            case rel => exact ⟨k + 1, _, by omega, by go_num, M8, C8, F8⟩
            case measure => simp [intOf]; omega
          · refine AllReadyH.cons rfl (fun K hK => ?_) AllReadyH.nil
            go_simp
            refine hK.out _ _ (KF.out _ BW.out) (fun hH => ?_)
            clear hK K
            try simp only [Act.put, List.setIfInBounds_toArray, List.set_cons_zero, List.set_cons_succ]
            refine wpAnyH_ready (rs := [13]) (by kernel_rfl) (by simp) ?_
            refine AllReadyH.cons rfl (fun K hK => ?_) AllReadyH.nil
            go_simp
            refine hK.out _ _ (KF.out _ BW.out) (fun hH => ?_)
            clear hK K
            try simp only [Act.put, List.setIfInBounds_toArray, List.set_cons_zero, List.set_cons_succ]
            refine wpAnyH_ready (rs := [16]) (by kernel_rfl) (by simp) ?_
            refine AllReadyH.cons rfl (fun K hK => ?_) AllReadyH.nil
            refine step_append_lies _ rfl _ _ 51 rfl w.heap.size 54 i1 (.agg #[.int .i64 0, .int .i64 0, .int .i64 0, .int .i64 0]) 4 32 Try.underlying51 hi1 hy0 hy1 hy2 rfl (by decide) (va β) cn ((atP (R.take k) β).flatMap cellsPe) rfl OA.out ⟨W1.heap.size, 0, none⟩ 1 1 [.int .i64 (β : Int), .int .i64 xp, .int .i64 xl, .int .i64 xs] rfl rfl CA.out oc.out (by decide) n11.out n22.out hsz1.out _ rfl ?_
            intro g7 c7 w7 hown7 hg7 hat7 hlt7
            have A7 := Lib.hid (own_keeps OA.out hg7 (k := w.heap.size) (MU.out.atm.blk.choose_spec.1) (by decide))
            have B7 := Lib.hid (MU.out.bel.grown hg7 hsz1.out (fun j hj => (OA.out.lt j hj).1))
            have OW7 := Lib.hid hown7
            have G7 := Lib.hid hg7
            have T7 := Lib.hid hat7
            have q1 := cell_of_block A7.out (MU.out.atm.blk.choose_spec.2 β hβ)
            have fr := free_of_block (j := β) A7.out
            have e7 := (hg7.cell_far ⟨eb, 0, none⟩ (gcell_lt (gcell_below BW.out z0)) (fun e => Nat.lt_irrefl _ (HG1.out β hβ eb e.symm))).trans (gcell_below BW.out z0)
            have m7 := cell_of_block (j := 2) (own_keeps OA.out hg7 (k := m) MU.out.mesh (by decide)) rfl
            have e7b := (hg7.cell_far ⟨eb, 1, none⟩ (gcell_lt (gcell_below BW.out z1)) (fun e => Nat.lt_irrefl _ (HG1.out β hβ eb e.symm))).trans (gcell_below BW.out z1)
            have e7c := (hg7.cell_far ⟨eb, 2, none⟩ (gcell_lt (gcell_below BW.out z2)) (fun e => Nat.lt_irrefl _ (HG1.out β hβ eb e.symm))).trans (gcell_below BW.out z2)
            have e7d := (hg7.cell_far ⟨eb, 3, none⟩ (gcell_lt (gcell_below BW.out z3)) (fun e => Nat.lt_irrefl _ (HG1.out β hβ eb e.symm))).trans (gcell_below BW.out z3)
            have mb7 := own_keeps OA.out hg7 (k := m) MU.out.mesh (by decide)
            have eb7 := (show w7.heap[eb]? = some (.cells #[.int .i64 (β : Int), .int .i64 xp, .int .i64 xl, .int .i64 xs] 54 (0, 0)) from (hg7.block eb (lt_of_block (below_block BW.out (lt_of_block HB1.out) HB1.out)) (fun e => Nat.lt_irrefl _ (HG1.out β hβ eb e.symm))).trans (below_block BW.out (lt_of_block HB1.out) HB1.out))
            have hn1 : m ≠ w.heap.size := fun e => by rw [e] at mb7; exact absurd (mb7.symm.trans A7.out) (by simp)
            have hn2 : eb ≠ w.heap.size := fun e => by rw [e] at eb7; exact absurd (eb7.symm.trans A7.out) (by simp)
            clear hown7 hg7 hat7 hlt7
            refine hK.out _ _ (⟨m7, e7, e7b, e7c, e7d⟩) (fun hH => ?_)
            clear hK K
            try simp only [Act.put, List.setIfInBounds_toArray, List.set_cons_zero, List.set_cons_succ]
            refine wpAnyH_take (i := 17) (oi := { dst := some 59, op := Op.indexAddr 62 (Operand.tmp 45) (Operand.tmp 47), type := 0, pos := "round.go:23", after := #[{ on := 3, ground := Ground.data }, { on := 5, ground := Ground.data }, { on := 0, ground := Ground.phase }, { on := 1, ground := Ground.phase }, { on := 2, ground := Ground.phase }, { on := 3, ground := Ground.phase }, { on := 4, ground := Ground.phase }, { on := 5, ground := Ground.phase }, { on := 6, ground := Ground.phase }, { on := 7, ground := Ground.phase }, { on := 8, ground := Ground.phase }, { on := 9, ground := Ground.phase }, { on := 10, ground := Ground.phase }, { on := 11, ground := Ground.phase }, { on := 12, ground := Ground.phase }, { on := 13, ground := Ground.phase }, { on := 14, ground := Ground.phase }, { on := 15, ground := Ground.phase }, { on := 16, ground := Ground.phase }], guard := none }) (v := .pointer (some ⟨w.heap.size, β, none⟩)) rfl (by kernel_rfl) (by kernel_rfl) (by kernel_rfl) (fun _ _ _ h => h) (Or.inl ⟨by kernel_rfl, ?_⟩) hH ?_
            · intro w hSw; (try dsimp only at hSw); go_simp
            try simp only [Act.put, List.setIfInBounds_toArray, List.set_cons_zero, List.set_cons_succ]
            refine wpAnyH_ready (rs := [18]) (by kernel_rfl) (by simp) ?_
            refine AllReadyH.cons rfl (fun K hK => ?_) AllReadyH.nil
            go_simp
            refine hK.out _ _ (⟨gcell_only (Only.setCell w7 w.heap.size β (.slice (some ⟨g7, 0, none⟩) (cn + 1) c7)) hn1 m7, gcell_only (Only.setCell w7 w.heap.size β (.slice (some ⟨g7, 0, none⟩) (cn + 1) c7)) hn2 e7, gcell_only (Only.setCell w7 w.heap.size β (.slice (some ⟨g7, 0, none⟩) (cn + 1) c7)) hn2 e7b, gcell_only (Only.setCell w7 w.heap.size β (.slice (some ⟨g7, 0, none⟩) (cn + 1) c7)) hn2 e7c, gcell_only (Only.setCell w7 w.heap.size β (.slice (some ⟨g7, 0, none⟩) (cn + 1) c7)) hn2 e7d⟩) (fun hH => ?_)
            clear hK K
            try simp only [Act.put, List.setIfInBounds_toArray, List.set_cons_zero, List.set_cons_succ]
            refine wpAnyH_done (by kernel_rfl) ?_ _
            rw [HCN.out] at OW7
            have M8 := Lib.hid (MU.out.end_ (e := (β, xp, xl, xs)) hβ rfl OW7.out G7.out T7.out rfl B7.out)
            rw [← HT.out, ← HCN.out] at M8
            have F8 := Lib.hid (show ∀ b, b < n → (if b = β then (.slice (some ⟨g7, 0, none⟩) (cn + 1) c7 : Value) else va b).ownBlock ≠ some bu from fun b hb => by
              by_cases e : b = β
              · rw [if_pos e]
                intro e2
                simp [Value.ownBlock] at e2
                rcases T7.out with e3 | e3
                · rw [e2] at e3; exact HF.out β hβ e3
                · have := BW.out.size
                  rw [← e3, e2] at this
                  omega
              · rw [if_neg e]; exact HF.out b hb)
            have C8 := Lib.hid (show ∀ j x, R[j]? = some x → ∀ c u, (cellsPe x)[c]? = some u → (w7.setCell ⟨w.heap.size, β, none⟩ (.slice (some ⟨g7, 0, none⟩) (cn + 1) c7)).cell? ⟨bu, offe + j * 4 + c, none⟩ = some u from fun j x hj c u hc => by
              have e1 := gcell_below BW.out (HC1.out j x hj c u hc)
              have e2 := (G7.out.cell_far ⟨bu, offe + j * 4 + c, none⟩ (gcell_lt e1) (fun e => HF.out β hβ e.symm)).trans e1
              exact gcell_only (Only.setCell w7 w.heap.size β _) HNE.out e2)
            clear z0 z1 z2 z3 y2 y3 lt1 lt2 lt3 b1 b2 b3 b4 q1 fr e7 m7 e7b e7c e7d mb7 eb7 hn1 hn2 hH
            go_wp2_with fail
            go_roundw
            case rel => exact ⟨k + 1, _, by omega, by go_num, M8, C8, F8⟩
            case measure => simp [intOf]; omega
        · obtain rfl : k = R.length := by omega
          rw [List.take_of_length_le (Nat.le_refl _)] at HM
          have HMS := Lib.hid (show HasM wr m (.slice (some ⟨bb, offi, none⟩) n capi) (.slice pl L.length capl) sv w.heap.size n ids L R (ids.map ownV) from ⟨by have := HM.out.mesh; rw [← HNN.out]; exact this, (HI0.out).below HM.out.bel, HL.out.below HM.out.bel, fun b hb => ⟨va b, HM.out.atm.cell (by rw [HNN.out]; exact hb), HM.out.atm.rows (by rw [HNN.out]; exact hb)⟩, rowsAt_own (by decide) v4_len (by have := HM.out.own; exact this), fun e => by
            obtain ⟨cs, h1, -⟩ := HM.out.atm.blk
            have h2 := HM.out.mesh
            rw [← e, h1] at h2
            exact absurd h2 (by simp)⟩)
          have HGM := Lib.hid HM.out.geM
          have HB := Lib.hid HM.out.bel
          clear hlt
          go_wp2_with fail
          go_ret
          have hms := HMS.out
          rw [HNN.out] at hms
          exact ⟨m, _, sv, R, rfl, RP.out, RU.out, hms, HB.out, HGM.out⟩
end Go.Proofs.Ytolmkflhddlcnaa
