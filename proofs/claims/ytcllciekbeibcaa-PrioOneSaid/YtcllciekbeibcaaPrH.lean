/-
  The laws on prio: told. A contract over the translated program.
-/
import Derived.Test.YtcllciekbeibcaaPrG
import Derived.Deep.AppendLies
namespace Go.Proofs.Ytcllciekbeibcaa
open Go.RowKit
set_option linter.unusedVariables false
set_option linter.unusedSimpArgs false

set_option maxHeartbeats 8000000 in
set_option maxRecDepth 100000 in
theorem told_c (v : Value) (L : List Hd) (w : World) (hl : L.length ≤ 1000000) (h : RowsAt 6 cellsHd w v L) :
    Calls Try.prog 17 #[v] w fun e w' => ∃ u, e = .returned u ∧ RowsAt 6 cellsHd w' u L ∧ Below w.heap.size w w' := by
  obtain ⟨p, cap, bb, off, rfl, hp, hc⟩ := h
  have HP := Lib.hid hp
  have HC := Lib.hid hc
  clear hp hc
  obtain ⟨i0, hi, hz0, hz1, hz2⟩ := info_parts info_Hd
  go_enter Try.func17, Try.ntmps17
  go_wp2_with fail
  go_loopw [3, 4] (fun s3 i wr => ∃ (k : Nat) (po : Option Addr) (co : Nat), k ≤ L.length ∧ i = .int .i64 k ∧ s3 = .slice po k co ∧ Hid (wr.ownsRow w.heap.size 46 6 (.slice po k co) k ((L.take k).flatMap cellsHd)) ∧ Hid (Below w.heap.size w wr)) (fun _ i _ => L.length - (intOf i).toNat)
  case atStart => exact ⟨0, none, 0, Nat.zero_le _, rfl, rfl, Lib.hid (World.ownsRow_nil _ _ _ _), Lib.hid (Below.refl _ _)⟩
  case round =>
    obtain ⟨k, po, co, hk, rfl, rfl, HO, KB⟩ := hrel
    by_cases hlt : k < L.length
    · have hne' : L ≠ [] := by rintro rfl; simp at hlt
      obtain rfl := HP.out hne'
      have HT := Lib.hid (show (L.take (k + 1)).flatMap cellsHd = (L.take k).flatMap cellsHd ++ cellsHd L[k] by rw [List.take_succ_eq_append_getElem hlt, List.flatMap_append]; simp)
      generalize (L.take k).flatMap cellsHd = acc at HT HO
      have x0 : w.cell? ⟨bb, off + k * 6, none⟩ = some _ := (HC.out k _ (List.getElem?_eq_getElem hlt) 0 _ rfl)
      have x1 : w.cell? ⟨bb, off + k * 6 + 1, none⟩ = some _ := (HC.out k _ (List.getElem?_eq_getElem hlt) 1 _ rfl)
      have x2 : w.cell? ⟨bb, off + k * 6 + 2, none⟩ = some _ := (HC.out k _ (List.getElem?_eq_getElem hlt) 2 _ rfl)
      have x3 : w.cell? ⟨bb, off + k * 6 + 3, none⟩ = some _ := (HC.out k _ (List.getElem?_eq_getElem hlt) 3 _ rfl)
      have x4 : w.cell? ⟨bb, off + k * 6 + 4, none⟩ = some _ := (HC.out k _ (List.getElem?_eq_getElem hlt) 4 _ rfl)
      have x5 : w.cell? ⟨bb, off + k * 6 + 5, none⟩ = some _ := (HC.out k _ (List.getElem?_eq_getElem hlt) 5 _ rfl)
      have H1 := Lib.hid (hd_one L[k])
      generalize L[k] = hd at HT x0 x1 x2 x3 x4 x5 H1
      obtain ⟨x, r, c, g, q, kk⟩ := hd
      simp only at x0 x1 x2 x3 x4 x5
      replace HT : Hid ((L.take (k + 1)).flatMap cellsHd = acc ++ [.bool x, .int .u64 r, .int .i64 c, .int .u64 g, .int .i64 q, .int .i64 kk]) := HT
      replace H1 : Hid (∀ u ∈ ([.bool x, .int .u64 r, .int .i64 c, .int .u64 g, .int .i64 q, .int .i64 kk] : List Value), u.oneCell' = true) := H1
      clear hne'
      have hlt' : (k : Int) < (L.length : Int) := by omega
      have KF := Lib.hid fun (U : World) (kz : Below w.heap.size w U) => (⟨gcell_below kz x0, gcell_below kz x1, gcell_below kz x2, gcell_below kz x3, gcell_below kz x4, gcell_below kz x5, kz⟩ : U.cell? ⟨bb, off + k * 6, none⟩ = some (.bool x) ∧ U.cell? ⟨bb, off + k * 6 + 1, none⟩ = some (.int .u64 r) ∧ U.cell? ⟨bb, off + k * 6 + 2, none⟩ = some (.int .i64 c) ∧ U.cell? ⟨bb, off + k * 6 + 3, none⟩ = some (.int .u64 g) ∧ U.cell? ⟨bb, off + k * 6 + 4, none⟩ = some (.int .i64 q) ∧ U.cell? ⟨bb, off + k * 6 + 5, none⟩ = some (.int .i64 kk) ∧ Below w.heap.size w U)
      have k0 := KB.out.drew
      have k1 := (KB.out.alloc KB.out.size (.cells #[.bool x, .int .u64 r, .int .i64 c, .int .u64 g, .int .i64 q, .int .i64 kk] 46)).drew
      have OA := Lib.hid (show ((wr.alloc (.cells #[.bool x, .int .u64 r, .int .i64 c, .int .u64 g, .int .i64 q, .int .i64 kk] 46)).drew).ownsRow w.heap.size 46 6 (.slice po k co) k acc from HO.out.alloc _)
      have CA := Lib.hid (show ∀ j u, [.bool x, .int .u64 r, .int .i64 c, .int .u64 g, .int .i64 q, .int .i64 kk][j]? = some u → ((wr.alloc (.cells #[.bool x, .int .u64 r, .int .i64 c, .int .u64 g, .int .i64 q, .int .i64 kk] 46)).drew).cell? ((⟨wr.heap.size, 0, none⟩ : Addr).add j) = some u from cells_new wr [.bool x, .int .u64 r, .int .i64 c, .int .u64 g, .int .i64 q, .int .i64 kk] 46)
      have n1 := Lib.hid (show k + 1 ≤ maxLen by unfold maxLen; omega)
      have n2 := Lib.hid (show (k + 1) * 48 ≤ 140737488355328 by omega)
      have n3 := Lib.hid (show w.heap.size ≤ ((wr.alloc (.cells #[.bool x, .int .u64 r, .int .i64 c, .int .u64 g, .int .i64 q, .int .i64 kk] 46)).drew).heap.size from k1.size)
      have hfar := Lib.hid (fun j hj => (OA.out.lt j hj).1)
      obtain ⟨v0, v1, v2, v3, v4, v5, -⟩ := KF.out wr KB.out
      clear x0 x1 x2 x3 x4 x5
      go_upto_region 5 with fail
      go_region_held3 (fun U => U.cell? ⟨bb, off + k * 6, none⟩ = some (.bool x) ∧ U.cell? ⟨bb, off + k * 6 + 1, none⟩ = some (.int .u64 r) ∧ U.cell? ⟨bb, off + k * 6 + 2, none⟩ = some (.int .i64 c) ∧ U.cell? ⟨bb, off + k * 6 + 3, none⟩ = some (.int .u64 g) ∧ U.cell? ⟨bb, off + k * 6 + 4, none⟩ = some (.int .i64 q) ∧ U.cell? ⟨bb, off + k * 6 + 5, none⟩ = some (.int .i64 kk) ∧ Below w.heap.size w U)
        (first | with_reducible exact KF.out _ k7 | with_reducible exact KF.out _ k1 | with_reducible exact KF.out _ k0)
        (first
          | (refine step_append_lies _ rfl _ _ 36 rfl w.heap.size 46 i0 (.agg #[.bool false, .int .u64 0, .int .i64 0, .int .u64 0, .int .i64 0, .int .i64 0]) 6 48 Try.underlying36 hi hz0 hz1 hz2 rfl (by decide) (.slice po k co) k acc rfl OA.out ⟨wr.heap.size, 0, none⟩ 1 1 [.bool x, .int .u64 r, .int .i64 c, .int .u64 g, .int .i64 q, .int .i64 kk] rfl rfl CA.out H1.out (by decide) n1.out n2.out n3.out _ rfl ?_; intro g7 c7 w7 hown7 hg7 hat7 hlt7; have k7 := k1.grown hg7 n3.out hfar.out; have O7 := Lib.hid hown7; clear hown7 hg7 hat7 hlt7))
      all_goals
        rename_i hh
        clear hh
        replace k7 := Lib.hid k7
        clear v0 v1 v2 v3 v4 v5 k0 k1 KF OA CA HO KB
        go_wp2_with fail
        go_roundw
        case rel => exact ⟨k + 1, some ⟨g7, 0, none⟩, c7, by omega, by go_num, rfl, Lib.hid (by rw [HT.out]; exact O7.out), k7⟩
        case measure => simp [intOf]; omega
    · obtain rfl : k = L.length := by omega
      rw [List.take_length] at HO
      clear hlt
      go_wp2_with fail
      go_ret
      exact ⟨_, rfl, rowsAt_own (by decide) hd_len HO.out, KB.out⟩

end Go.Proofs.Ytcllciekbeibcaa
