/-
  The document's table: without. A contract over the translated program.
-/
import Derived.Test.YtodddahjibccoaaFdN
import Derived.Laws.AppendOwn
namespace Go.Proofs.Ytodddahjibccoaa
open Go Go.Maps Go.WideMaps
open Go.RowKit
set_option linter.unusedVariables false
set_option linter.unusedSimpArgs false

theorem und_LE : Try.prog.underlying 29 = some (.slice 58) := by kernel_rfl
theorem info_LE : (Try.prog.info? 58).map (fun i => (i.size, i.bytes)) = some (4, 40) := by kernel_rfl
theorem info_LZ : (Try.prog.info? 58).bind (fun i => i.zero) = some (.agg #[.int .i64 0, .string ⟨#[]⟩, .int .i64 0, .int .i64 0]) := by kernel_rfl
theorem infoR : ∃ i, Try.prog.info? 58 = some i ∧ i.zero = some (.agg #[.int .i64 0, .string ⟨#[]⟩, .int .i64 0, .int .i64 0]) ∧ i.size = 4 ∧ i.bytes = 40 := by
  obtain ⟨i, hi, hzz⟩ := Option.map_eq_some_iff.1 info_LE
  simp only [Prod.mk.injEq] at hzz
  have h := info_LZ
  rw [hi] at h
  exact ⟨i, hi, by simpa using h, hzz.1, hzz.2⟩
theorem owns_slice {w : World} {base e size n : Nat} {v : Value} {xs : List Value} (h : w.ownsRow base e size v n xs) : ∃ p cap, v = .slice p n cap := by
  rcases h.2 with ⟨rfl, rfl⟩ | ⟨g, cap, cur, rfl, _⟩
  · exact ⟨none, 0, rfl⟩
  · exact ⟨_, cap, rfl⟩
theorem add_none (b o j : Nat) : (⟨b, o, none⟩ : Addr).add j = ⟨b, o + j, none⟩ := by unfold Addr.add; split <;> simp_all

variable {w w1 w2 : World} {B q : Nat} {room age : Int} {R D : List E4} {lv v1 v2 : Value} {k n2 : Nat} {xs : List Value}
/-- The table's block stands where a row of entries grows. -/
theorem tab_grown (e1 : w1.heap[q]? = some (.cells #[.int .i64 room, .int .i64 age, lv] 31 (0, 0))) (o1 : w1.ownsRow B 58 4 v1 k xs) (g2 : w1.grownBy w2 v1.ownBlock) : w2.heap[q]? = some (.cells #[.int .i64 room, .int .i64 age, lv] 31 (0, 0)) := by
  have hq1 : v1.ownBlock ≠ some q := by
    intro e
    obtain ⟨cs, f, e2⟩ := row_block o1 e
    have := e1.symm.trans e2
    simp at this
  exact (g2.block q (lt_of_block e1) (fun e => hq1 e.symm)).trans e1
/-- What the store of the row leaves. -/
theorem store_fin (e2 : w2.heap[q]? = some (.cells #[.int .i64 room, .int .i64 age, lv] 31 (0, 0))) (t : Tq w w2 B q) (o2 : w2.ownsRow B 58 4 v2 n2 (rowE D)) (hn : n2 = D.length) :
    HasR (w2.setCell ⟨q, 2, none⟩ v2) B q room age D v2 ∧ Tq w (w2.setCell ⟨q, 2, none⟩ v2) B q ∧ w2.frozen? ⟨q, 2, none⟩ = false ∧ w2.cell? ⟨q, 2, none⟩ = some lv := by
  subst hn
  have hq2 : v2.ownBlock ≠ some q := by
    intro e
    obtain ⟨cs, f, e3⟩ := row_block o2 e
    have := e2.symm.trans e3
    simp at this
  refine ⟨⟨by simpa using heap_store (j := 2) (v := v2) e2, ?_⟩, t.trans (Tq.setCell _ _ _ _ _), free_of_block e2, cell_of_block e2 rfl⟩
  exact o2.kept (row := some q) ⟨rfl, rfl, rfl, by simp [World.setCell], fun k _ hk => Below.heap_setCell _ _ _ _ (fun e => hk (by rw [e]))⟩ (Or.inr hq2)

set_option maxHeartbeats 8000000 in
set_option maxRecDepth 100000 in
theorem without_c (h : HasR w B q room age R lv) (hl : R.length < 1000000000) {k : Nat} (hk : k < R.length) :
    Calls Try.prog 34 #[.pointer (some ⟨q, 0, none⟩), .int .i64 k] w fun e w' => e = .returned (.tuple #[]) ∧ ∃ lv', HasR w' B q room age (R.eraseIdx k) lv' ∧ Tq w w' B q := by
  obtain ⟨i0, hi, hz0, hz1, hz2⟩ := infoR
  obtain ⟨y, hy⟩ := some_at hk
  obtain ⟨g, cap, rfl, hcap, hcm, -, -⟩ := h.some hy
  have H := Lib.hid h
  have c2 := h.c2
  have D := Lib.hid (List.eraseIdx_eq_take_drop_succ R k)
  have L1 := Lib.hid (show (rowE (R.take k)).length = k * 4 by rw [rowE_len, List.length_take, Nat.min_eq_left (by omega)])
  have L2 := Lib.hid (show (rowE (R.drop (k + 1))).length = (R.length - (k + 1)) * 4 by rw [rowE_len, List.length_drop])
  have HB := Lib.hid (show B ≤ w.heap.size by have := H.out.2.lt g rfl; omega)
  have CL := Lib.hid (show ∀ (j : Nat) (u : Value), (rowE R)[j]? = some u → w.cell? ⟨g, j, none⟩ = some u from fun j u hj => by have := H.out.2.cells (g := g) rfl j u hj; unfold Addr.add at this; split at this <;> simp_all)
  have hkk : k + 1 ≤ R.length := by omega
  have hkc : k + 1 ≤ cap := by omega
  have hkl : k ≤ 1000000000 := by omega
  have wk : wrap64 ((k : Int) + 1) = (k + 1 : Nat) := by unfold wrap64; omega
  have wk2 : IntKind.i64.wrap ((k : Int) + 1) = (k + 1 : Nat) := by rw [IntWalk.i64_in _ (by omega)]; omega
  clear h hy
  go_enter Try.func34, Try.ntmps34
  go_wp2_with (at_builtin; refine wpList_append_own _ rfl _ _ 29 rfl B 58 i0 (.agg #[.int .i64 0, .string ⟨#[]⟩, .int .i64 0, .int .i64 0]) 4 40 und_LE hi hz0 hz1 hz2 rfl (by decide) _ 0 [] rfl (World.ownsRow_nil _ _ _ _) _ _ _ (rowE (R.take k)) rfl L1.out ?c1 ?c2 ?c3 ?c4 HB.out ?_)
  case c1 => exact fun j u hj => by rw [add_none, Nat.zero_add]; exact CL.out j u (rowE_pre hj)
  case c2 => exact rowE_one _
  case c3 => unfold maxLen; omega
  case c4 => omega
  intro v1 w1 hown1 hg1 _
  have N1 := Lib.hid (show w1.ownsRow B 58 4 v1 k (rowE (R.take k)) by simpa using hown1)
  have G1 := Lib.hid (show w.grownBy w1 none from hg1)
  have c2 := (G1.out.cell H.out.c2 (by simp))
  have HB1 := Lib.hid (Nat.le_trans HB.out G1.out.size)
  have CL1 := Lib.hid (show ∀ (j : Nat) (u : Value), (rowE R)[j]? = some u → w1.cell? ⟨g, j, none⟩ = some u from fun j u hj => G1.out.cell (CL.out j u hj) (by simp))
  have hlen := Lib.hid (show k + (R.length - (k + 1)) = (R.take k ++ R.drop (k + 1)).length by rw [List.length_append, List.length_take, List.length_drop, Nat.min_eq_left (by omega)])
  have E1 := Lib.hid ((G1.out.block q H.out.lt (by simp)).trans H.out.1)
  have FIN := Lib.hid fun (w2 : World) (v2 : Value) (o : w2.ownsRow B 58 4 v2 (k + (R.length - (k + 1))) (rowE (R.take k) ++ rowE (R.drop (k + 1)))) (g2 : w1.grownBy w2 v1.ownBlock) =>
    store_fin (w := w) (tab_grown E1.out N1.out g2) ((Tq.ofBelow ⟨G1.out.os, G1.out.tape, G1.out.output, G1.out.size, fun j hj => G1.out.block j hj (by simp)⟩).trans (Tq.grown N1.out g2)) (by rw [← rowE_app] at o; exact o) hlen.out
  clear hown1 hg1
  go_upto_region 2 with fail
  by_cases hc1 : cap = k + 1
  · have hz := Lib.hid (show (rowE (R.drop (k + 1))).length = 0 by rw [L2.out]; omega)
    go_wp2_with (at_builtin; refine wpList_append_own _ rfl _ _ 29 rfl B 58 i0 (.agg #[.int .i64 0, .string ⟨#[]⟩, .int .i64 0, .int .i64 0]) 4 40 und_LE hi hz0 hz1 hz2 rfl (by decide) _ k (rowE (R.take k)) rfl N1.out _ _ _ (rowE (R.drop (k + 1))) rfl L2.out ?d1 ?d2 ?d3 ?d4 HB1.out ?_)
    case d1 => exact fun j u hj => by have := (List.getElem?_eq_some_iff.1 hj).1; have := hz.out; omega
    case d2 => exact rowE_one _
    case d3 => unfold maxLen; omega
    case d4 => omega
    intro v2 w2 hown2 hg2 _
    obtain ⟨f1, f2, f3, f4⟩ := FIN.out w2 v2 hown2 hg2
    rw [← D.out] at f1
    have F1 := Lib.hid (And.intro f1 f2)
    obtain ⟨p2, cap2, rfl⟩ := owns_slice hown2
    clear hown2 hg2 f1 f2
    go_wp2
    go_end0
    exact ⟨rfl, _, F1.out.1, F1.out.2⟩
  · go_wp2_with (at_builtin; refine wpList_append_own _ rfl _ _ 29 rfl B 58 i0 (.agg #[.int .i64 0, .string ⟨#[]⟩, .int .i64 0, .int .i64 0]) 4 40 und_LE hi hz0 hz1 hz2 rfl (by decide) _ k (rowE (R.take k)) rfl N1.out _ _ _ (rowE (R.drop (k + 1))) rfl L2.out ?d1 ?d2 ?d3 ?d4 HB1.out ?_)
    case d1 => exact fun j u hj => by rw [add_none]; exact CL1.out _ u (rowE_suf hkk hj)
    case d2 => exact rowE_one _
    case d3 => unfold maxLen; omega
    case d4 => omega
    intro v2 w2 hown2 hg2 _
    obtain ⟨f1, f2, f3, f4⟩ := FIN.out w2 v2 hown2 hg2
    rw [← D.out] at f1
    have F1 := Lib.hid (And.intro f1 f2)
    obtain ⟨p2, cap2, rfl⟩ := owns_slice hown2
    clear hown2 hg2 f1 f2
    go_wp2
    go_end0
    exact ⟨rfl, _, F1.out.1, F1.out.2⟩

end Go.Proofs.Ytodddahjibccoaa
