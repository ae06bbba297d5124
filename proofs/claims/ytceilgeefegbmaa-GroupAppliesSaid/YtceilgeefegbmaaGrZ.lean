/-
  append(own, l...) where l is a list of sources and times; siphonlaw17.copied. Contracts over the translated program.
-/
import Derived.Test.YtceilgeefegbmaaGrV
import Derived.Test.YtceilgeefegbmaaAppA
import Derived.Test.YtceilgeefegbmaaRowO
namespace Go.Proofs.Ytceilgeefegbmaa
open Go Go.Maps Go.WideMaps
open Go.RowKit
set_option linter.unusedVariables false
set_option linter.unusedSimpArgs false

/-- append onto an own row of a list of sources and times. -/
theorem wpList_append_tms {w : World} {ops : Array Oper} {rest : List Oper} {o : Oper} {a : Act} {Q : Exit → Act → World → Prop} (hgd : o.guard = none) (s x : Operand)
    (ho : o.op = .call { callee := .builtin .append, args := #[s, x], argTypes := #[22, 22] })
    (base : Nat) (v : Value) (n : Nat) (xs : List Value) (hs : a.eval s = v) (hown : w.ownsRow base 56 2 v n xs) (vs : Value) (l : List Tm) (hx : a.eval x = vs) (ha : RowsAt 2 cellsTm w vs l)
    (h63 : n + l.length ≤ maxLen) (hbytes : (n + l.length) * 24 ≤ 140737488355328) (hbase : base ≤ w.heap.size)
    (h : ∀ v' w', w'.ownsRow base 56 2 v' (n + l.length) (xs ++ l.flatMap cellsTm) → w.grownBy w' v.ownBlock → wpList Try.prog ops Q rest (a.put o.dst v') w') : wpList Try.prog ops Q (o :: rest) a w := by
  obtain ⟨i0, hi, hz0, hz1, hz2⟩ := info_parts info_Tm
  obtain ⟨p, cap, b, off, rfl, hp, hc⟩ := ha
  rcases p with _ | ad
  · have hl : l = [] := by
      rcases l with _ | ⟨y, ys⟩
      · rfl
      · exact absurd (hp (by simp)) (by simp)
    subst hl
    have hrun := run_app_nil (P := Try.prog) (w := w) base 22 o.type 56 i0 2 Try.underlying22 hi v n xs hown cap
    refine wpList_plain hgd fun K hK => ?_
    have hk := hK _ _ (h v w (by simpa using hown) (World.grownBy.refl w _))
    unfold Oper.wp
    simp [execOp, ho, resolve, invoke, builtin, hs, hx, hrun, Result.andThen]
    exact hk
  · refine wpList_append_own w hgd s x 22 ho base 56 i0 (.agg #[.string ByteArray.empty, .int .i64 0]) 2 24 Try.underlying22 hi hz0 hz1 hz2 rfl (by decide) v n xs hs hown ad l.length cap (l.flatMap cellsTm) hx (flat_len (cells := cellsTm) tm_len l) (fun j u hj => ?_) (fun u hu => ?_) h63 hbytes hbase fun v' w' h1 h2 _ => h v' w' h1 h2
    · have hjl : j < (l.flatMap cellsTm).length := (List.getElem?_eq_some_iff.1 hj).1
      rw [flat_len (cells := cellsTm) tm_len l] at hjl
      have hq : j / 2 < l.length := by omega
      have hne : l ≠ [] := by rintro rfl; simp at hq
      obtain rfl : ad = ⟨b, off, none⟩ := by have := hp hne; simpa using this
      have e : (⟨b, off, none⟩ : Addr).add j = ⟨b, off + j, none⟩ := by unfold Addr.add; split <;> simp_all
      rw [e]
      have hg := flat_get (cells := cellsTm) tm_len l (j / 2) (j % 2) _ (List.getElem?_eq_getElem hq) (by omega)
      rw [show j / 2 * 2 + j % 2 = j by omega, hj] at hg
      have := hc (j / 2) _ (List.getElem?_eq_getElem hq) (j % 2) u hg.symm
      rw [show off + j / 2 * 2 + j % 2 = off + j by omega] at this
      exact this
    · obtain ⟨y, _, hu⟩ := List.mem_flatMap.1 hu
      exact one_tm y.1 y.2 u hu

set_option maxHeartbeats 4000000 in
set_option maxRecDepth 100000 in
theorem copied17_c (ex : Bool) (tm : Int) (vs : Value) (l : List Tm) (w : World) (hl : l.length ≤ 100) (ha : RowsAt 2 cellsTm w vs l) :
    Calls Try.prog 11 #[.agg #[.bool ex, .int .i64 tm, vs]] w fun e w' => ∃ v', e = .returned (.agg #[.bool ex, .int .i64 tm, v']) ∧ RowsAt 2 cellsTm w' v' l ∧ Below w.heap.size w w' := by
  have HA := Lib.hid ha
  obtain ⟨p, c, rfl⟩ := ha.slice
  have B := Lib.hid (IB3.start w #[.bool ex, .int .i64 tm, .slice p l.length c] #[.bool false, .int .i64 0, .slice none 0 0] #[.bool ex, .int .i64 tm, .slice none 0 0] 24)
  clear ha
  go_enter Try.func11, Try.ntmps11
  go_wp2_with (at_builtin; refine wpList_append_tms rfl _ _ rfl (w.heap.size + 1 + 1 + 1) _ 0 [] rfl (World.ownsRow_nil _ _ _ _) _ l rfl ?a1 ?a2 ?a3 ?a4 ?_)
  case a1 => exact HA.out.below B.out.bel
  case a2 => unfold maxLen; omega
  case a3 => omega
  case a4 => simp
  intro v' w3 hown hgrow
  replace B := Lib.hid (B.out.grown hgrow (fun g hg => by simp [Value.ownBlock] at hg))
  have hown2 : w3.ownsRow (w.heap.size + 1 + 1 + 1) 56 2 v' l.length (l.flatMap cellsTm) := by simpa using hown
  obtain ⟨p9, c9, rfl⟩ := (rowsAt_own (cells := cellsTm) (by decide) tm_len hown2).slice
  have OW := Lib.hid (owns_store (c := w.heap.size + 1 + 1) (j := 2) (u := .slice p9 l.length c9) hown2 (by omega))
  clear hown hgrow hown2
  have z0 := B.out.cell2 0 rfl
  have z1 := B.out.cell2 1 rfl
  have z2 := B.out.cell2 2 rfl
  have fr2 := fun j => B.out.free2 j
  have u0 := B.out.cell1 0 rfl
  have u1 := B.out.cell1 1 rfl
  have u2 := B.out.cell1 2 rfl
  have fr1 := fun j => B.out.free1 j
  replace B := Lib.hid (B.out.set2 2 (.slice p9 l.length c9))
  go_wp2_with fail
  refine bodyPost_ret (v := .agg #[.bool ex, .int .i64 tm, .slice p9 l.length c9]) (by simp [results, Try.results11, go_sem, u0, u1, u2]) rfl ⟨_, rfl, ?_, ?_⟩
  · refine rowsAt_own (cells := cellsTm) (by decide) tm_len (base := w.heap.size + 1 + 1 + 1) (e := 56) (n := l.length) ?_
    iterate 3 (refine owns_store ?_ (by omega))
    exact OW.out
  · iterate 3 (refine Below.setCell ?_ (by show _ ≤ w.heap.size + 1; omega) _)
    exact B.out.bel
end Go.Proofs.Ytceilgeefegbmaa
