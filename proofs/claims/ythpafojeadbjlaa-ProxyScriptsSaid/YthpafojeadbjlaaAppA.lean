/-
  append(own, l...) where l is a list of texts, nil or not: a law for the walk. And what a store elsewhere leaves of an own row.
-/
import Derived.Test.YthpafojeadbjlaaProg
import Derived.Test.YthpafojeadbjlaaMemL
import Derived.Test.YthpafojeadbjlaaKit
import Derived.Laws.AppendOwn
import Derived.Laws.OwnMore
import Derived.Tactics
import Derived.ProofKit
namespace Go.Proofs.Ythpafojeadbjlaa
open Go.RowKit
set_option linter.unusedVariables false

theorem infoA : (Try.prog.info? 35).map (fun i => (i.zero, i.size, i.bytes)) = some (some (.string ⟨#[]⟩), 1, 16) := by kernel_rfl

theorem run_app_nil {P : Program} {w : World} (base : Nat) (t ty e : TypeId) (i : TypeInfo) (size : Nat) (ht : P.underlying t = some (.slice e)) (hi : P.info? e = some i)
    (v : Value) (n : Nat) (xs : List Value) (hown : w.ownsRow base e size v n xs) (c : Nat) : (Builtin.append_ #[t, t] ty #[v, .slice none 0 c]).run P w = .ok v w := by
  rcases hown.2 with ⟨hv, h0⟩ | ⟨g, cap, cur, hv, _, _, hnc, _⟩
  · subst hv
    simp [Builtin.append_, run_underlying ht, sizeOf, typeInfo, hi, Builtin.lenOf, Builtin.firstCells]
  · subst hv
    simp [Builtin.append_, run_underlying ht, sizeOf, typeInfo, hi, Builtin.lenOf, Builtin.firstCells, hnc, storeCells]

/-- append onto an own row of a list of texts. -/
theorem wpList_append_addrs {w : World} {ops : Array Oper} {rest : List Oper} {o : Oper} {a : Act} {Q : Exit → Act → World → Prop} (hgd : o.guard = none) (s x : Operand)
    (ho : o.op = .call { callee := .builtin .append, args := #[s, x], argTypes := #[26, 26] })
    (base : Nat) (v : Value) (n : Nat) (xs : List Value) (hs : a.eval s = v) (hown : w.ownsRow base 35 1 v n xs) (vs : Value) (l : List ByteArray) (hx : a.eval x = vs) (ha : AddrsAt w vs l)
    (h63 : n + l.length ≤ maxLen) (hbytes : (n + l.length) * 16 ≤ 140737488355328) (hbase : base ≤ w.heap.size)
    (h : ∀ v' w', w'.ownsRow base 35 1 v' (n + l.length) (xs ++ l.map Value.string) → w.grownBy w' v.ownBlock → wpList Try.prog ops Q rest (a.put o.dst v') w') : wpList Try.prog ops Q (o :: rest) a w := by
  obtain ⟨i0, hi, hz0, hz1, hz2⟩ := info_parts infoA
  obtain ⟨p, cap, b, off, rfl, hp, hc⟩ := ha
  rcases p with _ | ad
  · have hl : l = [] := by
      rcases l with _ | ⟨y, ys⟩
      · rfl
      · exact absurd (hp (by simp)).1 (by simp)
    subst hl
    have hrun := run_app_nil (P := Try.prog) (w := w) base 26 o.type 35 i0 1 Try.underlying26 hi v n xs hown cap
    refine wpList_plain hgd fun K hK => ?_
    have hk := hK _ _ (h v w (by simpa using hown) (World.grownBy.refl w _))
    unfold Oper.wp
    simp [execOp, ho, resolve, invoke, builtin, hs, hx, hrun, Result.andThen]
    exact hk
  · refine wpList_append_own w hgd s x 26 ho base 35 i0 (.string ⟨#[]⟩) 1 16 Try.underlying26 hi hz0 hz1 hz2 rfl (by decide) v n xs hs hown ad l.length cap (l.map Value.string) hx (by simp) (fun j u hj => ?_) (fun u hu => ?_) h63 hbytes hbase fun v' w' h1 h2 _ => h v' w' h1 h2
    · have hjl : j < l.length := by
        have := (List.getElem?_eq_some_iff.1 hj).1
        simpa using this
      have hne : l ≠ [] := by rintro rfl; simp at hjl
      obtain rfl : ad = ⟨b, off, none⟩ := by have := (hp hne).1; simpa using this
      have e : (⟨b, off, none⟩ : Addr).add j = ⟨b, off + j, none⟩ := by unfold Addr.add; split <;> simp_all
      rw [e]
      have := hc j _ (List.getElem?_eq_getElem hjl)
      rw [this]
      simpa [hjl] using hj
    · obtain ⟨y, _, rfl⟩ := List.mem_map.1 hu
      rfl

theorem owns_store {w : World} {base c j n size : Nat} {e : TypeId} {v u : Value} {xs : List Value} (h : w.ownsRow base e size v n xs) (hc : c < base) : (w.setCell ⟨c, j, none⟩ u).ownsRow base e size v n xs := by
  refine h.kept (row := some c) ⟨rfl, rfl, rfl, by simp [World.setCell], fun k hk hne => Below.heap_setCell _ _ _ _ (fun e => hne (by rw [e]))⟩ ?_
  rcases hv : v.ownBlock with _ | g
  · exact .inl rfl
  · refine .inr fun e => ?_
    have := (h.lt g hv).1
    simp only [Option.some.injEq] at e
    omega

/-- Three blocks behind w0's end; what lay is as it was. -/
def IB3 (w0 w : World) (xs ys zs : Array Value) (t : TypeId) : Prop := w.heap[w0.heap.size]? = some (.cells xs t (0, 0)) ∧ w.heap[w0.heap.size + 1]? = some (.cells ys t (0, 0)) ∧ w.heap[w0.heap.size + 1 + 1]? = some (.cells zs t (0, 0)) ∧ Below w0.heap.size w0 w
theorem IB3.start (w0 : World) (xs ys zs : Array Value) (t : TypeId) : IB3 w0 (((w0.alloc (.cells xs t)).alloc (.cells ys t)).alloc (.cells zs t)) xs ys zs t := by
  refine ⟨heap_old (heap_old (heap_new _ _)), ?_, ?_, (((Below.refl _ w0).alloc (Nat.le_refl _) _).alloc (by simp) _).alloc (by simp; omega) _⟩
  · have h := heap_new (w0.alloc (.cells xs t)) (.cells ys t)
    have e : (w0.alloc (.cells xs t)).heap.size = w0.heap.size + 1 := by simp
    rw [e] at h
    exact heap_old h
  · have h := heap_new ((w0.alloc (.cells xs t)).alloc (.cells ys t)) (.cells zs t)
    have e : ((w0.alloc (.cells xs t)).alloc (.cells ys t)).heap.size = w0.heap.size + 1 + 1 := by simp
    rw [e] at h
    exact h
theorem IB3.below {w0 w w' : World} {xs ys zs : Array Value} {t : TypeId} (h : IB3 w0 w xs ys zs t) (k : Below w.heap.size w w') : IB3 w0 w' xs ys zs t :=
  ⟨below_block k (lt_of_block h.1) h.1, below_block k (lt_of_block h.2.1) h.2.1, below_block k (lt_of_block h.2.2.1) h.2.2.1, h.2.2.2.trans (k.mono h.2.2.2.size)⟩
theorem IB3.cell0 {w0 w : World} {xs ys zs : Array Value} {t : TypeId} (h : IB3 w0 w xs ys zs t) (j : Nat) {v : Value} (hj : xs[j]? = some v) : w.cell? ⟨w0.heap.size, j, none⟩ = some v := cell_of_block h.1 hj
theorem IB3.cell1 {w0 w : World} {xs ys zs : Array Value} {t : TypeId} (h : IB3 w0 w xs ys zs t) (j : Nat) {v : Value} (hj : ys[j]? = some v) : w.cell? ⟨w0.heap.size + 1, j, none⟩ = some v := cell_of_block h.2.1 hj
theorem IB3.cell2 {w0 w : World} {xs ys zs : Array Value} {t : TypeId} (h : IB3 w0 w xs ys zs t) (j : Nat) {v : Value} (hj : zs[j]? = some v) : w.cell? ⟨w0.heap.size + 1 + 1, j, none⟩ = some v := cell_of_block h.2.2.1 hj
theorem IB3.free1 {w0 w : World} {xs ys zs : Array Value} {t : TypeId} (h : IB3 w0 w xs ys zs t) (j : Nat) : w.frozen? ⟨w0.heap.size + 1, j, none⟩ = false := free_of_block h.2.1
theorem IB3.free2 {w0 w : World} {xs ys zs : Array Value} {t : TypeId} (h : IB3 w0 w xs ys zs t) (j : Nat) : w.frozen? ⟨w0.heap.size + 1 + 1, j, none⟩ = false := free_of_block h.2.2.1
theorem IB3.lt {w0 w : World} {xs ys zs : Array Value} {t : TypeId} (h : IB3 w0 w xs ys zs t) : w0.heap.size + 1 + 1 < w.heap.size := lt_of_block h.2.2.1
theorem IB3.bel {w0 w : World} {xs ys zs : Array Value} {t : TypeId} (h : IB3 w0 w xs ys zs t) : Below w0.heap.size w0 w := h.2.2.2
theorem IB3.set2 {w0 w : World} {xs ys zs : Array Value} {t : TypeId} (h : IB3 w0 w xs ys zs t) (j : Nat) (v : Value) : IB3 w0 (w.setCell ⟨w0.heap.size + 1 + 1, j, none⟩ v) xs ys (zs.setIfInBounds j v) t :=
  ⟨heap_store_other h.1 (by omega), heap_store_other h.2.1 (by omega), heap_store h.2.2.1, h.2.2.2.setCell (p := ⟨w0.heap.size + 1 + 1, j, none⟩) (by show _ ≤ w0.heap.size + 1 + 1; omega) _⟩
theorem IB3.grown {w0 w w' : World} {xs ys zs : Array Value} {t : TypeId} {row : Option Nat} (h : IB3 w0 w xs ys zs t) (k : w.grownBy w' row) (hr : ∀ g, row = some g → w0.heap.size + 1 + 1 < g) : IB3 w0 w' xs ys zs t := by
  have l := h.lt
  have ne : ∀ b, b ≤ w0.heap.size + 1 + 1 → some b ≠ row := fun b hb e => by have := hr b e.symm; omega
  exact ⟨(k.block _ (by omega) (ne _ (by omega))).trans h.1, (k.block _ (by omega) (ne _ (by omega))).trans h.2.1, (k.block _ (by omega) (ne _ (by omega))).trans h.2.2.1, h.2.2.2.grown k h.2.2.2.size (fun g hg => by have := hr g hg; omega)⟩

end Go.Proofs.Ythpafojeadbjlaa
