/-
  append of a whole list of rows onto an own row. It speaks of no function.
-/
import Derived.Test.YthpafojeadbjlaaAppA
import Derived.Test.YthpafojeadbjlaaRowO
namespace Go.Proofs.Ythpafojeadbjlaa
open Go.RowKit
set_option linter.unusedVariables false
set_option linter.unusedSimpArgs false

theorem wpList_append_rows {α : Type} {cells : α → List Value} {size bytes : Nat} (hcl : ∀ x, (cells x).length = size)
    {w : World} {ops : Array Oper} {rest : List Oper} {o : Oper} {a : Act} {Q : Exit → Act → World → Prop} (hgd : o.guard = none) (s x : Operand) (t e : TypeId)
    (ho : o.op = .call { callee := .builtin .append, args := #[s, x], argTypes := #[t, t] }) (i : TypeInfo) (z : Value) (ht : Try.prog.underlying t = some (.slice e)) (hi : Try.prog.info? e = some i) (hz : i.zero = some z)
    (hsize : i.size = size) (hby : i.bytes = bytes) (hzs : z.cells.size = size) (hsz : 0 < size)
    (base : Nat) (v : Value) (n : Nat) (xs : List Value) (hs : a.eval s = v) (hown : w.ownsRow base e size v n xs) (vs : Value) (l : List α) (hone : ∀ x ∈ l, ∀ u ∈ cells x, u.oneCell' = true) (hx : a.eval x = vs) (ha : RowsAt size cells w vs l)
    (h63 : n + l.length ≤ maxLen) (hbytes : (n + l.length) * bytes ≤ 140737488355328) (hbase : base ≤ w.heap.size)
    (h : ∀ v' w', w'.ownsRow base e size v' (n + l.length) (xs ++ l.flatMap cells) → w.grownBy w' v.ownBlock → wpList Try.prog ops Q rest (a.put o.dst v') w') : wpList Try.prog ops Q (o :: rest) a w := by
  obtain ⟨p, cap, b, off, rfl, hp, hc⟩ := ha
  rcases p with _ | ad
  · have hl : l = [] := by
      rcases l with _ | ⟨y, ys⟩
      · rfl
      · exact absurd (hp (by simp)) (by simp)
    subst hl
    have hrun := run_app_nil (P := Try.prog) (w := w) base t o.type e i size ht hi v n xs hown cap
    refine wpList_plain hgd fun K hK => ?_
    have hk := hK _ _ (h v w (by simpa using hown) (World.grownBy.refl w _))
    unfold Oper.wp
    simp [execOp, ho, resolve, invoke, builtin, hs, hx, hrun, Result.andThen]
    exact hk
  · refine wpList_append_own w hgd s x t ho base e i z size bytes ht hi hz hsize hby hzs hsz v n xs hs hown ad l.length cap (l.flatMap cells) hx (flat_len (cells := cells) hcl l) (fun j u hj => ?_) (fun u hu => ?_) h63 hbytes hbase fun v' w' h1 h2 _ => h v' w' h1 h2
    · have hjl : j < (l.flatMap cells).length := (List.getElem?_eq_some_iff.1 hj).1
      rw [flat_len (cells := cells) hcl l] at hjl
      have hq : j / size < l.length := (Nat.div_lt_iff_lt_mul hsz).2 hjl
      have hne : l ≠ [] := by rintro rfl; simp at hq
      obtain rfl : ad = ⟨b, off, none⟩ := by have := hp hne; simpa using this
      have e1 : (⟨b, off, none⟩ : Addr).add j = ⟨b, off + j, none⟩ := by unfold Addr.add; split <;> simp_all
      rw [e1]
      have hm : j / size * size + j % size = j := by rw [Nat.mul_comm]; exact Nat.div_add_mod j size
      have hg := flat_get (cells := cells) hcl l (j / size) (j % size) _ (List.getElem?_eq_getElem hq) (Nat.mod_lt _ hsz)
      rw [hm, hj] at hg
      have := hc (j / size) _ (List.getElem?_eq_getElem hq) (j % size) u hg.symm
      rw [Nat.add_assoc, hm] at this
      exact this
    · obtain ⟨y, hy, hu⟩ := List.mem_flatMap.1 hu
      exact hone y hy u hu
/-- An own row can be cut. -/
theorem own_cap {w : World} {base e size n : Nat} {v : Value} {xs : List Value} (h : w.ownsRow base e size v n xs) : ∀ p m c, v = .slice p m c → m ≤ c := by
  intro p m c hv
  rcases h.2 with ⟨rfl, h0⟩ | ⟨g, cap, cur, rfl, hb, hg, h1, -⟩
  · simp only [Value.slice.injEq] at hv
    obtain ⟨-, rfl, rfl⟩ := hv
    exact Nat.le_refl _
  · simp only [Value.slice.injEq] at hv
    obtain ⟨-, rfl, rfl⟩ := hv
    exact h1
theorem own_slice {w : World} {base e size n : Nat} {v : Value} {xs : List Value} (h : w.ownsRow base e size v n xs) : ∃ p c, v = .slice p n c := by
  rcases h.2 with ⟨rfl, rfl⟩ | ⟨g, cap, cur, rfl, hb, hg, h1, -⟩
  · exact ⟨_, _, rfl⟩
  · exact ⟨_, _, rfl⟩
end Go.Proofs.Ythpafojeadbjlaa
