/-
  Maps ranged over while entries are taken away: what is still to come, at deletion.
-/
import Derived.Test.YtggbnkbhobbopaaGrM
namespace Go.Proofs.Ytggbnkbhobbopaa
open Go Go.Maps Go.ChangeMaps Go.RowKit
open Go.WideElems (Fit rd rg pl rd_val elemAt)
set_option linter.unusedVariables false
set_option linter.unusedSimpArgs false

section
variable {P : Program} {k : TypeId} {w : World} {b r cnt : Nat} {L S : List T3}
theorem Rg.of {l : List (Lit × DataW Unit)} {n : Nat} {left : Lit → Bool} (hp : l.Perm (L.map enc3)) (h : w.ranges P k tmR b r n (.map l) left cnt) (hS : S.Perm (L.filter (fun x => left x.1))) : Rg w P k b r L S cnt := by
  obtain ⟨es, clock, since, seen, c0, hb, F, hs, hD, rest⟩ := h
  refine ⟨l, left, hp, ⟨es, clock, since, seen, c0, hb, F, ?_, hD, rest⟩, hS⟩
  have e1 : l.length = ((es.toList.map (rg P k tmR)).foldr DataW.insert []).length := by
    have := hD
    simp only [DataW.map.injEq] at this
    rw [this]
  rw [length_sorted] at e1
  have e2 := hp.length_eq
  simp at e1 e2
  omega
theorem Rg.permL (h : Rg w P k b r L S cnt) {L' S' : List T3} (hp : L.Perm L') (hs : S'.Perm S) : Rg w P k b r L' S' cnt := by
  obtain ⟨l, left, h1, h2, h3⟩ := h
  exact Rg.of (h1.trans (hp.map _)) h2 (hs.trans (h3.trans (hp.filter _)))
theorem Rg.drop {t e : TypeId} (h : Rg w P k b r L S cnt) (K : Keyed P k) (ht : P.underlying t = some (.map k e)) {key : Value} {kl : Lit} (hkey : keyOf P k key = some kl) (ty : TypeId) :
    ∃ w' cnt', (Builtin.delete_ #[t, k] ty #[.map (some b), key]).run P w = .ok (.tuple #[]) w' ∧ Rg w' P k b r (delT L kl) (delT S kl) cnt' ∧ cnt' ≤ cnt ∧ w.mapTurned w' b := by
  obtain ⟨l, left, h1, h2, h3⟩ := h
  obtain ⟨w', cnt', hrun, h4, h5, h6⟩ := h2.drop K ht hkey ty
  refine ⟨w', cnt', hrun, Rg.of ?_ h4 ?_, h5, h6⟩
  · show (l.filter (notKey kl)).Perm _
    rw [← del_map]
    exact h1.filter _
  · unfold delT
    refine (h3.filter _).trans ?_
    rw [List.filter_filter, List.filter_filter]
    refine List.Perm.of_eq (List.filter_congr fun x _ => ?_)
    cases left x.1 <;> cases x.1.sameKey kl <;> rfl

variable {ops : Array Oper} {rest : List Oper} {o : Oper} {a : Act} {Q : Exit → Act → World → Prop}
theorem wpList_delete_rg (w : World) (hg : o.guard = none) (m x : Operand) (t k : TypeId) (hop : o.op = Op.call { callee := Callee.builtin Builtin.delete, args := #[m, x], argTypes := #[t, k] })
    (e : TypeId) (K : Keyed P k) (ht : P.underlying t = some (.map k e)) (b r : Nat) (L S : List T3) (cnt : Nat)
    (hm : a.eval m = .map (some b)) (h : Rg w P k b r L S cnt) (key : Value) (kl : Lit) (hx : a.eval x = key) (hkey : keyOf P k key = some kl)
    (hK : ∀ w' cnt', Rg w' P k b r (delT L kl) (delT S kl) cnt' → cnt' ≤ cnt → w.mapTurned w' b → wpList P ops Q rest (a.put o.dst (.tuple #[])) w') :
    wpList P ops Q (o :: rest) a w := by
  refine wpList_plain hg fun K' hK' => ?_
  obtain ⟨w', cnt', hrun, r1, r2, r3⟩ := h.drop K ht hkey o.type
  unfold Oper.wp
  simp [execOp, hop, resolve, invoke, builtin, hm, hx, hrun, Result.andThen]
  exact hK' _ _ (hK w' cnt' r1 r2 r3)
end

/-- One that has come up is not among those to come, and its deletion leaves the others. -/
theorem del_rest {A S : List T3} {kl : Lit} {q : Int} (hk : WideAt.IsKeyLit kl) (h : (A ++ ((kl, q) :: S)).Pairwise (fun x y => x.1 ≠ y.1)) : delT (A ++ ((kl, q) :: S)) kl = A ++ S ∧ delT S kl = S := by
  obtain ⟨h1, h2, h3⟩ := List.pairwise_append.1 h
  obtain ⟨h4, h5⟩ := List.pairwise_cons.1 h2
  have eA : A.filter (fun x => !x.1.sameKey kl) = A := by
    rw [List.filter_eq_self]
    intro x hx
    rw [Maps.sameKey_ne (h3 x hx (kl, q) (by simp))]
    rfl
  have eS : S.filter (fun x => !x.1.sameKey kl) = S := by
    rw [List.filter_eq_self]
    intro x hx
    rw [Maps.sameKey_ne (fun e => h4 x hx e.symm)]
    rfl
  constructor
  · unfold delT
    rw [List.filter_append, List.filter_cons, if_neg (by simp [WideAt.sameKey_self hk]), eA, eS]
  · exact eS

end Go.Proofs.Ytggbnkbhobbopaa
