/-
  The wheel's entries sorted: slices.SortFunc at the entries of keys of type int. A contract over the translated program.
-/
import Derived.Test.YtplaconhpiojbaaWhH
import Derived.Test.YtplaconhpiojbaaWhS
import Derived.Test.YtplaconhpiojbaaWhI
namespace Go.Proofs.Ytplaconhpiojbaa
open Go Go.Maps Go.WideMaps
open Go.RowKit Go.Shelf Go.Lib Go.Sort
set_option linter.unusedVariables false
set_option linter.unusedSimpArgs false

theorem agg_EI (w : World) : (isAgg 82).run Try.prog w = .ok true w := Try.isAgg82 w
theorem siz_EI (w : World) : (Go.sizeOf 82).run Try.prog w = .ok 3 w := Try.sizeOf82 w

theorem sortI_c {w : World} {base : Nat} {v : Value} {D : List T3} (O : w.ownsRow base 82 3 v D.length (rowOf D)) (hl : D.length < 1000000000) :
    Calls Try.prog 39 #[v, .func (.func 40) #[] #[]] w fun e w' =>
      e = .returned (.tuple #[]) ∧ ∃ D', D.Perm D' ∧ SortedT D' ∧ EntAt w' v D' ∧ RowKit.Below base w w' := by
  rcases O.2 with ⟨rfl, h0⟩ | ⟨g, cap, cur, rfl, hbase, hb, h1, h2, h3, h4⟩
  · have hD : D = [] := List.length_eq_zero_iff.1 h0
    subst hD
    refine (AnyF.slices_SortFunc_none lay_laysSortI none 0 _ w).mono ?_
    rintro e w' ⟨rfl, rfl⟩
    exact ⟨rfl, [], List.Perm.refl _, List.Pairwise.nil, ⟨none, 0, 0, rfl, fun i x h => by simp at h⟩, RowKit.Below.refl _ _⟩
  · have hH : HoldsK cells3 3 w g 0 D.toArray := holdsK_of_own hb h4
    have eg : ∀ args w, (callFunc 40 args).run Try.prog w = .ok (.enter 40 args) w := enters_of Try.func40 (by kernel_rfl) rfl
    have hglt : g < w.heap.size := (Array.getElem?_eq_some_iff.1 hb).1
    have hcon := AnyQ.slices_SortFunc lay_laysSortI 3 agg_EI siz_EI cells3 (fun _ => rfl) cells3_one (fun x y => cmpT x.2.1 x.2.2 y.2.1 y.2.2) swo_T 40 #[] g 0 cap D.toArray w eg
      (fun m os dk hs x y => due1I_c x.1.value y.1.value x.2.1 x.2.2 y.2.1 y.2.2 _) hH hglt (by simp; omega)
    change Calls Try.prog 39 _ _ _ at hcon
    simp only [List.size_toArray] at hcon
    refine hcon.mono ?_
    rintro e w' ⟨rfl, d', n, os, hP, hS, rfl⟩
    exact ⟨rfl, sorted_post hbase hglt hH hP hS⟩

end Go.Proofs.Ytplaconhpiojbaa
