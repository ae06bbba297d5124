/-
  Lists of vectors, of what was heard, of roles, as rows of cells. It speaks of no program but for the types.
-/
import Derived.Test.YtolmkflhddlcnaaTrH
namespace Go.Proofs.Ytolmkflhddlcnaa
open Go.RowKit
set_option linter.unusedVariables false
set_option linter.unusedSimpArgs false

def listB (n : Nat) (f : Nat → V4) : List V4 := (List.range n).map f
theorem listB_at {n b : Nat} (f : Nat → V4) (h : b < n) : (listB n f)[b]? = some (f b) := by
  unfold listB
  rw [List.getElem?_map, List.getElem?_range h]
  rfl
theorem listB_len (n : Nat) (f : Nat → V4) : (listB n f).length = n := by simp [listB]
theorem idAt_at {ids : List Int} {b : Nat} (h : b < ids.length) : ids[b]? = some (idAt ids b) := by
  rw [id_at h]
  exact List.getElem?_eq_getElem h
def slLen : Value → Nat
  | .slice _ n _ => n
  | _ => 0
/-- A list grows by one that was heard. -/
theorem hds_snoc {id : Nat → Int} {E : List En} {bf : Nat → V4} {b j : Nat} {x : Hd} (hj : j < 16) (hx : hdAt id E bf b j = x) : ((hdsT id E bf b).take (j + 1)).flatMap cellsHd = ((hdsT id E bf b).take j).flatMap cellsHd ++ cellsHd x := by
  rw [hds_take _ _ _ _ hj, List.flatMap_append, hx]
  simp

theorem listB_snoc (n : Nat) (f : Nat → V4) : (listB (n + 1) f).flatMap cellsV4 = (listB n f).flatMap cellsV4 ++ cellsV4 (f n) := by
  unfold listB
  rw [List.range_succ, List.map_append, List.flatMap_append]
  simp
theorem v4_one (v : V4) : ∀ u ∈ cellsV4 v, u.oneCell' = true := fun u hu => by
  simp [cellsV4] at hu
  rcases hu with rfl | rfl | rfl | rfl <;> rfl
def cellsPr (p : Int × Int) : List Value := [.int .i64 p.1, .int .i64 p.2]
theorem pr_len (p : Int × Int) : (cellsPr p).length = 2 := rfl
theorem info_Pr : (Try.prog.info? 38).map (fun i => (i.zero, i.size, i.bytes)) = some (some (.agg #[.int .i64 0, .int .i64 0]), 2, 16) := by kernel_rfl
theorem owns_blk {w : World} {base e m : Nat} {v : Value} {xs : List Value} (h : w.ownsRow base e 1 v m xs) (hm : 0 < m) : ∃ (g cap : Nat) (cur : Array Value), v = .slice (some ⟨g, 0, none⟩) m cap ∧ w.heap[g]? = some (.cells cur e (0, 0)) ∧ ∀ (j : Nat) (u : Value), xs[j]? = some u → cur[j]? = some u := by
  have h' := h
  rcases h.2 with ⟨rfl, h1⟩ | ⟨g, cap, cur, rfl, hb, hh, h1, h2, h3, h4⟩
  · omega
  · refine ⟨g, cap, cur, rfl, hh, fun j u hj => ?_⟩
    have h5 := World.ownsRow.cells h' (g := g) rfl j u hj
    have e1 : (⟨g, 0, none⟩ : Addr).add j = ⟨g, 0 + j, none⟩ := by unfold Addr.add; split <;> simp_all
    rw [e1, Nat.zero_add] at h5
    unfold World.cell? at h5
    simpa [hh] using h5

end Go.Proofs.Ytolmkflhddlcnaa
