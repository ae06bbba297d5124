/-
  The mesh in memory: ids, links, the ends at each bridge, the best vectors. It speaks of no function.
-/
import Derived.Test.YtolmkflhddlcnaaTaD
import Derived.Test.YtolmkflhddlcnaaRowO
namespace Go.Proofs.Ytolmkflhddlcnaa
open Go.RowKit
set_option linter.unusedVariables false
set_option linter.unusedSimpArgs false

def cellsV4 (v : V4) : List Value := [.int .u64 v.1, .int .i64 v.2.1, .int .u64 v.2.2.1, .int .i64 v.2.2.2]
theorem v4_len (v : V4) : (cellsV4 v).length = 4 := rfl
theorem pe_len (e : Pe) : (cellsPe e).length = 4 := rfl
theorem info_V4 : (Try.prog.info? 79).map (fun i => (i.zero, i.size, i.bytes)) = some (some (.agg #[.int .u64 0, .int .i64 0, .int .u64 0, .int .i64 0]), 4, 32) := by kernel_rfl
theorem info_Es : (Try.prog.info? 51).map (fun i => (i.zero, i.size, i.bytes)) = some (some (.slice none 0 0), 1, 24) := by kernel_rfl
/-- The ends at a bridge. -/
def atP (R : List Pe) (b : Nat) : List Pe := R.filter fun e => e.1 == (b : Int)
def nilRow (n : Nat) : Array Value := (List.replicate n (Value.slice none 0 0)).toArray
theorem nilRow_made (n : Nat) : madeCells (Value.slice none 0 0).cells (n * 1) = nilRow n := by
  unfold nilRow
  apply Array.ext
  · simp [size_madeCells]
  · intro i h1 h2
    simp [madeCells, Value.cells, Nat.mod_one]
theorem nilRow_at {n b : Nat} (h : b < n) : (nilRow n)[b]? = some (.slice none 0 0) := by
  unfold nilRow
  simp [h]

def isA (t : TypeId) : Bool := t == 54 || t == 51
/-- The ends at each bridge, in rows of their own. -/
structure AtM (w : World) (B ab n : Nat) (va : Nat → Value) (D : List Pe) : Prop where
  blk : ∃ cs, w.heap[ab]? = some (.cells cs 51 (0, 0)) ∧ ∀ b, b < n → cs[b]? = some (va b)
  own : ∀ b, b < n → w.ownsRow B 54 4 (va b) (atP D b).length ((atP D b).flatMap cellsPe)
  dis : ∀ b c, b < n → c < n → b ≠ c → ∀ g, (va b).ownBlock = some g → (va c).ownBlock ≠ some g
  geA : B ≤ ab
  sz : ∀ cs f, w.heap[ab]? = some (.cells cs 51 f) → cs.size = n
theorem AtM.cell {w : World} {B ab n : Nat} {va : Nat → Value} {D : List Pe} (h : AtM w B ab n va D) {b : Nat} (hb : b < n) : w.cell? ⟨ab, b, none⟩ = some (va b) := by
  obtain ⟨cs, h1, h2⟩ := h.blk
  exact cell_of_block h1 (h2 b hb)
theorem AtM.free {w : World} {B ab n : Nat} {va : Nat → Value} {D : List Pe} (h : AtM w B ab n va D) (b : Nat) : w.frozen? ⟨ab, b, none⟩ = false := by
  obtain ⟨cs, h1, h2⟩ := h.blk
  exact free_of_block h1
theorem AtM.below {w w' : World} {B ab n : Nat} {va : Nat → Value} {D : List Pe} (h : AtM w B ab n va D) (k : Below w.heap.size w w') : AtM w' B ab n va D := by
  obtain ⟨cs, h1, h2⟩ := h.blk
  exact ⟨⟨cs, below_block k (lt_of_block h1) h1, h2⟩, fun b hb => iowns_below (h.own b hb) k, h.dis, h.geA, fun cs' f h' => h.sz cs' f (by rw [← h', h1]; exact (below_block k (lt_of_block h1) h1).symm)⟩
theorem atM_start {w w1 : World} {B n : Nat} (hb : B ≤ w.heap.size) : AtM (w.alloc (.cells (nilRow n) 51)) B w.heap.size n (fun _ => .slice none 0 0) [] :=
  ⟨⟨_, heap_new _ _, fun b hb => nilRow_at hb⟩, fun b hb => World.ownsRow_nil _ _ _ _, fun b c _ _ _ g h => by simp [Value.ownBlock] at h, hb, fun cs f h => by have e := (heap_new w (.cells (nilRow n) 51)).symm.trans h; cases e; simp [nilRow]⟩
theorem owns_lt {w : World} {B n g : Nat} {e : TypeId} {s : Nat} {v : Value} {xs : List Value} (h : w.ownsRow B e s v n xs) (hg : v.ownBlock = some g) : g < w.heap.size := (h.lt g hg).2
theorem owns_grown {w w' : World} {B n : Nat} {e : TypeId} {s : Nat} {v : Value} {xs : List Value} {row : Option Nat} (h : w.ownsRow B e s v n xs) (hg : w.grownBy w' row) (hne : ∀ g, v.ownBlock = some g → row ≠ some g) : w'.ownsRow B e s v n xs := by
  refine ⟨h.1, ?_⟩
  rcases h.2 with h0 | ⟨g, cap, cur, rfl, hb, hh, h1, h2, h3, h4⟩
  · exact Or.inl h0
  · refine Or.inr ⟨g, cap, cur, rfl, hb, ?_, h1, h2, h3, h4⟩
    rw [hg.block g (lt_of_block hh) (fun e => hne g rfl e.symm)]
    exact hh
/-- One end more at a bridge. -/
theorem AtM.step {w w7 : World} {B ab n β g7 c7 H : Nat} {va : Nat → Value} {D : List Pe} {e : Pe} (h : AtM w B ab n va D) (hβ : β < n) (he : e.1 = (β : Int))
    (hown : w7.ownsRow B 54 4 (.slice (some ⟨g7, 0, none⟩) ((atP D β).length + 1) c7) ((atP D β).length + 1) ((atP D β).flatMap cellsPe ++ cellsPe e)) (hg : w.grownBy w7 (va β).ownBlock) (hat : (va β).ownBlock = some g7 ∨ g7 = H) (hH : w.heap.size = H) :
    AtM (w7.setCell ⟨ab, β, none⟩ (.slice (some ⟨g7, 0, none⟩) ((atP D β).length + 1) c7)) B ab n (fun b => if b = β then .slice (some ⟨g7, 0, none⟩) ((atP D β).length + 1) c7 else va b) (D ++ [e]) := by
  obtain ⟨cs, h1, h2⟩ := h.blk
  have hab : w7.heap[ab]? = some (.cells cs 51 (0, 0)) := by
    rw [hg.block ab (lt_of_block h1) (fun e1 => ?_)]
    · exact h1
    · rcases (h.own β hβ).2 with ⟨hv, -⟩ | ⟨g, cap, cur, hv, -, hh, -⟩
      · rw [hv] at e1
        simp [Value.ownBlock] at e1
      · rw [hv] at e1
        simp [Value.ownBlock] at e1
        subst e1
        have e2 := h1.symm.trans hh
        simp at e2
  have hx := Only.setCell w7 ab β (.slice (some ⟨g7, 0, none⟩) ((atP D β).length + 1) c7)
  have hsz : β < cs.size := (Array.getElem?_eq_some_iff.1 (h2 β hβ)).1
  have hfil : ∀ b, atP (D ++ [e]) b = if b = β then atP D β ++ [e] else atP D b := by
    intro b
    unfold atP
    rw [List.filter_append]
    by_cases hb : b = β
    · subst hb
      rw [if_pos rfl]
      simp [he]
    · rw [if_neg hb]
      have hne : ¬ e.1 = (b : Int) := by omega
      simp [hne]
  refine ⟨⟨_, heap_store hab, fun b hb => ?_⟩, fun b hb => ?_, fun b c hb hc hne g hg1 => ?_, h.geA, fun cs' f h' => by have e := (heap_store (j := β) (v := .slice (some ⟨g7, 0, none⟩) ((atP D β).length + 1) c7) hab).symm.trans h'; cases e; rw [Array.size_setIfInBounds]; exact h.sz cs _ h1⟩
  · by_cases hbb : b = β
    · subst hbb
      simp [hsz]
    · rw [if_neg hbb, Array.getElem?_setIfInBounds_ne (fun e => hbb e.symm)]
      exact h2 b hb
  · rw [hfil b]
    by_cases hbb : b = β
    · subst hbb
      rw [if_pos rfl, if_pos rfl, List.length_append, List.flatMap_append]
      have : [e].flatMap cellsPe = cellsPe e := by simp
      rw [this]
      exact owns_only hown hx hab (by decide)
    · rw [if_neg hbb, if_neg hbb]
      exact owns_only (owns_grown (h.own b hb) hg fun g h3 h4 => h.dis b β hb hβ hbb g h3 h4) hx hab (by decide)
  · by_cases hbb : b = β
    · subst hbb
      have hcb : ¬ c = b := fun e => hne e.symm
      simp only [if_pos, if_neg hcb] at hg1 ⊢
      simp [Value.ownBlock] at hg1
      subst hg1
      rcases hat with h3 | h3
      · exact h.dis b c hb hc hne _ h3
      · intro h4
        have := owns_lt (h.own c hc) h4
        omega
    · by_cases hcc : c = β
      · subst hcc
        simp only [if_neg hbb, if_pos] at hg1 ⊢
        intro h4
        simp [Value.ownBlock] at h4
        subst h4
        rcases hat with h3 | h3
        · exact h.dis b c hb hc hne _ hg1 h3
        · have := owns_lt (h.own b hb) hg1
          omega
      · simp only [if_neg hbb, if_neg hcc] at hg1 ⊢
        exact h.dis b c hb hc hne g hg1

/-- THE MESH. -/
structure HasM (w : World) (m : Nat) (vi vl vb : Value) (ab cap : Nat) (ids : List Int) (L : List Lk) (R : List Pe) (bst : List V4) : Prop where
  mesh : w.heap[m]? = some (.cells #[vi, vl, .slice (some ⟨ab, 0, none⟩) ids.length cap, vb] 65 (0, 0))
  idr : RowsAt 1 cellsU64 w vi ids
  lkr : RowsAt 5 cellsLk w vl L
  at_ : ∀ b, b < ids.length → ∃ va, w.cell? ⟨ab, b, none⟩ = some va ∧ RowsAt 4 cellsPe w va (atP R b)
  bsr : RowsAt 4 cellsV4 w vb bst
  hne : ab ≠ m
theorem HasM.below {w w' : World} {m : Nat} {vi vl vb : Value} {ab cap : Nat} {ids : List Int} {L : List Lk} {R : List Pe} {bst : List V4} (h : HasM w m vi vl vb ab cap ids L R bst) (k : Below w.heap.size w w') : HasM w' m vi vl vb ab cap ids L R bst :=
  ⟨below_block k (lt_of_block h.mesh) h.mesh, h.idr.below k, h.lkr.below k, fun b hb => by
    obtain ⟨va, h1, h2⟩ := h.at_ b hb
    exact ⟨va, gcell_below k h1, h2.below k⟩, h.bsr.below k, h.hne⟩
theorem AtM.not_int {w : World} {B ab n o : Nat} {va : Nat → Value} {D : List Pe} {k : IntKind} {i : Int} (h : AtM w B ab n va D) (hc : w.cell? ⟨ab, o, none⟩ = some (.int k i)) : False := by
  by_cases ho : o < n
  · have e := (h.cell ho).symm.trans hc
    rcases (h.own o ho).2 with ⟨hv, -⟩ | ⟨g, cap, cur, hv, -⟩
    · rw [hv] at e; cases e
    · rw [hv] at e; cases e
  · obtain ⟨cs, h1, h2⟩ := h.blk
    have h3 := h.sz cs _ h1
    have h4 : cs[o]? = none := Array.getElem?_eq_none (by omega)
    simp [World.cell?, h1, h4] at hc
theorem AtM.rows {w : World} {B ab n : Nat} {va : Nat → Value} {D : List Pe} (h : AtM w B ab n va D) {b : Nat} (hb : b < n) : RowsAt 4 cellsPe w (va b) (atP D b) := rowsAt_own (by decide) pe_len (h.own b hb)

end Go.Proofs.Ytolmkflhddlcnaa
