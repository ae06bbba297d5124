/-
  VLANs: the answers that the document gives (siphonlaw12.live). A contract over the translated program.
-/
import Derived.Test.YtgoibogpebbkaaaVlI
namespace Go.Proofs.Ytgoibogpebbkaaa
open Go.RowKit
set_option linter.unusedVariables false

def liveL : List Pt := [⟨10, [], [10]⟩, ⟨0, [10], []⟩]
def liveF : Fr := ⟨⟨#[97, 98, 99, 100, 101, 102]⟩, ⟨#[103, 104, 105, 106, 107, 108]⟩, false, 0, 0, 2048, ⟨#[]⟩⟩
def liveG : Fr := ⟨⟨#[97, 98, 99, 100, 101, 102]⟩, ⟨#[103, 104, 105, 106, 107, 108]⟩, true, 10, 0, 2048, ⟨#[]⟩⟩
theorem live_a1 : inI liveL 0 liveF = (liveG, 0) := by kernel_rfl
theorem live_a2 : outI liveL 1 liveG = (liveG, 0) := by kernel_rfl
theorem live_a3 : outI liveL 0 liveG = (liveF, 0) := by kernel_rfl
theorem live_a4 : inI liveL 1 liveF = (.zero, 6) := by kernel_rfl
theorem live_L : PtsL liveL := fun r hr => by
  unfold liveL at hr
  simp only [List.mem_cons, List.not_mem_nil, or_false] at hr
  rcases hr with rfl | rfl <;> simp

/-- A frame in a block. -/
def FBx (w : World) (a : Nat) (f : Fr) : Prop := w.heap[a]? = some (.cells #[.string f.d, .string f.s, .bool f.t, .int .i64 f.v, .int .i64 f.p, .int .i64 f.y, .string f.x] 33 (0, 0))
theorem FBx.below {w w' : World} {a : Nat} {f : Fr} (h : FBx w a f) (k : Below w.heap.size w w') : FBx w' a f := below_block k (lt_of_block h) h
theorem FBx.lt {w : World} {a : Nat} {f : Fr} (h : FBx w a f) : a < w.heap.size := lt_of_block h
theorem FBx.cell {w : World} {a : Nat} {f : Fr} (h : FBx w a f) : w.cell? ⟨a, 0, none⟩ = some (.string f.d) ∧ w.cell? ⟨a, 1, none⟩ = some (.string f.s) ∧ w.cell? ⟨a, 2, none⟩ = some (.bool f.t) ∧ w.cell? ⟨a, 3, none⟩ = some (.int .i64 f.v) ∧ w.cell? ⟨a, 4, none⟩ = some (.int .i64 f.p) ∧ w.cell? ⟨a, 5, none⟩ = some (.int .i64 f.y) ∧ w.cell? ⟨a, 6, none⟩ = some (.string f.x) :=
  ⟨cell_of_block h rfl, cell_of_block h rfl, cell_of_block h rfl, cell_of_block h rfl, cell_of_block h rfl, cell_of_block h rfl, cell_of_block h rfl⟩

def liveW (w : World) : World := (((w.alloc (.cells #[.int .i64 10] 3)).alloc (.cells #[.int .i64 10] 3)).alloc (.cells #[.int .i64 10, .slice none 0 0, .slice (some ⟨w.heap.size, 0, none⟩) 1 1, .int .i64 0, .slice (some ⟨w.heap.size + 1, 0, none⟩) 1 1, .slice none 0 0] 38)).alloc (.cells #[.string ⟨#[97, 98, 99, 100, 101, 102]⟩, .string ⟨#[103, 104, 105, 106, 107, 108]⟩, .bool false, .int .i64 0, .int .i64 0, .int .i64 2048, .string ⟨#[]⟩] 33)
theorem one_int (w : World) (b : Nat) (t : TypeId) (x : Int) (h : w.heap[b]? = some (.cells #[.int .i64 x] t (0, 0))) : IntsAt w (.slice (some ⟨b, 0, none⟩) 1 1) [x] :=
  ⟨_, 1, b, 0, rfl, fun _ => rfl, fun j y hj => by
    have hj0 : j = 0 := by
      rcases j with _ | j
      · rfl
      · simp at hj
    subst hj0
    have : x = y := by simpa using hj
    subst this
    exact cell_of_block h rfl⟩
theorem live_start (w : World) : PtsAt (liveW w) (.slice (some ⟨w.heap.size + 1 + 1, 0, none⟩) 2 2) liveL ∧ FBx (liveW w) (w.heap.size + 1 + 1 + 1) liveF ∧ Below w.heap.size w (liveW w) := by
  have b0 : (liveW w).heap[w.heap.size]? = some (.cells #[.int .i64 10] 3 (0, 0)) := heap_old (heap_old (heap_old (heap_new _ _)))
  have b1 : (liveW w).heap[w.heap.size + 1]? = some (.cells #[.int .i64 10] 3 (0, 0)) := by
    have h := heap_new (w.alloc (.cells #[.int .i64 10] 3)) (.cells #[.int .i64 10] 3)
    have e : (w.alloc (.cells #[.int .i64 10] 3)).heap.size = w.heap.size + 1 := by simp
    rw [e] at h
    exact heap_old (heap_old h)
  have b2 : (liveW w).heap[w.heap.size + 1 + 1]? = some (.cells #[.int .i64 10, .slice none 0 0, .slice (some ⟨w.heap.size, 0, none⟩) 1 1, .int .i64 0, .slice (some ⟨w.heap.size + 1, 0, none⟩) 1 1, .slice none 0 0] 38 (0, 0)) := by
    have h := heap_new ((w.alloc (.cells #[.int .i64 10] 3)).alloc (.cells #[.int .i64 10] 3)) (.cells #[.int .i64 10, .slice none 0 0, .slice (some ⟨w.heap.size, 0, none⟩) 1 1, .int .i64 0, .slice (some ⟨w.heap.size + 1, 0, none⟩) 1 1, .slice none 0 0] 38)
    have e : ((w.alloc (.cells #[.int .i64 10] 3)).alloc (.cells #[.int .i64 10] 3)).heap.size = w.heap.size + 1 + 1 := by simp
    rw [e] at h
    exact heap_old h
  have b3 : FBx (liveW w) (w.heap.size + 1 + 1 + 1) liveF := by
    have h := heap_new (((w.alloc (.cells #[.int .i64 10] 3)).alloc (.cells #[.int .i64 10] 3)).alloc (.cells #[.int .i64 10, .slice none 0 0, .slice (some ⟨w.heap.size, 0, none⟩) 1 1, .int .i64 0, .slice (some ⟨w.heap.size + 1, 0, none⟩) 1 1, .slice none 0 0] 38)) (.cells #[.string ⟨#[97, 98, 99, 100, 101, 102]⟩, .string ⟨#[103, 104, 105, 106, 107, 108]⟩, .bool false, .int .i64 0, .int .i64 0, .int .i64 2048, .string ⟨#[]⟩] 33)
    have e : (((w.alloc (.cells #[.int .i64 10] 3)).alloc (.cells #[.int .i64 10] 3)).alloc (.cells #[.int .i64 10, .slice none 0 0, .slice (some ⟨w.heap.size, 0, none⟩) 1 1, .int .i64 0, .slice (some ⟨w.heap.size + 1, 0, none⟩) 1 1, .slice none 0 0] 38)).heap.size = w.heap.size + 1 + 1 + 1 := by simp
    rw [e] at h
    exact h
  refine ⟨⟨_, 2, _, 0, rfl, fun _ => rfl, fun j r hj => ?_⟩, b3, ?_⟩
  · unfold liveL at hj
    rcases j with _ | _ | j
    · obtain rfl : (⟨10, [], [10]⟩ : Pt) = r := by simpa using hj
      exact ⟨cell_of_block b2 rfl, _, _, cell_of_block b2 rfl, cell_of_block b2 rfl, IntsAt.nil _, one_int _ _ _ _ b0⟩
    · obtain rfl : (⟨0, [10], []⟩ : Pt) = r := by simpa using hj
      exact ⟨cell_of_block b2 rfl, _, _, cell_of_block b2 rfl, cell_of_block b2 rfl, one_int _ _ _ _ b1, IntsAt.nil _⟩
    · simp at hj
  · exact ((((Below.refl _ w).alloc (Nat.le_refl _) _).alloc (by simp) _).alloc (by simp; omega) _).alloc (by simp; omega) _

theorem FrPost.eq {a : Fr × Int} {b : Fr × Int} (h : a = b) {w : World} {e : Ending} {w' : World} (k : FrPost a w e w') : e = .returned (.tuple #[b.1.val, .int .i64 b.2]) ∧ Below w.heap.size w w' := by subst h; exact k

set_option maxHeartbeats 4000000 in
set_option maxRecDepth 100000 in
theorem live12_c (w : World) : Calls Try.prog 9 #[] w fun e w' => e = .returned (.bool true) ∧ Below w.heap.size w w' := by
  obtain ⟨p1, f1, k1⟩ := live_start w
  have P := Lib.hid p1
  have F := Lib.hid f1
  have K := Lib.hid k1
  have H1 := Lib.hid fun (U : World) (h : PtsAt U (.slice (some ⟨w.heap.size + 1 + 1, 0, none⟩) 2 2) liveL) => (in_c _ 2 liveL 0 liveF U (by decide) live_L (by decide) h).mono fun e w' k => FrPost.eq live_a1 k
  have H2 := Lib.hid fun (U : World) (h : PtsAt U (.slice (some ⟨w.heap.size + 1 + 1, 0, none⟩) 2 2) liveL) => (out_c _ 2 liveL 1 liveG U (by decide) live_L (by decide) h).mono fun e w' k => FrPost.eq live_a2 k
  have H3 := Lib.hid fun (U : World) (h : PtsAt U (.slice (some ⟨w.heap.size + 1 + 1, 0, none⟩) 2 2) liveL) => (out_c _ 2 liveL 0 liveG U (by decide) live_L (by decide) h).mono fun e w' k => FrPost.eq live_a3 k
  have H4 := Lib.hid fun (U : World) (h : PtsAt U (.slice (some ⟨w.heap.size + 1 + 1, 0, none⟩) 2 2) liveL) => (in_c _ 2 liveL 1 liveF U (by decide) live_L (by decide) h).mono fun e w' k => FrPost.eq live_a4 k
  have H5 := Lib.hid fun (U : World) => chk_c (.slice none 0 0) [] U (by decide) (fun r hr => by simp at hr) (PtsAt.nil U)
  rw [show chkI [] = 3 from rfl] at H5
  rw [show liveL.length = 2 from rfl] at H1 H2 H3 H4
  simp only [Fr.val] at H1 H2 H3 H4
  clear p1 f1 k1
  have A0 := Lib.hid fun (U : World) o => (Below.refl U.heap.size U).alloc (Nat.le_refl _) o
  go_enter Try.func9, Try.ntmps9
  go_wp2_with fail
  refine (H1.out (liveW w) P.out).mono ?_
  rintro e w1 ⟨rfl, h1⟩
  replace P := Lib.hid (P.out.below h1)
  replace F := Lib.hid (F.out.below h1)
  replace K := Lib.hid (K.out.trans (h1.mono K.out.size))
  clear h1
  have hz := F.out.lt
  go_wp2_with fail
  refine (H2.out _ (P.out.below (A0.out _ _))).mono ?_
  rintro e w2 ⟨rfl, h2⟩
  replace P := Lib.hid ((P.out.below (A0.out _ _)).below h2)
  replace F := Lib.hid ((F.out.below (A0.out _ _)).below h2)
  have G : Hid (FBx w2 w1.heap.size liveG) := Lib.hid (FBx.below (f := liveG) (heap_new w1 _) h2)
  replace K := Lib.hid (K.out.trans (((A0.out w1 _).trans (h2.mono (A0.out w1 _).size)).mono K.out.size))
  clear h2 hz
  have hz := F.out.lt
  have hy := G.out.lt
  obtain ⟨g0, g1, g2, g3, g4, g5, g6⟩ := G.out.cell
  go_wp2_with fail
  refine (H3.out _ (P.out.below (A0.out _ _))).mono ?_
  rintro e w3 ⟨rfl, h3⟩
  replace P := Lib.hid ((P.out.below (A0.out _ _)).below h3)
  replace F := Lib.hid ((F.out.below (A0.out _ _)).below h3)
  replace G := Lib.hid ((G.out.below (A0.out _ _)).below h3)
  have I : Hid (FBx w3 w2.heap.size liveG) := Lib.hid (FBx.below (f := liveG) (heap_new w2 _) h3)
  replace K := Lib.hid (K.out.trans (((A0.out w2 _).trans (h3.mono (A0.out w2 _).size)).mono K.out.size))
  clear h3 hz hy g0 g1 g2 g3 g4 g5 g6
  have hz := F.out.lt
  obtain ⟨f0, f1, f2, f3, f4, f5, f6⟩ := F.out.cell
  go_wp2_with fail
  refine (H4.out _ (P.out.below (A0.out _ _))).mono ?_
  rintro e w4 ⟨rfl, h4⟩
  replace F := Lib.hid ((F.out.below (A0.out _ _)).below h4)
  replace G := Lib.hid ((G.out.below (A0.out _ _)).below h4)
  replace I := Lib.hid ((I.out.below (A0.out _ _)).below h4)
  have J : Hid (FBx w4 w3.heap.size liveF) := Lib.hid (FBx.below (f := liveF) (heap_new w3 _) h4)
  replace K := Lib.hid (K.out.trans (((A0.out w3 _).trans (h4.mono (A0.out w3 _).size)).mono K.out.size))
  clear h4 hz f0 f1 f2 f3 f4 f5 f6 P H1 H2 H3 H4
  have hz := F.out.lt
  have hy := G.out.lt
  have hx := I.out.lt
  have hv := J.out.lt
  obtain ⟨f0, f1, f2, f3, f4, f5, f6⟩ := F.out.cell
  obtain ⟨g0, g1, g2, g3, g4, g5, g6⟩ := G.out.cell
  obtain ⟨i0, i1, i2, i3, i4, i5, i6⟩ := I.out.cell
  obtain ⟨j0, j1, j2, j3, j4, j5, j6⟩ := J.out.cell
  simp only [liveF, liveG] at f0 f1 f2 f3 f4 f5 f6 g0 g1 g2 g3 g4 g5 g6 i0 i1 i2 i3 i4 i5 i6 j0 j1 j2 j3 j4 j5 j6
  go_wp2_with fail
  refine (H5.out _).mono ?_
  rintro e w5 ⟨rfl, h5⟩
  go_wp2_with fail
  go_ret
  exact ⟨rfl, K.out.trans (((A0.out w4 _).trans (h5.mono (A0.out w4 _).size)).mono K.out.size)⟩

end Go.Proofs.Ytgoibogpebbkaaa
