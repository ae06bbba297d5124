/-
  Filters: the answers that the document gives (siphonlaw11.live). A contract over the translated program.
-/
import Derived.Test.YtkjkndpglbcgfaaFlH
namespace Go.Proofs.Ytkjkndpglbcgfaa
open Go.RowKit
set_option linter.unusedVariables false
set_option linter.unusedSimpArgs false

theorem live11_a : orF ⟨true, [⟨#[97]⟩, ⟨#[98]⟩]⟩ ⟨false, [⟨#[98]⟩]⟩ = ⟨true, [⟨#[97]⟩]⟩ := by kernel_rfl
theorem live11_b : ris [⟨#[97]⟩] = [⟨#[97]⟩] := by kernel_rfl
theorem live11_c0 : chkF ⟨false, [⟨#[98]⟩, ⟨#[97]⟩]⟩ = 3 := by kernel_rfl
theorem FPost.eq {a b : Fl} (h : a = b) {w : World} {e : Ending} {w' : World} (k : FPost a w e w') : ∃ v, e = .returned (.agg #[.bool b.ex, v]) ∧ AddrsG w.heap.size true w' v b.src ∧ Below w.heap.size w w' := by subst h; exact k
theorem DiPost.eq {a b : List Rec} (h : a = b) {w : World} {e : Ending} {w' : World} (k : DiPost a w e w') : ∃ v, e = .returned v ∧ RecsAt w' v b ∧ Below w.heap.size w w' := by subst h; exact k

set_option maxHeartbeats 4000000 in
set_option maxRecDepth 100000 in
theorem live11_c (w : World) : Calls Try.prog 10 #[] w fun e w' => e = .returned (.bool true) ∧ Below w.heap.size w w' := by
  have H1 := Lib.hid fun (U : World) (n m : Nat) (tn tm : TypeId) (h1 : U.heap[n]? = some (.cells #[.string ⟨#[97]⟩, .string ⟨#[98]⟩] tn (0, 0))) (h2 : U.heap[m]? = some (.cells #[.string ⟨#[98]⟩] tm (0, 0))) => (or_c true false _ _ _ _ U (by simp) (by simp) (lit2 h1) (lit1 h2)).mono fun e w' k => FPost.eq live11_a k
  have H2 := Lib.hid fun (U : World) (n : Nat) (tn : TypeId) (h1 : U.heap[n]? = some (.cells #[.string ⟨#[97]⟩] tn (0, 0))) => (diff1_c ⟨#[103]⟩ true (.slice none 0 0) _ [] _ U (by simp) (by simp) (AddrsG.nil _ _ _) (lit1 h1)).mono fun e w' k => DiPost.eq (b := [⟨4, ⟨#[103]⟩, [⟨#[97]⟩]⟩]) (by rw [live11_b]; rfl) k
  have H3 := Lib.hid fun (v : Value) (U : World) (n : Nat) (tn : TypeId) (h0 : AddrsAt U v [⟨#[97]⟩]) (h1 : U.heap[n]? = some (.cells #[.string ⟨#[97]⟩] tn (0, 0))) => samef_c true v _ _ U (by simp) h0 (lit1 h1)
  have H4 := Lib.hid fun (v : Value) (U : World) (m n : Nat) (tn : TypeId) (h0 : RecsAt U v [⟨4, ⟨#[103]⟩, [⟨#[97]⟩]⟩]) (h2 : U.heap[n]? = some (.cells #[.string ⟨#[97]⟩] tn (0, 0))) (h1 : U.heap[m]? = some (.cells #[.int .i64 4, .string ⟨#[103]⟩, .slice (some ⟨n, 0, none⟩) 1 1] 41 (0, 0))) => sameR_c v _ [⟨4, ⟨#[103]⟩, [⟨#[97]⟩]⟩] U (by simp) (by simp) h0 (rec1_at h1 (lit1 h2))
  have H5 := Lib.hid fun (U : World) (n : Nat) (tn : TypeId) (h1 : U.heap[n]? = some (.cells #[.string ⟨#[98]⟩, .string ⟨#[97]⟩] tn (0, 0))) => check_c false _ _ U (by simp) (lit2 h1)
  rw [live11_c0] at H5
  simp only [Bool.not_true, List.length_cons, List.length_nil] at H1 H2 H3 H4 H5
  have A0 := Lib.hid fun (U : World) o => boxed_below U o
  go_enter Try.func10, Try.ntmps10
  go_wp2_with fail
  refine (H1.out _ w.heap.size (w.heap.size + 1) _ _ (heap_old (heap_new _ _)) (hn _ _ (by simp) _)).mono ?_
  rintro e w1 ⟨v1, rfl, a1, h1⟩
  obtain ⟨p1, c1, rfl⟩ := a1.slice
  have K := Lib.hid (((A0.out w (.cells #[.string ⟨#[97]⟩, .string ⟨#[98]⟩] 25)).alloc (A0.out w (.cells #[.string ⟨#[97]⟩, .string ⟨#[98]⟩] 25)).size (.cells #[.string ⟨#[98]⟩] 25)).trans (h1.mono (by simp; omega)))
  have A1 := Lib.hid a1.at
  clear h1 a1
  go_wp2_with fail
  refine (H2.out _ (w1.heap.size + 1) _ (hn _ _ (by simp) _)).mono ?_
  rintro e w2 ⟨v2, rfl, r2, h2⟩
  obtain ⟨p2, c2, rfl⟩ := r2.slice
  have R2 := Lib.hid r2
  have X2 := Lib.hid (below_block h2 (b := w1.heap.size) (o := .cells #[.bool true, .slice p1 1 c1] 24) (by simp; omega) (heap_old (heap_new w1 (.cells #[.bool true, .slice p1 1 c1] 24))))
  have D12 := Lib.hid (show Below w1.heap.size w1 w2 from ((A0.out w1 (.cells #[.bool true, .slice p1 1 c1] 24)).alloc (A0.out w1 _).size (.cells #[.string ⟨#[97]⟩] 25)).trans (h2.mono (by simp; omega)))
  have A2 := Lib.hid (A1.out.below D12.out)
  have K2 := Lib.hid (K.out.trans (D12.out.mono K.out.size))
  have x0 := cell_of_block (j := 0) X2.out rfl
  have x1 := cell_of_block (j := 1) X2.out rfl
  have hz := lt_of_block X2.out
  clear r2 h2
  go_wp2_with fail
  refine (H3.out _ _ w2.heap.size _ (A2.out.below (A0.out w2 _)) (heap_new _ _)).mono ?_
  rintro e w3 ⟨rfl, h3⟩
  have D23 := Lib.hid (show Below w2.heap.size w2 w3 from (A0.out w2 (.cells #[.string ⟨#[97]⟩] 25)).trans (h3.mono (A0.out w2 _).size))
  have R3 := Lib.hid (R2.out.below D23.out)
  have K3 := Lib.hid (K2.out.trans (D23.out.mono K2.out.size))
  clear h3 x0 x1 hz
  go_wp2_with fail
  refine (H4.out _ _ (w3.heap.size + 1) w3.heap.size _ ((R3.out.below (A0.out w3 _)).below (A0.out _ _)) (heap_old (heap_new _ _)) (hn _ _ (by simp) _)).mono ?_
  rintro e w4 ⟨rfl, q, rfl⟩
  have K4 := Lib.hid (below_drewN ((K3.out.alloc K3.out.size (.cells #[.string ⟨#[97]⟩] 25)).alloc (K3.out.alloc K3.out.size (.cells #[.string ⟨#[97]⟩] 25)).size (.cells #[.int .i64 4, .string ⟨#[103]⟩, .slice (some ⟨w3.heap.size, 0, none⟩) 1 1] 41)) q)
  generalize World.drewN _ q = w4 at K4 ⊢
  go_wp2_with fail
  refine (H5.out _ w4.heap.size _ (heap_new _ _)).mono ?_
  rintro e w5 ⟨rfl, h5⟩
  go_wp2_with fail
  go_ret
  exact ⟨rfl, K4.out.trans (((A0.out w4 _).trans (h5.mono (A0.out w4 _).size)).mono K4.out.size)⟩

end Go.Proofs.Ytkjkndpglbcgfaa
