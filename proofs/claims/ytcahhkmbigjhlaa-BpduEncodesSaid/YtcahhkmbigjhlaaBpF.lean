/-
  The message of any bytes: bpdu.Decode, whole.
-/
import Derived.Test.YtcahhkmbigjhlaaBpC
namespace Go.Proofs.Ytcahhkmbigjhlaa
open Go.RowKit
set_option linter.unusedVariables false
set_option linter.unusedSimpArgs false

/-- The flags in their box, behind the text and the empty answer. -/
def DecT (w0 : World) (P Fb : Nat) (s : ByteArray) (f : Int) (w : World) : Prop := DecS w0 P s w ∧ w.heap[Fb]? = some (.cells #[.int .i64 f] 3 (0, 0))
theorem DecT.below {w0 w w' : World} {P Fb : Nat} {s : ByteArray} {f : Int} (h : DecT w0 P Fb s f w) (k : Below w.heap.size w w') : DecT w0 P Fb s f w' :=
  ⟨h.1.below k, below_block k (lt_of_block h.2) h.2⟩

set_option maxHeartbeats 4000000 in
set_option maxRecDepth 100000 in
theorem decB_ok (s : ByteArray) (w : World) (hs : s.size ≤ 140737488500000) (hz : 39 ≤ s.size) (hp : ((s.extract 0 7).toList == [66, 66, 3, 0, 0, 2, 2]) = true) (h1 : numv s 31 1 = 0) (h2 : numv s 38 1 = 0)
    (x7 x16 x28 x30 x8 x20 : Int) (h7 : x7 = numv s 7 1) (h16 : x16 = numv s 16 4) (h28 : x28 = numv s 28 2) (h30 : x30 = numv s 30 1) (h8 : x8 = widv s 8) (h20 : x20 = widv s 20)
    (z1 z2 z3 : Bool) (hz1 : z1 = (x7 % 2 == 1)) (hz2 : z2 = (x7 / 16 % 2 == 1)) (hz3 : z3 = (x7 / 32 % 2 == 1)) :
    Calls Try.prog 9 #[.string s] w fun e w' => e = .returned (.tuple #[.agg #[.int .u64 x8, .int .i64 x16, .int .u64 x20, .int .i64 x28, .int .i64 x30, .bool z1, .bool z2, .bool z3], .int .i64 0]) ∧ Below w.heap.size w w' := by
  have HP := Lib.hid fun U => pre_c s U hs (by omega)
  rw [hp] at HP
  have N1 := Lib.hid fun (A : Nat) (U : World) (g : U.cell? ⟨A, 0, none⟩ = some (.string s)) => bnum_c s 31 1 A U g hs (by omega) (by omega)
  rw [h1] at N1
  have N2 := Lib.hid fun (A : Nat) (U : World) (g : U.cell? ⟨A, 0, none⟩ = some (.string s)) => bnum_c s 38 1 A U g hs (by omega) (by omega)
  rw [h2] at N2
  have N7 := Lib.hid fun (A : Nat) (U : World) (g : U.cell? ⟨A, 0, none⟩ = some (.string s)) => bnum_c s 7 1 A U g hs (by omega) (by omega)
  rw [← h7] at N7
  have N16 := Lib.hid fun (A : Nat) (U : World) (g : U.cell? ⟨A, 0, none⟩ = some (.string s)) => bnum_c s 16 4 A U g hs (by omega) (by omega)
  rw [← h16] at N16
  have N28 := Lib.hid fun (A : Nat) (U : World) (g : U.cell? ⟨A, 0, none⟩ = some (.string s)) => bnum_c s 28 2 A U g hs (by omega) (by omega)
  rw [← h28] at N28
  have N30 := Lib.hid fun (A : Nat) (U : World) (g : U.cell? ⟨A, 0, none⟩ = some (.string s)) => bnum_c s 30 1 A U g hs (by omega) (by omega)
  rw [← h30] at N30
  have N8 := Lib.hid fun (A : Nat) (U : World) (g : U.cell? ⟨A, 0, none⟩ = some (.string s)) => bwide_c s 8 A U g hs (by omega) (by omega)
  rw [← h8] at N8
  have N20 := Lib.hid fun (A : Nat) (U : World) (g : U.cell? ⟨A, 0, none⟩ = some (.string s)) => bwide_c s 20 A U g hs (by omega) (by omega)
  rw [← h20] at N20
  have b7 := numv_le1 s 7
  rw [← h7] at b7
  have F1 := Lib.hid fun (A : Nat) (U : World) (g : U.cell? ⟨A, 0, none⟩ = some (.int .i64 x7)) => bhas_c x7 0 A U g b7.1 b7.2 (by omega)
  rw [show ((2 ^ 0 : Nat) : Int) = 1 from rfl, Int.ediv_one, ← hz1] at F1
  have F2 := Lib.hid fun (A : Nat) (U : World) (g : U.cell? ⟨A, 0, none⟩ = some (.int .i64 x7)) => bhas_c x7 4 A U g b7.1 b7.2 (by omega)
  rw [show ((2 ^ 4 : Nat) : Int) = 16 from rfl, ← hz2] at F2
  have F3 := Lib.hid fun (A : Nat) (U : World) (g : U.cell? ⟨A, 0, none⟩ = some (.int .i64 x7)) => bhas_c x7 5 A U g b7.1 b7.2 (by omega)
  rw [show ((2 ^ 5 : Nat) : Int) = 32 from rfl, ← hz3] at F3
  clear hp h1 h2 h7 h16 h28 h30 h8 h20 b7 hz1 hz2 hz3
  go_enter Try.func9, Try.ntmps9
  go_wp2_with fail
  refine (HP.out _).mono ?_
  rintro e w1 ⟨rfl, rfl⟩
  have D := DecS.fresh s w
  have HD := Lib.hid D
  obtain ⟨c0, d0, d1, d2, d3, d4, d5, d6, d7, df⟩ := D.cells
  clear D
  go_wp2_with fail
  refine (N1.out _ _ c0).mono ?_
  rintro e w2 ⟨rfl, k⟩
  have D := HD.out.below k
  clear HD c0 d0 d1 d2 d3 d4 d5 d6 d7 df k
  have HD := Lib.hid D
  obtain ⟨c0, d0, d1, d2, d3, d4, d5, d6, d7, df⟩ := D.cells
  clear D
  go_wp2_with fail
  refine (N2.out _ _ c0).mono ?_
  rintro e w3 ⟨rfl, k⟩
  have D := HD.out.below k
  clear HD c0 d0 d1 d2 d3 d4 d5 d6 d7 df k
  have HD := Lib.hid D
  obtain ⟨c0, d0, d1, d2, d3, d4, d5, d6, d7, df⟩ := D.cells
  clear D
  go_wp2_with fail
  refine (N7.out _ _ c0).mono ?_
  rintro e w4 ⟨rfl, k⟩
  have D := HD.out.below k
  clear HD c0 d0 d1 d2 d3 d4 d5 d6 d7 df k
  have HD := Lib.hid D
  obtain ⟨c0, d0, d1, d2, d3, d4, d5, d6, d7, df⟩ := D.cells
  clear D
  go_wp2_with fail
  have T : DecT w w.heap.size w4.heap.size s x7 (w4.alloc (.cells #[.int .i64 x7] 3)) :=
    ⟨HD.out.below ((Below.refl _ w4).alloc (Nat.le_refl _) _), heap_new _ _⟩
  clear HD c0 d0 d1 d2 d3 d4 d5 d6 d7 df
  generalize (w4.alloc (.cells #[.int .i64 x7] 3)) = W at T ⊢
  generalize w4.heap.size = Fb at T ⊢
  have HD := Lib.hid T
  obtain ⟨c0, d0, d1, d2, d3, d4, d5, d6, d7, df⟩ := T.1.cells
  have fb := cell_of_block (j := 0) T.2 rfl
  clear T
  go_wp2_with fail
  refine (N8.out _ _ c0).mono ?_
  rintro e w5 ⟨rfl, k⟩
  have T := HD.out.below k
  clear HD c0 d0 d1 d2 d3 d4 d5 d6 d7 df fb k
  have HD := Lib.hid T
  obtain ⟨c0, d0, d1, d2, d3, d4, d5, d6, d7, df⟩ := T.1.cells
  have fb := cell_of_block (j := 0) T.2 rfl
  clear T
  go_wp2_with fail
  refine (N16.out _ _ c0).mono ?_
  rintro e w5 ⟨rfl, k⟩
  have T := HD.out.below k
  clear HD c0 d0 d1 d2 d3 d4 d5 d6 d7 df fb k
  have HD := Lib.hid T
  obtain ⟨c0, d0, d1, d2, d3, d4, d5, d6, d7, df⟩ := T.1.cells
  have fb := cell_of_block (j := 0) T.2 rfl
  clear T
  go_wp2_with fail
  refine (N20.out _ _ c0).mono ?_
  rintro e w5 ⟨rfl, k⟩
  have T := HD.out.below k
  clear HD c0 d0 d1 d2 d3 d4 d5 d6 d7 df fb k
  have HD := Lib.hid T
  obtain ⟨c0, d0, d1, d2, d3, d4, d5, d6, d7, df⟩ := T.1.cells
  have fb := cell_of_block (j := 0) T.2 rfl
  clear T
  go_wp2_with fail
  refine (N28.out _ _ c0).mono ?_
  rintro e w5 ⟨rfl, k⟩
  have T := HD.out.below k
  clear HD c0 d0 d1 d2 d3 d4 d5 d6 d7 df fb k
  have HD := Lib.hid T
  obtain ⟨c0, d0, d1, d2, d3, d4, d5, d6, d7, df⟩ := T.1.cells
  have fb := cell_of_block (j := 0) T.2 rfl
  clear T
  go_wp2_with fail
  refine (N30.out _ _ c0).mono ?_
  rintro e w5 ⟨rfl, k⟩
  have T := HD.out.below k
  clear HD c0 d0 d1 d2 d3 d4 d5 d6 d7 df fb k
  have HD := Lib.hid T
  obtain ⟨c0, d0, d1, d2, d3, d4, d5, d6, d7, df⟩ := T.1.cells
  have fb := cell_of_block (j := 0) T.2 rfl
  clear T
  go_wp2_with fail
  refine (F1.out _ _ fb).mono ?_
  rintro e w5 ⟨rfl, rfl⟩
  go_wp2_with fail
  refine (F2.out _ _ fb).mono ?_
  rintro e w5 ⟨rfl, rfl⟩
  go_wp2_with fail
  refine (F3.out _ _ fb).mono ?_
  rintro e w5 ⟨rfl, rfl⟩
  go_wp2_with fail
  refine bodyPost_ret (v := .tuple #[.agg #[.int .u64 x8, .int .i64 x16, .int .u64 x20, .int .i64 x28, .int .i64 x30, .bool z1, .bool z2, .bool z3], .int .i64 0]) (by simp [results, Try.results9, go_sem, d0, d1, d2, d3, d4, d5, d6, d7]) rfl ⟨rfl, ?_⟩
  exact below_put8 HD.out.1.2.2 (by omega) _ _ _ _ _ _ _ _

theorem decB_c (s : ByteArray) (w : World) (hs : s.size ≤ 140737488500000) :
    Calls Try.prog 9 #[.string s] w fun e w' => e = .returned (.tuple #[(decB s).1.val, .int .i64 (decB s).2]) ∧ Below w.heap.size w w' := by
  unfold decB
  by_cases c1 : s.size < 39
  · rw [if_pos c1]
    exact decB_short s w hs c1
  · rw [if_neg c1]
    by_cases c2 : (s.extract 0 7).toList ≠ frontB ∨ numv s 31 1 ≠ 0 ∨ numv s 38 1 ≠ 0
    · rw [if_pos c2]
      by_cases e1 : (s.extract 0 7).toList = frontB
      · have t1 : ((s.extract 0 7).toList == [66, 66, 3, 0, 0, 2, 2]) = true := beq_iff_eq.2 e1
        by_cases e2 : numv s 31 1 = 0
        · exact decB_bad2 s w hs (by omega) t1 e2 (fun e3 => by rcases c2 with h | h | h; exact h e1; exact h e2; exact h e3)
        · exact decB_bad1 s w hs (by omega) t1 e2
      · exact decB_bad0 s w hs (by omega) (by rw [beq_eq_false_iff_ne]; exact e1)
    · rw [if_neg c2]
      have e1 : (s.extract 0 7).toList = frontB := Decidable.byContradiction fun h => c2 (.inl h)
      have e2 : numv s 31 1 = 0 := Decidable.byContradiction fun h => c2 (.inr (.inl h))
      have e3 : numv s 38 1 = 0 := Decidable.byContradiction fun h => c2 (.inr (.inr h))
      exact decB_ok s w hs (by omega) (beq_iff_eq.2 e1) e2 e3 _ _ _ _ _ _ rfl rfl rfl rfl rfl rfl _ _ _ rfl rfl rfl

end Go.Proofs.Ytcahhkmbigjhlaa
