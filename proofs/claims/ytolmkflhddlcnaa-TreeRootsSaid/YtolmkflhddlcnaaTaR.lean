/-
  The laws' own functions of trees: told, few, live; the contracts of Check, Rest, Active in the laws' words.
-/
import Derived.Test.YtolmkflhddlcnaaTaL
import Derived.Deep.AppendLies
import Derived.Deep.RegionLaw
namespace Go.Proofs.Ytolmkflhddlcnaa
open Go.RowKit
set_option linter.unusedVariables false
set_option linter.unusedSimpArgs false

theorem guard_P : Try.prog.eqGuardType Try.prog.depth 38 = false := by kernel_rfl
theorem equalIn_Pd (n : Nat) (a b c d : Int) (w : World) : (Op.equalIn (n + 1 + 1) 38 (.agg #[.int .i64 a, .int .i64 b]) (.agg #[.int .i64 c, .int .i64 d])).run Try.prog w = .ok (a == c && b == d) w := by
  have hu := Try.underlying38
  have hi := Try.underlying3
  have hz := Try.sizeOf3
  have ha := Try.isAgg3
  have E := fun (x y : Int) (U : World) => run_equalIn_int (P := Try.prog) U n 3 .i64 .i64 x y hi
  rw [Op.equalIn]
  simp only [Sem.run_bind, run_underlying hu, Result.andThen_ok]
  simp only [Std.Legacy.Range.forIn_eq_forIn_range']
  simp [part, go_sem, hz, ha, Result.andThen, List.range', E]
  all_goals (rcases Bool.eq_false_or_eq_true (a == c) with h1 | h1 <;> rcases Bool.eq_false_or_eq_true (b == d) with h2 | h2 <;> simp_all [go_sem, Result.andThen])
theorem equalIn_P (a b c d : Int) (w : World) : (Op.equalIn 10000 38 (.agg #[.int .i64 a, .int .i64 b]) (.agg #[.int .i64 c, .int .i64 d])).run Try.prog w = .ok (a == c && b == d) w := equalIn_Pd 9998 a b c d w
theorem eql_P (a b c d : Int) (w : World) : (binOp .eql 38 (.agg #[.int .i64 a, .int .i64 b]) (.agg #[.int .i64 c, .int .i64 d])).run Try.prog w = .ok (.bool (a == c && b == d)) w := by
  rw [run_eql_struct, equalIn_P]; rfl
theorem neq_P (a b c d : Int) (w : World) : (binOp .neq 38 (.agg #[.int .i64 a, .int .i64 b]) (.agg #[.int .i64 c, .int .i64 d])).run Try.prog w = .ok (.bool (!(a == c && b == d))) w := by
  rw [run_neq_struct, equalIn_P]; rfl

section
variable {vi vl : Value} {ids : List Int} {L : List Lk} {w : World}
theorem chk_ok (hi : RowsAt 1 cellsU64 w vi ids) (hc : CapOk vi) (hL : RowsAt 5 cellsLk w vl L) (qi : ids.length ≤ 9223372036854775807) (ql : L.length ≤ 9223372036854775807) (h : MayT ids L) : Calls Try.prog 11 #[vi, vl] w fun e w' => e = .returned (.int .i64 0) ∧ Below w.heap.size w w' :=
  (chk_c vi vl ids L w hi hc hL qi ql).mono fun e w' ⟨k, b⟩ => ⟨by rcases k with k | k; exact k.2; exact absurd h k.1, b⟩
theorem chk_not (hi : RowsAt 1 cellsU64 w vi ids) (hc : CapOk vi) (hL : RowsAt 5 cellsLk w vl L) (qi : ids.length ≤ 9223372036854775807) (ql : L.length ≤ 9223372036854775807) (h : ¬ MayT ids L) : Calls Try.prog 11 #[vi, vl] w fun e w' => e = .returned (.int .i64 3) ∧ Below w.heap.size w w' :=
  (chk_c vi vl ids L w hi hc hL qi ql).mono fun e w' ⟨k, b⟩ => ⟨by rcases k with k | k; exact absurd k.1 h; exact k.2, b⟩
theorem rest_ok (hi : RowsAt 1 cellsU64 w vi ids) (hc : CapOk vi) (hL : RowsAt 5 cellsLk w vl L) (qi : ids.length ≤ 9223372036854775807) (ql : L.length ≤ 9223372036854775807) (h : MayT ids L) : Calls Try.prog 13 #[vi, vl] w fun e w' => ∃ u, e = .returned (.tuple #[u, .int .i64 0]) ∧ RowsAt 2 cellsPr w' u (restL ids L) ∧ Below w.heap.size w w' :=
  (rest_c vi vl ids L w hi hc hL qi ql).mono fun e w' ⟨k, b⟩ => by
    rcases k with ⟨-, u, h1, h2, -⟩ | k
    · exact ⟨u, h1, h2, b⟩
    · exact absurd h k.1
theorem rest_own (hi : RowsAt 1 cellsU64 w vi ids) (hc : CapOk vi) (hL : RowsAt 5 cellsLk w vl L) (qi : ids.length ≤ 9223372036854775807) (ql : L.length ≤ 9223372036854775807) (h : MayT ids L) : Calls Try.prog 13 #[vi, vl] w fun e w' => ∃ g c, e = .returned (.tuple #[.slice (some ⟨g, 0, none⟩) L.length c, .int .i64 0]) ∧ w.heap.size ≤ g ∧ RowsAt 2 cellsPr w' (.slice (some ⟨g, 0, none⟩) L.length c) (restL ids L) ∧ Below w.heap.size w w' :=
  (rest_c vi vl ids L w hi hc hL qi ql).mono fun e w' ⟨k, b⟩ => by
    rcases k with ⟨-, u, h1, h2, g, c, rfl, h3⟩ | k
    · exact ⟨g, c, h1, h3, h2, b⟩
    · exact absurd h k.1
theorem rest_not (hi : RowsAt 1 cellsU64 w vi ids) (hc : CapOk vi) (hL : RowsAt 5 cellsLk w vl L) (qi : ids.length ≤ 9223372036854775807) (ql : L.length ≤ 9223372036854775807) (h : ¬ MayT ids L) : Calls Try.prog 13 #[vi, vl] w fun e w' => e = .returned (.tuple #[.slice none 0 0, .int .i64 3]) ∧ Below w.heap.size w w' :=
  (rest_c vi vl ids L w hi hc hL qi ql).mono fun e w' ⟨k, b⟩ => ⟨by rcases k with k | k; exact absurd k.1 h; exact k.2, b⟩
theorem active_ok (hi : RowsAt 1 cellsU64 w vi ids) (hc : CapOk vi) (hL : RowsAt 5 cellsLk w vl L) (qi : ids.length ≤ 9223372036854775807) (ql : L.length ≤ 9223372036854775807) (h : MayT ids L) : Calls Try.prog 14 #[vi, vl] w fun e w' => ∃ u, e = .returned (.tuple #[u, .int .i64 0]) ∧ IntsAt w' u (actN (restL ids L) L.length) ∧ Below w.heap.size w w' :=
  (active_c vi vl ids L w hi hc hL qi ql).mono fun e w' ⟨k, b⟩ => by
    rcases k with ⟨-, u, h1, h2⟩ | k
    · exact ⟨u, h1, h2, b⟩
    · exact absurd h k.1
theorem active_not (hi : RowsAt 1 cellsU64 w vi ids) (hc : CapOk vi) (hL : RowsAt 5 cellsLk w vl L) (qi : ids.length ≤ 9223372036854775807) (ql : L.length ≤ 9223372036854775807) (h : ¬ MayT ids L) : Calls Try.prog 14 #[vi, vl] w fun e w' => e = .returned (.tuple #[.slice none 0 0, .int .i64 3]) ∧ Below w.heap.size w w' :=
  (active_c vi vl ids L w hi hc hL qi ql).mono fun e w' ⟨k, b⟩ => ⟨by rcases k with k | k; exact absurd k.1 h; exact k.2, b⟩
theorem rchk_ok (hi : RowsAt 1 cellsU64 w vi ids) (hL : RowsAt 5 cellsLk w vl L) (qi : ids.length ≤ 9223372036854775807) (ql : L.length ≤ 9223372036854775807) (h : MayT ids L) : Calls Try.prog 10 #[vi, vl] w fun e w' => e = .returned (.int .i64 0) ∧ Below w.heap.size w w' :=
  (rchk_c vi vl ids L w hi hL qi ql).mono fun e w' ⟨k, b⟩ => ⟨by rcases k with k | k; exact k.2; exact absurd h k.1, b⟩
theorem rchk_not (hi : RowsAt 1 cellsU64 w vi ids) (hL : RowsAt 5 cellsLk w vl L) (qi : ids.length ≤ 9223372036854775807) (ql : L.length ≤ 9223372036854775807) (h : ¬ MayT ids L) : Calls Try.prog 10 #[vi, vl] w fun e w' => e = .returned (.int .i64 3) ∧ Below w.heap.size w w' :=
  (rchk_c vi vl ids L w hi hL qi ql).mono fun e w' ⟨k, b⟩ => ⟨by rcases k with k | k; exact absurd k.1 h; exact k.2, b⟩
end

set_option maxHeartbeats 2000000 in
set_option maxRecDepth 100000 in
theorem few_yes (vi vl : Option Addr) (n m ci cl : Nat) (w : World) (h1 : n ≤ 12) (h2 : m ≤ 30) : Calls Try.prog 15 #[.slice vi n ci, .slice vl m cl] w fun e w' => e = .returned (.bool true) ∧ w = w' := by
  have a1 : (n : Int) ≤ 12 := by omega
  have a2 : (m : Int) ≤ 30 := by omega
  have b1 : decide ((n : Int) ≤ 12) = true := decide_eq_true a1
  have b2 : decide ((m : Int) ≤ 30) = true := decide_eq_true a2
  go_enter Try.func15, Try.ntmps15
  go_wp2
  go_ret
  exact ⟨rfl, rfl⟩
set_option maxHeartbeats 2000000 in
set_option maxRecDepth 100000 in
theorem few_no (vi vl : Option Addr) (n m ci cl : Nat) (w : World) (h : ¬ (n ≤ 12 ∧ m ≤ 30)) : Calls Try.prog 15 #[.slice vi n ci, .slice vl m cl] w fun e w' => e = .returned (.bool false) ∧ w = w' := by
  by_cases h1 : n ≤ 12
  · have a1 : (n : Int) ≤ 12 := by omega
    have a2 : ¬ ((m : Int) ≤ 30) := by omega
    have b1 : decide ((n : Int) ≤ 12) = true := decide_eq_true a1
    have b2 : decide ((m : Int) ≤ 30) = false := decide_eq_false a2
    clear h h1
    go_enter Try.func15, Try.ntmps15
    go_wp2
    go_ret
    exact ⟨rfl, rfl⟩
  · have a1 : ¬ ((n : Int) ≤ 12) := by omega
    have b1 : decide ((n : Int) ≤ 12) = false := decide_eq_false a1
    clear h h1
    go_enter Try.func15, Try.ntmps15
    go_wp2
    go_ret
    exact ⟨rfl, rfl⟩

theorem info_Lt : (Try.prog.info? 45).map (fun i => (i.zero, i.size, i.bytes)) = some (some (.agg #[.int .i64 0, .int .i64 0, .int .i64 0, .int .i64 0, .int .i64 0]), 5, 40) := by kernel_rfl
theorem lk_take {L : List Lk} {k : Nat} {l : Lk} (h : L[k]? = some l) : (L.take (k + 1)).flatMap cellsLk = (L.take k).flatMap cellsLk ++ cellsLk l := by
  rw [List.take_succ_eq_append_getElem (List.getElem?_eq_some_iff.1 h).1, (List.getElem?_eq_some_iff.1 h).2, List.flatMap_append]
  simp

set_option maxHeartbeats 8000000 in
set_option maxRecDepth 100000 in
theorem ltold_c (v : Value) (L : List Lk) (w : World) (hl : L.length ≤ 1000000) (h : RowsAt 5 cellsLk w v L) : Calls Try.prog 12 #[v] w fun e w' => ∃ u, e = .returned u ∧ RowsAt 5 cellsLk w' u L ∧ Below w.heap.size w w' := by
  obtain ⟨pl, capl, bl, offl, rfl, hpl, hcl⟩ := h
  have HPL := Lib.hid hpl
  have HCL := Lib.hid hcl
  obtain ⟨i0, hi0, hz0, hz1, hz2⟩ := info_parts info_Lt
  obtain ⟨n, hn⟩ : ∃ n, n = L.length := ⟨_, rfl⟩
  have HNN := Lib.hid hn
  rw [← hn] at hl
  rw [← hn]
  clear hpl hcl hn
  go_enter Try.func12, Try.ntmps12
  go_wp2_with fail
  go_loopw [3, 4] (fun s3 i wr => ∃ k : Nat, k ≤ n ∧ i = .int .i64 k ∧ Hid (wr.ownsRow w.heap.size 45 5 s3 k ((L.take k).flatMap cellsLk)) ∧ Hid (Below w.heap.size w wr)) (fun _ i _ => n - (intOf i).toNat)
  case atStart => exact ⟨0, Nat.zero_le _, rfl, Lib.hid (World.ownsRow_nil _ _ _ _), Lib.hid (Below.refl _ _)⟩
  case round =>
    obtain ⟨k, hk, rfl, HO, KB⟩ := hrel
    by_cases hlt : k < n
    · obtain ⟨l, hx⟩ : ∃ l, L[k]? = some l := ⟨_, List.getElem?_eq_getElem (by rw [← HNN.out]; exact hlt)⟩
      have hne : L ≠ [] := by rintro rfl; simp at hx
      obtain rfl := HPL.out hne
      have HTK := Lib.hid (lk_take hx)
      obtain ⟨l0, l1, l2, l3, l4⟩ := l
      have HCX := Lib.hid fun (U : World) (kz : Below w.heap.size w U) => (⟨gcell_below kz (HCL.out k _ hx 0 _ rfl), gcell_below kz (HCL.out k _ hx 1 _ rfl), gcell_below kz (HCL.out k _ hx 2 _ rfl), gcell_below kz (HCL.out k _ hx 3 _ rfl), gcell_below kz (HCL.out k _ hx 4 _ rfl)⟩ : U.cell? ⟨bl, offl + k * 5, none⟩ = some (.int .i64 l0) ∧ U.cell? ⟨bl, offl + k * 5 + 1, none⟩ = some (.int .i64 l1) ∧ U.cell? ⟨bl, offl + k * 5 + 2, none⟩ = some (.int .i64 l2) ∧ U.cell? ⟨bl, offl + k * 5 + 3, none⟩ = some (.int .i64 l3) ∧ U.cell? ⟨bl, offl + k * 5 + 4, none⟩ = some (.int .i64 l4))
      have d1 : decide (k < n) = true := decide_eq_true hlt
      have d2 : decide ((k : Int) < (n : Int)) = true := decide_eq_true (by omega)
      have d3 : decide (n ≤ k) = false := decide_eq_false (by omega)
      have d4 : decide (0 ≤ (k : Int)) = true := decide_eq_true (by omega)
      clear hx hne
      go_upto_region 5 with fail
      obtain ⟨c0, c1, c2, c3, c4⟩ := HCX.out _ KB.out
      have KF := Lib.hid fun (U : World) (kz : Below wr.heap.size wr U) => (⟨gcell_below kz c0, gcell_below kz c1, gcell_below kz c2, gcell_below kz c3, gcell_below kz c4⟩ : U.cell? ⟨bl, offl + k * 5, none⟩ = some (.int .i64 l0) ∧ U.cell? ⟨bl, offl + k * 5 + 1, none⟩ = some (.int .i64 l1) ∧ U.cell? ⟨bl, offl + k * 5 + 2, none⟩ = some (.int .i64 l2) ∧ U.cell? ⟨bl, offl + k * 5 + 3, none⟩ = some (.int .i64 l3) ∧ U.cell? ⟨bl, offl + k * 5 + 4, none⟩ = some (.int .i64 l4))
      have k0 := (Below.refl wr.heap.size wr).drew
      have OA := Lib.hid (show ((wr.alloc (.cells #[.int .i64 l0, .int .i64 l1, .int .i64 l2, .int .i64 l3, .int .i64 l4] 45)).drew).ownsRow w.heap.size 45 5 u3 k ((L.take k).flatMap cellsLk) from HO.out.alloc _)
      have CA := Lib.hid (show ∀ j u, ([.int .i64 l0, .int .i64 l1, .int .i64 l2, .int .i64 l3, .int .i64 l4] : List Value)[j]? = some u → ((wr.alloc (.cells #[.int .i64 l0, .int .i64 l1, .int .i64 l2, .int .i64 l3, .int .i64 l4] 45)).drew).cell? ((⟨wr.heap.size, 0, none⟩ : Addr).add j) = some u from cells_new wr [.int .i64 l0, .int .i64 l1, .int .i64 l2, .int .i64 l3, .int .i64 l4] 45)
      have ka := Lib.hid (show Below wr.heap.size wr ((wr.alloc (.cells #[.int .i64 l0, .int .i64 l1, .int .i64 l2, .int .i64 l3, .int .i64 l4] 45)).drew) from ((Below.refl _ wr).alloc (Nat.le_refl _) _).drew)
      have hsz := Lib.hid (show w.heap.size ≤ ((wr.alloc (.cells #[.int .i64 l0, .int .i64 l1, .int .i64 l2, .int .i64 l3, .int .i64 l4] 45)).drew).heap.size by have h1 := KB.out.size; have h2 := ka.out.size; omega)
      have n11 := Lib.hid (show k + 1 ≤ maxLen by unfold maxLen; omega)
      have n22 := Lib.hid (show (k + 1) * 40 ≤ 140737488355328 by omega)
      have oc := Lib.hid (show ∀ u ∈ ([.int .i64 l0, .int .i64 l1, .int .i64 l2, .int .i64 l3, .int .i64 l4] : List Value), u.oneCell' = true from fun u hu => by simp at hu; rcases hu with rfl | rfl | rfl | rfl | rfl <;> rfl)
      have KA := Lib.hid (KB.out.trans (ka.out.mono KB.out.size))
      refine wp_region_held_drew (S := fun U => U.cell? ⟨bl, offl + k * 5, none⟩ = some (.int .i64 l0) ∧ U.cell? ⟨bl, offl + k * 5 + 1, none⟩ = some (.int .i64 l1) ∧ U.cell? ⟨bl, offl + k * 5 + 2, none⟩ = some (.int .i64 l2) ∧ U.cell? ⟨bl, offl + k * 5 + 3, none⟩ = some (.int .i64 l3) ∧ U.cell? ⟨bl, offl + k * 5 + 4, none⟩ = some (.int .i64 l4)) (by kernel_rfl) (KF.out _ k0) (fun hH => ?_)
      refine wpAnyH_take (i := 0) (oi := { dst := some 11, op := Op.move (Operand.tmp 3), type := 28, pos := "law.go:24", after := #[], guard := none }) (v := u3) rfl (by kernel_rfl) (by kernel_rfl) (by kernel_rfl) (fun _ _ _ h => h) (Or.inl ⟨by kernel_rfl, ?_⟩) hH ?_
      · intro w hSw; (try dsimp only at hSw); go_simp; (try rfl)
      try simp only [Act.put, List.setIfInBounds_toArray, List.set_cons_zero, List.set_cons_succ]
      refine wpAnyH_take (i := 1) (oi := { dst := some 12, op := Op.move (Operand.tmp 0), type := 23, pos := "law.go:24", after := #[], guard := none }) (v := .slice (some ⟨bl, offl, none⟩) n capl) rfl (by kernel_rfl) (by kernel_rfl) (by kernel_rfl) (fun _ _ _ h => h) (Or.inl ⟨by kernel_rfl, ?_⟩) hH ?_
      · intro w hSw; (try dsimp only at hSw); go_simp; (try rfl)
      try simp only [Act.put, List.setIfInBounds_toArray, List.set_cons_zero, List.set_cons_succ]
      refine wpAnyH_take (i := 2) (oi := { dst := some 13, op := Op.move (Operand.tmp 4), type := 3, pos := "law.go:24", after := #[], guard := none }) (v := .int .i64 (k : Int)) rfl (by kernel_rfl) (by kernel_rfl) (by kernel_rfl) (fun _ _ _ h => h) (Or.inl ⟨by kernel_rfl, ?_⟩) hH ?_
      · intro w hSw; (try dsimp only at hSw); go_simp; (try rfl)
      try simp only [Act.put, List.setIfInBounds_toArray, List.set_cons_zero, List.set_cons_succ]
      refine wpAnyH_take (i := 3) (oi := { dst := some 14, op := Op.indexAddr 23 (Operand.tmp 12) (Operand.tmp 13), type := 0, pos := "law.go:24", after := #[{ on := 1, ground := Ground.data }, { on := 2, ground := Ground.data }], guard := none }) (v := .pointer (some ⟨bl, offl + k * 5, none⟩)) rfl (by kernel_rfl) (by kernel_rfl) (by kernel_rfl) (fun _ _ _ h => h) (Or.inl ⟨by kernel_rfl, ?_⟩) hH ?_
      · intro w hSw; (try dsimp only at hSw); go_simp; (try rfl)
      try simp only [Act.put, List.setIfInBounds_toArray, List.set_cons_zero, List.set_cons_succ]
      refine wpAnyH_take (i := 4) (oi := { dst := some 15, op := Op.fieldAddr 42 (Operand.tmp 14) 0, type := 0, pos := "law.go:24", after := #[{ on := 3, ground := Ground.data }], guard := none }) (v := .pointer (some ⟨bl, offl + k * 5, none⟩)) rfl (by kernel_rfl) (by kernel_rfl) (by kernel_rfl) (fun _ _ _ h => h) (Or.inl ⟨by kernel_rfl, ?_⟩) hH ?_
      · intro w hSw; (try dsimp only at hSw); go_simp; (try rfl)
      try simp only [Act.put, List.setIfInBounds_toArray, List.set_cons_zero, List.set_cons_succ]
      refine wpAnyH_take (i := 5) (oi := { dst := some 16, op := Op.load 3 (Operand.tmp 15), type := 3, pos := "law.go:24", after := #[{ on := 4, ground := Ground.data }], guard := none }) (v := .int .i64 l0) rfl (by kernel_rfl) (by kernel_rfl) (by kernel_rfl) (fun _ _ _ h => h) (Or.inl ⟨by kernel_rfl, ?_⟩) hH ?_
      · intro w hSw; (try dsimp only at hSw); go_simp; (try rfl)
      try simp only [Act.put, List.setIfInBounds_toArray, List.set_cons_zero, List.set_cons_succ]
      refine wpAnyH_take (i := 6) (oi := { dst := some 17, op := Op.move (Operand.tmp 0), type := 23, pos := "law.go:24", after := #[], guard := none }) (v := .slice (some ⟨bl, offl, none⟩) n capl) rfl (by kernel_rfl) (by kernel_rfl) (by kernel_rfl) (fun _ _ _ h => h) (Or.inl ⟨by kernel_rfl, ?_⟩) hH ?_
      · intro w hSw; (try dsimp only at hSw); go_simp; (try rfl)
      try simp only [Act.put, List.setIfInBounds_toArray, List.set_cons_zero, List.set_cons_succ]
      refine wpAnyH_take (i := 7) (oi := { dst := some 18, op := Op.move (Operand.tmp 4), type := 3, pos := "law.go:24", after := #[], guard := none }) (v := .int .i64 (k : Int)) rfl (by kernel_rfl) (by kernel_rfl) (by kernel_rfl) (fun _ _ _ h => h) (Or.inl ⟨by kernel_rfl, ?_⟩) hH ?_
      · intro w hSw; (try dsimp only at hSw); go_simp; (try rfl)
      try simp only [Act.put, List.setIfInBounds_toArray, List.set_cons_zero, List.set_cons_succ]
      refine wpAnyH_take (i := 8) (oi := { dst := some 19, op := Op.indexAddr 23 (Operand.tmp 17) (Operand.tmp 18), type := 0, pos := "law.go:24", after := #[{ on := 6, ground := Ground.data }, { on := 7, ground := Ground.data }], guard := none }) (v := .pointer (some ⟨bl, offl + k * 5, none⟩)) rfl (by kernel_rfl) (by kernel_rfl) (by kernel_rfl) (fun _ _ _ h => h) (Or.inl ⟨by kernel_rfl, ?_⟩) hH ?_
      · intro w hSw; (try dsimp only at hSw); go_simp; (try rfl)
      try simp only [Act.put, List.setIfInBounds_toArray, List.set_cons_zero, List.set_cons_succ]
      refine wpAnyH_take (i := 9) (oi := { dst := some 20, op := Op.fieldAddr 42 (Operand.tmp 19) 1, type := 0, pos := "law.go:24", after := #[{ on := 8, ground := Ground.data }], guard := none }) (v := .pointer (some ⟨bl, offl + k * 5 + 1, none⟩)) rfl (by kernel_rfl) (by kernel_rfl) (by kernel_rfl) (fun _ _ _ h => h) (Or.inl ⟨by kernel_rfl, ?_⟩) hH ?_
      · intro w hSw; (try dsimp only at hSw); go_simp; (try rfl)
      try simp only [Act.put, List.setIfInBounds_toArray, List.set_cons_zero, List.set_cons_succ]
      refine wpAnyH_take (i := 10) (oi := { dst := some 21, op := Op.load 3 (Operand.tmp 20), type := 3, pos := "law.go:24", after := #[{ on := 9, ground := Ground.data }], guard := none }) (v := .int .i64 l1) rfl (by kernel_rfl) (by kernel_rfl) (by kernel_rfl) (fun _ _ _ h => h) (Or.inl ⟨by kernel_rfl, ?_⟩) hH ?_
      · intro w hSw; (try dsimp only at hSw); go_simp; (try rfl)
      try simp only [Act.put, List.setIfInBounds_toArray, List.set_cons_zero, List.set_cons_succ]
      refine wpAnyH_take (i := 11) (oi := { dst := some 22, op := Op.move (Operand.tmp 0), type := 23, pos := "law.go:24", after := #[], guard := none }) (v := .slice (some ⟨bl, offl, none⟩) n capl) rfl (by kernel_rfl) (by kernel_rfl) (by kernel_rfl) (fun _ _ _ h => h) (Or.inl ⟨by kernel_rfl, ?_⟩) hH ?_
      · intro w hSw; (try dsimp only at hSw); go_simp; (try rfl)
      try simp only [Act.put, List.setIfInBounds_toArray, List.set_cons_zero, List.set_cons_succ]
      refine wpAnyH_take (i := 12) (oi := { dst := some 23, op := Op.move (Operand.tmp 4), type := 3, pos := "law.go:24", after := #[], guard := none }) (v := .int .i64 (k : Int)) rfl (by kernel_rfl) (by kernel_rfl) (by kernel_rfl) (fun _ _ _ h => h) (Or.inl ⟨by kernel_rfl, ?_⟩) hH ?_
      · intro w hSw; (try dsimp only at hSw); go_simp; (try rfl)
      try simp only [Act.put, List.setIfInBounds_toArray, List.set_cons_zero, List.set_cons_succ]
      refine wpAnyH_take (i := 13) (oi := { dst := some 24, op := Op.indexAddr 23 (Operand.tmp 22) (Operand.tmp 23), type := 0, pos := "law.go:24", after := #[{ on := 11, ground := Ground.data }, { on := 12, ground := Ground.data }], guard := none }) (v := .pointer (some ⟨bl, offl + k * 5, none⟩)) rfl (by kernel_rfl) (by kernel_rfl) (by kernel_rfl) (fun _ _ _ h => h) (Or.inl ⟨by kernel_rfl, ?_⟩) hH ?_
      · intro w hSw; (try dsimp only at hSw); go_simp; (try rfl)
      try simp only [Act.put, List.setIfInBounds_toArray, List.set_cons_zero, List.set_cons_succ]
      refine wpAnyH_take (i := 14) (oi := { dst := some 25, op := Op.fieldAddr 42 (Operand.tmp 24) 2, type := 0, pos := "law.go:24", after := #[{ on := 13, ground := Ground.data }], guard := none }) (v := .pointer (some ⟨bl, offl + k * 5 + 2, none⟩)) rfl (by kernel_rfl) (by kernel_rfl) (by kernel_rfl) (fun _ _ _ h => h) (Or.inl ⟨by kernel_rfl, ?_⟩) hH ?_
      · intro w hSw; (try dsimp only at hSw); go_simp; (try rfl)
      try simp only [Act.put, List.setIfInBounds_toArray, List.set_cons_zero, List.set_cons_succ]
      refine wpAnyH_take (i := 15) (oi := { dst := some 26, op := Op.load 3 (Operand.tmp 25), type := 3, pos := "law.go:24", after := #[{ on := 14, ground := Ground.data }], guard := none }) (v := .int .i64 l2) rfl (by kernel_rfl) (by kernel_rfl) (by kernel_rfl) (fun _ _ _ h => h) (Or.inl ⟨by kernel_rfl, ?_⟩) hH ?_
      · intro w hSw; (try dsimp only at hSw); go_simp; (try rfl)
      try simp only [Act.put, List.setIfInBounds_toArray, List.set_cons_zero, List.set_cons_succ]
      refine wpAnyH_take (i := 16) (oi := { dst := some 27, op := Op.move (Operand.tmp 0), type := 23, pos := "law.go:24", after := #[], guard := none }) (v := .slice (some ⟨bl, offl, none⟩) n capl) rfl (by kernel_rfl) (by kernel_rfl) (by kernel_rfl) (fun _ _ _ h => h) (Or.inl ⟨by kernel_rfl, ?_⟩) hH ?_
      · intro w hSw; (try dsimp only at hSw); go_simp; (try rfl)
      try simp only [Act.put, List.setIfInBounds_toArray, List.set_cons_zero, List.set_cons_succ]
      refine wpAnyH_take (i := 17) (oi := { dst := some 28, op := Op.move (Operand.tmp 4), type := 3, pos := "law.go:24", after := #[], guard := none }) (v := .int .i64 (k : Int)) rfl (by kernel_rfl) (by kernel_rfl) (by kernel_rfl) (fun _ _ _ h => h) (Or.inl ⟨by kernel_rfl, ?_⟩) hH ?_
      · intro w hSw; (try dsimp only at hSw); go_simp; (try rfl)
      try simp only [Act.put, List.setIfInBounds_toArray, List.set_cons_zero, List.set_cons_succ]
      refine wpAnyH_take (i := 18) (oi := { dst := some 29, op := Op.indexAddr 23 (Operand.tmp 27) (Operand.tmp 28), type := 0, pos := "law.go:24", after := #[{ on := 16, ground := Ground.data }, { on := 17, ground := Ground.data }], guard := none }) (v := .pointer (some ⟨bl, offl + k * 5, none⟩)) rfl (by kernel_rfl) (by kernel_rfl) (by kernel_rfl) (fun _ _ _ h => h) (Or.inl ⟨by kernel_rfl, ?_⟩) hH ?_
      · intro w hSw; (try dsimp only at hSw); go_simp; (try rfl)
      try simp only [Act.put, List.setIfInBounds_toArray, List.set_cons_zero, List.set_cons_succ]
      refine wpAnyH_take (i := 19) (oi := { dst := some 30, op := Op.fieldAddr 42 (Operand.tmp 29) 3, type := 0, pos := "law.go:24", after := #[{ on := 18, ground := Ground.data }], guard := none }) (v := .pointer (some ⟨bl, offl + k * 5 + 3, none⟩)) rfl (by kernel_rfl) (by kernel_rfl) (by kernel_rfl) (fun _ _ _ h => h) (Or.inl ⟨by kernel_rfl, ?_⟩) hH ?_
      · intro w hSw; (try dsimp only at hSw); go_simp; (try rfl)
      try simp only [Act.put, List.setIfInBounds_toArray, List.set_cons_zero, List.set_cons_succ]
      refine wpAnyH_take (i := 20) (oi := { dst := some 31, op := Op.load 3 (Operand.tmp 30), type := 3, pos := "law.go:24", after := #[{ on := 19, ground := Ground.data }], guard := none }) (v := .int .i64 l3) rfl (by kernel_rfl) (by kernel_rfl) (by kernel_rfl) (fun _ _ _ h => h) (Or.inl ⟨by kernel_rfl, ?_⟩) hH ?_
      · intro w hSw; (try dsimp only at hSw); go_simp; (try rfl)
      try simp only [Act.put, List.setIfInBounds_toArray, List.set_cons_zero, List.set_cons_succ]
      refine wpAnyH_take (i := 21) (oi := { dst := some 32, op := Op.move (Operand.tmp 0), type := 23, pos := "law.go:24", after := #[], guard := none }) (v := .slice (some ⟨bl, offl, none⟩) n capl) rfl (by kernel_rfl) (by kernel_rfl) (by kernel_rfl) (fun _ _ _ h => h) (Or.inl ⟨by kernel_rfl, ?_⟩) hH ?_
      · intro w hSw; (try dsimp only at hSw); go_simp; (try rfl)
      try simp only [Act.put, List.setIfInBounds_toArray, List.set_cons_zero, List.set_cons_succ]
      refine wpAnyH_take (i := 22) (oi := { dst := some 33, op := Op.move (Operand.tmp 4), type := 3, pos := "law.go:24", after := #[], guard := none }) (v := .int .i64 (k : Int)) rfl (by kernel_rfl) (by kernel_rfl) (by kernel_rfl) (fun _ _ _ h => h) (Or.inl ⟨by kernel_rfl, ?_⟩) hH ?_
      · intro w hSw; (try dsimp only at hSw); go_simp; (try rfl)
      try simp only [Act.put, List.setIfInBounds_toArray, List.set_cons_zero, List.set_cons_succ]
      refine wpAnyH_take (i := 23) (oi := { dst := some 34, op := Op.indexAddr 23 (Operand.tmp 32) (Operand.tmp 33), type := 0, pos := "law.go:24", after := #[{ on := 21, ground := Ground.data }, { on := 22, ground := Ground.data }], guard := none }) (v := .pointer (some ⟨bl, offl + k * 5, none⟩)) rfl (by kernel_rfl) (by kernel_rfl) (by kernel_rfl) (fun _ _ _ h => h) (Or.inl ⟨by kernel_rfl, ?_⟩) hH ?_
      · intro w hSw; (try dsimp only at hSw); go_simp; (try rfl)
      try simp only [Act.put, List.setIfInBounds_toArray, List.set_cons_zero, List.set_cons_succ]
      refine wpAnyH_take (i := 24) (oi := { dst := some 35, op := Op.fieldAddr 42 (Operand.tmp 34) 4, type := 0, pos := "law.go:24", after := #[{ on := 23, ground := Ground.data }], guard := none }) (v := .pointer (some ⟨bl, offl + k * 5 + 4, none⟩)) rfl (by kernel_rfl) (by kernel_rfl) (by kernel_rfl) (fun _ _ _ h => h) (Or.inl ⟨by kernel_rfl, ?_⟩) hH ?_
      · intro w hSw; (try dsimp only at hSw); go_simp; (try rfl)
      try simp only [Act.put, List.setIfInBounds_toArray, List.set_cons_zero, List.set_cons_succ]
      refine wpAnyH_take (i := 25) (oi := { dst := some 36, op := Op.load 3 (Operand.tmp 35), type := 3, pos := "law.go:24", after := #[{ on := 24, ground := Ground.data }], guard := none }) (v := .int .i64 l4) rfl (by kernel_rfl) (by kernel_rfl) (by kernel_rfl) (fun _ _ _ h => h) (Or.inl ⟨by kernel_rfl, ?_⟩) hH ?_
      · intro w hSw; (try dsimp only at hSw); go_simp; (try rfl)
      try simp only [Act.put, List.setIfInBounds_toArray, List.set_cons_zero, List.set_cons_succ]
      refine wpAnyH_take (i := 26) (oi := { dst := some 37, op := Op.build 45 #[(0, Operand.tmp 16), (1, Operand.tmp 21), (2, Operand.tmp 26), (3, Operand.tmp 31), (4, Operand.tmp 36)], type := 45, pos := "law.go:24", after := #[{ on := 5, ground := Ground.data }, { on := 10, ground := Ground.data }, { on := 15, ground := Ground.data }, { on := 20, ground := Ground.data }, { on := 25, ground := Ground.data }], guard := none }) (v := .agg #[.int .i64 l0, .int .i64 l1, .int .i64 l2, .int .i64 l3, .int .i64 l4]) rfl (by kernel_rfl) (by kernel_rfl) (by kernel_rfl) (fun _ _ _ h => h) (Or.inl ⟨by kernel_rfl, ?_⟩) hH ?_
      · intro w hSw; (try dsimp only at hSw); go_simp; (try rfl)
      try simp only [Act.put, List.setIfInBounds_toArray, List.set_cons_zero, List.set_cons_succ]
      refine wpAnyH_ready (rs := [27]) (by kernel_rfl) (by simp) ?_
      refine AllReadyH.cons rfl (fun K hK => ?_) AllReadyH.nil
      go_simp
      refine hK.out _ _ (KF.out _ ka.out) (fun hH => ?_)
      clear hK K
      try simp only [Act.put, List.setIfInBounds_toArray, List.set_cons_zero, List.set_cons_succ]
      refine wpAnyH_ready (rs := [28]) (by kernel_rfl) (by simp) ?_
      refine AllReadyH.cons rfl (fun K hK => ?_) AllReadyH.nil
      refine step_append_lies _ rfl _ _ 28 rfl w.heap.size 45 i0 (.agg #[.int .i64 0, .int .i64 0, .int .i64 0, .int .i64 0, .int .i64 0]) 5 40 Try.underlying28 hi0 hz0 hz1 hz2 rfl (by decide) u3 k ((L.take k).flatMap cellsLk) rfl OA.out ⟨wr.heap.size, 0, none⟩ 1 1 [.int .i64 l0, .int .i64 l1, .int .i64 l2, .int .i64 l3, .int .i64 l4] rfl rfl CA.out oc.out (by decide) n11.out n22.out hsz.out _ rfl ?_
      intro g7 c7 w7 hown7 hg7 hat7 hlt7
      have K7 := Lib.hid (KA.out.grown hg7 hsz.out (fun j hj => (OA.out.lt j hj).1))
      have OW7 := Lib.hid hown7
      have S7 := Lib.hid (HCX.out w7 K7.out)
      clear hown7 hg7 hat7 hlt7
      refine hK.out _ _ (S7.out) (fun hH => ?_)
      clear hK K
      try simp only [Act.put, List.setIfInBounds_toArray, List.set_cons_zero, List.set_cons_succ]
      refine wpAnyH_take (i := 29) (oi := { dst := some 3, op := Op.assign (Operand.tmp 39), type := 28, pos := "law.go:24", after := #[{ on := 28, ground := Ground.data }, { on := 28, ground := Ground.chain }, { on := 0, ground := Ground.phase }, { on := 1, ground := Ground.phase }, { on := 2, ground := Ground.phase }, { on := 3, ground := Ground.phase }, { on := 4, ground := Ground.phase }, { on := 5, ground := Ground.phase }, { on := 6, ground := Ground.phase }, { on := 7, ground := Ground.phase }, { on := 8, ground := Ground.phase }, { on := 9, ground := Ground.phase }, { on := 10, ground := Ground.phase }, { on := 11, ground := Ground.phase }, { on := 12, ground := Ground.phase }, { on := 13, ground := Ground.phase }, { on := 14, ground := Ground.phase }, { on := 15, ground := Ground.phase }, { on := 16, ground := Ground.phase }, { on := 17, ground := Ground.phase }, { on := 18, ground := Ground.phase }, { on := 19, ground := Ground.phase }, { on := 20, ground := Ground.phase }, { on := 21, ground := Ground.phase }, { on := 22, ground := Ground.phase }, { on := 23, ground := Ground.phase }, { on := 24, ground := Ground.phase }, { on := 25, ground := Ground.phase }, { on := 26, ground := Ground.phase }, { on := 27, ground := Ground.phase }, { on := 28, ground := Ground.phase }], guard := none }) (v := .slice (some ⟨g7, 0, none⟩) (k + 1) c7) rfl (by kernel_rfl) (by kernel_rfl) (by kernel_rfl) (fun _ _ _ h => h) (Or.inl ⟨by kernel_rfl, ?_⟩) hH ?_
      · intro w hSw; (try dsimp only at hSw); go_simp; (try rfl)
      try simp only [Act.put, List.setIfInBounds_toArray, List.set_cons_zero, List.set_cons_succ]
      refine wpAnyH_done (by kernel_rfl) ?_ _
      clear hH S7 KF k0 OA CA ka hsz n11 n22 oc KA c0 c1 c2 c3 c4 d1 d2 d3 d4 HCX
      go_wp2_with fail
      go_roundw
      case rel => exact ⟨k + 1, by omega, by go_num, Lib.hid (by rw [HTK.out]; exact OW7.out), K7⟩
      case measure => simp [intOf]; omega
    · obtain rfl : k = n := by omega
      rw [List.take_of_length_le (by rw [HNN.out]; exact Nat.le_refl _)] at HO
      have HR := Lib.hid (rowsAt_own (by decide) lk_len HO.out)
      clear hlt
      go_wp2_with fail
      go_ret
      exact ⟨_, rfl, HR.out, KB.out⟩

/-! LIVE -/
def L16 : List Lk := [(0, 0, 1, 0, 5), (1, 1, 2, 1, 5), (2, 0, 0, 1, 5)]
theorem may16 : MayT [1, 2, 3] L16 := ⟨by decide, by decide, by decide, by decide, by decide +kernel, by decide +kernel⟩
theorem rest16 : restL [1, 2, 3] L16 = [(2, 1), (2, 3), (1, 2)] := by decide +kernel
theorem act16 : actN (restL [1, 2, 3] L16) 3 = [0, 2] := by rw [rest16]; decide +kernel
theorem may0 : ¬ MayT [] [] := fun h => by have := h.n1; simp at this
theorem rows16 (w : World) : RowsAt 5 cellsLk (w.alloc (.cells #[.int .i64 0, .int .i64 0, .int .i64 1, .int .i64 0, .int .i64 5, .int .i64 1, .int .i64 1, .int .i64 2, .int .i64 1, .int .i64 5, .int .i64 2, .int .i64 0, .int .i64 0, .int .i64 1, .int .i64 5] 45)) (.slice (some ⟨w.heap.size, 0, none⟩) 3 3) L16 := by
  refine ⟨_, 3, w.heap.size, 0, rfl, fun _ => rfl, fun j x hj i u hu => ?_⟩
  have hb := heap_new w (.cells #[.int .i64 0, .int .i64 0, .int .i64 1, .int .i64 0, .int .i64 5, .int .i64 1, .int .i64 1, .int .i64 2, .int .i64 1, .int .i64 5, .int .i64 2, .int .i64 0, .int .i64 0, .int .i64 1, .int .i64 5] 45)
  rcases j with _ | _ | _ | j
  · simp [L16] at hj; subst hj
    rcases i with _ | _ | _ | _ | _ | i <;> simp [cellsLk] at hu <;> (subst hu; exact cell_of_block hb rfl)
  · simp [L16] at hj; subst hj
    rcases i with _ | _ | _ | _ | _ | i <;> simp [cellsLk] at hu <;> (subst hu; exact cell_of_block hb rfl)
  · simp [L16] at hj; subst hj
    rcases i with _ | _ | _ | _ | _ | i <;> simp [cellsLk] at hu <;> (subst hu; exact cell_of_block hb rfl)
  · simp [L16] at hj
theorem ids16 (w : World) : RowsAt 1 cellsU64 (w.alloc (.cells #[.int .u64 1, .int .u64 2, .int .u64 3] 44)) (.slice (some ⟨w.heap.size, 0, none⟩) 3 3) [1, 2, 3] := by
  refine ⟨_, 3, w.heap.size, 0, rfl, fun _ => rfl, fun j x hj i u hu => ?_⟩
  have hb := heap_new w (.cells #[.int .u64 1, .int .u64 2, .int .u64 3] 44)
  rcases j with _ | _ | _ | j
  · simp at hj; subst hj
    rcases i with _ | i <;> simp [cellsU64] at hu <;> (subst hu; exact cell_of_block hb rfl)
  · simp at hj; subst hj
    rcases i with _ | i <;> simp [cellsU64] at hu <;> (subst hu; exact cell_of_block hb rfl)
  · simp at hj; subst hj
    rcases i with _ | i <;> simp [cellsU64] at hu <;> (subst hu; exact cell_of_block hb rfl)
  · simp at hj
theorem cap3 (p : Option Addr) : CapOk (.slice p 3 3) := fun _ _ _ h => by cases h; exact Nat.le_refl _
theorem cap0 : CapOk (.slice none 0 0) := fun _ _ _ h => by cases h; exact Nat.le_refl _
theorem ints16 (w : World) : IntsAt (w.alloc (.cells #[.int .i64 0, .int .i64 2] 3)) (.slice (some ⟨w.heap.size, 0, none⟩) 2 2) [0, 2] := by
  refine ⟨_, 2, w.heap.size, 0, rfl, fun _ => rfl, fun j y hj => ?_⟩
  have hb := heap_new w (.cells #[.int .i64 0, .int .i64 2] 3)
  rcases j with _ | _ | j
  · simp at hj; subst hj; exact cell_of_block hb rfl
  · simp at hj; subst hj; exact cell_of_block hb rfl
  · simp at hj

set_option maxHeartbeats 8000000 in
set_option maxRecDepth 100000 in
theorem live16_c (w : World) : Calls Try.prog 9 #[] w fun e w' => e = .returned (.bool true) ∧ Below w.heap.size w w' := by
  have HL := Lib.hid (rows16 w)
  have K1 := Lib.hid (show Below w.heap.size w (w.alloc (.cells #[.int .i64 0, .int .i64 0, .int .i64 1, .int .i64 0, .int .i64 5, .int .i64 1, .int .i64 1, .int .i64 2, .int .i64 1, .int .i64 5, .int .i64 2, .int .i64 0, .int .i64 0, .int .i64 1, .int .i64 5] 45)) from (Below.refl _ w).alloc (Nat.le_refl _) _)
  have EP := fun (a b c d : Int) (U : World) => equalIn_P a b c d U
  have EQ := fun (a b c d : Int) (U : World) => eql_P a b c d U
  have GP := guard_P
  go_enter Try.func9, Try.ntmps9
  go_upto_region 2 with fail
  generalize w.alloc (.cells #[.int .i64 0, .int .i64 0, .int .i64 1, .int .i64 0, .int .i64 5, .int .i64 1, .int .i64 1, .int .i64 2, .int .i64 1, .int .i64 5, .int .i64 2, .int .i64 0, .int .i64 0, .int .i64 1, .int .i64 5] 45) = W1 at HL K1 ⊢
  generalize w.heap.size = lb at HL ⊢
  have k2 := (Below.refl W1.heap.size W1).alloc (Nat.le_refl _) (.cells #[.int .u64 1, .int .u64 2, .int .u64 3] 44)
  have R1 := Lib.hid (rest_ok (ids16 W1) (cap3 _) (HL.out.below k2) (by decide) (by decide) may16)
  rw [rest16] at R1
  have K2 := Lib.hid k2
  clear k2
  go_wp2_with fail
  ((with_reducible refine R1.out.mono ?_); rintro e w2 ⟨u, rfl, hu, k3⟩)
  obtain ⟨pr, capr, gr, offr, rfl, hpr, hcr⟩ := hu
  obtain rfl := hpr (by simp)
  have K3 := Lib.hid ((K1.out.trans (K2.out.mono K1.out.size)).trans (k3.mono (K1.out.trans (K2.out.mono K1.out.size)).size))
  have HL3 := Lib.hid ((HL.out.below K2.out).below k3)
  have HCR := Lib.hid (⟨hcr 0 _ rfl 0 _ rfl, hcr 0 _ rfl 1 _ rfl, hcr 1 _ rfl 0 _ rfl, hcr 1 _ rfl 1 _ rfl⟩ : w2.cell? ⟨gr, offr, none⟩ = some (.int .i64 2) ∧ w2.cell? ⟨gr, offr + 1, none⟩ = some (.int .i64 1) ∧ w2.cell? ⟨gr, offr + 2, none⟩ = some (.int .i64 2) ∧ w2.cell? ⟨gr, offr + 2 + 1, none⟩ = some (.int .i64 3))
  have k4 := (Below.refl w2.heap.size w2).alloc (Nat.le_refl _) (.cells #[.int .u64 1, .int .u64 2, .int .u64 3] 44)
  have A1 := Lib.hid (active_ok (ids16 w2) (cap3 _) (HL3.out.below k4) (by decide) (by decide) may16)
  rw [show L16.length = 3 from rfl, act16] at A1
  have K4 := Lib.hid k4
  simp only [List.length_cons, List.length_nil, Nat.zero_add, Nat.reduceAdd]
  clear hpr hcr k3 k4 HL R1 HL3 K1 K2
  go_wp2_with fail
  ((with_reducible refine A1.out.mono ?_); rintro e w3 ⟨ua, rfl, ha, k5⟩)
  have HA := Lib.hid ha
  have K45 := Lib.hid (K4.out.trans (k5.mono K4.out.size))
  have KW := Lib.hid (K3.out.trans (K45.out.mono K3.out.size))
  obtain ⟨c0, c1, c2, c3⟩ := HCR.out
  replace c0 := gcell_below K45.out c0
  replace c1 := gcell_below K45.out c1
  replace c2 := gcell_below K45.out c2
  replace c3 := gcell_below K45.out c3
  have c4 : w3.cell? ⟨gr, offr + 3, none⟩ = some (.int .i64 3) := c3
  clear ha k5 A1 K3 K4 K45 HCR
  go_upto_region 4 with fail
  have k6 := (Below.refl w3.heap.size w3).alloc (Nat.le_refl _) (.cells #[.int .i64 0, .int .i64 2] 3)
  have SI := Lib.hid (sameI_c ua (.slice (some ⟨w3.heap.size, 0, none⟩) 2 2) [0, 2] (w3.alloc (.cells #[.int .i64 0, .int .i64 2] 3)) (by decide) (HA.out.below k6) (ints16 w3))
  have KA := Lib.hid (KW.out.trans (k6.mono KW.out.size))
  have CK := Lib.hid fun (U : World) => chk_not (w := U) (vi := .slice none 0 0) (vl := .slice none 0 0) (ids := []) (L := []) (RowsAt.nil U) cap0 (RowsAt.nil U) (by decide) (by decide) may0
  clear k6 KW
  go_wp2_with fail
  ((with_reducible refine SI.out.mono ?_); rintro e w4 ⟨rfl, nq, rfl⟩)
  have KB := Lib.hid (below_drewN KA.out nq)
  go_wp2_with fail
  ((with_reducible refine (CK.out _).mono ?_); rintro e w5 ⟨rfl, k7⟩)
  have KC := Lib.hid (KB.out.trans (k7.mono KB.out.size))
  go_wp2_with fail
  go_ret
  exact ⟨rfl, KC.out⟩
end Go.Proofs.Ytolmkflhddlcnaa
