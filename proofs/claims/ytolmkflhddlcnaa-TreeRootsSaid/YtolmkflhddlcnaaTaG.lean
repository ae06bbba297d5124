/-
  The document's ends of links, and its Check. Contracts over the translated program.
-/
import Derived.Test.YtolmkflhddlcnaaTaD
import Derived.Test.YtolmkflhddlcnaaTaE
namespace Go.Proofs.Ytolmkflhddlcnaa
open Go.RowKit
set_option linter.unusedVariables false
set_option linter.unusedSimpArgs false

theorem info_En : (Try.prog.info? 49).map (fun i => (i.zero, i.size, i.bytes)) = some (some (.agg #[.int .i64 0, .int .i64 0, .int .i64 0, .int .i64 0, .int .i64 0]), 5, 40) := by kernel_rfl
theorem lk_len (e : Lk) : (cellsLk e).length = 5 := rfl
theorem ends_take {L : List Lk} {k : Nat} {l : Lk} (h : L[k]? = some l) : endsL (L.take (k + 1)) = endsL (L.take k) ++ [endA l, endB l] := by
  obtain ⟨hk, rfl⟩ := List.getElem?_eq_some_iff.1 h
  rw [List.take_succ_eq_append_getElem hk]
  unfold endsL
  rw [List.flatMap_append]
  rfl
theorem ends_len : ∀ L : List Lk, (endsL L).length = 2 * L.length
  | [] => rfl
  | l :: L => by
    have h := ends_len L
    unfold endsL at h ⊢
    rw [List.flatMap_cons, List.length_append, h]
    simp
    omega
/-- A block of another type stays when a row grows. -/
theorem own_keeps {w w' : World} {B n k : Nat} {e ty : TypeId} {s : Nat} {v : Value} {xs : List Value} {cs : Array Value} {f : Nat × Nat} (h : w.ownsRow B e s v n xs) (hg : w.grownBy w' v.ownBlock) (hk : w.heap[k]? = some (.cells cs ty f)) (hne : e ≠ ty) : w'.heap[k]? = some (.cells cs ty f) := by
  rw [hg.block k (lt_of_block hk) (fun e1 => ?_)]
  · exact hk
  · rcases h.2 with ⟨hv, -⟩ | ⟨g, cap, cur, hv, -, hh, -⟩
    · rw [hv] at e1
      simp [Value.ownBlock] at e1
    · rw [hv] at e1
      simp [Value.ownBlock] at e1
      subst e1
      have e2 := hk.symm.trans hh
      simp at e2
      exact hne e2.2.1.symm

set_option maxHeartbeats 4000000 in
set_option maxRecDepth 100000 in
theorem rends_c (v : Value) (L : List Lk) (w : World) (hl : L.length ≤ 1000000) (h : RowsAt 5 cellsLk w v L) : Calls Try.prog 20 #[v] w fun e w' => ∃ u, e = .returned u ∧ RowsAt 5 cellsLk w' u (endsL L) ∧ Below w.heap.size w w' := by
  obtain ⟨p, cap, bb, off, rfl, hp, hc⟩ := h
  have HP := Lib.hid hp
  have HC := Lib.hid hc
  clear hp hc
  obtain ⟨i0, hi, hz0, hz1, hz2⟩ := info_parts info_En
  go_enter Try.func20, Try.ntmps20
  go_wp2_with fail
  go_loopw [3, 4, 5] (fun s3 i _ wr => ∃ k : Nat, k ≤ L.length ∧ i = .int .i64 k ∧ Hid (wr.ownsRow w.heap.size 49 5 s3 (2 * k) ((endsL (L.take k)).flatMap cellsLk)) ∧ Hid (Below w.heap.size w wr)) (fun _ i _ _ => L.length - (intOf i).toNat)
  case atStart => exact ⟨0, Nat.zero_le _, rfl, Lib.hid (World.ownsRow_nil _ _ _ _), Lib.hid (Below.refl _ _)⟩
  case round =>
    obtain ⟨k, hk, rfl, HO, KB⟩ := hrel
    by_cases hlt : k < L.length
    · have hne : L ≠ [] := by rintro rfl; simp at hlt
      obtain rfl := HP.out hne
      have hx : L[k]? = some L[k] := List.getElem?_eq_getElem hlt
      have HT := Lib.hid (congrArg (fun l : List En => l.flatMap cellsLk) (ends_take hx))
      have x0 : wr.cell? ⟨bb, off + k * 5, none⟩ = some _ := gcell_below KB.out (HC.out k _ hx 0 _ rfl)
      have x1 : wr.cell? ⟨bb, off + k * 5 + 1, none⟩ = some _ := gcell_below KB.out (HC.out k _ hx 1 _ rfl)
      have x2 : wr.cell? ⟨bb, off + k * 5 + 2, none⟩ = some _ := gcell_below KB.out (HC.out k _ hx 2 _ rfl)
      have x3 : wr.cell? ⟨bb, off + k * 5 + 3, none⟩ = some _ := gcell_below KB.out (HC.out k _ hx 3 _ rfl)
      have x4 : wr.cell? ⟨bb, off + k * 5 + 4, none⟩ = some _ := gcell_below KB.out (HC.out k _ hx 4 _ rfl)
      clear hx hne
      generalize L[k] = l at x0 x1 x2 x3 x4 HT
      obtain ⟨a, pa, b, pb, c⟩ := l
      simp only at x0 x1 x2 x3 x4
      replace HT : Hid ((endsL (L.take (k + 1))).flatMap cellsLk = ((endsL (L.take k)).flatMap cellsLk ++ [.int .i64 a, .int .i64 pa, .int .i64 b, .int .i64 pb, .int .i64 c]) ++ [.int .i64 b, .int .i64 pb, .int .i64 a, .int .i64 pa, .int .i64 c]) := Lib.hid (by have h := HT.out; rw [List.flatMap_append] at h; rw [List.append_assoc]; exact h)
      generalize (endsL (L.take k)).flatMap cellsLk = acc at HT HO
      have hk1 : decide (L.length ≤ k) = false := decide_eq_false (by omega)
      go_upto_region 6 with fail
      have K1 := Lib.hid (KB.out.alloc KB.out.size (.cells #[.int .i64 a, .int .i64 pa, .int .i64 b, .int .i64 pb, .int .i64 c] 42))
      have HO1 := Lib.hid (HO.out.alloc (.cells #[.int .i64 a, .int .i64 pa, .int .i64 b, .int .i64 pb, .int .i64 c] 42))
      have HB1 := Lib.hid (heap_new wr (.cells #[.int .i64 a, .int .i64 pa, .int .i64 b, .int .i64 pb, .int .i64 c] 42))
      clear x0 x1 x2 x3 x4 hk1 HO KB
      generalize wr.alloc (.cells #[.int .i64 a, .int .i64 pa, .int .i64 b, .int .i64 pb, .int .i64 c] 42) = W1 at K1 HO1 HB1 ⊢
      generalize wr.heap.size = b1 at HB1 ⊢
      have z0 : W1.cell? ⟨b1, 0, none⟩ = some (.int .i64 a) := cell_of_block HB1.out rfl
      have z1 : W1.cell? ⟨b1, 1, none⟩ = some (.int .i64 pa) := cell_of_block HB1.out rfl
      have z2 : W1.cell? ⟨b1, 2, none⟩ = some (.int .i64 b) := cell_of_block HB1.out rfl
      have z3 : W1.cell? ⟨b1, 3, none⟩ = some (.int .i64 pb) := cell_of_block HB1.out rfl
      have z4 : W1.cell? ⟨b1, 4, none⟩ = some (.int .i64 c) := cell_of_block HB1.out rfl
      have HO3 := Lib.hid (HO1.out.alloc (.cells #[.int .i64 a, .int .i64 pa, .int .i64 b, .int .i64 pb, .int .i64 c] 49))
      have K3 := Lib.hid (K1.out.alloc K1.out.size (.cells #[.int .i64 a, .int .i64 pa, .int .i64 b, .int .i64 pb, .int .i64 c] 49))
      have NEW := Lib.hid (cells_new W1 [.int .i64 a, .int .i64 pa, .int .i64 b, .int .i64 pb, .int .i64 c] 49)
      have n1 := Lib.hid (show 2 * k + 1 ≤ maxLen by unfold maxLen; omega)
      have n2 := Lib.hid (show (2 * k + 1) * 40 ≤ 140737488355328 by omega)
      have n3 := Lib.hid (show w.heap.size ≤ (W1.alloc (.cells #[.int .i64 a, .int .i64 pa, .int .i64 b, .int .i64 pb, .int .i64 c] 49)).heap.size by have := K3.out.size; exact this)
      have oc := Lib.hid (show ∀ u ∈ ([.int .i64 a, .int .i64 pa, .int .i64 b, .int .i64 pb, .int .i64 c] : List Value), u.oneCell' = true from fun u hu => by simp at hu; rcases hu with rfl | rfl | rfl | rfl | rfl <;> rfl)
      clear HO1 K1
      go_wp2_with (at_builtin; refine wpList_append_own _ rfl _ _ 46 rfl w.heap.size 49 i0 (.agg #[.int .i64 0, .int .i64 0, .int .i64 0, .int .i64 0, .int .i64 0]) 5 40 Try.underlying46 hi hz0 hz1 hz2 rfl (by decide) _ _ _ rfl HO3.out ⟨W1.heap.size, 0, none⟩ 1 1 [.int .i64 a, .int .i64 pa, .int .i64 b, .int .i64 pb, .int .i64 c] rfl rfl NEW.out oc.out n1.out n2.out n3.out ?_)
      intro v6 w6 hown' hgrow _
      have HO6 := Lib.hid hown'
      have K6 := Lib.hid (K3.out.grown hgrow n3.out (fun j hj => (HO3.out.lt j hj).1))
      have HG := Lib.hid hgrow
      clear hown' hgrow
      have HB3 := Lib.hid (own_keeps HO3.out HG.out (k := b1) (below_block ((Below.refl _ _).alloc (Nat.le_refl _) _) (lt_of_block HB1.out) HB1.out) (by decide))
      clear z0 z1 z2 z3 z4 HB1 HG HO3 K3 NEW n1 n2 n3 oc
      have z0 : w6.cell? ⟨b1, 0, none⟩ = some (.int .i64 a) := cell_of_block HB3.out rfl
      have z1 : w6.cell? ⟨b1, 1, none⟩ = some (.int .i64 pa) := cell_of_block HB3.out rfl
      have z2 : w6.cell? ⟨b1, 2, none⟩ = some (.int .i64 b) := cell_of_block HB3.out rfl
      have z3 : w6.cell? ⟨b1, 3, none⟩ = some (.int .i64 pb) := cell_of_block HB3.out rfl
      have z4 : w6.cell? ⟨b1, 4, none⟩ = some (.int .i64 c) := cell_of_block HB3.out rfl
      have HO3 := Lib.hid (HO6.out.alloc (.cells #[.int .i64 b, .int .i64 pb, .int .i64 a, .int .i64 pa, .int .i64 c] 49))
      have K3 := Lib.hid (K6.out.alloc K6.out.size (.cells #[.int .i64 b, .int .i64 pb, .int .i64 a, .int .i64 pa, .int .i64 c] 49))
      have NEW := Lib.hid (cells_new w6 [.int .i64 b, .int .i64 pb, .int .i64 a, .int .i64 pa, .int .i64 c] 49)
      have n1 := Lib.hid (show 2 * k + 1 + 1 ≤ maxLen by unfold maxLen; omega)
      have n2 := Lib.hid (show (2 * k + 1 + 1) * 40 ≤ 140737488355328 by omega)
      have n3 := Lib.hid (show w.heap.size ≤ (w6.alloc (.cells #[.int .i64 b, .int .i64 pb, .int .i64 a, .int .i64 pa, .int .i64 c] 49)).heap.size by have := K3.out.size; exact this)
      have oc := Lib.hid (show ∀ u ∈ ([.int .i64 b, .int .i64 pb, .int .i64 a, .int .i64 pa, .int .i64 c] : List Value), u.oneCell' = true from fun u hu => by simp at hu; rcases hu with rfl | rfl | rfl | rfl | rfl <;> rfl)
      clear HO6 K6
      go_wp2_with (at_builtin; refine wpList_append_own _ rfl _ _ 46 rfl w.heap.size 49 i0 (.agg #[.int .i64 0, .int .i64 0, .int .i64 0, .int .i64 0, .int .i64 0]) 5 40 Try.underlying46 hi hz0 hz1 hz2 rfl (by decide) _ _ _ rfl HO3.out ⟨w6.heap.size, 0, none⟩ 1 1 [.int .i64 b, .int .i64 pb, .int .i64 a, .int .i64 pa, .int .i64 c] rfl rfl NEW.out oc.out n1.out n2.out n3.out ?_)
      intro v8 w8 hown' hgrow _
      have HO8 := Lib.hid hown'
      have K8 := Lib.hid (K3.out.grown hgrow n3.out (fun j hj => (HO3.out.lt j hj).1))
      have HG := Lib.hid hgrow
      clear hown' hgrow
      clear z0 z1 z2 z3 z4 HB3 HG HO3 K3 NEW n1 n2 n3 oc
      go_wp2_with fail
      go_roundw
      case rel => exact ⟨k + 1, by omega, by go_num, Lib.hid (by rw [HT.out, List.append_assoc]; exact HO8.out), K8⟩
      case measure => simp [intOf]; omega
    · obtain rfl : k = L.length := by omega
      rw [List.take_of_length_le (Nat.le_refl _)] at HO
      have HR := Lib.hid (rowsAt_own (cells := cellsLk) (by decide) lk_len HO.out)
      clear hlt HO
      go_wp2_with fail
      go_ret
      exact ⟨_, rfl, HR.out, KB.out⟩

def RChkPost (ids : List Int) (L : List Lk) (w : World) (e : Ending) (w' : World) : Prop :=
  ((MayT ids L ∧ e = .returned (.int .i64 0)) ∨ (¬ MayT ids L ∧ e = .returned (.int .i64 3))) ∧ Below w.heap.size w w'
theorem rchk_no {ids : List Int} {L : List Lk} {w w' : World} (h : ¬ MayT ids L) (k : Below w.heap.size w w') : RChkPost ids L w (.returned (.int .i64 3)) w' := ⟨Or.inr ⟨h, rfl⟩, k⟩


set_option maxHeartbeats 4000000 in
set_option maxRecDepth 100000 in
theorem rchk_c (vi vl : Value) (ids : List Int) (L : List Lk) (w : World) (hi : RowsAt 1 cellsU64 w vi ids) (hL : RowsAt 5 cellsLk w vl L) (qi : ids.length ≤ 9223372036854775807) (ql : L.length ≤ 9223372036854775807) : Calls Try.prog 10 #[vi, vl] w (RChkPost ids L w) := by
  obtain ⟨pl, capl, rfl⟩ := hL.slice
  obtain ⟨pi, capi, bb, offi, rfl, hpi, hci⟩ := hi
  have HPI := Lib.hid hpi
  have HI := Lib.hid fun (U : World) (kz : Below w.heap.size w U) (j : Nat) (x : Int) (hj : ids[j]? = some x) => gcell_below kz (show w.cell? ⟨bb, offi + j, none⟩ = some (.int .u64 x) by have := hci j x hj 0 _ rfl; simpa using this)
  have HL := Lib.hid hL
  clear hpi hci hL
  by_cases s1 : ids.length < 1
  · have k1 : decide ((ids.length : Int) < 1) = true := decide_eq_true (by omega)
    have E := Lib.hid (show ¬ MayT ids L from fun h => by have := h.n1; omega)
    clear s1
    go_enter Try.func10, Try.ntmps10
    go_wp2_with fail
    go_ret
    exact rchk_no E.out (Below.refl _ _)
  · have k1 : decide ((ids.length : Int) < 1) = false := decide_eq_false (by omega)
    by_cases s2 : 12 < ids.length
    · have k2 : decide ((12 : Int) < (ids.length : Int)) = true := decide_eq_true (by omega)
      have E := Lib.hid (show ¬ MayT ids L from fun h => by have := h.n12; omega)
      clear s1 s2
      go_enter Try.func10, Try.ntmps10
      go_wp2_with fail
      go_ret
      exact rchk_no E.out (Below.refl _ _)
    · have k2 : decide ((12 : Int) < (ids.length : Int)) = false := decide_eq_false (by omega)
      by_cases s3 : 40 < L.length
      · have k3 : decide ((40 : Int) < (L.length : Int)) = true := decide_eq_true (by omega)
        have E := Lib.hid (show ¬ MayT ids L from fun h => by have := h.l40; omega)
        clear s1 s2 s3
        go_enter Try.func10, Try.ntmps10
        go_wp2_with fail
        go_ret
        exact rchk_no E.out (Below.refl _ _)
      · have k3 : decide ((40 : Int) < (L.length : Int)) = false := decide_eq_false (by omega)
        have hne : ids ≠ [] := by rintro rfl; simp at s1
        obtain rfl := HPI.out hne
        clear hne
        go_enter Try.func10, Try.ntmps10
        go_wp2_with fail
        clear k1 k2 k3
        go_loopw [5, 6] (fun i _ wr => ∃ k : Nat, k ≤ ids.length ∧ i = .int .i64 k ∧ Hid ((ids.take k).Nodup) ∧ Hid (Below w.heap.size w wr)) (fun i _ _ => ids.length - (intOf i).toNat)
        case atStart => exact ⟨0, Nat.zero_le _, rfl, Lib.hid (by simp), Lib.hid (Below.refl _ _)⟩
        case round =>
          obtain ⟨k, hk, rfl, HN, KB⟩ := hrel
          by_cases hlt : k < ids.length
          · obtain ⟨x, hx⟩ : ∃ x, ids[k]? = some x := ⟨_, List.getElem?_eq_getElem hlt⟩
            have HT := Lib.hid (show ids.take (k + 1) = ids.take k ++ [x] by rw [List.take_succ_eq_append_getElem hlt, (List.getElem?_eq_some_iff.1 hx).2])
            have HX := Lib.hid hx
            have d1 : decide (k < ids.length) = true := decide_eq_true hlt
            have d2 : decide ((k : Int) < (ids.length : Int)) = true := decide_eq_true (by omega)
            have d3 : decide (ids.length ≤ k) = false := decide_eq_false (by omega)
            clear hx
            go_wp2_with fail
            clear d1 d2 d3
            go_loopw [6] (fun j wr2 => ∃ m : Nat, m ≤ k ∧ j = .int .i64 m ∧ Hid (x ∉ ids.take m) ∧ Hid (Below w.heap.size w wr2)) (fun j _ => k - (intOf j).toNat)
            case atStart => exact ⟨0, Nat.zero_le _, rfl, Lib.hid (by simp), KB⟩
            case round =>
              clear KB
              obtain ⟨m, hm, rfl, HQ, KB⟩ := hrel
              by_cases hmk : m < k
              · obtain ⟨y, hy⟩ : ∃ y, ids[m]? = some y := ⟨_, List.getElem?_eq_getElem (by omega)⟩
                have x0 := HI.out _ KB.out k x HX.out
                have x1 := HI.out _ KB.out m y hy
                have HT2 := Lib.hid (show ids.take (m + 1) = ids.take m ++ [y] by rw [List.take_succ_eq_append_getElem (by omega), (List.getElem?_eq_some_iff.1 hy).2])
                have hmem : y ∈ ids.take k := List.mem_iff_getElem?.2 ⟨m, by rw [List.getElem?_take_of_lt hmk]; exact hy⟩
                have d1 : decide (m < k) = true := decide_eq_true hmk
                have d2 : decide ((m : Int) < (k : Int)) = true := decide_eq_true (by omega)
                have d3 : decide (k ≤ m) = false := decide_eq_false (by omega)
                have d4 : decide (ids.length ≤ k) = false := decide_eq_false (by omega)
                have d5 : decide (ids.length ≤ m) = false := decide_eq_false (by omega)
                have d6 : decide (0 ≤ (k : Int)) = true := decide_eq_true (by omega)
                have d7 : decide (0 ≤ (m : Int)) = true := decide_eq_true (by omega)
                clear hy
                by_cases hxy : x = y
                · have E := Lib.hid (show ¬ MayT ids L from fun h => by
                    have h1 : (ids.take (k + 1)).Nodup := h.nd.sublist (List.take_sublist _ _)
                    rw [HT.out, List.nodup_append] at h1
                    exact h1.2.2 y hmem x (by simp) hxy.symm)
                  obtain ⟨e1, e2⟩ := eq_t hxy
                  clear hxy hmem
                  go_wp2_with fail
                  go_quiet (fail)
                  have KB2 := Lib.hid (below_drewN KB.out nq)
                  go_wp2_with fail
                  go_ret
                  exact rchk_no E.out KB2.out
                · obtain ⟨e1, e2⟩ := ne_t hxy
                  have HQ2 := Lib.hid (show x ∉ ids.take (m + 1) by rw [HT2.out, List.mem_append]; rintro (h | h); exact HQ.out h; exact hxy (by simpa using h))
                  clear hxy hmem
                  go_wp2_with fail
                  go_quiet (fail)
                  have KB2 := Lib.hid (below_drewN KB.out nq)
                  go_wp2_with fail
                  go_roundw
                  case rel => exact ⟨m + 1, by omega, by go_num, HQ2, KB2⟩
                  case measure => simp [intOf]; omega
              · obtain rfl : k = m := by omega
                have HN2 := Lib.hid (show (ids.take (k + 1)).Nodup by
                  rw [HT.out, List.nodup_append]
                  refine ⟨HN.out, by simp, fun a ha b hb => ?_⟩
                  simp at hb
                  rintro rfl
                  exact HQ.out (hb ▸ ha))
                clear hmk
                go_wp2_with fail
                go_roundw
                case rel => exact ⟨k + 1, by omega, by go_num, HN2, KB⟩
                case measure => simp [intOf]; omega
          · obtain rfl : k = ids.length := by omega
            rw [List.take_of_length_le (Nat.le_refl _)] at HN
            have RE := Lib.hid fun (U : World) (kz : Below w.heap.size w U) => rends_c (.slice pl L.length capl) L U (by omega) (HL.out.below kz)
            have d1 : decide (ids.length < ids.length) = false := decide_eq_false (by omega)
            clear hlt hk
            go_wp2_with fail
            clear d1
            ((with_reducible refine (RE.out _ KB.out).mono ?_); rintro e w2 ⟨u, rfl, r2, k2⟩)
            have K2 := Lib.hid (KB.out.trans (k2.mono KB.out.size))
            obtain ⟨pe, cape, be, offe, rfl, hpe, hce⟩ := r2
            have HPE := Lib.hid hpe
            have HE := Lib.hid fun (U : World) (kz : Below w2.heap.size w2 U) (j : Nat) (x : En) (hj : (endsL L)[j]? = some x) => (⟨gcell_below kz (show w2.cell? ⟨be, offe + j * 5, none⟩ = some (.int .i64 x.1) from hce j x hj 0 _ rfl), gcell_below kz (hce j x hj 1 _ rfl), gcell_below kz (hce j x hj 4 _ rfl)⟩ : U.cell? ⟨be, offe + j * 5, none⟩ = some (.int .i64 x.1) ∧ U.cell? ⟨be, offe + j * 5 + 1, none⟩ = some (.int .i64 x.2.1) ∧ U.cell? ⟨be, offe + j * 5 + 4, none⟩ = some (.int .i64 x.2.2.2.2))
            obtain ⟨E0, hE0⟩ : ∃ E0, E0 = endsL L := ⟨_, rfl⟩
            obtain ⟨ne, hne0⟩ : ∃ ne, ne = E0.length := ⟨_, rfl⟩
            have hne80 : ne ≤ 80 := by rw [hne0, hE0, ends_len]; omega
            have HEL := Lib.hid hE0
            rw [← hE0] at HE HPE
            rw [← hE0, ← hne0]
            have HNE := Lib.hid hne0
            obtain ⟨n, hn⟩ : ∃ n, n = ids.length := ⟨_, rfl⟩
            have HNN := Lib.hid hn
            rw [← hn] at s1 s2 qi ⊢
            clear hpe hce k2 RE KB hE0 hne0 hn
            go_wp2_with fail
            go_loopw [8, 9] (fun i _ wr => ∃ k : Nat, k ≤ ne ∧ i = .int .i64 k ∧ Hid (∀ e ∈ E0.take k, okE n e = true) ∧ Hid ((E0.take k).Pairwise fun e f => sameE e f = false) ∧ Hid (Below w2.heap.size w2 wr)) (fun i _ _ => ne - (intOf i).toNat)
            case atStart => exact ⟨0, Nat.zero_le _, rfl, Lib.hid (by simp), Lib.hid (by simp), Lib.hid (Below.refl _ _)⟩
            case round =>
              obtain ⟨k, hk, rfl, HG, HP, KB⟩ := hrel
              by_cases hlt : k < ne
              · obtain ⟨x, hx⟩ : ∃ x, E0[k]? = some x := ⟨_, List.getElem?_eq_getElem (by rw [← HNE.out]; exact hlt)⟩
                have hne : E0 ≠ [] := by rintro rfl; simp at hx
                obtain rfl := HPE.out hne
                have hlt' : k < E0.length := (List.getElem?_eq_some_iff.1 hx).1
                have HT := Lib.hid (show E0.take (k + 1) = E0.take k ++ [x] by rw [List.take_succ_eq_append_getElem hlt', (List.getElem?_eq_some_iff.1 hx).2])
                have HX := Lib.hid hx
                have NO := Lib.hid (show okE n x = false → ¬ MayT ids L from fun h1 h => by
                  have := h.ok x (by rw [← HEL.out]; exact List.mem_of_getElem? hx)
                  rw [← HNN.out, h1] at this
                  cases this)
                have YES := Lib.hid (show okE n x = true → ∀ e ∈ E0.take (k + 1), okE n e = true from fun h1 e he => by
                  rw [HT.out, List.mem_append] at he
                  rcases he with he | he
                  · exact HG.out e he
                  · rw [List.mem_singleton.1 he]; exact h1)
                obtain ⟨x0, x1, x4⟩ := HE.out _ KB.out k x hx
                have d1 : decide (k < ne) = true := decide_eq_true hlt
                have d2 : decide ((k : Int) < (ne : Int)) = true := decide_eq_true (by omega)
                have d3 : decide (ne ≤ k) = false := decide_eq_false (by omega)
                have d4 : decide (0 ≤ (k : Int)) = true := decide_eq_true (by omega)
                clear hx hne HG
                obtain ⟨a, pa, b, pb, c⟩ := x
                have HOK := Lib.hid (show okE n (a, pa, b, pb, c) = (decide (0 ≤ a) && decide (a < n) && decide (0 ≤ pa) && decide (pa ≤ 15) && decide (1 ≤ c) && decide (c ≤ 200000000)) from rfl)
                simp only at x0 x1 x4
                by_cases q0 : 0 ≤ a
                · have g0 : decide (0 ≤ a) = true := decide_eq_true q0
                  have g0n : decide (a < 0) = false := decide_eq_false (by omega)
                  by_cases q1 : a < (n : Int)
                  · have g1 : decide (a < (n : Int)) = true := decide_eq_true q1
                    have g1n : decide ((n : Int) ≤ a) = false := decide_eq_false (by omega)
                    by_cases q2 : 0 ≤ pa
                    · have g2 : decide (0 ≤ pa) = true := decide_eq_true q2
                      have g2n : decide (pa < 0) = false := decide_eq_false (by omega)
                      by_cases q3 : pa ≤ 15
                      · have g3 : decide (pa ≤ 15) = true := decide_eq_true q3
                        have g3n : decide (15 < pa) = false := decide_eq_false (by omega)
                        by_cases q4 : 1 ≤ c
                        · have g4 : decide (1 ≤ c) = true := decide_eq_true q4
                          have g4n : decide (c < 1) = false := decide_eq_false (by omega)
                          by_cases q5 : c ≤ 200000000
                          · have g5 : decide (c ≤ 200000000) = true := decide_eq_true q5
                            have g5n : decide (200000000 < c) = false := decide_eq_false (by omega)
                            have YES2 := Lib.hid (YES.out (by rw [HOK.out, g0, g1, g2, g3, g4, g5]; rfl))
                            clear q0 q1 q2 q3 q4 q5 YES HOK NO
                            go_wp2_with fail
                            clear d1 d2 d3 g0 g0n g1 g1n g2 g2n g3 g3n g4 g4n g5 g5n x0 x1 x4
                            go_loopw [9] (fun j wr2 => ∃ m : Nat, m ≤ k ∧ j = .int .i64 m ∧ Hid (∀ e ∈ E0.take m, sameE e (a, pa, b, pb, c) = false) ∧ Hid (Below w2.heap.size w2 wr2)) (fun j _ => k - (intOf j).toNat)
                            case atStart => exact ⟨0, Nat.zero_le _, rfl, Lib.hid (by simp), KB⟩
                            case round =>
                              clear KB
                              obtain ⟨m, hm, rfl, HQ, KB⟩ := hrel
                              by_cases hmk : m < k
                              · obtain ⟨y, hy⟩ : ∃ y, E0[m]? = some y := ⟨_, List.getElem?_eq_getElem (by omega)⟩
                                obtain ⟨x0, x1, -⟩ := HE.out _ KB.out k (a, pa, b, pb, c) HX.out
                                obtain ⟨y0, y1, -⟩ := HE.out _ KB.out m y hy
                                have HT2 := Lib.hid (show E0.take (m + 1) = E0.take m ++ [y] by rw [List.take_succ_eq_append_getElem (by omega), (List.getElem?_eq_some_iff.1 hy).2])
                                have hmem : y ∈ E0.take k := List.mem_iff_getElem?.2 ⟨m, by rw [List.getElem?_take_of_lt hmk]; exact hy⟩
                                have NO := Lib.hid (show sameE y (a, pa, b, pb, c) = true → ¬ MayT ids L from fun h1 h => by
                                  have h2 := h.keys
                                  rw [← HEL.out] at h2
                                  have h3 := h2.sublist (List.take_sublist (k + 1) _)
                                  rw [HT.out, List.pairwise_append] at h3
                                  have h4 := h3.2.2 y hmem _ (List.mem_singleton_self _)
                                  rw [h1] at h4
                                  cases h4)
                                have YES := Lib.hid (show sameE y (a, pa, b, pb, c) = false → ∀ e ∈ E0.take (m + 1), sameE e (a, pa, b, pb, c) = false from fun h1 e he => by
                                  rw [HT2.out, List.mem_append] at he
                                  rcases he with he | he
                                  · exact HQ.out e he
                                  · rw [List.mem_singleton.1 he]; exact h1)
                                have d1 : decide (m < k) = true := decide_eq_true hmk
                                have d2 : decide ((m : Int) < (k : Int)) = true := decide_eq_true (by omega)
                                have d3 : decide (k ≤ m) = false := decide_eq_false (by omega)
                                have d5 : decide (ne ≤ k) = false := decide_eq_false (by omega)
                                have d6 : decide (ne ≤ m) = false := decide_eq_false (by omega)
                                have d7 : decide (0 ≤ (m : Int)) = true := decide_eq_true (by omega)
                                clear hy hmem
                                obtain ⟨ya, yp, yb, yq, yc⟩ := y
                                simp only at y0 y1
                                have HSE := Lib.hid (show sameE (ya, yp, yb, yq, yc) (a, pa, b, pb, c) = (ya == a && yp == pa) from rfl)
                                by_cases h1 : a = ya
                                · obtain ⟨e1, e2⟩ := eq_t h1
                                  obtain ⟨e1', e2'⟩ := eq_t h1.symm
                                  by_cases h2 : pa = yp
                                  · obtain ⟨e3, e4⟩ := eq_t h2
                                    obtain ⟨e3', e4'⟩ := eq_t h2.symm
                                    have NOO := Lib.hid (NO.out (by rw [HSE.out, e1', e3']; rfl))
                                    clear h1 h2 YES NO HSE e1' e2' e3' e4'
                                    go_wp2_with fail
                                    go_quiet (fail)
                                    have KB2 := Lib.hid (below_drewN KB.out nq)
                                    go_wp2_with fail
                                    go_ret
                                    exact rchk_no NOO.out (K2.out.trans (KB2.out.mono K2.out.size))
                                  · obtain ⟨e3, e4⟩ := ne_t h2
                                    obtain ⟨e3', e4'⟩ := ne_t (fun e => h2 e.symm)
                                    have YES3 := Lib.hid (YES.out (by rw [HSE.out, e3', Bool.and_false]))
                                    clear h1 h2 YES NO HSE e1' e2' e3' e4'
                                    go_wp2_with fail
                                    go_quiet (fail)
                                    have KB2 := Lib.hid (below_drewN KB.out nq)
                                    go_wp2_with fail
                                    go_roundw
                                    case rel => exact ⟨m + 1, by omega, by go_num, YES3, KB2⟩
                                    case measure => simp [intOf]; omega
                                · obtain ⟨e1, e2⟩ := ne_t h1
                                  obtain ⟨e1', e2'⟩ := ne_t (fun e => h1 e.symm)
                                  have YES3 := Lib.hid (YES.out (by rw [HSE.out, e1']; rfl))
                                  clear h1 YES NO HSE e1' e2'
                                  go_wp2_with fail
                                  go_quiet (fail)
                                  have KB2 := Lib.hid (below_drewN KB.out nq)
                                  go_wp2_with fail
                                  go_roundw
                                  case rel => exact ⟨m + 1, by omega, by go_num, YES3, KB2⟩
                                  case measure => simp [intOf]; omega
                              · obtain rfl : k = m := by omega
                                have HP2 := Lib.hid (show (E0.take (k + 1)).Pairwise fun e f => sameE e f = false by
                                  rw [HT.out, List.pairwise_append]
                                  refine ⟨HP.out, by simp, fun e he f hf => ?_⟩
                                  rw [List.mem_singleton.1 hf]
                                  exact HQ.out e he)
                                clear hmk
                                go_wp2_with fail
                                go_roundw
                                case rel => exact ⟨k + 1, by omega, by go_num, YES2, HP2, KB⟩
                                case measure => simp [intOf]; omega
                          · have g5 : decide (c ≤ 200000000) = false := decide_eq_false q5
                            have g5n : decide (200000000 < c) = true := decide_eq_true (by omega)
                            have NOO := Lib.hid (NO.out (by rw [HOK.out, g5]; simp))
                            clear q0 q1 q2 q3 q4 q5 YES HOK NO
                            go_wp2_with fail
                            go_ret
                            exact rchk_no NOO.out (K2.out.trans (KB.out.mono K2.out.size))
                        · have g4 : decide (1 ≤ c) = false := decide_eq_false q4
                          have g4n : decide (c < 1) = true := decide_eq_true (by omega)
                          have NOO := Lib.hid (NO.out (by rw [HOK.out, g4]; simp))
                          clear q0 q1 q2 q3 q4 YES HOK NO
                          go_wp2_with fail
                          go_ret
                          exact rchk_no NOO.out (K2.out.trans (KB.out.mono K2.out.size))
                      · have g3 : decide (pa ≤ 15) = false := decide_eq_false q3
                        have g3n : decide (15 < pa) = true := decide_eq_true (by omega)
                        have NOO := Lib.hid (NO.out (by rw [HOK.out, g3]; simp))
                        clear q0 q1 q2 q3 YES HOK NO
                        go_wp2_with fail
                        go_ret
                        exact rchk_no NOO.out (K2.out.trans (KB.out.mono K2.out.size))
                    · have g2 : decide (0 ≤ pa) = false := decide_eq_false q2
                      have g2n : decide (pa < 0) = true := decide_eq_true (by omega)
                      have NOO := Lib.hid (NO.out (by rw [HOK.out, g2]; simp))
                      clear q0 q1 q2 YES HOK NO
                      go_wp2_with fail
                      go_ret
                      exact rchk_no NOO.out (K2.out.trans (KB.out.mono K2.out.size))
                  · have g1 : decide (a < (n : Int)) = false := decide_eq_false q1
                    have g1n : decide ((n : Int) ≤ a) = true := decide_eq_true (by omega)
                    have NOO := Lib.hid (NO.out (by rw [HOK.out, g1]; simp))
                    clear q0 q1 YES HOK NO
                    go_wp2_with fail
                    go_ret
                    exact rchk_no NOO.out (K2.out.trans (KB.out.mono K2.out.size))
                · have g0 : decide (0 ≤ a) = false := decide_eq_false q0
                  have g0n : decide (a < 0) = true := decide_eq_true (by omega)
                  have NOO := Lib.hid (NO.out (by rw [HOK.out, g0]; simp))
                  clear q0 YES HOK NO
                  go_wp2_with fail
                  go_ret
                  exact rchk_no NOO.out (K2.out.trans (KB.out.mono K2.out.size))
              · obtain rfl : k = ne := by omega
                rw [List.take_of_length_le (by rw [HNE.out]; exact Nat.le_refl _)] at HG HP
                have E := Lib.hid (show MayT ids L from ⟨by rw [← HNN.out]; omega, by rw [← HNN.out]; omega, by omega, HN.out, by rw [← HEL.out, ← HNN.out]; exact HG.out, by rw [← HEL.out]; exact HP.out⟩)
                clear hlt HG HP
                go_wp2_with fail
                go_ret
                exact ⟨Or.inl ⟨E.out, rfl⟩, K2.out.trans (KB.out.mono K2.out.size)⟩

end Go.Proofs.Ytolmkflhddlcnaa
