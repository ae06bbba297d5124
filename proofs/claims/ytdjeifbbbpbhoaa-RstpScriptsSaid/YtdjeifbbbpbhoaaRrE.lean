/-
  The document's part: May, New; both parts side by side: looks. Contracts over the translated program.
-/
import Derived.Test.YtdjeifbbbpbhoaaRrD
import Derived.Deep.RegionLaw
namespace Go.Proofs.Ytdjeifbbbpbhoaa
open Go.RowKit
set_option linter.unusedVariables false
set_option linter.unusedSimpArgs false

theorem info_Rp : (Try.prog.info? 69).map (fun i => (i.zero, i.size, i.bytes)) = some (some (.agg #[.int .i64 0, .bool false, .bool false, .int .u64 0, .int .i64 0, .int .u64 0, .int .i64 0, .int .i64 0, .int .i64 0, .int .i64 0, .int .i64 0, .bool false]), 12, 88) := by kernel_rfl

set_option maxHeartbeats 2000000 in
set_option maxRecDepth 100000 in
theorem rmayT_c (v : Value) (cs : List Int) (w : World) (h : IntsAt w v cs) (hl : cs.length ≤ 9223372036854775807) : Calls Try.prog 9 #[v] w fun e w' => e = .returned (.bool (mayCs cs)) ∧ w = w' := by
  obtain ⟨p, cap, b, off, rfl, hp, hc⟩ := h
  have HP := Lib.hid hp
  have HC := Lib.hid hc
  clear hp hc
  by_cases h1 : cs.length < 1
  · have k1 : decide ((cs.length : Int) < 1) = true := decide_eq_true (by omega)
    have E := Lib.hid (show mayCs cs = false from Bool.eq_false_iff.2 fun h => by have := mayCs_all h; omega)
    clear h1
    go_enter Try.func9, Try.ntmps9
    go_wp2
    go_ret
    exact ⟨by rw [E.out]; rfl, rfl⟩
  · have k1 : decide ((cs.length : Int) < 1) = false := decide_eq_false (by omega)
    by_cases h2 : 16 < cs.length
    · have k2 : decide ((16 : Int) < (cs.length : Int)) = true := decide_eq_true (by omega)
      have E := Lib.hid (show mayCs cs = false from Bool.eq_false_iff.2 fun h => by have := mayCs_all h; omega)
      clear h1 h2
      go_enter Try.func9, Try.ntmps9
      go_wp2
      go_ret
      exact ⟨by rw [E.out]; rfl, rfl⟩
    · have k2 : decide ((16 : Int) < (cs.length : Int)) = false := decide_eq_false (by omega)
      go_enter Try.func9, Try.ntmps9
      go_wp2
      go_loopw [3] (fun i wr => ∃ k : Nat, k ≤ cs.length ∧ i = .int .i64 k ∧ Hid (∀ c ∈ cs.take k, 1 ≤ c ∧ c ≤ 200000000) ∧ w = wr) (fun i _ => cs.length - (intOf i).toNat)
      case atStart => exact ⟨0, Nat.zero_le _, rfl, Lib.hid (fun c hc => by simp at hc), rfl⟩
      case round =>
        obtain ⟨k, hk, rfl, HG, rfl⟩ := hrel
        by_cases hlt : k < cs.length
        · have hne : cs ≠ [] := by rintro rfl; simp at hlt
          obtain rfl := HP.out hne
          have xc := HC.out k _ (List.getElem?_eq_getElem hlt)
          have HT := Lib.hid (show cs.take (k + 1) = cs.take k ++ [cs[k]] from List.take_succ_eq_append_getElem hlt)
          have HMEM := Lib.hid (List.getElem_mem hlt)
          generalize cs[k] = c at xc HT HMEM
          have hk1 : decide (cs.length ≤ k) = false := decide_eq_false (by omega)
          clear hne
          by_cases hc1 : c < 1
          · have d1 : decide (c < 1) = true := decide_eq_true hc1
            have E := Lib.hid (show mayCs cs = false from Bool.eq_false_iff.2 fun h => by have := (mayCs_all h).2.2 c HMEM.out; omega)
            clear hc1
            go_wp2
            go_ret
            exact ⟨by rw [E.out]; rfl, rfl⟩
          · have d1 : decide (c < 1) = false := decide_eq_false hc1
            by_cases hc2 : 200000000 < c
            · have d2 : decide (200000000 < c) = true := decide_eq_true hc2
              have E := Lib.hid (show mayCs cs = false from Bool.eq_false_iff.2 fun h => by have := (mayCs_all h).2.2 c HMEM.out; omega)
              clear hc1 hc2
              go_wp2
              go_ret
              exact ⟨by rw [E.out]; rfl, rfl⟩
            · have d2 : decide (200000000 < c) = false := decide_eq_false hc2
              have HG1 := Lib.hid (show ∀ x ∈ cs.take (k + 1), 1 ≤ x ∧ x ≤ 200000000 from fun x hx => by
                rw [HT.out] at hx
                rcases List.mem_append.1 hx with hx | hx
                · exact HG.out x hx
                · simp at hx; omega)
              clear hc1 hc2
              go_wp2
              go_roundw
              case rel => exact ⟨k + 1, by omega, by go_num, HG1, by trivial⟩
              case measure => simp [intOf]; omega
        · obtain rfl : k = cs.length := by omega
          rw [List.take_of_length_le (Nat.le_refl _)] at HG
          have E := Lib.hid (show mayCs cs = true by
            unfold mayCs
            simp
            exact ⟨⟨by omega, by omega⟩, HG.out⟩)
          clear hlt h1 h2
          go_wp2
          go_ret
          exact ⟨by rw [E.out]; rfl, rfl⟩

def isQ (t : TypeId) : Bool := t == 69
/-- The document's part in the making. -/
structure MkR (W w : World) (q : Nat) (sv : Value) (b : Int) (cs : List Int) : Prop where
  tree : w.heap[q]? = some (.cells (rpartC (newRPart b []) sv) 67 (0, 0))
  own : w.ownsRow W.heap.size 69 12 sv cs.length ((cs.map newRPrt).flatMap cellsRP)
  bel : Below W.heap.size W w
  geQ : W.heap.size ≤ q
theorem newRPart_good (b : Int) (cs : List Int) : (newRPart b cs).Good := ⟨Int.le_refl 0, by show (0 : Int) ≤ 1099511627776; decide, by show (-1 : Int) ≤ -1; decide, by show (-1 : Int) ≤ 1099511627776; decide, fun p hp => by
  obtain ⟨c, hc, rfl⟩ := List.mem_map.1 hp
  exact ⟨Int.le_refl 0, by show (0 : Int) ≤ 1099511627776; decide, by show (-1 : Int) ≤ -1; decide, by show (-1 : Int) ≤ 1099511627776; decide, by show (-9223372036854775808 : Int) ≤ 0; decide⟩⟩
theorem mkr_done {W w : World} {q : Nat} {sv : Value} {b : Int} {cs : List Int} (h : MkR W w q sv b cs) (h1 : 1 ≤ cs.length) (h16 : cs.length ≤ 16) : ∃ rb cap, HasR w W.heap.size q rb cap (newRPart b cs) := by
  have hl : (newRPart b cs).ps.length = cs.length := List.length_map _
  rcases h.own.2 with ⟨_, h0⟩ | ⟨g, cap, cur, rfl, hb, hg, k1, k2, k3, k4⟩
  · omega
  · refine ⟨g, cap, ?_, ?_, h.geQ, by rw [hl]; exact h1, by rw [hl]; exact h16, newRPart_good b cs⟩
    · rw [hl]
      exact h.tree
    · rw [hl]
      exact h.own

set_option maxHeartbeats 4000000 in
set_option maxRecDepth 100000 in
theorem rnewT_c (b : Int) (v : Value) (cs : List Int) (w : World) (h : IntsAt w v cs) (h1 : 1 ≤ cs.length) (h16 : cs.length ≤ 16) : Calls Try.prog 11 #[.int .u64 b, v] w fun e w' => ∃ q rb cap, e = .returned (.pointer (some ⟨q, 0, none⟩)) ∧ HasR w' w.heap.size q rb cap (newRPart b cs) ∧ Below w.heap.size w w' := by
  obtain ⟨bb, off, cap, rfl, hc⟩ := h.cell (k := 0) h1
  have HC := Lib.hid hc
  clear h hc
  have HO := Lib.hid fun U => rown_c b U
  obtain ⟨i0, hi, hz0, hz1, hz2⟩ := info_parts info_Rp
  go_enter Try.func11, Try.ntmps11
  go_wp2_with fail
  ((with_reducible refine (HO.out _).mono ?_); rintro e w1 ⟨rfl, hw1⟩)
  have M0 := Lib.hid (show MkR w (w1.alloc (.cells #[.int .u64 b, .slice none 0 0, .int .i64 0, .int .i64 (-1), .int .u64 b, .int .i64 0, .int .u64 b, .int .i64 0, .int .i64 (-1)] 67)) w1.heap.size (.slice none 0 0) b [] from ⟨heap_new _ _, World.ownsRow_nil _ _ _ _, hw1.alloc hw1.size _, hw1.size⟩)
  clear hw1 HO
  go_upto_region 2 with fail
  generalize w1.alloc (.cells #[.int .u64 b, .slice none 0 0, .int .i64 0, .int .i64 (-1), .int .u64 b, .int .i64 0, .int .u64 b, .int .i64 0, .int .i64 (-1)] 67) = w2 at M0 ⊢
  generalize w1.heap.size = q at M0 ⊢
  go_wp2_with fail
  go_loopw [6] (fun i wr => ∃ (k : Nat) (sv : Value), k ≤ cs.length ∧ i = .int .i64 k ∧ Hid (MkR w wr q sv b (cs.take k))) (fun i _ => cs.length - (intOf i).toNat)
  case atStart => exact ⟨0, _, Nat.zero_le _, rfl, M0⟩
  case round =>
    obtain ⟨k, sv, hk, rfl, HM⟩ := hrel
    by_cases hlt : k < cs.length
    · have xc := gcell_below HM.out.bel (HC.out k hlt)
      have HT := Lib.hid (show cs.take (k + 1) = cs.take k ++ [cs[k]] from List.take_succ_eq_append_getElem hlt)
      have HL := Lib.hid (show (cs.take k).length = k by rw [List.length_take]; omega)
      generalize cs[k] = c at xc HT
      have hk1 : decide (cs.length ≤ k) = false := decide_eq_false (by omega)
      have x1 : wr.cell? ⟨q, 1, none⟩ = some sv := cell_of_block HM.out.tree rfl
      have hlt2 : q < wr.heap.size := gcell_lt x1
      have hlt3 : bb < wr.heap.size := gcell_lt xc
      have ho := HM.out.own
      rw [HL.out] at ho
      have OA := Lib.hid (show ((wr.alloc (.cells #[.int .i64 c, .bool false, .bool false, .int .u64 0, .int .i64 0, .int .u64 0, .int .i64 0, .int .i64 0, .int .i64 0, .int .i64 0, .int .i64 (-1), .bool false] 69)).drew).ownsRow w.heap.size 69 12 sv k (((cs.take k).map newRPrt).flatMap cellsRP) from ho.alloc _)
      have CA := Lib.hid (show ∀ j u, ([.int .i64 c, .bool false, .bool false, .int .u64 0, .int .i64 0, .int .u64 0, .int .i64 0, .int .i64 0, .int .i64 0, .int .i64 0, .int .i64 (-1), .bool false] : List Value)[j]? = some u → ((wr.alloc (.cells #[.int .i64 c, .bool false, .bool false, .int .u64 0, .int .i64 0, .int .u64 0, .int .i64 0, .int .i64 0, .int .i64 0, .int .i64 0, .int .i64 (-1), .bool false] 69)).drew).cell? ((⟨wr.heap.size, 0, none⟩ : Addr).add j) = some u from cells_new wr [.int .i64 c, .bool false, .bool false, .int .u64 0, .int .i64 0, .int .u64 0, .int .i64 0, .int .i64 0, .int .i64 0, .int .i64 0, .int .i64 (-1), .bool false] 69)
      have hsz1 := Lib.hid (show w.heap.size ≤ ((wr.alloc (.cells #[.int .i64 c, .bool false, .bool false, .int .u64 0, .int .i64 0, .int .u64 0, .int .i64 0, .int .i64 0, .int .i64 0, .int .i64 0, .int .i64 (-1), .bool false] 69)).drew).heap.size by have := HM.out.bel.size; show _ ≤ (wr.alloc _).heap.size; simp; omega)
      have n1 := Lib.hid (show k + 1 ≤ maxLen by unfold maxLen; omega)
      have n2 := Lib.hid (show (k + 1) * 88 ≤ 140737488355328 by omega)
      have oc := Lib.hid (show ∀ u ∈ ([.int .i64 c, .bool false, .bool false, .int .u64 0, .int .i64 0, .int .u64 0, .int .i64 0, .int .i64 0, .int .i64 0, .int .i64 0, .int .i64 (-1), .bool false] : List Value), u.oneCell' = true from fun u hu => by simp at hu; rcases hu with rfl | rfl | rfl | rfl | rfl | rfl | rfl | rfl | rfl | rfl | rfl | rfl <;> rfl)
      have BA := Lib.hid (show Below w.heap.size w ((wr.alloc (.cells #[.int .i64 c, .bool false, .bool false, .int .u64 0, .int .i64 0, .int .u64 0, .int .i64 0, .int .i64 0, .int .i64 0, .int .i64 0, .int .i64 (-1), .bool false] 69)).drew) from (HM.out.bel.alloc HM.out.bel.size _).drew)
      have TA := Lib.hid (show ((wr.alloc (.cells #[.int .i64 c, .bool false, .bool false, .int .u64 0, .int .i64 0, .int .u64 0, .int .i64 0, .int .i64 0, .int .i64 0, .int .i64 0, .int .i64 (-1), .bool false] 69)).drew).heap[q]? = some (.cells (rpartC (newRPart b []) sv) 67 (0, 0)) from heap_old HM.out.tree)
      clear ho
      go_wp2_with fail
      go_region_law (first
        | (refine step_append_lies _ rfl _ _ 65 rfl w.heap.size 69 i0 (.agg #[.int .i64 0, .bool false, .bool false, .int .u64 0, .int .i64 0, .int .u64 0, .int .i64 0, .int .i64 0, .int .i64 0, .int .i64 0, .int .i64 0, .bool false]) 12 88 Try.underlying65 hi hz0 hz1 hz2 rfl (by decide) sv k (((cs.take k).map newRPrt).flatMap cellsRP) rfl OA.out ⟨wr.heap.size, 0, none⟩ 1 1 [.int .i64 c, .bool false, .bool false, .int .u64 0, .int .i64 0, .int .u64 0, .int .i64 0, .int .i64 0, .int .i64 0, .int .i64 0, .int .i64 (-1), .bool false] rfl rfl CA.out oc.out (by decide) n1.out n2.out hsz1.out _ rfl ?_; intro g7 c7 w7 hown7 hg7 hat7 hlt7; have T7 := Lib.hid ((Tt.grown (P := isQ) OA.out (by decide) hg7).cells TA.out (by decide)); have B7 := Lib.hid (BA.out.grown hg7 hsz1.out (fun j hj => (OA.out.lt j hj).1)); have OW7 := Lib.hid hown7; have z1 := cell_of_block (j := 1) T7.out rfl; have fr := free_of_block (j := 1) T7.out; clear hown7 hg7 hat7 hlt7))
      all_goals
        have M8 := Lib.hid (show MkR w (w7.setCell ⟨q, 1, none⟩ (.slice (some ⟨g7, 0, none⟩) (k + 1) c7)) q (.slice (some ⟨g7, 0, none⟩) (k + 1) c7) b (cs.take (k + 1)) from by
          refine ⟨heap_store T7.out, ?_, B7.out.setCell (p := ⟨q, 1, none⟩) HM.out.geQ _, HM.out.geQ⟩
          rw [HT.out, List.map_append, List.flatMap_append, List.length_append, HL.out]
          exact owns_only OW7.out (Only.setCell w7 q 1 _) T7.out (by decide))
        clear z1 fr x1 xc hlt2 hlt3 hk1
        go_wp2_with fail
        go_roundw
        case rel => exact ⟨k + 1, _, by omega, by go_num, M8⟩
        case measure => simp [intOf]; omega
    · obtain rfl : k = cs.length := by omega
      rw [List.take_of_length_le (Nat.le_refl _)] at HM
      clear hlt
      have HD := Lib.hid (mkr_done HM.out h1 h16)
      have HB := Lib.hid HM.out.bel
      go_wp2_with fail
      go_ret
      obtain ⟨rb, cap', hd⟩ := HD.out
      exact ⟨q, rb, cap', rfl, hd, HB.out⟩

/-- BOTH PARTS. -/
structure Two (w0 W : World) (t rb cap : Nat) (A : List Nat) (T : Part) (q rb2 cap2 : Nat) (R : RPart) : Prop where
  s : SSt w0 W t rb cap A T
  r : HasR W w0.heap.size q rb2 cap2 R
section
variable {w0 W W' : World} {t rb cap : Nat} {A : List Nat} {T T' : Part} {q rb2 cap2 : Nat} {R R' : RPart}
theorem Two.below (h : Two w0 W t rb cap A T q rb2 cap2 R) (k : Below W.heap.size W W') : Two w0 W' t rb cap A T q rb2 cap2 R := ⟨h.s.below k, h.r.below k⟩
theorem Two.drewN (h : Two w0 W t rb cap A T q rb2 cap2 R) (n : Nat) : Two w0 (W.drewN n) t rb cap A T q rb2 cap2 R := ⟨h.s.drewN n, h.r.drewN n⟩
theorem Two.ts (h : Two w0 W t rb cap A T q rb2 cap2 R) (s : SSt w0 W' t rb cap A T') (k : Tt isS w0.heap.size W W') : Two w0 W' t rb cap A T' q rb2 cap2 R := ⟨s, h.r.tt k (by decide) (by decide)⟩
theorem Two.tr (h : Two w0 W t rb cap A T q rb2 cap2 R) (r : HasR W' w0.heap.size q rb2 cap2 R') (k : Tt isR w0.heap.size W W') : Two w0 W' t rb cap A T q rb2 cap2 R' := ⟨⟨h.s.has.tt k (by decide) (by decide) (by decide) (by decide), h.s.bel.trans (k.below (Nat.le_refl _) h.s.bel.size)⟩, r⟩

set_option maxHeartbeats 8000000 in
set_option maxRecDepth 100000 in
theorem looks_c (h : Two w0 W t rb cap A T q rb2 cap2 R) (hf : Full T R) : Calls Try.prog 12 #[.pointer (some ⟨t, 0, none⟩), .pointer (some ⟨q, 0, none⟩)] W fun e w' => e = .returned (.bool true) ∧ Below W.heap.size W w' := by
  have H := Lib.hid h
  have HF := Lib.hid hf
  obtain ⟨n, hn⟩ : ∃ n, n = R.ps.length := ⟨_, rfl⟩
  have hl := h.r.n16
  rw [← hn] at hl
  have HN := Lib.hid hn
  have HA := Lib.hid (show A.length = n by rw [hn, ← h.s.has.len]; exact hf.rel.len)
  clear h hf hn
  go_enter Try.func12, Try.ntmps12
  go_wp2_with fail
  go_loopw [5, 6, 7] (fun i _ _ wr => ∃ (k m : Nat) (j : Int), k ≤ n + 2 ∧ i = .int .i64 j ∧ Hid (j = (k : Int) - 1) ∧ Hid (wr = W.drewN m)) (fun i _ _ _ => n + 2 - (intOf i + 1).toNat)
  case atStart => exact ⟨0, 0, -1, Nat.zero_le _, rfl, Lib.hid rfl, Lib.hid rfl⟩
  case round =>
    obtain ⟨k, m, j, hk, rfl, HJ, HW⟩ := hrel
    have j0 : -1 ≤ j := by have := HJ.out; omega
    have j1 : j ≤ (n : Int) + 1 := by have := HJ.out; omega
    have HD := Lib.hid (show Two w0 wr t rb cap A T q rb2 cap2 R by rw [HW.out]; exact H.out.drewN m)
    have c1 : wr.cell? ⟨q, 1, none⟩ = some (.slice (some ⟨rb2, 0, none⟩) n cap2) := by have := HD.out.r.c1; rwa [← HN.out] at this
    by_cases hend : j ≤ (n : Int)
    · have de : decide (j ≤ (n : Int)) = true := decide_eq_true hend
      by_cases hin : 0 ≤ j ∧ j < (n : Int)
      · obtain ⟨hi0, hi1⟩ := hin
        obtain ⟨jj, rfl⟩ : ∃ jj : Nat, j = jj := ⟨j.toNat, by omega⟩
        have hjn : jj < n := by omega
        obtain ⟨a, p, ha, hp, -⟩ := HD.out.s.has.pair (k := jj) (by rw [HA.out]; exact hjn)
        obtain ⟨r, hr⟩ : ∃ r, R.ps[jj]? = some r := ⟨_, List.getElem?_eq_getElem (by rw [← HN.out]; exact hjn)⟩
        have rel := HF.out.rel.ps jj p r hp hr
        have C1 := Lib.hid (role_yes HD.out.s.has ha hp)
        rw [rel.role] at C1
        have C2 := Lib.hid (forwards_yes HD.out.s.has ha hp)
        rw [rel.fwd] at C2
        have C3 := Lib.hid (learns_yes HD.out.s.has ha hp)
        rw [HF.out.learns jj p r hp hr] at C3
        have C4 := Lib.hid (rlearns_yes HD.out.r hr)
        have y9 := HD.out.r.p9 hr
        have y11 := HD.out.r.p11 hr
        have d1 : decide (0 ≤ (jj : Int)) = true := decide_eq_true hi0
        have d2 : decide ((jj : Int) < (n : Int)) = true := decide_eq_true hi1
        have d3 : decide (n ≤ jj) = false := decide_eq_false (by omega)
        have d4 : decide (jj < n) = true := decide_eq_true hjn
        generalize r.learns R.now = lr at C3 C4
        clear ha hp hr rel
        go_wp2_with (first | (go_at_call 17; (with_reducible refine C1.out.mono ?_); rintro e w8 ⟨rfl, rfl⟩) | (go_at_call 19; (with_reducible refine C2.out.mono ?_); rintro e w8 ⟨rfl, rfl⟩) | (go_at_call 18; (with_reducible refine C3.out.mono ?_); rintro e w8 ⟨rfl, rfl⟩) | (go_at_call 25; (with_reducible refine C4.out.mono ?_); rintro e w8 ⟨rfl, m2, rfl⟩))
        go_roundw
        case rel => exact ⟨k + 1, m + m2, (jj : Int) + 1, by have := HJ.out; omega, by first | rfl | go_num, Lib.hid (by have := HJ.out; omega), Lib.hid (by rw [HW.out]; simp [World.drewN, Nat.add_assoc])⟩
        case measure => simp [intOf]; omega
      · have hno : j < 0 ∨ (n : Int) ≤ j := by omega
        have C1 := Lib.hid (role_no HD.out.s.has j (by rw [HA.out]; exact hno))
        have C2 := Lib.hid (forwards_no HD.out.s.has j (by rw [HA.out]; exact hno))
        have C3 := Lib.hid (learns_no HD.out.s.has j (by rw [HA.out]; exact hno))
        have C4 := Lib.hid (rlearns_no HD.out.r j (by rw [← HN.out]; exact hno))
        clear hin
        by_cases hneg : j < 0
        · have d1 : decide (0 ≤ j) = false := decide_eq_false (by omega)
          go_wp2_with (first | (go_at_call 17; (with_reducible refine C1.out.mono ?_); rintro e w8 ⟨rfl, rfl⟩) | (go_at_call 19; (with_reducible refine C2.out.mono ?_); rintro e w8 ⟨rfl, rfl⟩) | (go_at_call 18; (with_reducible refine C3.out.mono ?_); rintro e w8 ⟨rfl, rfl⟩) | (go_at_call 25; (with_reducible refine C4.out.mono ?_); rintro e w8 ⟨rfl, m2, rfl⟩))
          go_roundw
          case rel => exact ⟨k + 1, m + m2, j + 1, by have := HJ.out; omega, by first | rfl | go_num, Lib.hid (by have := HJ.out; omega), Lib.hid (by rw [HW.out]; simp [World.drewN, Nat.add_assoc])⟩
          case measure => simp [intOf]; omega
        · have d1 : decide (0 ≤ j) = true := decide_eq_true (by omega)
          have d2 : decide (j < (n : Int)) = false := decide_eq_false (by omega)
          go_wp2_with (first | (go_at_call 17; (with_reducible refine C1.out.mono ?_); rintro e w8 ⟨rfl, rfl⟩) | (go_at_call 19; (with_reducible refine C2.out.mono ?_); rintro e w8 ⟨rfl, rfl⟩) | (go_at_call 18; (with_reducible refine C3.out.mono ?_); rintro e w8 ⟨rfl, rfl⟩) | (go_at_call 25; (with_reducible refine C4.out.mono ?_); rintro e w8 ⟨rfl, m2, rfl⟩))
          go_roundw
          case rel => exact ⟨k + 1, m + m2, j + 1, by have := HJ.out; omega, by first | rfl | go_num, Lib.hid (by have := HJ.out; omega), Lib.hid (by rw [HW.out]; simp [World.drewN, Nat.add_assoc])⟩
          case measure => simp [intOf]; omega
    · have de : decide (j ≤ (n : Int)) = false := decide_eq_false hend
      have HB := Lib.hid (show Below W.heap.size W wr by rw [HW.out]; exact below_drewN (Below.refl _ _) m)
      have c4 := HD.out.r.c4
      have c5 := HD.out.r.c5
      have c6 := HD.out.r.c6
      have c7 := HD.out.r.c7
      have c8 := HD.out.r.c8
      have RO := Lib.hid fun (U : World) (kz : Below wr.heap.size wr U) => (root_c (HD.out.s.has.below kz)).mono (R' := fun e w' => e = .returned (.agg #[.int .u64 R.best.1, .int .i64 R.best.2.1, .int .u64 R.best.2.2.1, .int .i64 R.best.2.2.2]) ∧ Below wr.heap.size wr w') (by rintro e w' ⟨rfl, hb⟩; exact ⟨by rw [HF.out.rel.best], kz.trans (hb.mono kz.size)⟩)
      have CH := Lib.hid fun (U : World) (kz : Below wr.heap.size wr U) => (changed_c (HD.out.s.has.below kz)).mono (R' := fun e w' => e = .returned (.int .i64 R.chg) ∧ U = w') (by rintro e w' ⟨rfl, hb⟩; exact ⟨by rw [HF.out.rel.chg, Int.add_sub_cancel], hb⟩)
      have KF := Lib.hid fun (U : World) (kz : Below wr.heap.size wr U) => (⟨gcell_below kz c4, gcell_below kz c5, gcell_below kz c6, gcell_below kz c7, gcell_below kz c8, kz⟩ : U.cell? ⟨q, 4, none⟩ = some (.int .u64 R.best.1) ∧ U.cell? ⟨q, 5, none⟩ = some (.int .i64 R.best.2.1) ∧ U.cell? ⟨q, 6, none⟩ = some (.int .u64 R.best.2.2.1) ∧ U.cell? ⟨q, 7, none⟩ = some (.int .i64 R.best.2.2.2) ∧ U.cell? ⟨q, 8, none⟩ = some (.int .i64 R.chg) ∧ Below wr.heap.size wr U)
      generalize R.best = bst at c4 c5 c6 c7 RO KF
      generalize R.chg = ch at c8 CH KF
      obtain ⟨v1, v2, v3, v4⟩ := bst
      have E1 := fun U => eql_V v1 v2 v3 v4 v1 v2 v3 v4 U
      have E2 := fun U => equalIn_V v1 v2 v3 v4 v1 v2 v3 v4 U
      rw [eqV_self] at E1 E2
      have E3 := guard_V
      have E4 : (ch == ch) = true := by simp
      have k0 := (Below.refl wr.heap.size wr).drew
      simp only at c4 c5 c6 c7 RO KF
      clear hend hk j0 j1
      go_wp2_with fail
      go_region_held3 (fun U => U.cell? ⟨q, 4, none⟩ = some (.int .u64 v1) ∧ U.cell? ⟨q, 5, none⟩ = some (.int .i64 v2) ∧ U.cell? ⟨q, 6, none⟩ = some (.int .u64 v3) ∧ U.cell? ⟨q, 7, none⟩ = some (.int .i64 v4) ∧ U.cell? ⟨q, 8, none⟩ = some (.int .i64 ch) ∧ Below wr.heap.size wr U)
        (first | with_reducible exact KF.out _ k8 | with_reducible exact KF.out _ k0)
        (first
          | (go_at_call 20; (with_reducible refine (RO.out _ k0).mono ?_); rintro e w8 ⟨rfl, k8⟩)
          | (go_at_call 21; (with_reducible refine (CH.out _ k8).mono ?_); rintro e w9 ⟨rfl, rfl⟩))
      all_goals
        go_wp2_with fail
        go_ret
        exact ⟨by simp, HB.out.trans (k8.mono HB.out.size)⟩
end

end Go.Proofs.Ytdjeifbbbpbhoaa
