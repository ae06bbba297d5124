/-
  VLANs: the document's rises and SameInts; member. Contracts over the translated program.
-/
import Derived.Test.YtgoibogpebbkaaaVlA
namespace Go.Proofs.Ytgoibogpebbkaaa
open Go.RowKit
set_option linter.unusedVariables false

set_option maxHeartbeats 1000000 in
set_option maxRecDepth 100000 in
theorem sameI_c (v1 v2 : Value) (l : List Int) (w : World) (hl : l.length ≤ 9223372036854775807) (h1 : IntsAt w v1 l) (h2 : IntsAt w v2 l) :
    Calls Try.prog 13 #[v1, v2] w fun e w' => e = .returned (.bool true) ∧ ∃ n, w' = w.drewN n := by
  obtain ⟨p1, c1, b1, o1, rfl, hp1, hc1⟩ := h1
  obtain ⟨p2, c2, b2, o2, rfl, hp2, hc2⟩ := h2
  have HP1 := Lib.hid hp1
  have HP2 := Lib.hid hp2
  have HC1 := Lib.hid hc1
  have HC2 := Lib.hid hc2
  clear hp1 hp2 hc1 hc2
  go_enter Try.func13, Try.ntmps13
  go_wp2
  go_loopw [5] (fun i wr => ∃ k n : Nat, k ≤ l.length ∧ i = .int .i64 k ∧ wr = w.drewN n) (fun i _ => l.length - (intOf i).toNat)
  case atStart => exact ⟨0, 0, Nat.zero_le _, rfl, rfl⟩
  case round =>
    obtain ⟨k, n, hk, rfl, rfl⟩ := hrel
    by_cases hlt : k < l.length
    · have hne : l ≠ [] := by rintro rfl; simp at hlt
      obtain rfl := HP1.out hne
      obtain rfl := HP2.out hne
      have hs : l[k]? = some l[k] := List.getElem?_eq_getElem hlt
      have x1 := HC1.out k _ hs
      have x2 := HC2.out k _ hs
      generalize l[k] = s at x1 x2
      clear hs hne
      have hlt' : (k : Int) < (l.length : Int) := by omega
      go_wp2
      go_quiet (fail)
      go_wp2
      go_roundw
      case rel => exact ⟨k + 1, _, by omega, by go_num, rfl⟩
      case measure => simp [intOf]; omega
    · obtain rfl : k = l.length := by omega
      go_wp2
      go_ret
      exact ⟨rfl, _, rfl⟩

theorem ris_pos (l : List Int) (k : Nat) (h : k < l.length) (hr : risGo 0 (l.take k) = true) : (∃ hk : 0 < k, lastGo 0 (l.take k) = l[k - 1]'(by omega)) ∨ (k = 0 ∧ lastGo 0 (l.take k) = 0) := by
  rcases k with _ | k
  · exact .inr ⟨rfl, rfl⟩
  · refine .inl ⟨by omega, ?_⟩
    rw [List.take_succ_eq_append_getElem (by omega), lastGo_snoc]
    rfl

set_option maxHeartbeats 2000000 in
set_option maxRecDepth 100000 in
theorem rises_c (u : Value) (l : List Int) (w : World) (hl : l.length ≤ 9223372036854775807) (ha : IntsAt w u l) :
    Calls Try.prog 22 #[u] w fun e w' => e = .returned (.bool (risB l)) ∧ ∃ n, w' = w.drewN n := by
  obtain ⟨p, cap, b, off, rfl, hp, hc⟩ := ha
  have HP := Lib.hid hp
  have HC := Lib.hid hc
  clear hp hc
  go_enter Try.func22, Try.ntmps22
  go_wp2_with fail
  go_loopw [3] (fun i wr => ∃ k n : Nat, k ≤ l.length ∧ i = .int .i64 k ∧ Hid (risGo 0 (l.take k) = true) ∧ wr = w.drewN n) (fun i _ => l.length - (intOf i).toNat)
  case atStart => exact ⟨0, 0, Nat.zero_le _, rfl, Lib.hid rfl, rfl⟩
  case round =>
    obtain ⟨k, n, hk, rfl, hall, rfl⟩ := hrel
    by_cases hlt : k < l.length
    · have hne : l ≠ [] := by rintro rfl; simp at hlt
      obtain rfl := HP.out hne
      have x1 := HC.out k _ (List.getElem?_eq_getElem hlt)
      obtain ⟨s1, s2, s3⟩ := ris_step l k hlt hall.out
      have S2 := Lib.hid s2
      have S3 := Lib.hid s3
      have hlo := ris_lo l k hall.out
      have hlt' : (k : Int) < (l.length : Int) := by omega
      clear s1 s2 s3 hne
      rcases ris_pos l k hlt hall.out with ⟨hk0, hla⟩ | ⟨hk0, hla⟩
      · have x2 := HC.out (k - 1) _ (List.getElem?_eq_getElem (by omega))
        obtain ⟨j, rfl⟩ : ∃ j, k = j + 1 := ⟨k - 1, by omega⟩
        rw [hla] at S2 S3 hlo
        clear hla
        have e1 : ((j + 1 : Nat) : Int) - 1 = (j : Int) := by omega
        simp only [Nat.add_sub_cancel] at x2 S2 S3 hlo
        generalize l[j] = a at x2 S2 S3 hlo
        generalize l[j + 1] = x at x1 S2 S3
        have d0 : decide ((0 : Int) < ((j + 1 : Nat) : Int)) = true := decide_eq_true (by omega)
        have hw : IntKind.i64.wrap (((j + 1 : Nat) : Int) - 1) = (j : Int) := by rw [e1]; exact IntWalk.i64_in _ (by omega)
        have hn : ((j : Int)).toNat = j := by omega
        have hj0 : (0 : Int) ≤ (j : Int) := by omega
        have hj1 : (j : Int) < (l.length : Int) := by omega
        clear e1
        by_cases h1 : x < 1
        · have d1 : decide (x < 1) = true := decide_eq_true h1
          have V := Lib.hid (S3.out (fun h => by omega))
          clear h1 hlo
          go_wp2_with fail
          go_quiet (fail)
          go_wp2_with fail
          go_ret
          exact ⟨by rw [V.out]; rfl, _, by first | rw [World.drewN_drewN] | rfl⟩
        · have d1 : decide (x < 1) = false := decide_eq_false h1
          by_cases h2 : 4094 < x
          · have d2 : decide (4094 < x) = true := decide_eq_true h2
            have V := Lib.hid (S3.out (fun h => by omega))
            clear h1 h2 hlo
            go_wp2_with fail
            go_quiet (fail)
            go_wp2_with fail
            go_ret
            exact ⟨by rw [V.out]; rfl, _, by first | rw [World.drewN_drewN] | rfl⟩
          · have d2 : decide (4094 < x) = false := decide_eq_false h2
            by_cases h3 : x ≤ a
            · have d3 : decide (x ≤ a) = true := decide_eq_true h3
              have V := Lib.hid (S3.out (fun h => by omega))
              clear h1 h2 h3 hlo
              go_wp2_with fail
              go_quiet (fail)
              go_wp2_with fail
              go_ret
              exact ⟨by rw [V.out]; rfl, _, by first | rw [World.drewN_drewN] | rfl⟩
            · have d3 : decide (x ≤ a) = false := decide_eq_false h3
              have A2 := Lib.hid (S2.out (by omega) (by omega))
              clear h1 h2 h3 hlo
              go_wp2_with fail
              go_quiet (fail)
              go_wp2_with fail
              go_roundw
              case rel => exact ⟨j + 1 + 1, _, by omega, by go_num, A2, rfl⟩
              case measure => simp [intOf]; omega
      · rw [hla] at S2 S3
        clear hla hlo
        have d0 : decide (0 < k) = false := decide_eq_false (by omega)
        clear hk0
        generalize l[k] = x at x1 S2 S3
        by_cases h1 : x < 1
        · have d1 : decide (x < 1) = true := decide_eq_true h1
          have V := Lib.hid (S3.out (fun h => by omega))
          clear h1
          go_wp2_with fail
          go_quiet (fail)
          go_wp2_with fail
          go_ret
          exact ⟨by rw [V.out]; rfl, _, by first | rw [World.drewN_drewN] | rfl⟩
        · have d1 : decide (x < 1) = false := decide_eq_false h1
          by_cases h2 : 4094 < x
          · have d2 : decide (4094 < x) = true := decide_eq_true h2
            have V := Lib.hid (S3.out (fun h => by omega))
            clear h1 h2
            go_wp2_with fail
            go_quiet (fail)
            go_wp2_with fail
            go_ret
            exact ⟨by rw [V.out]; rfl, _, by first | rw [World.drewN_drewN] | rfl⟩
          · have d2 : decide (4094 < x) = false := decide_eq_false h2
            have A2 := Lib.hid (S2.out (by omega) (by omega))
            clear h1 h2
            go_wp2_with fail
            go_quiet (fail)
            go_wp2_with fail
            go_roundw
            case rel => exact ⟨k + 1, _, by omega, by go_num, A2, rfl⟩
            case measure => simp [intOf]; omega
    · obtain rfl : k = l.length := by omega
      have V := Lib.hid (show risB l = true by have h := hall.out; rw [List.take_length] at h; exact h)
      clear hlt
      go_wp2_with fail
      go_ret
      exact ⟨by rw [V.out]; rfl, _, by first | rw [World.drewN_drewN] | rfl⟩

set_option maxHeartbeats 1000000 in
set_option maxRecDepth 100000 in
theorem member_c (r : Pt) (vt vp : Value) (v : Int) (w : World) (h1 : r.tag.length ≤ 9223372036854775807) (h2 : r.pln.length ≤ 9223372036854775807) (a1 : IntsAt w vt r.tag) (a2 : IntsAt w vp r.pln) :
    Calls Try.prog 20 #[.agg #[.int .i64 r.dft, vt, vp], .int .i64 v] w fun e w' => e = .returned (.bool (memB r v)) ∧ Below w.heap.size w w' := by
  obtain ⟨d, tg, pl⟩ := r
  simp only at h1 h2 a1 a2 ⊢
  obtain ⟨p1, c1, rfl⟩ := a1.slice
  obtain ⟨p2, c2, rfl⟩ := a2.slice
  have B := IBox.start w #[.int .i64 d, .slice p1 tg.length c1, .slice p2 pl.length c2] 38
  have H1 := Lib.hid (contains_c _ tg v _ h1 (a1.below B.2))
  have H2 := Lib.hid (contains_c _ pl v _ h2 (a2.below B.2))
  have V := Lib.hid (show memB ⟨d, tg, pl⟩ v = (hasB tg v || hasB pl v) from rfl)
  generalize memB ⟨d, tg, pl⟩ v = r at V ⊢
  generalize hasB tg v = r1 at H1 V
  generalize hasB pl v = r2 at H2 V
  generalize tg.length = n1 at *
  generalize pl.length = n2 at *
  have HB := Lib.hid B.2
  clear a1 a2 h1 h2 B
  cases r1
  · go_enter Try.func20, Try.ntmps20
    go_wp2_with fail
    ((with_reducible refine H1.out.mono ?_); rintro e w1 ⟨rfl, rfl⟩)
    go_wp2_with fail
    ((with_reducible refine H2.out.mono ?_); rintro e w1 ⟨rfl, rfl⟩)
    go_wp2_with fail
    go_ret
    exact ⟨by rw [V.out]; rfl, HB.out⟩
  · go_enter Try.func20, Try.ntmps20
    go_wp2_with fail
    ((with_reducible refine H1.out.mono ?_); rintro e w1 ⟨rfl, rfl⟩)
    go_wp2_with fail
    go_ret
    exact ⟨by rw [V.out]; rfl, HB.out⟩

set_option maxHeartbeats 1000000 in
set_option maxRecDepth 100000 in
theorem rmember_c (r : Pt) (vt vp : Value) (v : Int) (w : World) (h1 : r.tag.length ≤ 9223372036854775807) (h2 : r.pln.length ≤ 9223372036854775807) (a1 : IntsAt w vt r.tag) (a2 : IntsAt w vp r.pln) :
    Calls Try.prog 23 #[.agg #[.int .i64 r.dft, vt, vp], .int .i64 v] w fun e w' => e = .returned (.bool (memB r v)) ∧ Below w.heap.size w w' := by
  obtain ⟨d, tg, pl⟩ := r
  simp only at h1 h2 a1 a2 ⊢
  obtain ⟨p1, c1, rfl⟩ := a1.slice
  obtain ⟨p2, c2, rfl⟩ := a2.slice
  have B := IBox.start w #[.int .i64 d, .slice p1 tg.length c1, .slice p2 pl.length c2] 38
  have H1 := Lib.hid (rhas_c _ tg v _ h1 (a1.below B.2))
  have H2 := Lib.hid (rhas_c _ pl v _ h2 (a2.below B.2))
  have V := Lib.hid (show memB ⟨d, tg, pl⟩ v = (hasB tg v || hasB pl v) from rfl)
  generalize memB ⟨d, tg, pl⟩ v = r at V ⊢
  generalize hasB tg v = r1 at H1 V
  generalize hasB pl v = r2 at H2 V
  generalize tg.length = n1 at *
  generalize pl.length = n2 at *
  have HB := Lib.hid B.2
  clear a1 a2 h1 h2 B
  cases r1
  · go_enter Try.func23, Try.ntmps23
    go_wp2_with fail
    ((with_reducible refine H1.out.mono ?_); rintro e w1 ⟨rfl, rfl⟩)
    go_wp2_with fail
    ((with_reducible refine H2.out.mono ?_); rintro e w1 ⟨rfl, rfl⟩)
    go_wp2_with fail
    go_ret
    exact ⟨by rw [V.out]; rfl, HB.out⟩
  · go_enter Try.func23, Try.ntmps23
    go_wp2_with fail
    ((with_reducible refine H1.out.mono ?_); rintro e w1 ⟨rfl, rfl⟩)
    go_wp2_with fail
    go_ret
    exact ⟨by rw [V.out]; rfl, HB.out⟩

end Go.Proofs.Ytgoibogpebbkaaa
