/-
  VLANs: whether a port may be: vlan.mayBe with its closure, slices.IndexFunc, ContainsFunc at []int. Contracts over the translated program.
-/
import Derived.Test.YtgoibogpebbkaaaVlB
import Derived.Test.YtgoibogpebbkaaaVlSh
namespace Go.Proofs.Ytgoibogpebbkaaa
open Go.RowKit
set_option linter.unusedVariables false

def DPost (v : Value) (w : World) (e : Ending) (w' : World) : Prop := e = .returned v ∧ ∃ n, w' = w.drewN n
def IdxDPost (b : Bool) (w : World) (e : Ending) (w' : World) : Prop := ∃ i : Int, e = .returned (.int .i64 i) ∧ decide (0 ≤ i) = b ∧ ∃ n, w' = w.drewN n

set_option maxHeartbeats 1000000 in
set_option maxRecDepth 100000 in
theorem tagged_c (g : Nat) (vt : Value) (l : List Int) (v : Int) (w : World) (hl : l.length < 4611686018427387904) (hg : w.cell? ⟨g, 1, none⟩ = some vt) (ha : IntsAt w vt l) (hs : l.Pairwise (· < ·)) :
    Calls Try.prog 29 #[.int .i64 v, .pointer (some ⟨g, 0, none⟩)] w (DPost (.bool (hasB l v)) w) := by
  have HB := Lib.hid (bsearch_c vt l v w hl ha hs)
  obtain ⟨p, cp, rfl⟩ := ha.slice
  generalize hasB l v = r at HB ⊢
  generalize l.length = n at *
  clear hl ha hs
  go_enter Try.func29, Try.ntmps29
  go_wp2_with fail
  ((with_reducible refine HB.out.mono ?_); rintro e w1 ⟨i, rfl, q, rfl⟩)
  go_wp2_with fail
  go_ret
  exact ⟨rfl, _, rfl⟩

theorem any_take_snoc (l m : List Int) (k : Nat) (h : k < l.length) : anyB (l.take (k + 1)) m = (anyB (l.take k) m || hasB m l[k]) := by
  rw [List.take_succ_eq_append_getElem h, anyB_snoc]
theorem any_at (l m : List Int) (k : Nat) (h : k < l.length) (e : hasB m l[k] = true) : anyB l m = true :=
  (anyB_iff l m).2 ⟨_, List.getElem_mem h, (hasB_iff _ _).1 e⟩

set_option maxHeartbeats 1000000 in
set_option maxRecDepth 100000 in
theorem idxf_c (u : Value) (l m : List Int) (g : Nat) (w : World) (hl : l.length ≤ 9223372036854775807) (ha : IntsAt w u l) (HT : ∀ x n, Calls Try.prog 29 #[.int .i64 x, .pointer (some ⟨g, 0, none⟩)] (w.drewN n) (DPost (.bool (hasB m x)) (w.drewN n))) :
    Calls Try.prog 36 #[u, .func (.func 29) #[] #[.pointer (some ⟨g, 0, none⟩)]] w (IdxDPost (anyB l m) w) := by
  obtain ⟨p, cap, b, off, rfl, hp, hc⟩ := ha
  have HP := Lib.hid hp
  have HC := Lib.hid hc
  have HT := Lib.hid HT
  clear hp hc
  go_enter Try.func36, Try.ntmps36
  go_wp2_with fail
  go_loopw [5, 8] (fun _ i wr => ∃ k n : Nat, k ≤ l.length ∧ i = .int .i64 k ∧ Hid (anyB (l.take k) m = false) ∧ wr = w.drewN n) (fun _ i _ => l.length - (intOf i).toNat)
  case atStart => exact ⟨0, 0, Nat.zero_le _, rfl, Lib.hid rfl, rfl⟩
  case round =>
    obtain ⟨k, n, hk, rfl, hall, rfl⟩ := hrel
    by_cases hlt : k < l.length
    · have hne : l ≠ [] := by rintro rfl; simp at hlt
      obtain rfl := HP.out hne
      have x1 := HC.out k _ (List.getElem?_eq_getElem hlt)
      have hS := Lib.hid (any_take_snoc l m k hlt)
      have hM := Lib.hid (any_at l m k hlt)
      generalize l[k] = x at x1 hS hM
      have H1 := Lib.hid (HT.out x n)
      have hlt' : (k : Int) < (l.length : Int) := by omega
      clear hne
      rcases hz : hasB m x with _ | _
      · have hA2 := Lib.hid (show anyB (l.take (k + 1)) m = false by rw [hS.out, hall.out, hz]; rfl)
        rw [hz] at H1
        clear hz
        go_wp2_with fail
        ((with_reducible refine H1.out.mono ?_); rintro e w1 ⟨rfl, q, rfl⟩)
        go_wp2_with fail
        go_roundw
        case rel => exact ⟨k + 1, _, by omega, by go_num, hA2, by first | rfl | rw [World.drewN_drewN]⟩
        case measure => simp [intOf]; omega
      · have V := Lib.hid (hM.out hz)
        rw [hz] at H1
        clear hz
        go_wp2_with fail
        ((with_reducible refine H1.out.mono ?_); rintro e w1 ⟨rfl, q, rfl⟩)
        go_wp2_with fail
        go_ret
        exact ⟨_, rfl, by rw [V.out]; exact decide_eq_true (by omega), _, by first | rw [World.drewN_drewN] | rfl⟩
    · obtain rfl : k = l.length := by omega
      have V := Lib.hid (show anyB l m = false by have h := hall.out; rw [List.take_length] at h; exact h)
      clear hlt
      go_wp2_with fail
      go_ret
      exact ⟨_, rfl, by rw [V.out]; rfl, _, rfl⟩

set_option maxHeartbeats 1000000 in
set_option maxRecDepth 100000 in
theorem cntf_c (u : Value) (l m : List Int) (g : Nat) (w : World) (hl : l.length ≤ 9223372036854775807) (ha : IntsAt w u l) (HT : ∀ x n, Calls Try.prog 29 #[.int .i64 x, .pointer (some ⟨g, 0, none⟩)] (w.drewN n) (DPost (.bool (hasB m x)) (w.drewN n))) :
    Calls Try.prog 31 #[u, .func (.func 29) #[] #[.pointer (some ⟨g, 0, none⟩)]] w (DPost (.bool (anyB l m)) w) := by
  have HI := Lib.hid (idxf_c u l m g w hl ha HT)
  generalize anyB l m = r at HI ⊢
  clear ha hl HT
  go_enter Try.func31, Try.ntmps31
  go_wp2_with fail
  ((with_reducible refine HI.out.mono ?_); rintro e w1 ⟨i, rfl, hi, q, rfl⟩)
  go_wp2_with fail
  go_ret
  exact ⟨rfl, _, rfl⟩

theorem IntsAt.drewN {w : World} {v : Value} {l : List Int} (h : IntsAt w v l) (n : Nat) : IntsAt (w.drewN n) v l := h
theorem IBox.drewN {w0 w : World} {xs : Array Value} {t : TypeId} (h : IBox w0 w xs t) (n : Nat) : IBox w0 (w.drewN n) xs t := ⟨h.1, below_drewN h.2 n⟩
theorem IBox.alloc {w0 w : World} {xs : Array Value} {t : TypeId} (h : IBox w0 w xs t) (o : Obj) : IBox w0 (w.alloc o) xs t := h.below ((Below.refl _ w).alloc (Nat.le_refl _) o)

set_option maxHeartbeats 2000000 in
set_option maxRecDepth 100000 in
theorem ptmay_c (r : Pt) (vt vp : Value) (w : World) (h1 : r.tag.length < 4611686018427387904) (h2 : r.pln.length ≤ 9223372036854775807) (a1 : IntsAt w vt r.tag) (a2 : IntsAt w vp r.pln) :
    Calls Try.prog 21 #[.agg #[.int .i64 r.dft, vt, vp]] w fun e w' => e = .returned (.bool (ptB r)) ∧ Below w.heap.size w w' := by
  obtain ⟨d, tg, pl⟩ := r
  simp only at h1 h2 a1 a2 ⊢
  have B := IBox.start w #[.int .i64 d, vt, vp] 38
  have HA1 := Lib.hid (a1.below B.2)
  have HA2 := Lib.hid (a2.below B.2)
  have H1 := Lib.hid (rise_c _ tg _ (by omega) HA1.out)
  have H2 := Lib.hid (rise_c _ pl _ h2 HA2.out)
  have V := Lib.hid (show ptB ⟨d, tg, pl⟩ = (risB tg && risB pl && !anyB pl tg && (decide (d = 0) || memB ⟨d, tg, pl⟩ d)) from rfl)
  have h1' : tg.length ≤ 9223372036854775807 := by omega
  have H4 := Lib.hid fun n => member_c ⟨d, tg, pl⟩ vt vp d ((w.alloc (.cells #[.int .i64 d, vt, vp] 38)).drewN n) h1' h2 (HA1.out.drewN n) (HA2.out.drewN n)
  have HB := Lib.hid B
  have HS := Lib.hid fun (hr : risB tg = true) => (risGo_sorted tg 0 hr).1
  have H3 := Lib.hid fun (hr : risB tg = true) => cntf_c vp pl tg w.heap.size (w.alloc (.cells #[.int .i64 d, vt, vp] 38)) h2 HA2.out fun x n => tagged_c w.heap.size vt tg x ((w.alloc (.cells #[.int .i64 d, vt, vp] 38)).drewN n) h1 ((B.drewN n).cell 1 rfl) (HA1.out.drewN n) (HS.out hr)
  simp only at H4
  generalize ptB ⟨d, tg, pl⟩ = rr at V ⊢
  generalize memB ⟨d, tg, pl⟩ d = rm at H4 V
  generalize anyB pl tg = ra at H3 V
  generalize risB tg = r1 at H1 H3 HS V
  generalize risB pl = r2 at H2 V
  obtain ⟨p1, c1, rfl⟩ := a1.slice
  obtain ⟨p2, c2, rfl⟩ := a2.slice
  generalize tg.length = n1 at *
  generalize pl.length = n2 at *
  clear a1 a2 h1 h2 B h1' HS
  cases r1
  · clear H2 H3 H4
    go_enter Try.func21, Try.ntmps21
    go_wp2_with fail
    ((with_reducible refine H1.out.mono ?_); rintro e w1 ⟨rfl, rfl⟩)
    go_wp2_with fail
    go_ret
    exact ⟨by rw [V.out]; rfl, HB.out.2⟩
  · cases r2
    · clear H3 H4
      go_enter Try.func21, Try.ntmps21
      go_wp2_with fail
      ((with_reducible refine H1.out.mono ?_); rintro e w1 ⟨rfl, rfl⟩)
      go_wp2_with fail
      ((with_reducible refine H2.out.mono ?_); rintro e w1 ⟨rfl, rfl⟩)
      go_wp2_with fail
      go_ret
      exact ⟨by rw [V.out]; rfl, HB.out.2⟩
    · have H3' := Lib.hid (H3.out rfl)
      clear H3
      cases ra
      · by_cases hd : d = 0
        · obtain ⟨q1, q2⟩ := viet hd
          have V2 := Lib.hid (show rr = true by rw [V.out, decide_eq_true hd]; rfl)
          clear hd H4
          go_enter Try.func21, Try.ntmps21
          go_wp2_with fail
          ((with_reducible refine H1.out.mono ?_); rintro e w1 ⟨rfl, rfl⟩)
          go_wp2_with fail
          ((with_reducible refine H2.out.mono ?_); rintro e w1 ⟨rfl, rfl⟩)
          go_wp2_with fail
          ((with_reducible refine H3'.out.mono ?_); rintro e w1 ⟨rfl, q, rfl⟩)
          go_wp2_with fail
          go_ret
          exact ⟨by rw [V2.out]; rfl, below_drewN HB.out.2 q⟩
        · obtain ⟨q1, q2⟩ := vint hd
          have V2 := Lib.hid (show rr = rm by rw [V.out, decide_eq_false hd]; rfl)
          clear hd
          go_enter Try.func21, Try.ntmps21
          go_wp2_with fail
          ((with_reducible refine H1.out.mono ?_); rintro e w1 ⟨rfl, rfl⟩)
          go_wp2_with fail
          ((with_reducible refine H2.out.mono ?_); rintro e w1 ⟨rfl, rfl⟩)
          go_wp2_with fail
          ((with_reducible refine H3'.out.mono ?_); rintro e w1 ⟨rfl, q, rfl⟩)
          have x0 := (HB.out.drewN q).cell 0 rfl
          have x1 := (HB.out.drewN q).cell 1 rfl
          have x2 := (HB.out.drewN q).cell 2 rfl
          go_wp2_with fail
          ((with_reducible refine (H4.out q).mono ?_); rintro e w2 ⟨rfl, h2⟩)
          go_wp2_with fail
          go_ret
          exact ⟨by rw [V2.out]; rfl, ((HB.out.drewN q).below h2).2⟩
      · clear H4
        go_enter Try.func21, Try.ntmps21
        go_wp2_with fail
        ((with_reducible refine H1.out.mono ?_); rintro e w1 ⟨rfl, rfl⟩)
        go_wp2_with fail
        ((with_reducible refine H2.out.mono ?_); rintro e w1 ⟨rfl, rfl⟩)
        go_wp2_with fail
        ((with_reducible refine H3'.out.mono ?_); rintro e w1 ⟨rfl, q, rfl⟩)
        go_wp2_with fail
        go_ret
        exact ⟨by rw [V.out]; rfl, below_drewN HB.out.2 q⟩

end Go.Proofs.Ytgoibogpebbkaaa
