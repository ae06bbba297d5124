/-
  The laws' helpers: few, told, live; what the document's answers say of one another, plainly.
-/
import Derived.Test.YtpaehbmhdjnofaaFwE
namespace Go.Proofs.Ytpaehbmhdjnofaa
open Go Go.Maps Go.WideMaps
open Go.RowKit
set_option linter.unusedVariables false
set_option linter.unusedSimpArgs false

def fewB (nm no nr nw : Nat) : Bool := decide (nm ≤ 40) && decide (no ≤ 40) && decide (nr ≤ 40) && decide (nw ≤ 40)
theorem fewB_iff (nm no nr nw : Nat) : fewB nm no nr nw = true ↔ nm ≤ 40 ∧ no ≤ 40 ∧ nr ≤ 40 ∧ nw ≤ 40 := by
  unfold fewB
  simp only [Bool.and_eq_true, decide_eq_true_iff]
  omega

set_option maxHeartbeats 4000000 in
set_option maxRecDepth 100000 in
theorem few22_c (pt : Int) (pm po pr pw : Option Addr) (nm no nr nw cm co cr cw : Nat) (lo ov rc kn fl : Bool) (w : World) : Calls Try.prog 8 #[.agg #[.int .i64 pt, .slice pm nm cm, .slice po no co, .slice pr nr cr, .slice pw nw cw, .bool lo, .bool ov, .bool rc, .bool kn, .bool fl]] w fun e w' => e = .returned (.bool (fewB nm no nr nw)) ∧ Below w.heap.size w w' := by
  unfold fewB
  by_cases h1 : nm ≤ 40
  rotate_left
  · have d1 : decide ((nm : Int) ≤ 40) = false := decide_eq_false (by omega)
    have e1 : decide (nm ≤ 40) = false := decide_eq_false h1
    go_enter Try.func8, Try.ntmps8
    go_wp2
    go_ret
    exact ⟨by simp [e1], (Below.refl _ _).alloc (Nat.le_refl _) _⟩
  have d1 : decide ((nm : Int) ≤ 40) = true := decide_eq_true (by omega)
  have e1 : decide (nm ≤ 40) = true := decide_eq_true h1
  by_cases h2 : no ≤ 40
  rotate_left
  · have d2 : decide ((no : Int) ≤ 40) = false := decide_eq_false (by omega)
    have e2 : decide (no ≤ 40) = false := decide_eq_false h2
    go_enter Try.func8, Try.ntmps8
    go_wp2
    go_ret
    exact ⟨by simp [e2], (Below.refl _ _).alloc (Nat.le_refl _) _⟩
  have d2 : decide ((no : Int) ≤ 40) = true := decide_eq_true (by omega)
  have e2 : decide (no ≤ 40) = true := decide_eq_true h2
  by_cases h3 : nr ≤ 40
  rotate_left
  · have d3 : decide ((nr : Int) ≤ 40) = false := decide_eq_false (by omega)
    have e3 : decide (nr ≤ 40) = false := decide_eq_false h3
    go_enter Try.func8, Try.ntmps8
    go_wp2
    go_ret
    exact ⟨by simp [e3], (Below.refl _ _).alloc (Nat.le_refl _) _⟩
  have d3 : decide ((nr : Int) ≤ 40) = true := decide_eq_true (by omega)
  have e3 : decide (nr ≤ 40) = true := decide_eq_true h3
  by_cases h4 : nw ≤ 40
  · have d4 : decide ((nw : Int) ≤ 40) = true := decide_eq_true (by omega)
    have e4 : decide (nw ≤ 40) = true := decide_eq_true h4
    go_enter Try.func8, Try.ntmps8
    go_wp2
    go_ret
    exact ⟨by simp [e1, e2, e3, e4], (Below.refl _ _).alloc (Nat.le_refl _) _⟩
  · have d4 : decide ((nw : Int) ≤ 40) = false := decide_eq_false (by omega)
    have e4 : decide (nw ≤ 40) = false := decide_eq_false h4
    go_enter Try.func8, Try.ntmps8
    go_wp2
    go_ret
    exact ⟨by simp [e4], (Below.refl _ _).alloc (Nat.le_refl _) _⟩

set_option maxHeartbeats 4000000 in
set_option maxRecDepth 100000 in
theorem told22_c (pt : Int) (pm po pr pw : Option Addr) (nm no nr nw cm co cr cw : Nat) (lo ov rc kn fl : Bool) (w : World) : Calls Try.prog 11 #[.agg #[.int .i64 pt, .slice pm nm cm, .slice po no co, .slice pr nr cr, .slice pw nw cw, .bool lo, .bool ov, .bool rc, .bool kn, .bool fl]] w fun e w' => e = .returned (.agg #[.int .i64 pt, .slice pm nm cm, .slice po no co, .slice pr nr cr, .slice pw nw cw, .bool lo, .bool ov, .bool rc, .bool kn, .bool fl]) ∧ Below w.heap.size w w' := by
  go_enter Try.func11, Try.ntmps11
  go_wp2
  refine bodyPost_ret (v := .agg #[.int .i64 pt, .slice pm nm cm, .slice po no co, .slice pr nr cr, .slice pw nw cw, .bool lo, .bool ov, .bool rc, .bool kn, .bool fl]) (by simp [results, Try.results11, go_sem]) rfl ⟨rfl, ?_⟩
  exact ((Below.refl _ _).alloc (Nat.le_refl _) _).alloc (by simp) _

/-- What the document's samples are. -/
theorem live_dec : decL ⟨0, [0, 1, 2, 3], [0, 1, 2, 3], [1], [2], false, false, false, true, false⟩ = [1, 2] := by
  unfold decL
  rw [if_neg (by simp [allP])]
  refine upI_unique (risI_up _) (by decide) fun x => ?_
  rw [risI_mem, List.mem_filter]
  unfold floL
  rw [risI_mem, List.mem_filter]
  simp [floP, decP, hasB_iff]
  omega
theorem ints_new {w : World} (l : List Int) (t : TypeId) (n : Nat) (hn : l.length = n) : IntsAt (w.alloc (.cells (l.map (Value.int .i64)).toArray t)) (.slice (some ⟨w.heap.size, 0, none⟩) n n) l := by
  subst hn
  exact ⟨_, l.length, w.heap.size, 0, rfl, fun _ => rfl, fun j x hj => by
    rw [Nat.zero_add]
    exact cell_of_block (heap_new w _) (by simp [hj])⟩
theorem i64_small {l : List Int} (h : ∀ x ∈ l, 0 ≤ x ∧ x ≤ 1000) : I64 l := fun x hx => by have := h x hx; omega

theorem four_cas (w : World) : CasOk ((((w.alloc (.cells #[.int .i64 0, .int .i64 1, .int .i64 2, .int .i64 3] 3)).alloc (.cells #[.int .i64 0, .int .i64 1, .int .i64 2, .int .i64 3] 3)).alloc (.cells #[.int .i64 1] 3)).alloc (.cells #[.int .i64 2] 3))
    (.slice (some ⟨w.heap.size, 0, none⟩) 4 4) (.slice (some ⟨w.heap.size + 1, 0, none⟩) 4 4) (.slice (some ⟨w.heap.size + 1 + 1, 0, none⟩) 1 1) (.slice (some ⟨w.heap.size + 1 + 1 + 1, 0, none⟩) 1 1) [0, 1, 2, 3] [0, 1, 2, 3] [1] [2] := by
  have al : ∀ (U : World) (o : Obj), Below U.heap.size U (U.alloc o) := fun U o => (Below.refl _ U).alloc (Nat.le_refl _) o
  have h1 := ints_new (w := w) [0, 1, 2, 3] 3 4 rfl
  have h2 := ints_new (w := w.alloc (.cells #[.int .i64 0, .int .i64 1, .int .i64 2, .int .i64 3] 3)) [0, 1, 2, 3] 3 4 rfl
  have h3 := ints_new (w := (w.alloc (.cells #[.int .i64 0, .int .i64 1, .int .i64 2, .int .i64 3] 3)).alloc (.cells #[.int .i64 0, .int .i64 1, .int .i64 2, .int .i64 3] 3)) [1] 3 1 rfl
  have h4 := ints_new (w := ((w.alloc (.cells #[.int .i64 0, .int .i64 1, .int .i64 2, .int .i64 3] 3)).alloc (.cells #[.int .i64 0, .int .i64 1, .int .i64 2, .int .i64 3] 3)).alloc (.cells #[.int .i64 1] 3)) [2] 3 1 rfl
  have e2 : (w.alloc (.cells #[.int .i64 0, .int .i64 1, .int .i64 2, .int .i64 3] 3)).heap.size = w.heap.size + 1 := by simp
  have e3 : ((w.alloc (.cells #[.int .i64 0, .int .i64 1, .int .i64 2, .int .i64 3] 3)).alloc (.cells #[.int .i64 0, .int .i64 1, .int .i64 2, .int .i64 3] 3)).heap.size = w.heap.size + 1 + 1 := by simp
  have e4 : (((w.alloc (.cells #[.int .i64 0, .int .i64 1, .int .i64 2, .int .i64 3] 3)).alloc (.cells #[.int .i64 0, .int .i64 1, .int .i64 2, .int .i64 3] 3)).alloc (.cells #[.int .i64 1] 3)).heap.size = w.heap.size + 1 + 1 + 1 := by simp
  rw [e2] at h2
  rw [e3] at h3
  rw [e4] at h4
  exact ⟨((h1.below (al _ _)).below (al _ _)).below (al _ _), (h2.below (al _ _)).below (al _ _), h3.below (al _ _), h4, by decide, by decide, by decide, by decide, i64_small (by decide), i64_small (by decide), i64_small (by decide), i64_small (by decide)⟩
theorem four_below (w : World) : Below w.heap.size w ((((w.alloc (.cells #[.int .i64 0, .int .i64 1, .int .i64 2, .int .i64 3] 3)).alloc (.cells #[.int .i64 0, .int .i64 1, .int .i64 2, .int .i64 3] 3)).alloc (.cells #[.int .i64 1] 3)).alloc (.cells #[.int .i64 2] 3)) :=
  ((((Below.refl _ _).alloc (Nat.le_refl _) _).alloc (by simp) _).alloc (by simp; omega) _).alloc (by simp; omega) _

set_option maxHeartbeats 8000000 in
set_option maxRecDepth 100000 in
theorem live22_c (w : World) : Calls Try.prog 9 #[] w fun e w' => e = .returned (.bool true) ∧ Below w.heap.size w w' := by
  obtain ⟨L, hL⟩ : ∃ L, L = decL ⟨0, [0, 1, 2, 3], [0, 1, 2, 3], [1], [2], false, false, false, true, false⟩ := ⟨_, rfl⟩
  have HD := Lib.hid (fun (U : World) (vm vo vr vw : Value) (h : CasOk U vm vo vr vw [0, 1, 2, 3] [0, 1, 2, 3] [1] [2]) => decide_c 0 vm vo vr vw false false false true false [0, 1, 2, 3] [0, 1, 2, 3] [1] [2] U h (by decide) (by decide))
  rw [← hL] at HD
  rw [live_dec] at hL
  subst hL
  unfold IPost at HD
  have L1 := Lib.hid (fun U => local_c ⟨#[224, 0, 0, 5]⟩ U (by decide))
  have L2 := Lib.hid (fun U => local_c ⟨#[224, 0, 1, 5]⟩ U (by decide))
  rw [show locB ⟨#[224, 0, 0, 5]⟩ = true from by decide +kernel] at L1
  rw [show locB ⟨#[224, 0, 1, 5]⟩ = false from by decide +kernel] at L2
  have K0 := Lib.hid (Below.refl w.heap.size w)
  have HS := Lib.hid (fun (U : World) (v1 v2 : Value) (h1 : IntsAt U v1 [1, 2]) (h2 : IntsAt U v2 [1, 2]) => sameI_c v1 v2 [1, 2] U (by decide) h1 h2)
  go_enter Try.func9, Try.ntmps9
  go_wp2_with fail
  ((with_reducible refine (HD.out _ _ _ _ _ (four_cas w)).mono ?_); rintro e w1 ⟨u, rfl, a1, k1⟩)
  have K1 := Lib.hid ((four_below w).trans (k1.mono (four_below w).size))
  have A1 := Lib.hid (a1.below ((Below.refl _ w1).alloc (Nat.le_refl _) (.cells #[.int .i64 1, .int .i64 2] 3)))
  have N1 := Lib.hid (show IntsAt (w1.alloc (.cells #[.int .i64 1, .int .i64 2] 3)) (.slice (some ⟨w1.heap.size, 0, none⟩) 2 2) [1, 2] from ints_new (w := w1) [1, 2] 3 2 rfl)
  have K2 := Lib.hid (K1.out.alloc K1.out.size (.cells #[.int .i64 1, .int .i64 2] 3))
  clear a1 k1 HD K1
  go_wp2_with fail
  ((with_reducible refine (HS.out _ _ _ A1.out N1.out).mono ?_); rintro e w2 ⟨rfl, q2, rfl⟩)
  have K3 := Lib.hid (below_drewN K2.out q2)
  clear K2 A1 N1 HS
  generalize (w1.alloc (.cells #[.int .i64 1, .int .i64 2] 3)).drewN q2 = W at K3 ⊢
  go_wp2_with fail
  ((with_reducible refine (L1.out _).mono ?_); rintro e w3 ⟨rfl, h9⟩; replace h9 := h9.symm; subst h9)
  go_wp2_with fail
  ((with_reducible refine (L2.out _).mono ?_); rintro e w3 ⟨rfl, h9⟩; replace h9 := h9.symm; subst h9)
  go_wp2_with fail
  go_ret
  exact ⟨rfl, K3.out⟩

theorem k_call {W w w' : World} (h : Below W.heap.size W w) (k : Below w.heap.size w w') : Below W.heap.size W w' := h.trans (k.mono h.size)
theorem decL_has (c : Cs) (x : Int) : hasB (decL c) x = (decide (x ≠ c.port) && hasB c.opn x && hasB c.mem x && (allP c || decP c x)) := by
  rw [Bool.eq_iff_iff, hasB_iff]
  have hf : x ∈ floL c ↔ (x ∈ c.mem ∧ hasB c.opn x = true ∧ x ≠ c.port) := by
    unfold floL
    rw [risI_mem, List.mem_filter]
    unfold floP
    rw [Bool.and_eq_true, decide_eq_true_iff]
  unfold decL
  rcases h : allP c with _ | _
  · rw [if_neg (by simp), risI_mem, List.mem_filter, hf]
    simp only [Bool.and_eq_true, decide_eq_true_iff, Bool.false_or, hasB_iff]
    exact ⟨fun ⟨⟨h1, h2, h3⟩, h4⟩ => ⟨⟨⟨h3, h2⟩, h1⟩, h4⟩, fun ⟨⟨⟨h3, h2⟩, h1⟩, h4⟩ => ⟨⟨h1, h2, h3⟩, h4⟩⟩
  · rw [if_pos rfl, hf]
    simp only [Bool.and_eq_true, decide_eq_true_iff, Bool.true_or, and_true, hasB_iff]
    exact ⟨fun ⟨h1, h2, h3⟩ => ⟨⟨h3, h2⟩, h1⟩, fun ⟨⟨h3, h2⟩, h1⟩ => ⟨h1, h2, h3⟩⟩
theorem decL_len (c : Cs) : (decL c).length ≤ c.mem.length := by
  unfold decL
  split
  · exact flo_len c
  · exact Nat.le_trans (risI_len _) (Nat.le_trans (List.length_filter_le _ _) (flo_len c))
theorem hasB_snoc1 (l : List Int) (x y : Int) : hasB (l ++ [y]) x = (hasB l x || decide (x = y)) := by
  rw [Bool.eq_iff_iff]
  simp [hasB_iff]
/-- One more who wants, one more router: what becomes of the answer. -/
theorem decL_more (c : Cs) (x : Int) (R' N' : List Int) (hr : ∀ y, hasB c.rou y = true → hasB R' y = true) (hn : ∀ y, hasB c.wan y = true → hasB N' y = true) (h : hasB (decL c) x = true) : hasB (decL ⟨c.port, c.mem, c.opn, R', N', c.loc, c.ovr, c.rcv, c.knw, c.fld⟩) x = true := by
  rw [decL_has] at h ⊢
  simp only [Bool.and_eq_true, Bool.or_eq_true] at h ⊢
  refine ⟨h.1, ?_⟩
  rcases h.2 with h2 | h2
  · exact .inl h2
  · refine .inr ?_
    unfold decP at h2 ⊢
    simp only [Bool.and_eq_true, Bool.or_eq_true] at h2 ⊢
    rcases h2 with h2 | h2
    · exact .inl (hr _ h2)
    · exact .inr ⟨h2.1, hn _ h2.2⟩
theorem decL_count (c : Cs) : (decL c).length = ((floL c).filter (fun x => allP c || decP c x)).length := by
  unfold decL
  rcases h : allP c with _ | _
  · rw [if_neg (by simp), ← rdec_eq]
    simp
  · rw [if_pos rfl, List.filter_eq_self.2 (fun x _ => by simp)]
theorem len_mono {l : List Int} {f g : Int → Bool} (h : ∀ x, f x = true → g x = true) : (l.filter f).length ≤ (l.filter g).length := by
  induction l with
  | nil => simp
  | cons x r ih =>
    rw [List.filter_cons, List.filter_cons]
    rcases hf : f x with _ | _
    · rcases hg : g x with _ | _ <;> simp <;> omega
    · rw [h x hf]; simp; omega
theorem len_one {l : List Int} (hl : l.Nodup) {f g : Int → Bool} (p : Int) (h : ∀ x, g x = true → x ≠ p → f x = true) : (l.filter g).length ≤ (l.filter f).length + 1 := by
  induction l with
  | nil => simp
  | cons x r ih =>
    obtain ⟨h1, h2⟩ := List.nodup_cons.1 hl
    rw [List.filter_cons, List.filter_cons]
    by_cases e : x = p
    · subst e
      have h3 : (r.filter g).length ≤ (r.filter f).length := by
        have : r.filter g = r.filter (fun y => g y && decide (y ≠ x)) := List.filter_congr fun y hy => by
          have : y ≠ x := fun e => h1 (e ▸ hy)
          simp [this]
        rw [this]
        exact len_mono fun y hy => by simp at hy; exact h y hy.1 hy.2
      rcases g x <;> rcases f x <;> simp <;> omega
    · have := ih h2
      rcases hg : g x with _ | _
      · rcases f x <;> simp <;> omega
      · rw [h x hg e]; simp; omega
theorem floL_nodup (c : Cs) : (floL c).Nodup := (risI_up _).imp fun h => by omega
theorem decL_grows (c : Cs) (p : Int) (R' : List Int) (hr : ∀ y, hasB c.rou y = true → hasB R' y = true) (N' : List Int) (hn : ∀ y, hasB c.wan y = true → hasB N' y = true) (hr1 : ∀ y, y ≠ p → hasB R' y = hasB c.rou y) (hn1 : ∀ y, y ≠ p → hasB N' y = hasB c.wan y) :
    (decL ⟨c.port, c.mem, c.opn, R', N', c.loc, c.ovr, c.rcv, c.knw, c.fld⟩).length ≤ (decL c).length + 1 ∧ (decL ⟨c.port, c.mem, c.opn, c.rou, N', c.loc, c.ovr, c.rcv, c.knw, c.fld⟩).length ≤ (decL ⟨c.port, c.mem, c.opn, R', N', c.loc, c.ovr, c.rcv, c.knw, c.fld⟩).length := by
  rw [decL_count, decL_count, decL_count]
  have e1 : floL ⟨c.port, c.mem, c.opn, R', N', c.loc, c.ovr, c.rcv, c.knw, c.fld⟩ = floL c := rfl
  have e2 : floL ⟨c.port, c.mem, c.opn, c.rou, N', c.loc, c.ovr, c.rcv, c.knw, c.fld⟩ = floL c := rfl
  rw [e1, e2]
  constructor
  · refine len_one (floL_nodup c) p fun x hx hp => ?_
    have : allP ⟨c.port, c.mem, c.opn, R', N', c.loc, c.ovr, c.rcv, c.knw, c.fld⟩ = allP c := rfl
    rw [this] at hx
    unfold decP at hx ⊢
    simp only at hx
    rw [hr1 x hp, hn1 x hp] at hx
    exact hx
  · refine len_mono fun x hx => ?_
    simp only [Bool.or_eq_true] at hx ⊢
    rcases hx with hx | hx
    · exact .inl hx
    · refine .inr ?_
      unfold decP at hx ⊢
      simp only [Bool.and_eq_true, Bool.or_eq_true] at hx ⊢
      rcases hx with hx | hx
      · exact .inl (hr _ hx)
      · exact .inr hx
theorem floL_opn (c : Cs) (O' : List Int) (h : ∀ x, hasB O' x = hasB c.opn x) : floL ⟨c.port, c.mem, O', c.rou, c.wan, c.loc, c.ovr, c.rcv, c.knw, c.fld⟩ = floL c := by
  unfold floL
  congr 1
  refine List.filter_congr fun x _ => ?_
  unfold floP
  rw [h]
theorem decL_opn (c : Cs) (O' : List Int) (h : ∀ x, hasB O' x = hasB c.opn x) : decL ⟨c.port, c.mem, O', c.rou, c.wan, c.loc, c.ovr, c.rcv, c.knw, c.fld⟩ = decL c := by
  unfold decL
  rw [floL_opn c O' h]
  rfl
theorem decL_over (c : Cs) : decL ⟨c.port, c.mem, c.opn, c.rou, c.wan, c.loc, true, c.rcv, c.knw, c.fld⟩ = floL c := by
  unfold decL
  rw [if_pos (by simp [allP])]
  rfl

end Go.Proofs.Ytpaehbmhdjnofaa
