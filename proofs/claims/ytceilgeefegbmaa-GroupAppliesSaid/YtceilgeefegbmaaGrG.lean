/-
  slices.BinarySearch at []api.Addr (the shelf's contract is for []string: the instance's name is part of its body); the change's untold. Contracts over the translated program.
-/
import Derived.Test.YtceilgeefegbmaaGrD
import Derived.Deep.LoopGhost
namespace Go.Proofs.Ytceilgeefegbmaa
open Go.Shelf Go.RowKit
set_option linter.unusedVariables false
set_option linter.unusedSimpArgs false


theorem up_cut (s : ByteArray) : ∀ l : List ByteArray, Up l → ∃ k, k ≤ l.length ∧ (∀ t, t < k → sl (l.getD t s) s = true) ∧ ∀ t, k ≤ t → sl (l.getD t s) s = false
  | [], _ => ⟨0, Nat.le_refl _, fun t h => absurd h (Nat.not_lt_zero t), fun t _ => by simpa using sl_irrefl s⟩
  | x :: r, h => by
    obtain ⟨k, h1, h2, h3⟩ := up_cut s r (up_tail h)
    cases hx : sl x s with
    | true =>
      refine ⟨k + 1, by simp; omega, fun t ht => ?_, fun t ht => ?_⟩
      · cases t with
        | zero => simpa using hx
        | succ t => simpa using h2 t (by omega)
      · cases t with
        | zero => omega
        | succ t => simpa using h3 t (by omega)
    | false =>
      refine ⟨0, Nat.zero_le _, fun t ht => absurd ht (Nat.not_lt_zero t), fun t _ => ?_⟩
      cases t with
      | zero => simpa using hx
      | succ t =>
        have e : (x :: r).getD (t + 1) s = r.getD t s := by simp
        rw [e]
        cases hy : sl (r.getD t s) s with
        | false => rfl
        | true =>
          by_cases ht : t < r.length
          · have hm : r.getD t s ∈ r := by rw [List.getD_eq_getElem?_getD, List.getElem?_eq_getElem ht]; exact List.getElem_mem ht
            rw [sl_trans (up_head h _ hm) hy] at hx
            cases hx
          · rw [List.getD_eq_getElem?_getD, List.getElem?_eq_none (by omega)] at hy
            have := sl_irrefl s
            simp at hy
            rw [this] at hy
            cases hy

theorem up_found {s : ByteArray} {l : List ByteArray} {k : Nat} (h : Up l) (h2 : ∀ t, t < k → sl (l.getD t s) s = true) (h3 : ∀ t, k ≤ t → sl (l.getD t s) s = false) : decide (k < l.length ∧ l.getD k s = s) = hasS l s := by
  rw [Bool.eq_iff_iff, hasS_iff, decide_eq_true_iff]
  constructor
  · rintro ⟨a, b⟩
    rw [List.getD_eq_getElem?_getD, List.getElem?_eq_getElem a] at b
    have b' : l[k] = s := b
    rw [← b']
    exact List.getElem_mem a
  · intro hm
    obtain ⟨t, ht, e⟩ := List.mem_iff_getElem.1 hm
    have et : l.getD t s = s := by rw [List.getD_eq_getElem?_getD, List.getElem?_eq_getElem ht]; exact e
    have hkt : k ≤ t := by
      rcases Nat.lt_or_ge t k with a | a
      · have := h2 t a
        rw [et, sl_irrefl] at this
        cases this
      · exact a
    rcases Nat.lt_or_ge k t with a | a
    · have hk : k < l.length := by omega
      have := List.pairwise_iff_getElem.1 h k t hk ht a
      have e2 := h3 k (Nat.le_refl _)
      rw [List.getD_eq_getElem?_getD, List.getElem?_eq_getElem hk] at e2
      have e3 : sl l[k] s = false := e2
      rw [e] at this
      rw [this] at e3
      cases e3
    · obtain rfl : k = t := by omega
      exact ⟨ht, et⟩

theorem nan1_c (x : ByteArray) (w : World) : Calls Try.prog 71 #[.string x] w fun e w' => e = .returned (.bool false) ∧ w' = w := by
  go_enter Try.func71, Try.ntmps71
  go_wp2
  go_ret
  exact ⟨by simp, rfl⟩
theorem nan2_c (x : ByteArray) (w : World) : Calls Try.prog 67 #[.string x] w fun e w' => e = .returned (.bool false) ∧ w' = w := by
  go_enter Try.func67, Try.ntmps67
  go_wp2
  go_ret
  exact ⟨by simp, rfl⟩
theorem less_c (x y : ByteArray) (w : World) : Calls Try.prog 66 #[.string x, .string y] w fun e w' => e = .returned (.bool (Op.bytesLess x.toList y.toList)) ∧ w' = w := by
  go_enter Try.func66, Try.ntmps66
  go_wp2_with (go_at_call 71; refine (nan1_c _ _).mono ?_; rintro e w' ⟨rfl, rfl⟩)
  go_ret
  exact ⟨rfl, rfl⟩
theorem get_some {l : List ByteArray} {t : Nat} {s : ByteArray} (h : t < l.length) : l[t]? = some (l.getD t s) := by
  rw [List.getD_eq_getElem?_getD, List.getElem?_eq_getElem h]; rfl

set_option maxHeartbeats 4000000 in
set_option maxRecDepth 1000000 in
/-- slices.BinarySearch of a list that rises. -/
theorem srch_c (u : Value) (l : List ByteArray) (s : ByteArray) (w : World) (hl : l.length ≤ 1000000) (ha : AddrsAt w u l) (hs : Up l) :
    Calls Try.prog 60 #[u, .string s] w fun e w' => ∃ i : Int, e = .returned (.tuple #[.int .i64 i, .bool (hasS l s)]) ∧ Below w.heap.size w w' := by
  obtain ⟨p, cap, b, off, rfl, hp, hc⟩ := ha
  obtain ⟨k, h1, h2, h3⟩ := up_cut s l hs
  have HF := Lib.hid (up_found hs h2 h3)
  have HP := Lib.hid hp
  have HC := Lib.hid hc
  have H2 := Lib.hid h2
  have H3 := Lib.hid h3
  obtain ⟨n, hn⟩ : ∃ n, n = l.length := ⟨_, rfl⟩
  have HNN := Lib.hid hn
  rw [← hn] at hl h1 HF ⊢
  clear hp hc hn hs h2 h3
  generalize hasS l s = r at HF ⊢
  go_enter Try.func60, Try.ntmps60
  go_wp2_with fail
  go_loopg [7, 8, 9] n (fun g s7 s8 _ wr => ∃ lo hi : Nat, s7 = .int .i64 lo ∧ s8 = .int .i64 hi ∧ lo ≤ k ∧ k ≤ hi ∧ hi ≤ n ∧ hi - lo ≤ g ∧ Hid (Below w.heap.size w wr))
  case atStart => exact ⟨0, n, rfl, rfl, Nat.zero_le _, h1, Nat.le_refl _, by omega, Lib.hid (Below.refl _ _)⟩
  case round =>
    obtain ⟨lo, hi, rfl, rfl, hlk, hkh, hhn, hg, KB⟩ := hrel
    by_cases hlt : lo < hi
    · have hm : (lo + hi) / 2 < n := by omega
      have hne : l ≠ [] := by rintro rfl; have := HNN.out; simp at this; omega
      obtain rfl := (HP.out hne).1
      have x0 : wr.cell? ⟨b, off + (lo + hi) / 2, none⟩ = some (.string (l.getD ((lo + hi) / 2) s)) := gcell_below KB.out (HC.out _ _ (get_some (by rw [← HNN.out]; exact hm)))
      have Y2 := Lib.hid (H2.out ((lo + hi) / 2))
      have Y3 := Lib.hid (H3.out ((lo + hi) / 2))
      unfold sl at Y2 Y3
      generalize l.getD ((lo + hi) / 2) s = y at x0 Y2 Y3
      clear hne
      cases hyx : Op.bytesLess y.toList s.toList with
      | true =>
        have hk : (lo + hi) / 2 < k := by
          rcases Nat.lt_or_ge ((lo + hi) / 2) k with a | a
          · exact a
          · have := Y3.out a; rw [hyx] at this; cases this
        clear Y2 Y3
        go_wp2_with (go_at_call 66; refine (less_c _ _ _).mono ?_; rintro e w' ⟨rfl, rfl⟩)
        go_roundg (hi - ((lo + hi) / 2 + 1))
        case measure => omega
        case rel => exact ⟨(lo + hi) / 2 + 1, hi, by rw [show ((lo : Int) + (hi : Int)) / 2 + 1 = (((lo + hi) / 2 + 1 : Nat) : Int) by omega], rfl, by omega, hkh, hhn, Nat.le_refl _, KB⟩
      | false =>
        have hk : k ≤ (lo + hi) / 2 := by
          rcases Nat.lt_or_ge ((lo + hi) / 2) k with a | a
          · have := Y2.out a; rw [hyx] at this; cases this
          · exact a
        clear Y2 Y3
        go_wp2_with (go_at_call 66; refine (less_c _ _ _).mono ?_; rintro e w' ⟨rfl, rfl⟩)
        go_roundg ((lo + hi) / 2 - lo)
        case measure => omega
        case rel => exact ⟨lo, (lo + hi) / 2, rfl, by rw [show ((lo : Int) + (hi : Int)) / 2 = (((lo + hi) / 2 : Nat) : Int) by omega], hlk, hk, by omega, Nat.le_refl _, KB⟩
    · obtain rfl : lo = k := by omega
      obtain rfl : hi = lo := by omega
      clear hlk hkh hg H2 H3
      by_cases hn : hi < n
      · have hne : l ≠ [] := by rintro rfl; have := HNN.out; simp at this; omega
        obtain rfl := (HP.out hne).1
        have x0 : wr.cell? ⟨b, off + hi, none⟩ = some (.string (l.getD hi s)) := gcell_below KB.out (HC.out _ _ (get_some (by rw [← HNN.out]; exact hn)))
        clear hne
        generalize l.getD hi s = y at x0 HF
        by_cases hy : y = s
        · have R := Lib.hid (show r = true by rw [← HF.out]; exact decide_eq_true ⟨hn, hy⟩)
          subst hy
          clear HF
          go_wp2_with (first | (go_at_call 67; refine (nan2_c _ _).mono ?_; rintro e w' ⟨rfl, rfl⟩))
          go_ret2
          first | exact ⟨_, by rw [R.out]; rfl, KB.out⟩ | exact ⟨⟨_, by rw [R.out]; rfl⟩, KB.out⟩
        · have R := Lib.hid (show r = false by rw [← HF.out]; exact decide_eq_false fun h => hy h.2)
          have hq : (y.toList == s.toList) = false := by
            rw [beq_eq_false_iff_ne]
            intro h
            rw [Lib.toList_data, Lib.toList_data] at h
            exact hy (ba_ext h)
          clear HF hy
          go_wp2_with (first | (go_at_call 67; refine (nan2_c _ _).mono ?_; rintro e w' ⟨rfl, rfl⟩))
          all_goals (go_ret2; first | exact ⟨_, by rw [R.out]; rfl, KB.out⟩ | exact ⟨⟨_, by rw [R.out]; rfl⟩, KB.out⟩)
      · have R := Lib.hid (show r = false by rw [← HF.out]; exact decide_eq_false fun h => hn h.1)
        clear HF
        go_wp2_with fail
        go_ret2
        first | exact ⟨_, by rw [R.out]; rfl, KB.out⟩ | exact ⟨⟨_, by rw [R.out]; rfl⟩, KB.out⟩

set_option maxHeartbeats 2000000 in
set_option maxRecDepth 100000 in
theorem untold_c {w : World} {c mb : Nat} {ex : Bool} {tm : Int} {tv av : Value} {ag : Bool} {L : List T3} (h : Ch w c mb ex tm tv ag av L) (tl : List ByteArray) (hl : tl.length ≤ 1000000) (ha : AddrsAt w tv tl) (hu : Up tl) (s : ByteArray) : Calls Try.prog 45 #[.pointer (some ⟨c, 0, none⟩), .string s] w fun e w' => e = .returned (.bool (!hasS tl s)) ∧ Below w.heap.size w w' := by
  have SC := Lib.hid (srch_c tv tl s w hl ha hu)
  obtain ⟨p, cap, rfl⟩ := ha.slice
  have c3 := h.c3
  clear h ha hl
  generalize tl.length = n at c3 SC
  go_enter Try.func45, Try.ntmps45
  go_wp2_with fail
  ((with_reducible refine SC.out.mono ?_); rintro e w3 ⟨i, rfl, k3⟩)
  go_wp2_with fail
  go_ret
  exact ⟨rfl, k3⟩
end Go.Proofs.Ytceilgeefegbmaa
