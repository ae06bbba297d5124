/-
  'querier.New', 'Hear', 'Is', 'Tick'. Contracts over the translated program.
-/
import Derived.Test.YtlpcndmblnpjmaaDoorWhM
import Derived.Test.YtlpcndmblnpjmaaDoorRows
import Derived.Test.YtlpcndmblnpjmaaDoorKit
import Derived.Test.YtlpcndmblnpjmaaDoorTst
import Derived.Test.YtlpcndmblnpjmaaDoorStrL
import Derived.Test.YtlpcndmblnpjmaaDoorOctCut
import Derived.Defers
import Derived.RegionTactic
import Derived.WalkSpells
import Derived.Deep.Cut
import Derived.Deep.QuietTactic
import Derived.StillTailTactics
import Derived.LoopTactic
namespace Go.Proofs.YtlpcndmblnpjmaaDoor
open Go Go.RowKit
set_option linter.unusedVariables false
set_option linter.unusedSimpArgs false

/-- A QUERIER AT BLOCK q. -/
def HasQ (w : World) (q : Nat) (s : ByteArray) (ev rb un nx ak : Int) : Prop :=
  w.heap[q]? = some (.cells #[.string s, .int .i64 ev, .int .i64 rb, .int .i64 un, .int .i64 nx, .int .i64 ak] 67 (0, 0))
theorem HasQ.lt {w : World} {q : Nat} {s : ByteArray} {ev rb un nx ak : Int} (h : HasQ w q s ev rb un nx ak) : q < w.heap.size := (Array.getElem?_eq_some_iff.1 h).1
theorem HasQ.fz {w : World} {q : Nat} {s : ByteArray} {ev rb un nx ak : Int} (h : HasQ w q s ev rb un nx ak) (j : Nat) : w.frozen? ⟨q, j, none⟩ = false := by simp [World.frozen?, show w.heap[q]? = _ from h]
theorem HasQ.c {w : World} {q : Nat} {s : ByteArray} {ev rb un nx ak : Int} (h : HasQ w q s ev rb un nx ak) : w.cell? ⟨q, 0, none⟩ = some (.string s) ∧ w.cell? ⟨q, 1, none⟩ = some (.int .i64 ev) ∧ w.cell? ⟨q, 2, none⟩ = some (.int .i64 rb) ∧ w.cell? ⟨q, 3, none⟩ = some (.int .i64 un) ∧ w.cell? ⟨q, 4, none⟩ = some (.int .i64 nx) ∧ w.cell? ⟨q, 5, none⟩ = some (.int .i64 ak) := by
  have h' : w.heap[q]? = _ := h
  refine ⟨?_, ?_, ?_, ?_, ?_, ?_⟩ <;> simp [World.cell?, h']
theorem HasQ.tw {w w' : World} {q p m : Nat} {s : ByteArray} {ev rb un nx ak : Int} (h : HasQ w q s ev rb un nx ak) (k : Tw w w' p m) (h1 : q ≠ p) (h2 : q ≠ m) : HasQ w' q s ev rb un nx ak :=
  (k.block q h.lt h1 h2).trans h
theorem HasQ.below {w w' : World} {q B : Nat} {s : ByteArray} {ev rb un nx ak : Int} (h : HasQ w q s ev rb un nx ak) (k : Below B w w') (hB : q < B) : HasQ w' q s ev rb un nx ak :=
  (k.block q hB).trans h

/-- May a time be? -/
def okT (now : Int) : Bool := decide (0 ≤ now) && decide (now ≤ 1099511627776)
/-- Is there a byte that is not 0? -/
def nz (s : ByteArray) : Bool := s.data.toList.any (fun b => b != 0)
/-- Does one of address src ask in the place of self? -/
def ahead (src self : ByteArray) : Bool := decide (src.size = self.size) && (nz src && blt src self)

theorem okT_t {now : Int} (h1 : 0 ≤ now) (h2 : now ≤ 1099511627776) : okT now = true := by simp [okT, h1, h2]
theorem okT_f {now : Int} (h : ¬ (0 ≤ now ∧ now ≤ 1099511627776)) : okT now = false := by
  unfold okT
  rw [Bool.eq_false_iff, ne_eq, Bool.and_eq_true, decide_eq_true_iff, decide_eq_true_iff]
  exact h

theorem nz_iff (s : ByteArray) : nz s = true ↔ ∃ i, ∃ h : i < s.size, s[i] ≠ 0 := by
  unfold nz
  rw [List.any_eq_true]
  constructor
  · rintro ⟨b, hb, hn⟩
    obtain ⟨i, hi, rfl⟩ := List.mem_iff_getElem.1 hb
    refine ⟨i, by simpa using hi, ?_⟩
    intro h
    have h2 : s.data[i]'(by simpa using hi) = 0 := h
    simp [h2] at hn
  · rintro ⟨i, hi, hn⟩
    exact ⟨s[i], List.mem_iff_getElem.2 ⟨i, by simpa using hi, by simp; rfl⟩, by simpa using hn⟩

/-- What trimRightByte answers: cut at the last byte that is not 0; and trimLeftByte: at the first. -/
def TrR (s : ByteArray) (w : World) (e : Ending) (w' : World) : Prop := ∃ k, e = .returned (.string (s.extract 0 k)) ∧ w' = w ∧ k ≤ s.size ∧ (∀ i, (h : i < s.size) → k ≤ i → s[i] = 0) ∧ (∀ h : k - 1 < s.size, 0 < k → s[k - 1] ≠ 0)
def TrL (s : ByteArray) (w : World) (e : Ending) (w' : World) : Prop := ∃ k, e = .returned (.string (s.extract k s.size)) ∧ w' = w ∧ k ≤ s.size ∧ (∀ i, (h : i < s.size) → i < k → s[i] = 0) ∧ (∀ h : k < s.size, s[k] ≠ 0)

set_option maxHeartbeats 2000000 in
set_option maxRecDepth 100000 in
theorem trimR_c (s : ByteArray) (w : World) (hs : s.size ≤ 9223372036854775807) : Calls Tryd.prog 46 #[.string s, .int .u8 0] w (TrR s w) := by
  have HQ := Lib.hid (show ∀ k t, t = s.extract 0 k → k ≤ s.size → (∀ i, (h : i < s.size) → k ≤ i → s[i] = 0) → (∀ h : k - 1 < s.size, 0 < k → s[k - 1] ≠ 0) → TrR s w (.returned (.string t)) w from fun k t e h1 h2 h3 => ⟨k, by rw [e], rfl, h1, h2, h3⟩)
  generalize TrR s w = Q at HQ ⊢
  go_enter Tryd.func46, Tryd.ntmps46
  go_wp2_with fail
  go_loopw [0] (fun v wr => ∃ k t, Hid (t = s.extract 0 k) ∧ k ≤ s.size ∧ v = .string t ∧ wr = w ∧ Hid (∀ i, (h : i < s.size) → k ≤ i → s[i] = 0)) (fun v _ => match v with | .string t => t.size | _ => 0)
  case atStart => exact ⟨s.size, s, Lib.hid (by simp), Nat.le_refl _, rfl, rfl, Lib.hid fun i h hk => absurd h (by omega)⟩
  case round =>
    obtain ⟨k, t, HT, hk, rfl, rfl, HZ⟩ := hrel
    have hts : t.size = k := by rw [HT.out]; simp; omega
    by_cases h0 : k = 0
    · have d1 : decide (0 < k) = false := decide_eq_false (by omega)
      have d2 : decide (0 < (k : Int)) = false := decide_eq_false (by omega)
      have HQ0 := Lib.hid (HQ.out k t HT.out hk HZ.out (fun h h1 => absurd h1 (by omega)))
      clear h0 hk HQ
      go_wp2_with fail
      exact HQ0.out
    · have d1 : decide (0 < k) = true := decide_eq_true (by omega)
      have d2 : decide (0 < (k : Int)) = true := decide_eq_true (by omega)
      have hi : k - 1 < t.size := by omega
      have hi2 : k - 1 < s.size := by omega
      have hb : t[k - 1] = s[k - 1] := by have e := HT.out; subst e; rw [ByteArray.getElem_extract]; simp
      by_cases hz : s[k - 1] = 0
      · have e1 : ((t[k - 1].toNat : Int) == 0) = true := by have e : _ = (0 : UInt8) := hb.trans hz; rw [e]; rfl
        have HT2 := Lib.hid (show t.extract 0 (k - 1) = s.extract 0 (k - 1) by rw [HT.out, ByteArray.extract_extract]; congr 1 <;> omega)
        have HZ2 := Lib.hid (show ∀ i, (h : i < s.size) → k - 1 ≤ i → s[i] = 0 from fun i h h1 => by
          by_cases e : i = k - 1
          · subst e; exact hz
          · exact HZ.out i h (by omega))
        clear hb hz HZ HQ
        go_wp2_with fail
        go_roundw
        case rel => exact ⟨k - 1, _, HT2, by omega, rfl, by trivial, HZ2⟩
        case measure => simp; omega
      · have e1 : ((t[k - 1].toNat : Int) == 0) = false := by
          rw [hb]
          have : s[k - 1].toNat ≠ 0 := fun e => hz (UInt8.toNat_inj.1 (by rw [e]; rfl))
          exact beq_false_of_ne (by omega)
        have HQ0 := Lib.hid (HQ.out k t HT.out hk HZ.out (fun h h1 => hz))
        clear hb hz HZ HQ
        go_wp2_with fail
        exact HQ0.out

set_option maxHeartbeats 2000000 in
set_option maxRecDepth 100000 in
theorem trimL_c (s : ByteArray) (w : World) (hs : s.size ≤ 9223372036854775807) : Calls Tryd.prog 45 #[.string s, .int .u8 0] w (TrL s w) := by
  have HQ := Lib.hid (show ∀ k t, t = s.extract k s.size → k ≤ s.size → (∀ i, (h : i < s.size) → i < k → s[i] = 0) → (∀ h : k < s.size, s[k] ≠ 0) → TrL s w (.returned (.string t)) w from fun k t e h1 h2 h3 => ⟨k, by rw [e], rfl, h1, h2, h3⟩)
  generalize TrL s w = Q at HQ ⊢
  go_enter Tryd.func45, Tryd.ntmps45
  go_wp2_with fail
  go_loopw [0] (fun v wr => ∃ k t, Hid (t = s.extract k s.size) ∧ k ≤ s.size ∧ v = .string t ∧ wr = w ∧ Hid (∀ i, (h : i < s.size) → i < k → s[i] = 0)) (fun v _ => match v with | .string t => t.size | _ => 0)
  case atStart => exact ⟨0, s, Lib.hid (by simp), Nat.zero_le _, rfl, rfl, Lib.hid fun i h hk => absurd hk (by omega)⟩
  case round =>
    obtain ⟨k, t, HT, hk, rfl, rfl, HZ⟩ := hrel
    obtain ⟨n, hn⟩ : ∃ n, n = s.size - k := ⟨_, rfl⟩
    have hts : t.size = n := by rw [HT.out]; simp; omega
    have HN := Lib.hid hn
    by_cases h0 : n = 0
    · have d1 : decide (0 < n) = false := decide_eq_false (by omega)
      have d2 : decide (0 < (n : Int)) = false := decide_eq_false (by omega)
      have HQ0 := Lib.hid (HQ.out k t HT.out hk HZ.out (fun h => absurd h (by omega)))
      clear h0 hk HQ hn
      go_wp2_with fail
      exact HQ0.out
    · have d1 : decide (0 < n) = true := decide_eq_true (by omega)
      have d2 : decide (0 < (n : Int)) = true := decide_eq_true (by omega)
      have hi : 0 < t.size := by omega
      have hi2 : k < s.size := by omega
      have hb : t[0] = s[k] := by have e := HT.out; subst e; rw [ByteArray.getElem_extract]; simp
      have HK1 := Lib.hid (show k + 1 ≤ s.size by omega)
      by_cases hz : s[k] = 0
      · have e1 : ((t[0].toNat : Int) == 0) = true := by have e : _ = (0 : UInt8) := hb.trans hz; rw [e]; rfl
        have HT2 := Lib.hid (show t.extract 1 n = s.extract (k + 1) s.size by rw [HT.out, ByteArray.extract_extract]; congr 1 <;> omega)
        have HZ2 := Lib.hid (show ∀ i, (h : i < s.size) → i < k + 1 → s[i] = 0 from fun i h h1 => by
          by_cases e : i = k
          · subst e; exact hz
          · exact HZ.out i h (by omega))
        clear hb hz HZ HQ hk hi2 hn
        go_wp2_with fail
        go_roundw
        case rel => exact ⟨k + 1, _, HT2, HK1.out, rfl, by trivial, HZ2⟩
        case measure => simp; omega
      · have e1 : ((t[0].toNat : Int) == 0) = false := by
          rw [hb]
          have : s[k].toNat ≠ 0 := fun e => hz (UInt8.toNat_inj.1 (by rw [e]; rfl))
          exact beq_false_of_ne (by omega)
        have HQ0 := Lib.hid (HQ.out k t HT.out hk HZ.out (fun h => hz))
        clear hb hz HZ HQ hk hi2 hn
        go_wp2_with fail
        exact HQ0.out


def PR (s : ByteArray) (k : Nat) : Prop := k ≤ s.size ∧ (∀ i, (h : i < s.size) → k ≤ i → s[i] = 0) ∧ (∀ h : k - 1 < s.size, 0 < k → s[k - 1] ≠ 0)
def PL (s : ByteArray) (k : Nat) : Prop := k ≤ s.size ∧ (∀ i, (h : i < s.size) → i < k → s[i] = 0) ∧ (∀ h : k < s.size, s[k] ≠ 0)
theorem PR.ex (s : ByteArray) : ∃ k, PR s k := by
  have : ∀ n, n ≤ s.size → (∀ i, (h : i < s.size) → n ≤ i → s[i] = 0) → ∃ k, PR s k := by
    intro n
    induction n with
    | zero => exact fun h1 h2 => ⟨0, h1, h2, fun _ h => absurd h (by omega)⟩
    | succ n ih =>
      intro h1 h2
      by_cases hz : s[n] = 0
      · refine ih (by omega) fun i h h3 => ?_
        by_cases e : i = n
        · subst e; exact hz
        · exact h2 i h (by omega)
      · exact ⟨n + 1, h1, h2, fun _ _ => hz⟩
  exact this s.size (Nat.le_refl _) fun i h h2 => absurd h (by omega)
theorem PL.ex (s : ByteArray) : ∃ k, PL s k := by
  have : ∀ m k, k + m = s.size → (∀ i, (h : i < s.size) → i < k → s[i] = 0) → ∃ k, PL s k := by
    intro m
    induction m with
    | zero => exact fun k h1 h2 => ⟨k, by omega, h2, fun h => absurd h (by omega)⟩
    | succ m ih =>
      intro k h1 h2
      have hk : k < s.size := by omega
      by_cases hz : s[k] = 0
      · refine ih (k + 1) (by omega) fun i h h3 => ?_
        by_cases e : i = k
        · subst e; exact hz
        · exact h2 i h (by omega)
      · exact ⟨k, by omega, h2, fun _ => hz⟩
  exact this s.size 0 (by omega) fun i h h2 => absurd h2 (by omega)
theorem PR.uniq {s : ByteArray} {j k : Nat} (h : PR s j) (h' : PR s k) : j = k := by
  rcases Nat.lt_trichotomy j k with e | e | e
  · exact absurd (h.2.1 (k - 1) (by have := h'.1; omega) (by omega)) (h'.2.2 (by have := h'.1; omega) (by omega))
  · exact e
  · exact absurd (h'.2.1 (j - 1) (by have := h.1; omega) (by omega)) (h.2.2 (by have := h.1; omega) (by omega))
theorem PL.uniq {s : ByteArray} {j k : Nat} (h : PL s j) (h' : PL s k) : j = k := by
  rcases Nat.lt_trichotomy j k with e | e | e
  · exact absurd (h'.2.1 j (by have := h'.1; omega) e) (h.2.2 (by have := h'.1; omega))
  · exact e
  · exact absurd (h.2.1 k (by have := h.1; omega) e) (h'.2.2 (by have := h.1; omega))
theorem trimR_e (s : ByteArray) (k : Nat) (hk : PR s k) (w : World) (hs : s.size ≤ 9223372036854775807) : Calls Tryd.prog 46 #[.string s, .int .u8 0] w fun e w' => e = .returned (.string (s.extract 0 k)) ∧ w' = w :=
  (trimR_c s w hs).mono fun e w' ⟨j, h1, h2, h3⟩ => by
    have : j = k := PR.uniq h3 hk
    subst this
    exact ⟨h1, h2⟩
theorem trimL_e (s : ByteArray) (k : Nat) (hk : PL s k) (w : World) (hs : s.size ≤ 9223372036854775807) : Calls Tryd.prog 45 #[.string s, .int .u8 0] w fun e w' => e = .returned (.string (s.extract k s.size)) ∧ w' = w :=
  (trimL_c s w hs).mono fun e w' ⟨j, h1, h2, h3⟩ => by
    have : j = k := PL.uniq h3 hk
    subst this
    exact ⟨h1, h2⟩
theorem trim_empty {s : ByteArray} {k j : Nat} (h : PR s k) (h' : PL (s.extract 0 k) j) : decide ((s.extract 0 k).extract j (s.extract 0 k).size = ByteArray.empty) = !(nz s) := by
  obtain ⟨h1, h2, h3⟩ := h
  obtain ⟨h4, h5, h6⟩ := h'
  have hks : (s.extract 0 k).size = k := by simp; omega
  rw [hks] at h4 ⊢
  rcases k with _ | k
  · have hn : nz s = false := by
      rw [Bool.eq_false_iff, ne_eq, nz_iff]
      rintro ⟨i, hi, hz⟩
      exact hz (h2 i hi (Nat.zero_le _))
    rw [hn]
    have : (s.extract 0 0).extract j 0 = ByteArray.empty := by rw [ByteArray.extract_eq_empty_iff]; omega
    rw [this]
    rfl
  · have hk : k < s.size := by omega
    have hn : nz s = true := by
      rw [nz_iff]
      exact ⟨k, hk, h3 (by omega) (by omega)⟩
    rw [hn]
    have hj : j < k + 1 := by
      rcases Nat.lt_or_ge j (k + 1) with hj | hj
      · exact hj
      · exfalso
        have := h5 k (by rw [hks]; omega) (by omega)
        rw [ByteArray.getElem_extract] at this
        simp only [Nat.zero_add] at this
        exact h3 (by omega) (by omega) this
    simp only [Bool.not_true, decide_eq_false_iff_not, ByteArray.extract_eq_empty_iff, hks]
    omega
set_option maxHeartbeats 2000000 in
set_option maxRecDepth 100000 in
theorem trim_c (s : ByteArray) (hs : s.size ≤ 9223372036854775807) : ∃ t : ByteArray, decide (t = ⟨#[]⟩) = !(nz s) ∧ ∀ w : World, Calls Tryd.prog 35 #[.string s, .string ⟨#[0]⟩] w fun e w' => e = .returned (.string t) ∧ ∃ n, w' = w.drewN n := by
  by_cases h0 : s.size = 0
  · obtain rfl : s = ⟨#[]⟩ := by
      apply ByteArray.ext
      apply Array.eq_empty_of_size_eq_zero
      exact h0
    refine ⟨⟨#[]⟩, rfl, fun w => ?_⟩
    clear h0 hs
    go_enter Tryd.func35, Tryd.ntmps35
    go_wp2_with fail
    go_ret
    exact ⟨rfl, 0, rfl⟩
  · have e1 := fun t => seql_of (show decide (s = (⟨#[]⟩ : ByteArray)) = false from decide_eq_false (by rintro rfl; exact h0 rfl)) t
    obtain ⟨k, hk⟩ := PR.ex s
    obtain ⟨j, hj⟩ := PL.ex (s.extract 0 k)
    refine ⟨_, trim_empty hk hj, fun w => ?_⟩
    have R := Lib.hid (fun w => trimR_e s k hk w (by omega))
    have L := Lib.hid (fun w => trimL_e (s.extract 0 k) j hj w (by simp; omega))
    clear h0 hs hk hj
    generalize s.extract 0 k = t at R L ⊢
    generalize t.extract j t.size = u at R L ⊢
    go_enter Tryd.func35, Tryd.ntmps35
    go_upto_region 4 with fail
    go_quiet (first | (go_at_call 46; refine Calls.quiet_of_same (R.out _)) | (go_at_call 45; refine Calls.quiet_of_same (L.out _)))
    go_wp2_with fail
    go_ret
    exact ⟨rfl, _, rfl⟩

set_option maxHeartbeats 2000000 in
set_option maxRecDepth 100000 in
theorem ahead_c {w : World} {q : Nat} {s : ByteArray} {ev rb un nx ak : Int} (h : HasQ w q s ev rb un nx ak) (a : ByteArray) (ha : a.size ≤ 9223372036854775807) :
    Calls Tryd.prog 23 #[.pointer (some ⟨q, 0, none⟩), .string a] w fun e w' => e = .returned (.bool (ahead a s)) ∧ ∃ n, w' = w.drewN n := by
  obtain ⟨c0, c1, c2, c3, c4, c5⟩ := h.c
  obtain ⟨t, ht, hT⟩ := trim_c a ha
  have T := Lib.hid hT
  have e1 := fun ty => sneq_of ht ty
  have e2 := fun ty => slss_of (show blt a s = blt a s from rfl) ty
  by_cases hz : a.size = s.size
  · have V := Lib.hid (show ahead a s = (nz a && blt a s) by unfold ahead; rw [decide_eq_true hz, Bool.true_and])
    obtain ⟨b1, b2⟩ := eq_t (show (a.size : Int) = (s.size : Int) by omega)
    have b3 : (a.size == s.size) = true := beq_iff_eq.2 hz
    generalize ahead a s = A at V ⊢
    generalize nz a = N at V e1 ht ⊢
    generalize blt a s = B at V e2 ⊢
    simp only [Bool.not_not] at e1
    clear hz h ht hT
    rcases Bool.eq_false_or_eq_true N with rfl | rfl
    · go_enter Tryd.func23, Tryd.ntmps23
      go_wp2_with (go_at_call 35; refine (T.out _).mono ?_; rintro e w' ⟨rfl, nd, rfl⟩)
      go_ret
      exact ⟨by rw [V.out]; rfl, _, rfl⟩
    · go_enter Tryd.func23, Tryd.ntmps23
      go_wp2_with (go_at_call 35; refine (T.out _).mono ?_; rintro e w' ⟨rfl, nd, rfl⟩)
      go_ret
      exact ⟨by rw [V.out]; rfl, _, rfl⟩
  · have V := Lib.hid (show ahead a s = false by unfold ahead; rw [decide_eq_false hz, Bool.false_and])
    obtain ⟨b1, b2⟩ := ne_t (show (a.size : Int) ≠ (s.size : Int) by omega)
    have b3 : (a.size == s.size) = false := beq_eq_false_iff_ne.2 hz
    generalize ahead a s = A at V ⊢
    clear hz h ht hT
    go_enter Tryd.func23, Tryd.ntmps23
    go_wp2_with fail
    go_ret
    exact ⟨by rw [V.out]; rfl, 0, rfl⟩

/-- Is this one to ask? -/
def isB (s : ByteArray) (un now : Int) : Bool := !decide (s = ⟨#[]⟩) && decide (un ≤ now)

set_option maxHeartbeats 2000000 in
set_option maxRecDepth 100000 in
theorem is_c {w : World} {q : Nat} {s : ByteArray} {ev rb un nx ak : Int} (h : HasQ w q s ev rb un nx ak) (now : Int) :
    Calls Tryd.prog 12 #[.pointer (some ⟨q, 0, none⟩), .int .i64 now] w fun e w' => e = .returned (.bool (isB s un now)) ∧ w' = w := by
  obtain ⟨c0, c1, c2, c3, c4, c5⟩ := h.c
  unfold isB
  have e1 := fun ty => sneq_of (show decide (s = ⟨#[]⟩) = decide (s = ⟨#[]⟩) from rfl) ty
  generalize decide (s = ⟨#[]⟩) = N at e1 ⊢
  clear h
  rcases Bool.eq_false_or_eq_true N with rfl | rfl
  · go_enter Tryd.func12, Tryd.ntmps12
    go_wp2_with fail
    go_ret
    exact ⟨rfl, rfl⟩
  · go_enter Tryd.func12, Tryd.ntmps12
    go_wp2_with fail
    go_ret
    exact ⟨rfl, rfl⟩

set_option maxHeartbeats 2000000 in
set_option maxRecDepth 100000 in
theorem new_no (s : ByteArray) (ev rb : Int) (w : World) (hh : (s.size ≠ 0 ∧ s.size ≠ 4 ∧ s.size ≠ 16) ∨ ev < 4 ∨ 100000 < ev ∨ rb < 1 ∨ 7 < rb) :
    Calls Tryd.prog 9 #[.string s, .int .i64 ev, .int .i64 rb, .int .i64 0] w fun e w' => e = .returned (.tuple #[.pointer none, .int .i64 1]) ∧ w' = w := by
  by_cases c0 : s.size ≠ 0 ∧ s.size ≠ 4 ∧ s.size ≠ 16
  · obtain ⟨a1, a2⟩ := ne_t (show (s.size : Int) ≠ 0 by omega)
    obtain ⟨a3, a4⟩ := ne_t (show (s.size : Int) ≠ 4 by omega)
    obtain ⟨a5, a6⟩ := ne_t (show (s.size : Int) ≠ 16 by omega)
    clear hh c0
    go_enter Tryd.func9, Tryd.ntmps9
    go_wp2
    go_ret2
    exact ⟨rfl, rfl⟩
  · have cs : s.size = 0 ∨ s.size = 4 ∨ s.size = 16 := by omega
    have ch : ev < 4 ∨ 100000 < ev ∨ rb < 1 ∨ 7 < rb := by omega
    clear hh c0
    rcases cs with cs | cs | cs
    · obtain ⟨a0, b0⟩ := eq_t (show (s.size : Int) = 0 by omega)
      clear cs
      rcases ch with ch | ch | ch | ch
      · have d1 : decide (ev < 4) = true := decide_eq_true ch
        clear ch
        go_enter Tryd.func9, Tryd.ntmps9
        go_wp2
        all_goals (go_ret2; exact ⟨rfl, rfl⟩)
      · have d1 : decide (ev < 4) = false := decide_eq_false (by omega)
        have d2 : decide (100000 < ev) = true := decide_eq_true ch
        clear ch
        go_enter Tryd.func9, Tryd.ntmps9
        go_wp2
        all_goals (go_ret2; exact ⟨rfl, rfl⟩)
      · have d3 : decide (rb < 1) = true := decide_eq_true ch
        clear ch
        go_enter Tryd.func9, Tryd.ntmps9
        go_wp2
        all_goals (go_ret2; exact ⟨rfl, rfl⟩)
      · have d3 : decide (rb < 1) = false := decide_eq_false (by omega)
        have d4 : decide (7 < rb) = true := decide_eq_true ch
        clear ch
        go_enter Tryd.func9, Tryd.ntmps9
        go_wp2
        all_goals (go_ret2; exact ⟨rfl, rfl⟩)
    · obtain ⟨a0, b0⟩ := ne_t (show (s.size : Int) ≠ 0 by omega)
      obtain ⟨a1, b1⟩ := eq_t (show (s.size : Int) = 4 by omega)
      clear cs
      rcases ch with ch | ch | ch | ch
      · have d1 : decide (ev < 4) = true := decide_eq_true ch
        clear ch
        go_enter Tryd.func9, Tryd.ntmps9
        go_wp2
        all_goals (go_ret2; exact ⟨rfl, rfl⟩)
      · have d1 : decide (ev < 4) = false := decide_eq_false (by omega)
        have d2 : decide (100000 < ev) = true := decide_eq_true ch
        clear ch
        go_enter Tryd.func9, Tryd.ntmps9
        go_wp2
        all_goals (go_ret2; exact ⟨rfl, rfl⟩)
      · have d3 : decide (rb < 1) = true := decide_eq_true ch
        clear ch
        go_enter Tryd.func9, Tryd.ntmps9
        go_wp2
        all_goals (go_ret2; exact ⟨rfl, rfl⟩)
      · have d3 : decide (rb < 1) = false := decide_eq_false (by omega)
        have d4 : decide (7 < rb) = true := decide_eq_true ch
        clear ch
        go_enter Tryd.func9, Tryd.ntmps9
        go_wp2
        all_goals (go_ret2; exact ⟨rfl, rfl⟩)
    · obtain ⟨a0, b0⟩ := ne_t (show (s.size : Int) ≠ 0 by omega)
      obtain ⟨a1, b1⟩ := ne_t (show (s.size : Int) ≠ 4 by omega)
      obtain ⟨a2, b2⟩ := eq_t (show (s.size : Int) = 16 by omega)
      clear cs
      rcases ch with ch | ch | ch | ch
      · have d1 : decide (ev < 4) = true := decide_eq_true ch
        clear ch
        go_enter Tryd.func9, Tryd.ntmps9
        go_wp2
        all_goals (go_ret2; exact ⟨rfl, rfl⟩)
      · have d1 : decide (ev < 4) = false := decide_eq_false (by omega)
        have d2 : decide (100000 < ev) = true := decide_eq_true ch
        clear ch
        go_enter Tryd.func9, Tryd.ntmps9
        go_wp2
        all_goals (go_ret2; exact ⟨rfl, rfl⟩)
      · have d3 : decide (rb < 1) = true := decide_eq_true ch
        clear ch
        go_enter Tryd.func9, Tryd.ntmps9
        go_wp2
        all_goals (go_ret2; exact ⟨rfl, rfl⟩)
      · have d3 : decide (rb < 1) = false := decide_eq_false (by omega)
        have d4 : decide (7 < rb) = true := decide_eq_true ch
        clear ch
        go_enter Tryd.func9, Tryd.ntmps9
        go_wp2
        all_goals (go_ret2; exact ⟨rfl, rfl⟩)

set_option maxHeartbeats 2000000 in
set_option maxRecDepth 100000 in
theorem new_ok (s : ByteArray) (ev rb : Int) (w : World) (cs : s.size = 0 ∨ s.size = 4 ∨ s.size = 16) (e1 : 4 ≤ ev) (e2 : ev ≤ 100000) (r1 : 1 ≤ rb) (r2 : rb ≤ 7) :
    Calls Tryd.prog 9 #[.string s, .int .i64 ev, .int .i64 rb, .int .i64 0] w fun e w' => ∃ q, e = .returned (.tuple #[.pointer (some ⟨q, 0, none⟩), .int .i64 0]) ∧ w.heap.size ≤ q ∧ HasQ w' q s ev rb 0 0 0 ∧ Below w.heap.size w w' := by
  have d1 : decide (ev < 4) = false := decide_eq_false (by omega)
  have d2 : decide (100000 < ev) = false := decide_eq_false (by omega)
  have d3 : decide (rb < 1) = false := decide_eq_false (by omega)
  have d4 : decide (7 < rb) = false := decide_eq_false (by omega)
  have C := Lib.hid (clone_c s w (by omega))
  have HQ := Lib.hid (show ∀ U : World, Below w.heap.size w U → ∃ q, Ending.returned (.tuple #[.pointer (some ⟨U.heap.size, 0, none⟩), .int .i64 0]) = .returned (.tuple #[.pointer (some ⟨q, 0, none⟩), .int .i64 0]) ∧ w.heap.size ≤ q ∧ HasQ (U.alloc (.cells #[.string s, .int .i64 ev, .int .i64 rb, .int .i64 0, .int .i64 0, .int .i64 0] 67)) q s ev rb 0 0 0 ∧ Below w.heap.size w (U.alloc (.cells #[.string s, .int .i64 ev, .int .i64 rb, .int .i64 0, .int .i64 0, .int .i64 0] 67)) from
    fun U h => ⟨U.heap.size, rfl, h.size, heap_new U _, h.alloc h.size _⟩)
  clear e1 e2 r1 r2
  rcases cs with cs | cs | cs
  · obtain ⟨a0, b0⟩ := eq_t (show (s.size : Int) = 0 by omega)
    clear cs
    go_enter Tryd.func9, Tryd.ntmps9
    go_wp2_with (first | (go_at_call 34; refine C.out.mono ?_; rintro e w1 ⟨rfl, h1⟩) | go_in)
    go_ret2
    exact HQ.out _ h1
  · obtain ⟨a0, b0⟩ := ne_t (show (s.size : Int) ≠ 0 by omega)
    obtain ⟨a1, b1⟩ := eq_t (show (s.size : Int) = 4 by omega)
    clear cs
    go_enter Tryd.func9, Tryd.ntmps9
    go_wp2_with (first | (go_at_call 34; refine C.out.mono ?_; rintro e w1 ⟨rfl, h1⟩) | go_in)
    go_ret2
    exact HQ.out _ h1
  · obtain ⟨a0, b0⟩ := ne_t (show (s.size : Int) ≠ 0 by omega)
    obtain ⟨a1, b1⟩ := ne_t (show (s.size : Int) ≠ 4 by omega)
    obtain ⟨a2, b2⟩ := eq_t (show (s.size : Int) = 16 by omega)
    clear cs
    go_enter Tryd.func9, Tryd.ntmps9
    go_wp2_with (first | (go_at_call 34; refine C.out.mono ?_; rintro e w1 ⟨rfl, h1⟩) | go_in)
    go_ret2
    exact HQ.out _ h1

set_option maxHeartbeats 2000000 in
set_option maxRecDepth 100000 in
theorem hear_no {w : World} {q : Nat} {s : ByteArray} {ev rb un nx ak : Int} (h : HasQ w q s ev rb un nx ak) (a : ByteArray) (ha : a.size ≤ 9223372036854775807) (now : Int) (hh : (okT now && ahead a s) = false) :
    Calls Tryd.prog 11 #[.pointer (some ⟨q, 0, none⟩), .string a, .int .i64 now] w fun e w' => e = .returned (.bool false) ∧ HasQ w' q s ev rb un nx ak ∧ Tw w w' q q := by
  have A := Lib.hid (ahead_c h a ha)
  have HH := Lib.hid (show ∀ n, HasQ (w.drewN n) q s ev rb un nx ak ∧ Tw w (w.drewN n) q q from fun n => ⟨h, Tw.ofBelow (below_drewN (Below.refl _ w) n)⟩)
  by_cases c1 : now < 0
  · have d1 : decide (0 ≤ now) = false := decide_eq_false (by omega)
    clear hh c1 h A
    go_enter Tryd.func11, Tryd.ntmps11
    go_wp2
    go_ret
    exact ⟨rfl, HH.out 0⟩
  · have d1 : decide (0 ≤ now) = true := decide_eq_true (by omega)
    by_cases c2 : 1099511627776 < now
    · have d2 : decide (now ≤ 1099511627776) = false := decide_eq_false (by omega)
      clear hh c1 c2 h A
      go_enter Tryd.func11, Tryd.ntmps11
      go_wp2
      go_ret
      exact ⟨rfl, HH.out 0⟩
    · have d2 : decide (now ≤ 1099511627776) = true := decide_eq_true (by omega)
      rw [okT_t (by omega) (by omega), Bool.true_and] at hh
      rw [hh] at A
      clear hh c1 c2 h
      go_enter Tryd.func11, Tryd.ntmps11
      go_wp2_with (first | (go_at_call 23; refine A.out.mono ?_; rintro e w' ⟨rfl, nd, rfl⟩) | go_in)
      go_ret
      exact ⟨rfl, HH.out _⟩

set_option maxHeartbeats 2000000 in
set_option maxRecDepth 100000 in
theorem hear_yes {w : World} {q : Nat} {s : ByteArray} {ev rb un nx ak : Int} (h : HasQ w q s ev rb un nx ak) (a : ByteArray) (ha : a.size ≤ 9223372036854775807) (now : Int) (hh : (okT now && ahead a s) = true) (e1 : 4 ≤ ev) (e2 : ev ≤ 100000) (r1 : 1 ≤ rb) (r2 : rb ≤ 7) :
    Calls Tryd.prog 11 #[.pointer (some ⟨q, 0, none⟩), .string a, .int .i64 now] w fun e w' => e = .returned (.bool true) ∧ HasQ w' q s ev rb (max un (now + rb * ev + 5)) nx ak ∧ Tw w w' q q := by
  have A := Lib.hid (ahead_c h a ha)
  obtain ⟨c0, c1, c2, c3, c4, c5⟩ := h.c
  have f3 := h.fz 3
  rw [Bool.and_eq_true] at hh
  rw [hh.2] at A
  have ht := hh.1
  unfold okT at ht
  rw [Bool.and_eq_true] at ht
  obtain ⟨d1, d2⟩ := ht
  have n1 := of_decide_eq_true d1
  have n2 := of_decide_eq_true d2
  have m1 : 0 ≤ rb * ev := Int.mul_nonneg (by omega) (by omega)
  have m2 : rb * ev ≤ 7 * 100000 := Int.mul_le_mul r2 e2 (by omega) (by omega)
  have HH := Lib.hid (show ∀ u n, HasQ ((w.drewN n).setCell ⟨q, 3, none⟩ (.int .i64 u)) q s ev rb u nx ak ∧ Tw w ((w.drewN n).setCell ⟨q, 3, none⟩ (.int .i64 u)) q q from fun u n => ⟨heap_store (w := w.drewN n) h, (Tw.ofBelow (below_drewN (Below.refl _ w) n)).trans (Tw.setCell (w.drewN n) q q 3 _)⟩)
  generalize hm : rb * ev = m at m1 m2 ⊢
  clear h hh
  go_enter Tryd.func11, Tryd.ntmps11
  go_upto_region 3 with (first | (go_at_call 23; refine A.out.mono ?_; rintro e w' ⟨rfl, nd, rfl⟩) | go_in)
  go_region
  go_wp2_with fail
  go_ret
  exact ⟨rfl, HH.out _ _⟩

theorem tick_bad {w : World} {q : Nat} {s : ByteArray} {ev rb un nx ak : Int} (h : HasQ w q s ev rb un nx ak) (now : Int) (hh : okT now = false) :
    Calls Tryd.prog 10 #[.pointer (some ⟨q, 0, none⟩), .int .i64 now] w fun e w' => e = .returned (.bool false) ∧ w' = w := by
  by_cases c1 : now < 0
  · have d1 : decide (0 ≤ now) = false := decide_eq_false (by omega)
    clear hh c1 h
    go_enter Tryd.func10, Tryd.ntmps10
    go_wp2
    go_ret
    exact ⟨rfl, rfl⟩
  · have d1 : decide (0 ≤ now) = true := decide_eq_true (by omega)
    have d2 : decide (now ≤ 1099511627776) = false := by
      unfold okT at hh
      rw [d1, Bool.true_and] at hh
      exact hh
    clear hh c1 h
    go_enter Tryd.func10, Tryd.ntmps10
    go_wp2
    go_ret
    exact ⟨rfl, rfl⟩

theorem okT_of {now : Int} (h : okT now = true) : 0 ≤ now ∧ now ≤ 1099511627776 := by
  unfold okT at h
  rw [Bool.and_eq_true, decide_eq_true_iff, decide_eq_true_iff] at h
  exact h

set_option maxHeartbeats 2000000 in
set_option maxRecDepth 100000 in
theorem tick_not {w : World} {q : Nat} {s : ByteArray} {ev rb un nx ak : Int} (h : HasQ w q s ev rb un nx ak) (now : Int) (hh : okT now = true) (hi : isB s un now = false) :
    Calls Tryd.prog 10 #[.pointer (some ⟨q, 0, none⟩), .int .i64 now] w fun e w' => e = .returned (.bool false) ∧ HasQ w' q s ev rb un un 0 ∧ Tw w w' q q := by
  obtain ⟨c0, c1, c2, c3, c4, c5⟩ := h.c
  have A := Lib.hid (is_c h now)
  rw [hi] at A
  have f4 := h.fz 4
  have f5 := h.fz 5
  have d1 : decide (0 ≤ now) = true := decide_eq_true (okT_of hh).1
  have d2 : decide (now ≤ 1099511627776) = true := decide_eq_true (okT_of hh).2
  have H1 : HasQ (w.setCell ⟨q, 4, none⟩ (.int .i64 un)) q s ev rb un un ak := heap_store h
  have H2 : HasQ ((w.setCell ⟨q, 4, none⟩ (.int .i64 un)).setCell ⟨q, 5, none⟩ (.int .i64 0)) q s ev rb un un 0 := heap_store H1
  have HH := Lib.hid (And.intro H2 ((Tw.setCell w q q 4 (.int .i64 un)).trans (Tw.setCell _ q q 5 (.int .i64 0))))
  clear h H1 H2 hh hi
  go_enter Tryd.func10, Tryd.ntmps10
  go_wp2_with (first | (go_at_call 12; refine A.out.mono ?_; rintro e w' ⟨rfl, rfl⟩) | go_in)
  go_ret
  exact ⟨rfl, HH.out⟩

set_option maxHeartbeats 2000000 in
set_option maxRecDepth 100000 in
theorem tick_wait {w : World} {q : Nat} {s : ByteArray} {ev rb un nx ak : Int} (h : HasQ w q s ev rb un nx ak) (now : Int) (hh : okT now = true) (hi : isB s un now = true) (hn : now < nx) :
    Calls Tryd.prog 10 #[.pointer (some ⟨q, 0, none⟩), .int .i64 now] w fun e w' => e = .returned (.bool false) ∧ w' = w := by
  obtain ⟨c0, c1, c2, c3, c4, c5⟩ := h.c
  have A := Lib.hid (is_c h now)
  rw [hi] at A
  have d1 : decide (0 ≤ now) = true := decide_eq_true (okT_of hh).1
  have d2 : decide (now ≤ 1099511627776) = true := decide_eq_true (okT_of hh).2
  have d3 : decide (now < nx) = true := decide_eq_true hn
  clear h hh hi hn
  go_enter Tryd.func10, Tryd.ntmps10
  go_wp2_with (first | (go_at_call 12; refine A.out.mono ?_; rintro e w' ⟨rfl, rfl⟩) | go_in)
  go_ret
  exact ⟨rfl, rfl⟩

set_option maxHeartbeats 4000000 in
set_option maxRecDepth 100000 in
theorem tick_yes {w : World} {q : Nat} {s : ByteArray} {ev rb un nx ak : Int} (h : HasQ w q s ev rb un nx ak) (now : Int) (hh : okT now = true) (hi : isB s un now = true) (hn : nx ≤ now) (e1 : 4 ≤ ev) (e2 : ev ≤ 100000) (k1 : 0 ≤ ak) (k2 : ak ≤ 1000000000) :
    Calls Tryd.prog 10 #[.pointer (some ⟨q, 0, none⟩), .int .i64 now] w fun e w' => e = .returned (.bool true) ∧ HasQ w' q s ev rb un (if ak + 1 < rb then now + Int.tdiv ev 4 else now + ev) (ak + 1) ∧ Tw w w' q q := by
  obtain ⟨c0, c1, c2, c3, c4, c5⟩ := h.c
  have A := Lib.hid (is_c h now)
  rw [hi] at A
  have f4 := h.fz 4
  have f5 := h.fz 5
  have n1 := (okT_of hh).1
  have n2 := (okT_of hh).2
  have d1 : decide (0 ≤ now) = true := decide_eq_true (okT_of hh).1
  have d2 : decide (now ≤ 1099511627776) = true := decide_eq_true (okT_of hh).2
  have d3 : decide (now < nx) = false := decide_eq_false (by omega)
  have t1 : 0 ≤ Int.tdiv ev 4 := Int.tdiv_nonneg (by omega) (by omega)
  have t2 : Int.tdiv ev 4 ≤ 100000 := by rw [Int.tdiv_eq_ediv_of_nonneg (by omega)]; omega
  have H1 : HasQ (w.setCell ⟨q, 5, none⟩ (.int .i64 (ak + 1))) q s ev rb un nx (ak + 1) := heap_store h
  have H2 : HasQ ((w.setCell ⟨q, 5, none⟩ (.int .i64 (ak + 1))).setCell ⟨q, 4, none⟩ (.int .i64 (now + ev))) q s ev rb un (now + ev) (ak + 1) := heap_store H1
  have K2 := (Tw.setCell w q q 5 (.int .i64 (ak + 1))).trans (Tw.setCell _ q q 4 (.int .i64 (now + ev)))
  have HW := Lib.hid (And.intro H2 K2)
  obtain ⟨r, hr0⟩ : ∃ r, r = (if ak + 1 < rb then now + Int.tdiv ev 4 else now + ev) := ⟨_, rfl⟩
  have HR := Lib.hid hr0
  rw [← hr0]
  clear hr0
  clear h H1 H2 K2 hh hi hn
  go_enter Tryd.func10, Tryd.ntmps10
  go_upto_region 10 with (first | (go_at_call 12; refine A.out.mono ?_; rintro e w' ⟨rfl, rfl⟩) | go_in)
  clear c0 c1 c2 c3 c4 c5 f4 f5
  generalize (w'.setCell ⟨q, 5, none⟩ (.int .i64 (ak + 1))).setCell ⟨q, 4, none⟩ (.int .i64 (now + ev)) = W at HW ⊢
  obtain ⟨c0, c1, c2, c3, c4, c5⟩ := HW.out.1.c
  have f4 := HW.out.1.fz 4
  by_cases hr : ak + 1 < rb
  · have d4 : decide (ak + 1 < rb) = true := decide_eq_true hr
    have HR2 := Lib.hid (HR.out.trans (if_pos hr))
    have HX := Lib.hid (show ∀ n, HasQ ((W.drewN n).setCell ⟨q, 4, none⟩ (.int .i64 (now + Int.tdiv ev 4))) q s ev rb un (now + Int.tdiv ev 4) (ak + 1) ∧ Tw w' ((W.drewN n).setCell ⟨q, 4, none⟩ (.int .i64 (now + Int.tdiv ev 4))) q q from fun n => ⟨heap_store (w := W.drewN n) HW.out.1, (HW.out.2.trans (Tw.ofBelow (below_drewN (Below.refl _ W) n))).trans (Tw.setCell (W.drewN n) q q 4 _)⟩)
    clear hr
    go_region
    go_wp2_with fail
    go_ret
    exact ⟨rfl, by rw [HR2.out]; exact HX.out 1⟩
  · have d4 : decide (ak + 1 < rb) = false := decide_eq_false hr
    have HR2 := Lib.hid (HR.out.trans (if_neg hr))
    have HX := Lib.hid (show ∀ n, HasQ (W.drewN n) q s ev rb un (now + ev) (ak + 1) ∧ Tw w' (W.drewN n) q q from fun n => ⟨HW.out.1, HW.out.2.trans (Tw.ofBelow (below_drewN (Below.refl _ W) n))⟩)
    clear hr
    go_region
    go_wp2_with fail
    go_ret
    exact ⟨rfl, by rw [HR2.out]; exact HX.out 1⟩
end Go.Proofs.YtlpcndmblnpjmaaDoor
