/-
  The bytes of a message, the document's answer: siphonref06.Encode.
-/
import Derived.Test.YtcahhkmbigjhlaaBpA
import Derived.Test.YtcahhkmbigjhlaaRefW
import Derived.Deep.RegionHeld3
import Derived.Deep.DeepCutAuto
namespace Go.Proofs.Ytcahhkmbigjhlaa
open Go.RowKit
set_option linter.unusedVariables false
set_option linter.unusedSimpArgs false

set_option maxHeartbeats 1000000 in
set_option maxRecDepth 100000 in
theorem rencB_no (r c b p a : Int) (ch le fw : Bool) (w : World) (h : ¬ OkB c p a) :
    Calls Try.prog 13 #[.agg #[.int .u64 r, .int .i64 c, .int .u64 b, .int .i64 p, .int .i64 a, .bool ch, .bool le, .bool fw]] w fun e w' => e = .returned (.tuple #[.string ⟨#[]⟩, .int .i64 1]) ∧ Below w.heap.size w w' := by
  have hok : okB c p a = false := decide_eq_false h
  have HM := Lib.hid fun U => rmayB_c r c b p a ch le fw U
  rw [hok] at HM
  clear hok h
  go_enter Try.func13, Try.ntmps13
  go_wp2_with fail
  refine (HM.out _).mono ?_
  rintro e w1 ⟨rfl, h1⟩
  go_wp2_with fail
  go_ret2
  exact ⟨rfl, vboxed h1⟩

/-- Four and eight bytes. -/
def o4 (n : Int) : ByteArray := ⟨(bytesOf n.toNat 4).toArray⟩
def o8 (n : Int) : ByteArray := ⟨(bytesOf n.toNat 8).toArray⟩
theorem o4_size (n : Int) : (o4 n).size = 4 := bytes_size _ _
theorem o8_size (n : Int) : (o8 n).size = 8 := bytes_size _ _
theorem put4r (n : Int) (h0 : 0 ≤ n) (h1 : n ≤ 4294967295) : putSpec n 4 = (⟨(bytesOf n.toNat 4).toArray⟩, 0) := by
  obtain ⟨N, rfl⟩ := Int.eq_ofNat_of_zero_le h0
  exact put_ok N 4 (by omega) (by omega) (by omega)

/-- The vector in its box, Age in the message's, and what has been made since. -/
def BoxV (w0 : World) (V P : Nat) (r c b p a : Int) (w : World) : Prop :=
  w.cell? ⟨V, 0, none⟩ = some (.int .u64 r) ∧ w.cell? ⟨V, 1, none⟩ = some (.int .i64 c) ∧ w.cell? ⟨V, 2, none⟩ = some (.int .u64 b) ∧ w.cell? ⟨V, 3, none⟩ = some (.int .i64 p) ∧ w.cell? ⟨P, 4, none⟩ = some (.int .i64 a) ∧ V < w.heap.size ∧ P < w.heap.size ∧ Below w0.heap.size w0 w
theorem BoxV.below {w0 w w' : World} {V P : Nat} {r c b p a : Int} (h : BoxV w0 V P r c b p a w) (k : Below w.heap.size w w') : BoxV w0 V P r c b p a w' := by
  obtain ⟨h0, h1, h2, h3, h4, hv, hp, hl⟩ := h
  refine ⟨?_, ?_, ?_, ?_, ?_, Nat.lt_of_lt_of_le hv k.size, Nat.lt_of_lt_of_le hp k.size, below_then hl k⟩
  · rw [k.cell (p := ⟨V, 0, none⟩) hv]; exact h0
  · rw [k.cell (p := ⟨V, 1, none⟩) hv]; exact h1
  · rw [k.cell (p := ⟨V, 2, none⟩) hv]; exact h2
  · rw [k.cell (p := ⟨V, 3, none⟩) hv]; exact h3
  · rw [k.cell (p := ⟨P, 4, none⟩) hp]; exact h4
theorem BoxV.drew {w0 w : World} {V P : Nat} {r c b p a : Int} (h : BoxV w0 V P r c b p a w) : BoxV w0 V P r c b p a w.drew := by
  obtain ⟨h0, h1, h2, h3, h4, hv, hp, hl⟩ := h
  exact ⟨h0, h1, h2, h3, h4, hv, hp, hl.drew⟩

theorem bof1_k {w0 : World} {V P : Nat} {r c b p a : Int} (n : Int) (w : World) (h0 : 0 ≤ n) (h1 : n ≤ 255) (h : BoxV w0 V P r c b p a w) :
    Calls Try.prog 30 #[.int .i64 n, .int .i64 1] w fun e w' => e = .returned (.string (o1 n)) ∧ BoxV w0 V P r c b p a w' := by
  have H := of_c n 1 w (by omega) (by omega)
  rw [put1 n h0 h1] at H
  exact H.mono fun _ _ g => ⟨g.1, h.below g.2⟩
theorem bof2_k {w0 : World} {V P : Nat} {r c b p a : Int} (n : Int) (w : World) (h0 : 0 ≤ n) (h1 : n ≤ 65535) (h : BoxV w0 V P r c b p a w) :
    Calls Try.prog 30 #[.int .i64 n, .int .i64 2] w fun e w' => e = .returned (.string (o2 n)) ∧ BoxV w0 V P r c b p a w' := by
  have H := of_c n 2 w (by omega) (by omega)
  rw [put2v n h0 h1] at H
  exact H.mono fun _ _ g => ⟨g.1, h.below g.2⟩
theorem bof4_k {w0 : World} {V P : Nat} {r c b p a : Int} (n : Int) (w : World) (h0 : 0 ≤ n) (h1 : n ≤ 4294967295) (h : BoxV w0 V P r c b p a w) :
    Calls Try.prog 30 #[.int .i64 n, .int .i64 4] w fun e w' => e = .returned (.string (o4 n)) ∧ BoxV w0 V P r c b p a w' := by
  have H := of_c n 4 w (by omega) (by omega)
  rw [put4r n h0 h1] at H
  exact H.mono fun _ _ g => ⟨g.1, h.below g.2⟩
theorem beight_k {w0 : World} {V P : Nat} {r c b p a : Int} (n : Int) (w : World) (h0 : 0 ≤ n) (h1 : n ≤ 18446744073709551615) (h : BoxV w0 V P r c b p a w) :
    Calls Try.prog 31 #[.int .u64 n] w fun e w' => e = .returned (.string (o8 n)) ∧ BoxV w0 V P r c b p a w' :=
  (reight_c n w h0 h1).mono fun _ _ g => ⟨g.1, h.below g.2⟩

theorem enc_text (r c b p a : Int) (ch le fw : Bool) (G : Int) (hG : G = (flagB ch le fw : Int)) : (⟨#[66, 66, 3, 0, 0, 2, 2]⟩ ++ o1 G ++ o8 r ++ o4 c ++ o8 b ++ o2 p ++ o1 a ++ ⟨#[0, 20, 0, 2, 0, 15, 0, 0]⟩ : ByteArray) = encBB r c b p a ch le fw := by
  subst hG
  apply ByteArray.ext
  simp [encBB, encBL, backB, frontB, o1, o2, o4, o8, ByteArray.data_append]

set_option maxHeartbeats 4000000 in
set_option maxRecDepth 100000 in
theorem rencB_yes (r c b p a : Int) (ch le fw : Bool) (w : World) (r0 : 0 ≤ r) (r1 : r ≤ 18446744073709551615) (b0 : 0 ≤ b) (b1 : b ≤ 18446744073709551615) (h : OkB c p a) :
    Calls Try.prog 13 #[.agg #[.int .u64 r, .int .i64 c, .int .u64 b, .int .i64 p, .int .i64 a, .bool ch, .bool le, .bool fw]] w fun e w' => e = .returned (.tuple #[.string (encBB r c b p a ch le fw), .int .i64 0]) ∧ Below w.heap.size w w' := by
  have hok : okB c p a = true := decide_eq_true h
  have HM := Lib.hid fun U => rmayB_c r c b p a ch le fw U
  rw [hok] at HM
  clear hok
  unfold OkB at h
  obtain ⟨x0, x1, x2, x3, x4, x5⟩ := h
  have HA := Lib.hid fun U => of_c a 1 U (by omega) (by omega)
  rw [put1 a x4 x5] at HA
  change Hid (∀ U, Calls _ _ _ U fun e w' => e = .returned (.string (o1 a)) ∧ _) at HA
  have S1 := o1_size
  have S2 := o2_size
  have S4 := o4_size
  have S8 := o8_size
  go_enter Try.func13, Try.ntmps13
  go_wp2_with fail
  refine (HM.out _).mono ?_
  rintro e w1 ⟨rfl, h1⟩
  obtain ⟨hc1, hf1⟩ := below_cells h1
  have g1 : w.heap.size < w1.heap.size := by have := h1.size; simp at this; omega
  obtain ⟨n1, hn1⟩ : ∃ n : Int, n = 12 + (b2n ch 1 : Int) := ⟨_, rfl⟩
  obtain ⟨n2, hn2⟩ : ∃ n : Int, n = n1 + (b2n le 16 : Int) := ⟨_, rfl⟩
  obtain ⟨n3, hn3⟩ : ∃ n : Int, n = n2 + (b2n fw 32 : Int) := ⟨_, rfl⟩
  have m1 : 12 ≤ n1 ∧ n1 ≤ 13 := by rw [hn1]; cases ch <;> simp [b2n]
  have m2 : 12 ≤ n2 ∧ n2 ≤ 29 := by rw [hn2]; cases le <;> simp [b2n] <;> omega
  have m3 : 12 ≤ n3 ∧ n3 ≤ 61 := by rw [hn3]; cases fw <;> simp [b2n] <;> omega
  have HG := Lib.hid (show n3 = (flagB ch le fw : Int) by rw [hn3, hn2, hn1]; unfold flagB; simp)
  obtain ⟨m1a, m1b⟩ := m1
  obtain ⟨m2a, m2b⟩ := m2
  obtain ⟨m3a, m3b⟩ := m3
  have N1 := Lib.hid hn1
  have N2 := Lib.hid hn2
  have N3 := Lib.hid hn3
  clear hn1 hn2 hn3
  go_upto_if 11 with fail
  go_cut [4] (fun s4 wx => s4 = .int .i64 n1 ∧ w1 = wx)
  case first =>
    cases ch
    · have e : n1 = 12 := by rw [N1.out]; rfl
      subst e
      go_wp2_with fail
      go_meet
      exact ⟨rfl, rfl⟩
    · have e : n1 = 13 := by rw [N1.out]; rfl
      subst e
      go_wp2_with fail
      go_meet
      exact ⟨rfl, rfl⟩
  case rest =>
  obtain ⟨rfl, rfl⟩ := hcut
  go_upto_if 15 with fail
  go_cut [4] (fun s4 wx => s4 = .int .i64 n2 ∧ w1 = wx)
  case first =>
    cases le
    · have e : n2 = n1 := by rw [N2.out]; simp [b2n]
      subst e
      go_wp2_with fail
      go_meet
      exact ⟨rfl, rfl⟩
    · have e : n2 = n1 + 16 := by rw [N2.out]; simp [b2n]
      subst e
      go_wp2_with fail
      go_meet
      exact ⟨rfl, rfl⟩
  case rest =>
  obtain ⟨rfl, rfl⟩ := hcut
  go_upto_if 19 with fail
  go_cut [4] (fun s4 wx => s4 = .int .i64 n3 ∧ w1 = wx)
  case first =>
    cases fw
    · have e : n3 = n2 := by rw [N3.out]; simp [b2n]
      subst e
      go_wp2_with fail
      go_meet
      exact ⟨rfl, rfl⟩
    · have e : n3 = n2 + 32 := by rw [N3.out]; simp [b2n]
      subst e
      go_wp2_with fail
      go_meet
      exact ⟨rfl, rfl⟩
  case rest =>
  obtain ⟨rfl, rfl⟩ := hcut
  go_wp2_with fail
  have BV : BoxV w w1.heap.size w.heap.size r c b p a (w1.alloc (.cells #[.int .u64 r, .int .i64 c, .int .u64 b, .int .i64 p] 24)) := by
    refine ⟨by simp, by simp, by simp, by simp, ?_, by simp, by simp; omega, (vboxed h1).alloc (vboxed h1).size _⟩
    rw [World.cell?_alloc_lt _ _ _ g1, hc1 _ _ (by simp)]; simp
  have KB := Lib.hid BV
  clear hc1 hf1
  obtain ⟨d0, d1, d2, d3, d4, d5, d6, d7⟩ := BV
  have mm0 : 0 ≤ n3 := by omega
  have mm1 : n3 ≤ 255 := by omega
  clear KB
  go_region_held3 (fun w' => w'.cell? ⟨w1.heap.size, 0, none⟩ = some (.int .u64 r) ∧ w'.cell? ⟨w1.heap.size, 1, none⟩ = some (.int .i64 c) ∧ w'.cell? ⟨w1.heap.size, 2, none⟩ = some (.int .u64 b) ∧ w'.cell? ⟨w1.heap.size, 3, none⟩ = some (.int .i64 p) ∧ w'.cell? ⟨w.heap.size, 4, none⟩ = some (.int .i64 a) ∧ w1.heap.size < w'.heap.size ∧ w.heap.size < w'.heap.size ∧ Below w.heap.size w w')
    (first | (refine ⟨?_, ?_, ?_, ?_, ?_, ?_, ?_, ?_⟩ <;> first | assumption | exact Below.drew (by assumption) | (simp; done)))
    (first
      | (go_at_call 30; (with_reducible refine (bof1_k (w0 := w) (V := w1.heap.size) (P := w.heap.size) (r := r) (c := c) (b := b) (p := p) (a := a) _ _ ?_ ?_ ?_).mono ?_); (assumption); (assumption); (refine ⟨?_, ?_, ?_, ?_, ?_, ?_, ?_, ?_⟩ <;> first | assumption | exact Below.drew (by assumption) | (simp; done)); rintro e w' ⟨rfl, e0, e1, e2, e3, e4, e5, e6, e7⟩)
      | (go_at_call 30; (with_reducible refine (bof2_k (w0 := w) (V := w1.heap.size) (P := w.heap.size) (r := r) (c := c) (b := b) (p := p) (a := a) _ _ ?_ ?_ ?_).mono ?_); (assumption); (assumption); (refine ⟨?_, ?_, ?_, ?_, ?_, ?_, ?_, ?_⟩ <;> first | assumption | exact Below.drew (by assumption) | (simp; done)); rintro e w' ⟨rfl, e0, e1, e2, e3, e4, e5, e6, e7⟩)
      | (go_at_call 30; (with_reducible refine (bof4_k (w0 := w) (V := w1.heap.size) (P := w.heap.size) (r := r) (c := c) (b := b) (p := p) (a := a) _ _ ?_ ?_ ?_).mono ?_); (assumption); (assumption); (refine ⟨?_, ?_, ?_, ?_, ?_, ?_, ?_, ?_⟩ <;> first | assumption | exact Below.drew (by assumption) | (simp; done)); rintro e w' ⟨rfl, e0, e1, e2, e3, e4, e5, e6, e7⟩)
      | (go_at_call 31; (with_reducible refine (beight_k (w0 := w) (V := w1.heap.size) (P := w.heap.size) (r := r) (c := c) (b := b) (p := p) (a := a) _ _ ?_ ?_ ?_).mono ?_); (assumption); (assumption); (refine ⟨?_, ?_, ?_, ?_, ?_, ?_, ?_, ?_⟩ <;> first | assumption | exact Below.drew (by assumption) | (simp; done)); rintro e w' ⟨rfl, e0, e1, e2, e3, e4, e5, e6, e7⟩))
  go_wp2_with fail
  refine (HA.out _).mono ?_
  rintro e w9 ⟨rfl, h9⟩
  go_wp2_with fail
  go_ret2
  exact ⟨ret_sv (enc_text r c b p a ch le fw n3 HG.out), below_then (by assumption) h9⟩

theorem rencB_c (r c b p a : Int) (ch le fw : Bool) (w : World) (r0 : 0 ≤ r) (r1 : r ≤ 18446744073709551615) (c0 : -9223372036854775808 ≤ c) (c1 : c ≤ 9223372036854775807) (b0 : 0 ≤ b) (b1 : b ≤ 18446744073709551615) (p0 : -9223372036854775808 ≤ p) (p1 : p ≤ 9223372036854775807) (a0 : -9223372036854775808 ≤ a) (a1 : a ≤ 9223372036854775807) :
    Calls Try.prog 13 #[.agg #[.int .u64 r, .int .i64 c, .int .u64 b, .int .i64 p, .int .i64 a, .bool ch, .bool le, .bool fw]] w fun e w' => e = .returned (.tuple #[.string (encB r c b p a ch le fw).1, .int .i64 (encB r c b p a ch le fw).2]) ∧ Below w.heap.size w w' := by
  by_cases h : OkB c p a
  · have hv : encB r c b p a ch le fw = (encBB r c b p a ch le fw, 0) := if_pos h
    rw [hv]
    exact rencB_yes r c b p a ch le fw w r0 r1 b0 b1 h
  · have hv : encB r c b p a ch le fw = (⟨#[]⟩, 1) := if_neg h
    rw [hv]
    exact rencB_no r c b p a ch le fw w h

end Go.Proofs.Ytcahhkmbigjhlaa
