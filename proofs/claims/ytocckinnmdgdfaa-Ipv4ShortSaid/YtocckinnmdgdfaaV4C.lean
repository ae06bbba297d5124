/-
  The bytes of a packet, the document's answer: siphonref04.Encode.
-/
import Derived.Test.YtocckinnmdgdfaaV4B
import Derived.Deep.RegionHeld3
namespace Go.Proofs.Ytocckinnmdgdfaa
open Go.RowKit
set_option linter.unusedVariables false
set_option linter.unusedSimpArgs false

/-- One byte; two bytes. -/
def o1 (n : Int) : ByteArray := ⟨(bytesOf n.toNat 1).toArray⟩
def o2 (n : Int) : ByteArray := ⟨(bytesOf n.toNat 2).toArray⟩
theorem o1_size (n : Int) : (o1 n).size = 1 := bytes_size _ _
theorem o2_size (n : Int) : (o2 n).size = 2 := bytes_size _ _

/-- The packet in its box, and what has been made since. -/
def Box7 (w0 : World) (b : Nat) (v0 v1 v2 v3 v4 v5 v6 : Value) (w : World) : Prop :=
  w.cell? ⟨b, 0, none⟩ = some v0 ∧ w.cell? ⟨b, 1, none⟩ = some v1 ∧ w.cell? ⟨b, 2, none⟩ = some v2 ∧ w.cell? ⟨b, 3, none⟩ = some v3 ∧ w.cell? ⟨b, 4, none⟩ = some v4 ∧ w.cell? ⟨b, 5, none⟩ = some v5 ∧ w.cell? ⟨b, 6, none⟩ = some v6 ∧ b < w.heap.size ∧ Below w0.heap.size w0 w

theorem Box7.below {w0 w w' : World} {b : Nat} {v0 v1 v2 v3 v4 v5 v6 : Value} (h : Box7 w0 b v0 v1 v2 v3 v4 v5 v6 w) (k : Below w.heap.size w w') : Box7 w0 b v0 v1 v2 v3 v4 v5 v6 w' := by
  obtain ⟨h0, h1, h2, h3, h4, h5, h6, hb, hl⟩ := h
  refine ⟨?_, ?_, ?_, ?_, ?_, ?_, ?_, Nat.lt_of_lt_of_le hb k.size, below_then hl k⟩
  · rw [k.cell (p := ⟨b, 0, none⟩) hb]; exact h0
  · rw [k.cell (p := ⟨b, 1, none⟩) hb]; exact h1
  · rw [k.cell (p := ⟨b, 2, none⟩) hb]; exact h2
  · rw [k.cell (p := ⟨b, 3, none⟩) hb]; exact h3
  · rw [k.cell (p := ⟨b, 4, none⟩) hb]; exact h4
  · rw [k.cell (p := ⟨b, 5, none⟩) hb]; exact h5
  · rw [k.cell (p := ⟨b, 6, none⟩) hb]; exact h6

theorem of1_k {w0 : World} {b : Nat} {v0 v1 v2 v3 v4 v5 v6 : Value} (n : Int) (w : World) (h0 : 0 ≤ n) (h1 : n ≤ 255) (h : Box7 w0 b v0 v1 v2 v3 v4 v5 v6 w) :
    Calls Try.prog 46 #[.int .i64 n, .int .i64 1] w fun e w' => e = .returned (.string (o1 n)) ∧ Box7 w0 b v0 v1 v2 v3 v4 v5 v6 w' := by
  have H := of_c n 1 w (by omega) (by omega)
  rw [put1 n h0 h1] at H
  exact H.mono fun _ _ g => ⟨g.1, h.below g.2⟩
theorem of2_k {w0 : World} {b : Nat} {v0 v1 v2 v3 v4 v5 v6 : Value} (n : Int) (w : World) (h0 : 0 ≤ n) (h1 : n ≤ 65535) (h : Box7 w0 b v0 v1 v2 v3 v4 v5 v6 w) :
    Calls Try.prog 46 #[.int .i64 n, .int .i64 2] w fun e w' => e = .returned (.string (o2 n)) ∧ Box7 w0 b v0 v1 v2 v3 v4 v5 v6 w' := by
  have H := of_c n 2 w (by omega) (by omega)
  rw [put2v n h0 h1] at H
  exact H.mono fun _ _ g => ⟨g.1, h.below g.2⟩

set_option maxHeartbeats 4000000 in
set_option maxRecDepth 100000 in
theorem rvenc_yes (i t p : Int) (s d o x : ByteArray) (w : World) (h : VOk i t p s d o x) :
    Calls Try.prog 30 #[.agg #[.int .i64 i, .int .i64 t, .int .i64 p, .string s, .string d, .string o, .string x]] w fun e w' => e = .returned (.tuple #[.string (encVB i t p s d o x), .int .i64 0]) ∧ Below w.heap.size w w' := by
  have hok : okV i t p s d o x = true := decide_eq_true h
  have hlen := headL_len i t p s d o x h
  unfold VOk at h
  obtain ⟨i0, i1, t0, t1, p0, p1, zs, zd, zo, zo4, zx⟩ := h
  have hH : o1 (64 + (5 + (o.size : Int) / 4)) ++ ⟨#[0]⟩ ++ o2 (4 * (5 + (o.size : Int) / 4) + (x.size : Int)) ++ o2 i ++ ⟨#[0, 0]⟩ ++ o1 t ++ o1 p ++ ⟨#[0, 0]⟩ ++ s ++ d ++ o = ⟨(headL i t p s d o x).toArray⟩ := by
    have e2 : (64 + (5 + (o.size : Int) / 4)).toNat = 64 + (20 + o.size) / 4 := by omega
    have e3 : (4 * (5 + (o.size : Int) / 4) + (x.size : Int)).toNat = 20 + o.size + x.size := by omega
    unfold o1 o2
    rw [e2, e3]
    apply ByteArray.ext
    simp [headL, ByteArray.data_append]
  have hfb : ¬ fillBad ⟨#[]⟩ ⟨(headL i t p s d o x).toArray⟩ (10 : Int) := by
    unfold fillBad
    rw [ByteArray.size_mk', List.size_toArray]
    have : (⟨#[]⟩ : ByteArray).size = 0 := rfl
    omega
  have HF := Lib.hid fun U => rfill_c ⟨#[]⟩ ⟨(headL i t p s d o x).toArray⟩ 10 U (by decide) (by rw [ByteArray.size_mk', List.size_toArray]; omega)
  have hv : fillSpec ⟨#[]⟩ ⟨(headL i t p s d o x).toArray⟩ 10 = (filled ⟨#[]⟩ ⟨(headL i t p s d o x).toArray⟩ 10, 0) := by unfold fillSpec; rw [if_neg hfb]; rfl
  rw [hv, ← hH] at HF
  have hf : (filled ⟨#[]⟩ ⟨(headL i t p s d o x).toArray⟩ 10).size ≤ 60 := by
    rw [filled_size _ _ _ (by rw [ByteArray.size_mk', List.size_toArray]; omega), ByteArray.size_mk', List.size_toArray]
    omega
  rw [← hH] at hf
  have HE := Lib.hid (show filled ⟨#[]⟩ ⟨(headL i t p s d o x).toArray⟩ 10 ++ x = encVB i t p s d o x from rfl)
  rw [← hH] at HE
  obtain ⟨F, hF⟩ : ∃ F, F = filled ⟨#[]⟩ (o1 (64 + (5 + (o.size : Int) / 4)) ++ ⟨#[0]⟩ ++ o2 (4 * (5 + (o.size : Int) / 4) + (x.size : Int)) ++ o2 i ++ ⟨#[0, 0]⟩ ++ o1 t ++ o1 p ++ ⟨#[0, 0]⟩ ++ s ++ d ++ o) 10 := ⟨_, rfl⟩
  rw [← hF] at HF HE hf
  obtain ⟨E, hE⟩ : ∃ E, E = encVB i t p s d o x := ⟨_, rfl⟩
  rw [← hE] at HE ⊢
  clear hF hE hv hfb hH hlen
  have HM := Lib.hid fun U => rvmay_c i t p s d o x U (by omega) (by omega) (by omega) (by omega)
  rw [hok] at HM
  have S1 := o1_size
  have S2 := o2_size
  have j1 : s.size ≤ 4 := by omega
  have j2 : d.size ≤ 4 := by omega
  have j3 : x.size ≤ 65515 := by omega
  have ZO := Lib.hid zo4
  have Z4 := Lib.hid zs
  have Z5 := Lib.hid zd
  clear hok zs zd zo4
  go_enter Try.func30, Try.ntmps30
  go_wp2_with fail
  refine (HM.out _).mono ?_
  rintro e w1 ⟨rfl, h1⟩
  obtain ⟨hc1, hf1⟩ := below_cells h1
  go_wp2_with fail
  have hB : Box7 w w.heap.size (.int .i64 i) (.int .i64 t) (.int .i64 p) (.string s) (.string d) (.string o) (.string x) w1 := by
    refine ⟨?_, ?_, ?_, ?_, ?_, ?_, ?_, by have := h1.size; simp at this; omega, vboxed h1⟩ <;> (rw [hc1 _ _ (by simp)]; simp)
  clear hc1 hf1 h1
  obtain ⟨c0, c1, c2, c3, c4, c5, c6, hlt, hbl⟩ := hB
  have b1 : (0 : Int) ≤ 64 + (5 + (o.size : Int) / 4) := by omega
  have b2 : 64 + (5 + (o.size : Int) / 4) ≤ 255 := by omega
  have b3 : (0 : Int) ≤ 4 * (5 + (o.size : Int) / 4) + (x.size : Int) := by omega
  have b4 : 4 * (5 + (o.size : Int) / 4) + (x.size : Int) ≤ 65535 := by omega
  have q1 : 12 + s.size ≤ 9223372036854775807 := by omega
  have q2 : 12 + s.size + d.size ≤ 9223372036854775807 := by omega
  have q3 : 12 + s.size + d.size + o.size ≤ 9223372036854775807 := by omega
  have r1 : ¬ 9223372036854775807 < 12 + s.size := by omega
  have r2 : ¬ 9223372036854775807 < 12 + s.size + d.size := by omega
  have r3 : ¬ 9223372036854775807 < 12 + s.size + d.size + o.size := by omega
  have k1 : IntKind.i64.wrap (64 + (5 + (o.size : Int) / 4)) = 64 + (5 + (o.size : Int) / 4) := IntWalk.i64_in _ (by omega)
  have k2 : IntKind.i64.wrap (4 * (5 + (o.size : Int) / 4)) = 4 * (5 + (o.size : Int) / 4) := IntWalk.i64_in _ (by omega)
  have k3 : IntKind.i64.wrap (4 * (5 + (o.size : Int) / 4) + (x.size : Int)) = 4 * (5 + (o.size : Int) / 4) + (x.size : Int) := IntWalk.i64_in _ (by omega)
  go_region_held3 (fun w' => w'.cell? ⟨w.heap.size, 0, none⟩ = some (.int .i64 i) ∧ w'.cell? ⟨w.heap.size, 1, none⟩ = some (.int .i64 t) ∧ w'.cell? ⟨w.heap.size, 2, none⟩ = some (.int .i64 p) ∧ w'.cell? ⟨w.heap.size, 3, none⟩ = some (.string s) ∧ w'.cell? ⟨w.heap.size, 4, none⟩ = some (.string d) ∧ w'.cell? ⟨w.heap.size, 5, none⟩ = some (.string o) ∧ w'.cell? ⟨w.heap.size, 6, none⟩ = some (.string x) ∧ w.heap.size < w'.heap.size ∧ Below w.heap.size w w')
    (first | (refine ⟨?_, ?_, ?_, ?_, ?_, ?_, ?_, ?_, ?_⟩ <;> first | assumption | exact Below.drew (by assumption) | (simp; done)))
    (first
      | (go_at_call 46; (with_reducible refine (of1_k (w0 := w) (b := w.heap.size) (v0 := .int .i64 i) (v1 := .int .i64 t) (v2 := .int .i64 p) (v3 := .string s) (v4 := .string d) (v5 := .string o) (v6 := .string x) _ _ ?_ ?_ ?_).mono ?_); (assumption); (assumption); (refine ⟨?_, ?_, ?_, ?_, ?_, ?_, ?_, ?_, ?_⟩ <;> first | assumption | exact Below.drew (by assumption)); rintro e w' ⟨rfl, a0, a1, a2, a3, a4, a5, a6, a7, a8⟩)
      | (go_at_call 46; (with_reducible refine (of2_k (w0 := w) (b := w.heap.size) (v0 := .int .i64 i) (v1 := .int .i64 t) (v2 := .int .i64 p) (v3 := .string s) (v4 := .string d) (v5 := .string o) (v6 := .string x) _ _ ?_ ?_ ?_).mono ?_); (assumption); (assumption); (refine ⟨?_, ?_, ?_, ?_, ?_, ?_, ?_, ?_, ?_⟩ <;> first | assumption | exact Below.drew (by assumption)); rintro e w' ⟨rfl, a0, a1, a2, a3, a4, a5, a6, a7, a8⟩))
  clear k1 k2 k3 r1 r2 r3 q1 q2 q3
  go_wp2_with fail
  refine (HF.out _).mono ?_
  rintro e w14 ⟨rfl, h14⟩
  obtain ⟨hc14, hf14⟩ := below_cells h14
  go_wp2_with fail
  go_ret2
  exact ⟨ret_sv HE.out, below_then (by assumption) h14⟩

theorem rvenc_no (i t p : Int) (s d o x : ByteArray) (w : World) (hs : s.size ≤ 140737488351232) (hd : d.size ≤ 140737488351232) (ho : o.size ≤ 140737488351232) (hx : x.size ≤ 140737488351232) (h : ¬ VOk i t p s d o x) :
    Calls Try.prog 30 #[.agg #[.int .i64 i, .int .i64 t, .int .i64 p, .string s, .string d, .string o, .string x]] w fun e w' => e = .returned (.tuple #[.string ⟨#[]⟩, .int .i64 1]) ∧ Below w.heap.size w w' := by
  have hok : okV i t p s d o x = false := decide_eq_false h
  have HM := Lib.hid fun U => rvmay_c i t p s d o x U hs hd ho hx
  rw [hok] at HM
  clear hok h
  go_enter Try.func30, Try.ntmps30
  go_wp2_with fail
  refine (HM.out _).mono ?_
  rintro e w1 ⟨rfl, h1⟩
  go_wp2_with fail
  go_ret2
  exact ⟨rfl, vboxed h1⟩

theorem rvenc_c (i t p : Int) (s d o x : ByteArray) (w : World) (hs : s.size ≤ 140737488351232) (hd : d.size ≤ 140737488351232) (ho : o.size ≤ 140737488351232) (hx : x.size ≤ 140737488351232) :
    Calls Try.prog 30 #[.agg #[.int .i64 i, .int .i64 t, .int .i64 p, .string s, .string d, .string o, .string x]] w fun e w' => e = .returned (.tuple #[.string (encV i t p s d o x).1, .int .i64 (encV i t p s d o x).2]) ∧ Below w.heap.size w w' := by
  by_cases h : VOk i t p s d o x
  · have hv : encV i t p s d o x = (encVB i t p s d o x, 0) := if_pos h
    rw [hv]
    exact rvenc_yes i t p s d o x w h
  · have hv : encV i t p s d o x = (⟨#[]⟩, 1) := if_neg h
    rw [hv]
    exact rvenc_no i t p s d o x w hs hd ho hx h

end Go.Proofs.Ytocckinnmdgdfaa
