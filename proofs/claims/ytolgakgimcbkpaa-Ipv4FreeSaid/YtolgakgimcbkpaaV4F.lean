/-
  The packet of any bytes: ipv4.Decode, whole.
-/
import Derived.Test.YtolgakgimcbkpaaV4E
namespace Go.Proofs.Ytolgakgimcbkpaa
open Go.RowKit
set_option linter.unusedVariables false
set_option linter.unusedSimpArgs false

theorem Dbx.head {w0 w : World} {n hb : Nat} {H : ByteArray} (h : Dbx w0 n hb H w) : w.cell? ⟨hb, 0, none⟩ = some (.string H) := h.1

set_option maxHeartbeats 4000000 in
set_option maxRecDepth 100000 in
theorem vdec_ok0 (s H : ByteArray) (w : World) (hs : s.size ≤ 140737488500000) (hv : headV s = (H, 0)) (hz : H.size ≤ 60) (hz2 : 20 ≤ H.size) (hx : (H.size : Int) ≤ numv H 2 2) (hy : numv H 2 2 ≤ (s.size : Int)) (hp : numv H 6 2 = 0) :
    Calls Try.prog 10 #[.string s] w fun e w' => e = .returned (.tuple #[.agg #[.int .i64 (numv H 4 2), .int .i64 (numv H 8 1), .int .i64 (numv H 9 1), .string (subv H 12 4), .string (subv H 16 4), .string (subv H 20 ((H.size : Int) - 20)), .string (s.extract H.size (numv H 2 2).toNat)], .int .i64 0]) ∧ Below w.heap.size w w' := by
  obtain ⟨q0, q1⟩ := numv_le2 H 2
  have N1 := Lib.hid fun (hb : Nat) (U : World) (g : Dbx w w.heap.size hb H U) => vnum_k 2 2 U (by omega) (by omega) (by omega) g
  obtain ⟨q, hq⟩ : ∃ q, q = numv H 2 2 := ⟨_, rfl⟩
  rw [← hq] at N1 q0 q1 hx hy ⊢
  clear hq
  have H2 := Lib.hid fun U => cut_c s H.size (q - (H.size : Int)) U (by omega) (by omega) (by omega)
  have hv2 : cutSpec s H.size (q - (H.size : Int)) = (s.extract H.size q.toNat, 0) := by
    have := cut_okv s H.size (q.toNat - H.size) (by omega)
    rw [show ((q.toNat - H.size : Nat) : Int) = q - (H.size : Int) from by omega, show H.size + (q.toNat - H.size) = q.toNat from by omega] at this
    exact this
  rw [hv2] at H2
  obtain ⟨X, hX⟩ : ∃ X, X = s.extract H.size q.toNat := ⟨_, rfl⟩
  rw [← hX] at H2 ⊢
  clear hv2 hy hX
  have N2 := Lib.hid fun (hb : Nat) (U : World) (g : Dbx w w.heap.size hb H U) => vnum_k 6 2 U (by omega) (by omega) (by omega) g
  obtain ⟨m, hm⟩ : ∃ m, m = numv H 6 2 := ⟨_, rfl⟩
  rw [← hm] at N2 hp
  clear hm
  obtain ⟨t1, t2⟩ := eq_t hp
  clear hp
  have A1 := Lib.hid fun (hb : Nat) (U : World) (g : Dbx w w.heap.size hb H U) => vnum_k 4 2 U (by omega) (by omega) (by omega) g
  have A2 := Lib.hid fun (hb : Nat) (U : World) (g : Dbx w w.heap.size hb H U) => vnum_k 8 1 U (by omega) (by omega) (by omega) g
  have A3 := Lib.hid fun (hb : Nat) (U : World) (g : Dbx w w.heap.size hb H U) => vnum_k 9 1 U (by omega) (by omega) (by omega) g
  have A4 := Lib.hid fun (hb : Nat) (U : World) (g : Dbx w w.heap.size hb H U) => vpart_k 12 4 U (by omega) (by omega) (by omega) g
  have A5 := Lib.hid fun (hb : Nat) (U : World) (g : Dbx w w.heap.size hb H U) => vpart_k 16 4 U (by omega) (by omega) (by omega) g
  have A6 := Lib.hid fun (hb : Nat) (U : World) (g : Dbx w w.heap.size hb H U) => vpart_k 20 ((H.size : Int) - 20) U (by omega) (by omega) (by omega) g
  obtain ⟨v1, ev1⟩ : ∃ v, v = numv H 4 2 := ⟨_, rfl⟩
  rw [← ev1] at A1 ⊢
  obtain ⟨v2, ev2⟩ : ∃ v, v = numv H 8 1 := ⟨_, rfl⟩
  rw [← ev2] at A2 ⊢
  obtain ⟨v3, ev3⟩ : ∃ v, v = numv H 9 1 := ⟨_, rfl⟩
  rw [← ev3] at A3 ⊢
  obtain ⟨v4, ev4⟩ : ∃ v, v = subv H 12 4 := ⟨_, rfl⟩
  rw [← ev4] at A4 ⊢
  obtain ⟨v5, ev5⟩ : ∃ v, v = subv H 16 4 := ⟨_, rfl⟩
  rw [← ev5] at A5 ⊢
  obtain ⟨v6, ev6⟩ : ∃ v, v = subv H 20 ((H.size : Int) - 20) := ⟨_, rfl⟩
  rw [← ev6] at A6 ⊢
  clear ev1 ev2 ev3 ev4 ev5 ev6
  have k1 : IntKind.i64.wrap ((H.size : Int) - 20) = (H.size : Int) - 20 := IntWalk.i64_in _ (by omega)
  have H1 := Lib.hid fun U => head_c s U hs
  rw [hv] at H1
  have KZ := Lib.hid hz
  go_enter Try.func10, Try.ntmps10
  go_wp2_with fail
  refine (H1.out _).mono ?_
  rintro e w1 ⟨rfl, h1⟩
  obtain ⟨hc1, hf1⟩ := below_cells h1
  have g1 : w.heap.size < w1.heap.size := by have := h1.size; simp at this; omega
  go_wp2_with fail
  have D : Dbx w w.heap.size w1.heap.size H (w1.alloc (.cells #[.string H] 9)) := by
    refine ⟨by simp, ?_, ?_, ?_, ?_, ?_, ?_, ?_, fun o => ?_, by simp; omega, by simp, (vboxed h1).alloc (vboxed h1).size _⟩
    all_goals first
      | (rw [World.cell?_alloc_lt _ _ _ g1, hc1 _ _ (by simp)]; simp)
      | (rw [World.frozen?_alloc_past _ _ _ g1, hf1 _ _ (by simp)]; simp)
  clear hc1 hf1 h1
  have DK := Lib.hid D
  obtain ⟨d0, c0, c1, c2, c3, c4, c5, c6, fr, hn, hh, hl⟩ := D
  refine (N1.out _ _ DK.out).mono ?_
  clear DK d0 c0 c1 c2 c3 c4 c5 c6 fr hn hh hl
  rintro e w2 ⟨rfl, D⟩
  have DK := Lib.hid D
  obtain ⟨d0, c0, c1, c2, c3, c4, c5, c6, fr, hn, hh, hl⟩ := D
  go_wp2_with fail
  refine (H2.out _).mono ?_
  rintro e w3 ⟨rfl, h3⟩
  have D := DK.out.below h3
  clear DK d0 c0 c1 c2 c3 c4 c5 c6 fr hn hh hl h3
  have DK := Lib.hid D
  obtain ⟨d0, c0, c1, c2, c3, c4, c5, c6, fr, hn, hh, hl⟩ := D
  go_wp2_with fail
  refine (N2.out _ _ DK.out).mono ?_
  clear DK d0 c0 c1 c2 c3 c4 c5 c6 fr hn hh hl
  rintro e w4 ⟨rfl, D⟩
  have DK := Lib.hid D
  obtain ⟨d0, c0, c1, c2, c3, c4, c5, c6, fr, hn, hh, hl⟩ := D
  go_wp2_with fail
  have hne : w1.heap.size ≠ w.heap.size := by omega
  go_region_held3 (fun w' => w'.cell? ⟨w1.heap.size, 0, none⟩ = some (.string H))
    (first | with_reducible exact E.out.head | with_reducible exact DK.out.drew.head | with_reducible exact DK.out.head | with_reducible exact (cell_far (cell_far (cell_far (cell_far (cell_far (cell_far (cell_far E.out.head hne) hne) hne) hne) hne) hne) hne))
    (first
      | (go_at_call 22; (with_reducible refine (A1.out _ _ ?_).mono ?_); (first | with_reducible exact E.out | with_reducible exact E.out.drew | with_reducible exact DK.out.drew | with_reducible exact DK.out); rintro e w' ⟨rfl, D⟩; have E := Lib.hid D; obtain ⟨a0, a1, a2, a3, a4, a5, a6, a7, a8, a9, a10, a11⟩ := D)
      | (go_at_call 22; (with_reducible refine (A2.out _ _ ?_).mono ?_); (first | with_reducible exact E.out | with_reducible exact E.out.drew | with_reducible exact DK.out.drew | with_reducible exact DK.out); rintro e w' ⟨rfl, D⟩; have E := Lib.hid D; obtain ⟨a0, a1, a2, a3, a4, a5, a6, a7, a8, a9, a10, a11⟩ := D)
      | (go_at_call 22; (with_reducible refine (A3.out _ _ ?_).mono ?_); (first | with_reducible exact E.out | with_reducible exact E.out.drew | with_reducible exact DK.out.drew | with_reducible exact DK.out); rintro e w' ⟨rfl, D⟩; have E := Lib.hid D; obtain ⟨a0, a1, a2, a3, a4, a5, a6, a7, a8, a9, a10, a11⟩ := D)
      | (go_at_call 24; (with_reducible refine (A4.out _ _ ?_).mono ?_); (first | with_reducible exact E.out | with_reducible exact E.out.drew | with_reducible exact DK.out.drew | with_reducible exact DK.out); rintro e w' ⟨rfl, D⟩; have E := Lib.hid D; obtain ⟨a0, a1, a2, a3, a4, a5, a6, a7, a8, a9, a10, a11⟩ := D)
      | (go_at_call 24; (with_reducible refine (A5.out _ _ ?_).mono ?_); (first | with_reducible exact E.out | with_reducible exact E.out.drew | with_reducible exact DK.out.drew | with_reducible exact DK.out); rintro e w' ⟨rfl, D⟩; have E := Lib.hid D; obtain ⟨a0, a1, a2, a3, a4, a5, a6, a7, a8, a9, a10, a11⟩ := D)
      | (go_at_call 24; (with_reducible refine (A6.out _ _ ?_).mono ?_); (first | with_reducible exact E.out | with_reducible exact E.out.drew | with_reducible exact DK.out.drew | with_reducible exact DK.out); rintro e w' ⟨rfl, D⟩; have E := Lib.hid D; obtain ⟨a0, a1, a2, a3, a4, a5, a6, a7, a8, a9, a10, a11⟩ := D))
  go_wp2_with fail
  refine bodyPost_ret (v := .tuple #[.agg #[.int .i64 v1, .int .i64 v2, .int .i64 v3, .string v4, .string v5, .string v6, .string X], .int .i64 0]) (by simp [results, Try.results10, go_sem, a1, a2, a3, a4, a5, a6, a7, a8]) rfl ⟨rfl, ?_⟩
  exact below_put7 a11 (Nat.le_refl _) _ _ _ _ _ _ _

set_option maxHeartbeats 4000000 in
set_option maxRecDepth 100000 in
theorem vdec_ok1 (s H : ByteArray) (w : World) (hs : s.size ≤ 140737488500000) (hv : headV s = (H, 0)) (hz : H.size ≤ 60) (hz2 : 20 ≤ H.size) (hx : (H.size : Int) ≤ numv H 2 2) (hy : numv H 2 2 ≤ (s.size : Int)) (hp : numv H 6 2 = 16384) :
    Calls Try.prog 10 #[.string s] w fun e w' => e = .returned (.tuple #[.agg #[.int .i64 (numv H 4 2), .int .i64 (numv H 8 1), .int .i64 (numv H 9 1), .string (subv H 12 4), .string (subv H 16 4), .string (subv H 20 ((H.size : Int) - 20)), .string (s.extract H.size (numv H 2 2).toNat)], .int .i64 0]) ∧ Below w.heap.size w w' := by
  obtain ⟨q0, q1⟩ := numv_le2 H 2
  have N1 := Lib.hid fun (hb : Nat) (U : World) (g : Dbx w w.heap.size hb H U) => vnum_k 2 2 U (by omega) (by omega) (by omega) g
  obtain ⟨q, hq⟩ : ∃ q, q = numv H 2 2 := ⟨_, rfl⟩
  rw [← hq] at N1 q0 q1 hx hy ⊢
  clear hq
  have H2 := Lib.hid fun U => cut_c s H.size (q - (H.size : Int)) U (by omega) (by omega) (by omega)
  have hv2 : cutSpec s H.size (q - (H.size : Int)) = (s.extract H.size q.toNat, 0) := by
    have := cut_okv s H.size (q.toNat - H.size) (by omega)
    rw [show ((q.toNat - H.size : Nat) : Int) = q - (H.size : Int) from by omega, show H.size + (q.toNat - H.size) = q.toNat from by omega] at this
    exact this
  rw [hv2] at H2
  obtain ⟨X, hX⟩ : ∃ X, X = s.extract H.size q.toNat := ⟨_, rfl⟩
  rw [← hX] at H2 ⊢
  clear hv2 hy hX
  have N2 := Lib.hid fun (hb : Nat) (U : World) (g : Dbx w w.heap.size hb H U) => vnum_k 6 2 U (by omega) (by omega) (by omega) g
  obtain ⟨m, hm⟩ : ∃ m, m = numv H 6 2 := ⟨_, rfl⟩
  rw [← hm] at N2 hp
  clear hm
  obtain ⟨t1, t2⟩ := eq_t hp
  obtain ⟨t3, t4⟩ := ne_t (show m ≠ 0 by omega)
  clear hp
  have A1 := Lib.hid fun (hb : Nat) (U : World) (g : Dbx w w.heap.size hb H U) => vnum_k 4 2 U (by omega) (by omega) (by omega) g
  have A2 := Lib.hid fun (hb : Nat) (U : World) (g : Dbx w w.heap.size hb H U) => vnum_k 8 1 U (by omega) (by omega) (by omega) g
  have A3 := Lib.hid fun (hb : Nat) (U : World) (g : Dbx w w.heap.size hb H U) => vnum_k 9 1 U (by omega) (by omega) (by omega) g
  have A4 := Lib.hid fun (hb : Nat) (U : World) (g : Dbx w w.heap.size hb H U) => vpart_k 12 4 U (by omega) (by omega) (by omega) g
  have A5 := Lib.hid fun (hb : Nat) (U : World) (g : Dbx w w.heap.size hb H U) => vpart_k 16 4 U (by omega) (by omega) (by omega) g
  have A6 := Lib.hid fun (hb : Nat) (U : World) (g : Dbx w w.heap.size hb H U) => vpart_k 20 ((H.size : Int) - 20) U (by omega) (by omega) (by omega) g
  obtain ⟨v1, ev1⟩ : ∃ v, v = numv H 4 2 := ⟨_, rfl⟩
  rw [← ev1] at A1 ⊢
  obtain ⟨v2, ev2⟩ : ∃ v, v = numv H 8 1 := ⟨_, rfl⟩
  rw [← ev2] at A2 ⊢
  obtain ⟨v3, ev3⟩ : ∃ v, v = numv H 9 1 := ⟨_, rfl⟩
  rw [← ev3] at A3 ⊢
  obtain ⟨v4, ev4⟩ : ∃ v, v = subv H 12 4 := ⟨_, rfl⟩
  rw [← ev4] at A4 ⊢
  obtain ⟨v5, ev5⟩ : ∃ v, v = subv H 16 4 := ⟨_, rfl⟩
  rw [← ev5] at A5 ⊢
  obtain ⟨v6, ev6⟩ : ∃ v, v = subv H 20 ((H.size : Int) - 20) := ⟨_, rfl⟩
  rw [← ev6] at A6 ⊢
  clear ev1 ev2 ev3 ev4 ev5 ev6
  have k1 : IntKind.i64.wrap ((H.size : Int) - 20) = (H.size : Int) - 20 := IntWalk.i64_in _ (by omega)
  have H1 := Lib.hid fun U => head_c s U hs
  rw [hv] at H1
  have KZ := Lib.hid hz
  go_enter Try.func10, Try.ntmps10
  go_wp2_with fail
  refine (H1.out _).mono ?_
  rintro e w1 ⟨rfl, h1⟩
  obtain ⟨hc1, hf1⟩ := below_cells h1
  have g1 : w.heap.size < w1.heap.size := by have := h1.size; simp at this; omega
  go_wp2_with fail
  have D : Dbx w w.heap.size w1.heap.size H (w1.alloc (.cells #[.string H] 9)) := by
    refine ⟨by simp, ?_, ?_, ?_, ?_, ?_, ?_, ?_, fun o => ?_, by simp; omega, by simp, (vboxed h1).alloc (vboxed h1).size _⟩
    all_goals first
      | (rw [World.cell?_alloc_lt _ _ _ g1, hc1 _ _ (by simp)]; simp)
      | (rw [World.frozen?_alloc_past _ _ _ g1, hf1 _ _ (by simp)]; simp)
  clear hc1 hf1 h1
  have DK := Lib.hid D
  obtain ⟨d0, c0, c1, c2, c3, c4, c5, c6, fr, hn, hh, hl⟩ := D
  refine (N1.out _ _ DK.out).mono ?_
  clear DK d0 c0 c1 c2 c3 c4 c5 c6 fr hn hh hl
  rintro e w2 ⟨rfl, D⟩
  have DK := Lib.hid D
  obtain ⟨d0, c0, c1, c2, c3, c4, c5, c6, fr, hn, hh, hl⟩ := D
  go_wp2_with fail
  refine (H2.out _).mono ?_
  rintro e w3 ⟨rfl, h3⟩
  have D := DK.out.below h3
  clear DK d0 c0 c1 c2 c3 c4 c5 c6 fr hn hh hl h3
  have DK := Lib.hid D
  obtain ⟨d0, c0, c1, c2, c3, c4, c5, c6, fr, hn, hh, hl⟩ := D
  go_wp2_with fail
  refine (N2.out _ _ DK.out).mono ?_
  clear DK d0 c0 c1 c2 c3 c4 c5 c6 fr hn hh hl
  rintro e w4 ⟨rfl, D⟩
  have DK := Lib.hid D
  obtain ⟨d0, c0, c1, c2, c3, c4, c5, c6, fr, hn, hh, hl⟩ := D
  go_wp2_with fail
  have hne : w1.heap.size ≠ w.heap.size := by omega
  go_region_held3 (fun w' => w'.cell? ⟨w1.heap.size, 0, none⟩ = some (.string H))
    (first | with_reducible exact E.out.head | with_reducible exact DK.out.drew.head | with_reducible exact DK.out.head | with_reducible exact (cell_far (cell_far (cell_far (cell_far (cell_far (cell_far (cell_far E.out.head hne) hne) hne) hne) hne) hne) hne))
    (first
      | (go_at_call 22; (with_reducible refine (A1.out _ _ ?_).mono ?_); (first | with_reducible exact E.out | with_reducible exact E.out.drew | with_reducible exact DK.out.drew | with_reducible exact DK.out); rintro e w' ⟨rfl, D⟩; have E := Lib.hid D; obtain ⟨a0, a1, a2, a3, a4, a5, a6, a7, a8, a9, a10, a11⟩ := D)
      | (go_at_call 22; (with_reducible refine (A2.out _ _ ?_).mono ?_); (first | with_reducible exact E.out | with_reducible exact E.out.drew | with_reducible exact DK.out.drew | with_reducible exact DK.out); rintro e w' ⟨rfl, D⟩; have E := Lib.hid D; obtain ⟨a0, a1, a2, a3, a4, a5, a6, a7, a8, a9, a10, a11⟩ := D)
      | (go_at_call 22; (with_reducible refine (A3.out _ _ ?_).mono ?_); (first | with_reducible exact E.out | with_reducible exact E.out.drew | with_reducible exact DK.out.drew | with_reducible exact DK.out); rintro e w' ⟨rfl, D⟩; have E := Lib.hid D; obtain ⟨a0, a1, a2, a3, a4, a5, a6, a7, a8, a9, a10, a11⟩ := D)
      | (go_at_call 24; (with_reducible refine (A4.out _ _ ?_).mono ?_); (first | with_reducible exact E.out | with_reducible exact E.out.drew | with_reducible exact DK.out.drew | with_reducible exact DK.out); rintro e w' ⟨rfl, D⟩; have E := Lib.hid D; obtain ⟨a0, a1, a2, a3, a4, a5, a6, a7, a8, a9, a10, a11⟩ := D)
      | (go_at_call 24; (with_reducible refine (A5.out _ _ ?_).mono ?_); (first | with_reducible exact E.out | with_reducible exact E.out.drew | with_reducible exact DK.out.drew | with_reducible exact DK.out); rintro e w' ⟨rfl, D⟩; have E := Lib.hid D; obtain ⟨a0, a1, a2, a3, a4, a5, a6, a7, a8, a9, a10, a11⟩ := D)
      | (go_at_call 24; (with_reducible refine (A6.out _ _ ?_).mono ?_); (first | with_reducible exact E.out | with_reducible exact E.out.drew | with_reducible exact DK.out.drew | with_reducible exact DK.out); rintro e w' ⟨rfl, D⟩; have E := Lib.hid D; obtain ⟨a0, a1, a2, a3, a4, a5, a6, a7, a8, a9, a10, a11⟩ := D))
  go_wp2_with fail
  refine bodyPost_ret (v := .tuple #[.agg #[.int .i64 v1, .int .i64 v2, .int .i64 v3, .string v4, .string v5, .string v6, .string X], .int .i64 0]) (by simp [results, Try.results10, go_sem, a1, a2, a3, a4, a5, a6, a7, a8]) rfl ⟨rfl, ?_⟩
  exact below_put7 a11 (Nat.le_refl _) _ _ _ _ _ _ _

/-- A packet. -/
structure Pkt where
  (i t p : Int) (s d o x : ByteArray)
def Pkt.zero : Pkt := ⟨0, 0, 0, ⟨#[]⟩, ⟨#[]⟩, ⟨#[]⟩, ⟨#[]⟩⟩
def Pkt.val (k : Pkt) : Value := .agg #[.int .i64 k.i, .int .i64 k.t, .int .i64 k.p, .string k.s, .string k.d, .string k.o, .string k.x]

/-- What stands in bytes that are long enough. -/
def readV (s : ByteArray) : Pkt := ⟨numv s 4 2, numv s 8 1, numv s 9 1, s.extract 12 16, s.extract 16 20, s.extract 20 (hsz s), s.extract (hsz s) (numv s 2 2).toNat⟩
/-- The packet of any bytes, or why there is none. -/
def decV (s : ByteArray) : Pkt × Int :=
  if (headV s).2 ≠ 0 then (.zero, (headV s).2)
  else if numv s 2 2 < (hsz s : Int) then (.zero, 3)
  else if (s.size : Int) < numv s 2 2 then (.zero, 2)
  else if numv s 6 2 ≠ 0 ∧ numv s 6 2 ≠ 16384 then (.zero, 3)
  else (readV s, 0)

theorem headV_ok (s : ByteArray) (h : ¬ (headV s).2 ≠ 0) : headV s = (s.extract 0 (hsz s), 0) ∧ 20 ≤ hsz s ∧ hsz s ≤ s.size ∧ numv s 0 1 / 16 = 4 ∧ sumN (s.extract 0 (hsz s)).data.toList = 0 := by
  unfold headV at h ⊢
  by_cases c1 : s.size < 20
  · rw [if_pos c1] at h; exact absurd (by decide) h
  · rw [if_neg c1] at h ⊢
    by_cases c2 : numv s 0 1 / 16 ≠ 4 ∨ hsz s < 20
    · rw [if_pos c2] at h; exact absurd (by decide) h
    · rw [if_neg c2] at h ⊢
      by_cases c3 : s.size < hsz s
      · rw [if_pos c3] at h; exact absurd (by decide) h
      · rw [if_neg c3] at h ⊢
        by_cases c4 : sumN (s.extract 0 (hsz s)).data.toList ≠ 0
        · rw [if_pos c4] at h; exact absurd (by decide) h
        · rw [if_neg c4]
          exact ⟨rfl, by omega, by omega, by omega, by omega⟩

theorem hsz_le (s : ByteArray) : hsz s ≤ 60 := by unfold hsz; omega

theorem vdec_c (s : ByteArray) (w : World) (hs : s.size ≤ 140737488500000) :
    Calls Try.prog 10 #[.string s] w fun e w' => e = .returned (.tuple #[(decV s).1.val, .int .i64 (decV s).2]) ∧ Below w.heap.size w w' := by
  unfold decV
  by_cases h : (headV s).2 ≠ 0
  · rw [if_pos h]
    exact vdec_head s w hs h
  · rw [if_neg h]
    obtain ⟨hv, k20, ks, _, _⟩ := headV_ok s h
    have k60 := hsz_le s
    have hz := ext_size s 0 (hsz s) (by omega)
    rw [Nat.zero_add] at hz
    have n2 : numv (s.extract 0 (hsz s)) 2 2 = numv s 2 2 := numv_head s (hsz s) 2 2 (by omega) (by omega) (by omega) ks
    have n6 : numv (s.extract 0 (hsz s)) 6 2 = numv s 6 2 := numv_head s (hsz s) 6 2 (by omega) (by omega) (by omega) ks
    by_cases c1 : numv s 2 2 < (hsz s : Int)
    · rw [if_pos c1]
      exact vdec_form s _ w hs hv (by omega) (by omega) (by rw [n2, hz]; exact c1)
    · rw [if_neg c1]
      by_cases c2 : (s.size : Int) < numv s 2 2
      · rw [if_pos c2]
        exact vdec_cut s _ w hs hv (by omega) (by omega) (by rw [n2, hz]; omega) (by rw [n2]; exact c2)
      · rw [if_neg c2]
        by_cases c3 : numv s 6 2 ≠ 0 ∧ numv s 6 2 ≠ 16384
        · rw [if_pos c3]
          exact vdec_part s _ w hs hv (by omega) (by omega) (by rw [n2, hz]; omega) (by rw [n2]; omega) (by rw [n6]; exact c3)
        · rw [if_neg c3]
          have n4 : numv (s.extract 0 (hsz s)) 4 2 = numv s 4 2 := numv_head s (hsz s) 4 2 (by omega) (by omega) (by omega) ks
          have n8 : numv (s.extract 0 (hsz s)) 8 1 = numv s 8 1 := numv_head s (hsz s) 8 1 (by omega) (by omega) (by omega) ks
          have n9 : numv (s.extract 0 (hsz s)) 9 1 = numv s 9 1 := numv_head s (hsz s) 9 1 (by omega) (by omega) (by omega) ks
          have s12 : subv (s.extract 0 (hsz s)) 12 4 = s.extract 12 16 := subv_head s (hsz s) 12 4 (by omega) ks
          have s16 : subv (s.extract 0 (hsz s)) 16 4 = s.extract 16 20 := subv_head s (hsz s) 16 4 (by omega) ks
          have s20 : subv (s.extract 0 (hsz s)) 20 (((s.extract 0 (hsz s)).size : Int) - 20) = s.extract 20 (hsz s) := by
            have := subv_head s (hsz s) 20 (hsz s - 20) (by omega) ks
            rw [hz, show (hsz s : Int) - 20 = ((hsz s - 20 : Nat) : Int) from by omega]
            rw [show 20 + (hsz s - 20) = hsz s from by omega] at this
            exact this
          have R : ∀ (hp : numv (s.extract 0 (hsz s)) 6 2 = 0 ∨ numv (s.extract 0 (hsz s)) 6 2 = 16384), Calls Try.prog 10 #[.string s] w fun e w' => e = .returned (.tuple #[.agg #[.int .i64 (numv (s.extract 0 (hsz s)) 4 2), .int .i64 (numv (s.extract 0 (hsz s)) 8 1), .int .i64 (numv (s.extract 0 (hsz s)) 9 1), .string (subv (s.extract 0 (hsz s)) 12 4), .string (subv (s.extract 0 (hsz s)) 16 4), .string (subv (s.extract 0 (hsz s)) 20 (((s.extract 0 (hsz s)).size : Int) - 20)), .string (s.extract (s.extract 0 (hsz s)).size (numv (s.extract 0 (hsz s)) 2 2).toNat)], .int .i64 0]) ∧ Below w.heap.size w w' := by
            intro hp
            rcases hp with hp | hp
            · exact vdec_ok0 s _ w hs hv (by omega) (by omega) (by rw [n2, hz]; omega) (by rw [n2]; omega) hp
            · exact vdec_ok1 s _ w hs hv (by omega) (by omega) (by rw [n2, hz]; omega) (by rw [n2]; omega) hp
          have R' := R (by rw [n6]; omega)
          rw [n4, n8, n9, s12, s16, s20, n2, hz] at R'
          exact R'

end Go.Proofs.Ytolgakgimcbkpaa
