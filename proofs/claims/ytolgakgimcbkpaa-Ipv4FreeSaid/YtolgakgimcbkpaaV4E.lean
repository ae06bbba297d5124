/-
  The packet of any bytes: ipv4.Decode, as a contract over the translated program.
-/
import Derived.Test.YtolgakgimcbkpaaV4D
namespace Go.Proofs.Ytolgakgimcbkpaa
open Go.RowKit
set_option linter.unusedVariables false
set_option linter.unusedSimpArgs false

/-- The result's box, still empty, and the head's box; what lay below stands. -/
def Dbx (w0 : World) (n hb : Nat) (H : ByteArray) (w' : World) : Prop :=
  w'.cell? ⟨hb, 0, none⟩ = some (.string H) ∧ w'.cell? ⟨n, 0, none⟩ = some (.int .i64 0) ∧ w'.cell? ⟨n, 1, none⟩ = some (.int .i64 0) ∧ w'.cell? ⟨n, 2, none⟩ = some (.int .i64 0) ∧ w'.cell? ⟨n, 3, none⟩ = some (.string ⟨#[]⟩) ∧ w'.cell? ⟨n, 4, none⟩ = some (.string ⟨#[]⟩) ∧ w'.cell? ⟨n, 5, none⟩ = some (.string ⟨#[]⟩) ∧ w'.cell? ⟨n, 6, none⟩ = some (.string ⟨#[]⟩) ∧ (∀ o, w'.frozen? ⟨n, o, none⟩ = false) ∧ n < w'.heap.size ∧ hb < w'.heap.size ∧ Below w0.heap.size w0 w'

theorem Dbx.below {w0 w w' : World} {n hb : Nat} {H : ByteArray} (h : Dbx w0 n hb H w) (k : Below w.heap.size w w') : Dbx w0 n hb H w' := by
  obtain ⟨h0, c0, c1, c2, c3, c4, c5, c6, fr, hn, hh, hl⟩ := h
  refine ⟨?_, ?_, ?_, ?_, ?_, ?_, ?_, ?_, fun o => ?_, Nat.lt_of_lt_of_le hn k.size, Nat.lt_of_lt_of_le hh k.size, below_then hl k⟩
  · rw [k.cell (p := ⟨hb, 0, none⟩) hh]; exact h0
  · rw [k.cell (p := ⟨n, 0, none⟩) hn]; exact c0
  · rw [k.cell (p := ⟨n, 1, none⟩) hn]; exact c1
  · rw [k.cell (p := ⟨n, 2, none⟩) hn]; exact c2
  · rw [k.cell (p := ⟨n, 3, none⟩) hn]; exact c3
  · rw [k.cell (p := ⟨n, 4, none⟩) hn]; exact c4
  · rw [k.cell (p := ⟨n, 5, none⟩) hn]; exact c5
  · rw [k.cell (p := ⟨n, 6, none⟩) hn]; exact c6
  · rw [k.frozen (p := ⟨n, o, none⟩) hn]; exact fr o

theorem Dbx.drew {w0 w : World} {n hb : Nat} {H : ByteArray} (h : Dbx w0 n hb H w) : Dbx w0 n hb H w.drew := by
  obtain ⟨h0, c0, c1, c2, c3, c4, c5, c6, fr, hn, hh, hl⟩ := h
  exact ⟨h0, c0, c1, c2, c3, c4, c5, c6, fr, hn, hh, hl.drew⟩

theorem vnum_k {w0 : World} {n hb : Nat} {H : ByteArray} (a m : Int) (w : World) (hs : H.size ≤ 140737488500000) (ha : -9223372036854775808 ≤ a) (h2 : a ≤ 9223372036854775807) (h : Dbx w0 n hb H w) :
    Calls Try.prog 22 #[.int .i64 a, .int .i64 m, .pointer (some ⟨hb, 0, none⟩)] w fun e w' => e = .returned (.int .i64 (numv H a m)) ∧ Dbx w0 n hb H w' :=
  (vnum_c H a m hb w h.1 hs ha h2).mono fun _ _ g => ⟨g.1, h.below g.2⟩
theorem vpart_k {w0 : World} {n hb : Nat} {H : ByteArray} (a m : Int) (w : World) (hs : H.size ≤ 140737488500000) (ha : -9223372036854775808 ≤ a) (h2 : a ≤ 9223372036854775807) (h : Dbx w0 n hb H w) :
    Calls Try.prog 24 #[.int .i64 a, .int .i64 m, .pointer (some ⟨hb, 0, none⟩)] w fun e w' => e = .returned (.string (subv H a m)) ∧ Dbx w0 n hb H w' :=
  (vpart_c H a m hb w h.1 hs ha h2).mono fun _ _ g => ⟨g.1, h.below g.2⟩

theorem below_put7 {B b : Nat} {w w1 : World} (h : Below B w w1) (hb : B ≤ b) (v0 v1 v2 v3 v4 v5 v6 : Value) :
    Below B w (((((((w1.setCell ⟨b, 0, none⟩ v0).setCell ⟨b, 1, none⟩ v1).setCell ⟨b, 2, none⟩ v2).setCell ⟨b, 3, none⟩ v3).setCell ⟨b, 4, none⟩ v4).setCell ⟨b, 5, none⟩ v5).setCell ⟨b, 6, none⟩ v6) :=
  ((((((h.setCell (p := ⟨b, 0, none⟩) hb v0).setCell (p := ⟨b, 1, none⟩) hb v1).setCell (p := ⟨b, 2, none⟩) hb v2).setCell (p := ⟨b, 3, none⟩) hb v3).setCell (p := ⟨b, 4, none⟩) hb v4).setCell (p := ⟨b, 5, none⟩) hb v5).setCell (p := ⟨b, 6, none⟩) hb v6

set_option maxHeartbeats 2000000 in
set_option maxRecDepth 100000 in
theorem vdec_head (s : ByteArray) (w : World) (hs : s.size ≤ 140737488500000) (h : (headV s).2 ≠ 0) :
    Calls Try.prog 10 #[.string s] w fun e w' => e = .returned (.tuple #[.agg #[.int .i64 0, .int .i64 0, .int .i64 0, .string ⟨#[]⟩, .string ⟨#[]⟩, .string ⟨#[]⟩, .string ⟨#[]⟩], .int .i64 (headV s).2]) ∧ Below w.heap.size w w' := by
  have H1 := Lib.hid fun U => head_c s U hs
  obtain ⟨x, hx⟩ : ∃ x, x = (headV s).1 := ⟨_, rfl⟩
  obtain ⟨y, hy⟩ : ∃ y, y = (headV s).2 := ⟨_, rfl⟩
  rw [← hy] at h ⊢
  rw [← hx, ← hy] at H1
  obtain ⟨t1, t2⟩ := ne_t h
  clear hx hy h
  go_enter Try.func10, Try.ntmps10
  go_wp2_with fail
  refine (H1.out _).mono ?_
  rintro e w1 ⟨rfl, h1⟩
  obtain ⟨hc1, hf1⟩ := below_cells h1
  have g1 : w.heap.size < w1.heap.size := by have := h1.size; simp at this; omega
  go_wp2_with fail
  refine bodyPost_ret (v := .tuple #[.agg #[.int .i64 0, .int .i64 0, .int .i64 0, .string ⟨#[]⟩, .string ⟨#[]⟩, .string ⟨#[]⟩, .string ⟨#[]⟩], .int .i64 y]) (by simp [results, Try.results10, go_sem, hc1, g1]) rfl ⟨rfl, ?_⟩
  have b7 := below_put7 (vboxed h1) (Nat.le_refl _) (.int .i64 0) (.int .i64 0) (.int .i64 0) (.string ⟨#[]⟩) (.string ⟨#[]⟩) (.string ⟨#[]⟩) (.string ⟨#[]⟩)
  exact b7.alloc b7.size _

set_option maxHeartbeats 4000000 in
set_option maxRecDepth 100000 in
theorem vdec_form (s H : ByteArray) (w : World) (hs : s.size ≤ 140737488500000) (hv : headV s = (H, 0)) (hz : H.size ≤ 60) (hz2 : 20 ≤ H.size) (hx : numv H 2 2 < (H.size : Int)) :
    Calls Try.prog 10 #[.string s] w fun e w' => e = .returned (.tuple #[.agg #[.int .i64 0, .int .i64 0, .int .i64 0, .string ⟨#[]⟩, .string ⟨#[]⟩, .string ⟨#[]⟩, .string ⟨#[]⟩], .int .i64 3]) ∧ Below w.heap.size w w' := by
  obtain ⟨q0, q1⟩ := numv_le2 H 2
  have N1 := Lib.hid fun (hb : Nat) (U : World) (g : Dbx w w.heap.size hb H U) => vnum_k 2 2 U (by omega) (by omega) (by omega) g
  obtain ⟨q, hq⟩ : ∃ q, q = numv H 2 2 := ⟨_, rfl⟩
  rw [← hq] at N1 q0 q1 hx
  clear hq
  have H1 := Lib.hid fun U => head_c s U hs
  rw [hv] at H1
  have KZ := Lib.hid hz
  go_enter Try.func10, Try.ntmps10
  go_wp2_with fail
  refine (H1.out _).mono ?_
  rintro e w1 ⟨rfl, h1⟩
  obtain ⟨hc1, hf1⟩ := below_cells h1
  have g1 : w.heap.size < w1.heap.size := by have := h1.size; simp at this; omega
  go_wp2_with fail
  have D : Dbx w w.heap.size w1.heap.size H (w1.alloc (.cells #[.string H] 9)) := by
    refine ⟨by simp, ?_, ?_, ?_, ?_, ?_, ?_, ?_, fun o => ?_, by simp; omega, by simp, (vboxed h1).alloc (vboxed h1).size _⟩
    all_goals first
      | (rw [World.cell?_alloc_lt _ _ _ g1, hc1 _ _ (by simp)]; simp)
      | (rw [World.frozen?_alloc_past _ _ _ g1, hf1 _ _ (by simp)]; simp)
  clear hc1 hf1 h1
  have DK := Lib.hid D
  obtain ⟨d0, c0, c1, c2, c3, c4, c5, c6, fr, hn, hh, hl⟩ := D
  refine (N1.out _ _ DK.out).mono ?_
  clear DK d0 c0 c1 c2 c3 c4 c5 c6 fr hn hh hl
  rintro e w2 ⟨rfl, D⟩
  have DK := Lib.hid D
  obtain ⟨d0, c0, c1, c2, c3, c4, c5, c6, fr, hn, hh, hl⟩ := D
  go_wp2_with fail
  refine bodyPost_ret (v := .tuple #[.agg #[.int .i64 0, .int .i64 0, .int .i64 0, .string ⟨#[]⟩, .string ⟨#[]⟩, .string ⟨#[]⟩, .string ⟨#[]⟩], .int .i64 3]) (by simp [results, Try.results10, go_sem, c0, c1, c2, c3, c4, c5, c6, fr]) rfl ⟨rfl, ?_⟩
  exact below_put7 hl (Nat.le_refl _) _ _ _ _ _ _ _

set_option maxHeartbeats 4000000 in
set_option maxRecDepth 100000 in
theorem vdec_cut (s H : ByteArray) (w : World) (hs : s.size ≤ 140737488500000) (hv : headV s = (H, 0)) (hz : H.size ≤ 60) (hz2 : 20 ≤ H.size) (hx : (H.size : Int) ≤ numv H 2 2) (hy : (s.size : Int) < numv H 2 2) :
    Calls Try.prog 10 #[.string s] w fun e w' => e = .returned (.tuple #[.agg #[.int .i64 0, .int .i64 0, .int .i64 0, .string ⟨#[]⟩, .string ⟨#[]⟩, .string ⟨#[]⟩, .string ⟨#[]⟩], .int .i64 2]) ∧ Below w.heap.size w w' := by
  obtain ⟨q0, q1⟩ := numv_le2 H 2
  have N1 := Lib.hid fun (hb : Nat) (U : World) (g : Dbx w w.heap.size hb H U) => vnum_k 2 2 U (by omega) (by omega) (by omega) g
  obtain ⟨q, hq⟩ : ∃ q, q = numv H 2 2 := ⟨_, rfl⟩
  rw [← hq] at N1 q0 q1 hx hy
  clear hq
  have H2 := Lib.hid fun U => cut_c s H.size (q - (H.size : Int)) U (by omega) (by omega) (by omega)
  have hv2 : cutSpec s H.size (q - (H.size : Int)) = (⟨#[]⟩, 2) := by unfold cutSpec; rw [if_neg (by omega), if_pos (by omega)]
  rw [hv2] at H2
  clear hv2 hy
  have H1 := Lib.hid fun U => head_c s U hs
  rw [hv] at H1
  have KZ := Lib.hid hz
  go_enter Try.func10, Try.ntmps10
  go_wp2_with fail
  refine (H1.out _).mono ?_
  rintro e w1 ⟨rfl, h1⟩
  obtain ⟨hc1, hf1⟩ := below_cells h1
  have g1 : w.heap.size < w1.heap.size := by have := h1.size; simp at this; omega
  go_wp2_with fail
  have D : Dbx w w.heap.size w1.heap.size H (w1.alloc (.cells #[.string H] 9)) := by
    refine ⟨by simp, ?_, ?_, ?_, ?_, ?_, ?_, ?_, fun o => ?_, by simp; omega, by simp, (vboxed h1).alloc (vboxed h1).size _⟩
    all_goals first
      | (rw [World.cell?_alloc_lt _ _ _ g1, hc1 _ _ (by simp)]; simp)
      | (rw [World.frozen?_alloc_past _ _ _ g1, hf1 _ _ (by simp)]; simp)
  clear hc1 hf1 h1
  have DK := Lib.hid D
  obtain ⟨d0, c0, c1, c2, c3, c4, c5, c6, fr, hn, hh, hl⟩ := D
  refine (N1.out _ _ DK.out).mono ?_
  clear DK d0 c0 c1 c2 c3 c4 c5 c6 fr hn hh hl
  rintro e w2 ⟨rfl, D⟩
  have DK := Lib.hid D
  obtain ⟨d0, c0, c1, c2, c3, c4, c5, c6, fr, hn, hh, hl⟩ := D
  go_wp2_with fail
  refine (H2.out _).mono ?_
  rintro e w3 ⟨rfl, h3⟩
  have D := DK.out.below h3
  clear DK d0 c0 c1 c2 c3 c4 c5 c6 fr hn hh hl h3
  have DK := Lib.hid D
  obtain ⟨d0, c0, c1, c2, c3, c4, c5, c6, fr, hn, hh, hl⟩ := D
  go_wp2_with fail
  refine bodyPost_ret (v := .tuple #[.agg #[.int .i64 0, .int .i64 0, .int .i64 0, .string ⟨#[]⟩, .string ⟨#[]⟩, .string ⟨#[]⟩, .string ⟨#[]⟩], .int .i64 2]) (by simp [results, Try.results10, go_sem, c0, c1, c2, c3, c4, c5, c6, fr]) rfl ⟨rfl, ?_⟩
  exact below_put7 hl (Nat.le_refl _) _ _ _ _ _ _ _

set_option maxHeartbeats 4000000 in
set_option maxRecDepth 100000 in
theorem vdec_part (s H : ByteArray) (w : World) (hs : s.size ≤ 140737488500000) (hv : headV s = (H, 0)) (hz : H.size ≤ 60) (hz2 : 20 ≤ H.size) (hx : (H.size : Int) ≤ numv H 2 2) (hy : numv H 2 2 ≤ (s.size : Int)) (hp : numv H 6 2 ≠ 0 ∧ numv H 6 2 ≠ 16384) :
    Calls Try.prog 10 #[.string s] w fun e w' => e = .returned (.tuple #[.agg #[.int .i64 0, .int .i64 0, .int .i64 0, .string ⟨#[]⟩, .string ⟨#[]⟩, .string ⟨#[]⟩, .string ⟨#[]⟩], .int .i64 3]) ∧ Below w.heap.size w w' := by
  obtain ⟨q0, q1⟩ := numv_le2 H 2
  have N1 := Lib.hid fun (hb : Nat) (U : World) (g : Dbx w w.heap.size hb H U) => vnum_k 2 2 U (by omega) (by omega) (by omega) g
  obtain ⟨q, hq⟩ : ∃ q, q = numv H 2 2 := ⟨_, rfl⟩
  rw [← hq] at N1 q0 q1 hx hy
  clear hq
  have H2 := Lib.hid fun U => cut_c s H.size (q - (H.size : Int)) U (by omega) (by omega) (by omega)
  have hv2 : cutSpec s H.size (q - (H.size : Int)) = (s.extract H.size q.toNat, 0) := by
    have := cut_okv s H.size (q.toNat - H.size) (by omega)
    rw [show ((q.toNat - H.size : Nat) : Int) = q - (H.size : Int) from by omega, show H.size + (q.toNat - H.size) = q.toNat from by omega] at this
    exact this
  rw [hv2] at H2
  obtain ⟨X, hX⟩ : ∃ X, X = s.extract H.size q.toNat := ⟨_, rfl⟩
  rw [← hX] at H2
  clear hv2 hy hX
  have N2 := Lib.hid fun (hb : Nat) (U : World) (g : Dbx w w.heap.size hb H U) => vnum_k 6 2 U (by omega) (by omega) (by omega) g
  obtain ⟨m, hm⟩ : ∃ m, m = numv H 6 2 := ⟨_, rfl⟩
  rw [← hm] at N2 hp
  clear hm
  obtain ⟨t1, t2⟩ := ne_t hp.1
  obtain ⟨t3, t4⟩ := ne_t hp.2
  clear hp
  have H1 := Lib.hid fun U => head_c s U hs
  rw [hv] at H1
  have KZ := Lib.hid hz
  go_enter Try.func10, Try.ntmps10
  go_wp2_with fail
  refine (H1.out _).mono ?_
  rintro e w1 ⟨rfl, h1⟩
  obtain ⟨hc1, hf1⟩ := below_cells h1
  have g1 : w.heap.size < w1.heap.size := by have := h1.size; simp at this; omega
  go_wp2_with fail
  have D : Dbx w w.heap.size w1.heap.size H (w1.alloc (.cells #[.string H] 9)) := by
    refine ⟨by simp, ?_, ?_, ?_, ?_, ?_, ?_, ?_, fun o => ?_, by simp; omega, by simp, (vboxed h1).alloc (vboxed h1).size _⟩
    all_goals first
      | (rw [World.cell?_alloc_lt _ _ _ g1, hc1 _ _ (by simp)]; simp)
      | (rw [World.frozen?_alloc_past _ _ _ g1, hf1 _ _ (by simp)]; simp)
  clear hc1 hf1 h1
  have DK := Lib.hid D
  obtain ⟨d0, c0, c1, c2, c3, c4, c5, c6, fr, hn, hh, hl⟩ := D
  refine (N1.out _ _ DK.out).mono ?_
  clear DK d0 c0 c1 c2 c3 c4 c5 c6 fr hn hh hl
  rintro e w2 ⟨rfl, D⟩
  have DK := Lib.hid D
  obtain ⟨d0, c0, c1, c2, c3, c4, c5, c6, fr, hn, hh, hl⟩ := D
  go_wp2_with fail
  refine (H2.out _).mono ?_
  rintro e w3 ⟨rfl, h3⟩
  have D := DK.out.below h3
  clear DK d0 c0 c1 c2 c3 c4 c5 c6 fr hn hh hl h3
  have DK := Lib.hid D
  obtain ⟨d0, c0, c1, c2, c3, c4, c5, c6, fr, hn, hh, hl⟩ := D
  go_wp2_with fail
  refine (N2.out _ _ DK.out).mono ?_
  clear DK d0 c0 c1 c2 c3 c4 c5 c6 fr hn hh hl
  rintro e w4 ⟨rfl, D⟩
  have DK := Lib.hid D
  obtain ⟨d0, c0, c1, c2, c3, c4, c5, c6, fr, hn, hh, hl⟩ := D
  go_wp2_with fail
  refine bodyPost_ret (v := .tuple #[.agg #[.int .i64 0, .int .i64 0, .int .i64 0, .string ⟨#[]⟩, .string ⟨#[]⟩, .string ⟨#[]⟩, .string ⟨#[]⟩], .int .i64 3]) (by simp [results, Try.results10, go_sem, c0, c1, c2, c3, c4, c5, c6, fr]) rfl ⟨rfl, ?_⟩
  exact below_put7 hl (Nat.le_refl _) _ _ _ _ _ _ _

end Go.Proofs.Ytolgakgimcbkpaa
