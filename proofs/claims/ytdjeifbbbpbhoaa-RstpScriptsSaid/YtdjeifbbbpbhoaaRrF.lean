/-
  Both parts side by side; one call on both: siphonlaw15.step. Contracts over the translated program.
-/
import Derived.Test.YtdjeifbbbpbhoaaRrE
namespace Go.Proofs.Ytdjeifbbbpbhoaa
open Go.RowKit
set_option linter.unusedVariables false
set_option linter.unusedSimpArgs false

theorem guard_T : Try.prog.eqGuardType Try.prog.depth 38 = false := by kernel_rfl
theorem fields_T : (Try.prog.fieldsOf 38).toList = [⟨"Vector", 36, 0, false, "", "", 0⟩, ⟨"Age", 3, 4, false, "", "", 32⟩, ⟨"Change", 4, 5, false, "", "", 40⟩, ⟨"Learn", 4, 6, false, "", "", 41⟩, ⟨"Fwd", 4, 7, false, "", "", 42⟩] := by kernel_rfl
theorem und_T : Try.prog.underlying 38 = some (.struct (Try.prog.fieldsOf 38)) := by kernel_rfl
theorem stood_T : Try.prog.stoodInHeld 38 = false := by kernel_rfl
theorem equalIn_V9 (r c g z : Int) (w : World) : (Op.equalIn 9999 36 (.agg #[.int .u64 r, .int .i64 c, .int .u64 g, .int .i64 z]) (.agg #[.int .u64 r, .int .i64 c, .int .u64 g, .int .i64 z])).run Try.prog w = .ok true w := by
  rw [show 9999 = 9998 + 1 from rfl, run_equalIn_struct w 9998 _ _ _ und_V stood_V, fields_V]
  have hu := Try.underlying22
  have hi := Try.underlying3
  have hz1 := Try.sizeOf22
  have hz2 := Try.sizeOf3
  have ha1 := Try.isAgg22
  have ha2 := Try.isAgg3
  simp [Op.eqFields, part, go_sem, Result.andThen, hz1, hz2, ha1, ha2]
theorem equalIn_T (r c g z age : Int) (ch le fw : Bool) (w : World) : (Op.equalIn 10000 38 (.agg #[.int .u64 r, .int .i64 c, .int .u64 g, .int .i64 z, .int .i64 age, .bool ch, .bool le, .bool fw]) (.agg #[.int .u64 r, .int .i64 c, .int .u64 g, .int .i64 z, .int .i64 age, .bool ch, .bool le, .bool fw])).run Try.prog w = .ok true w := by
  rw [show 10000 = 9999 + 1 from rfl, run_equalIn_struct w 9999 _ _ _ und_T stood_T, fields_T]
  have hi := Try.underlying3
  have hb := Try.underlying4
  have hz1 := Try.sizeOf36
  have hz2 := Try.sizeOf3
  have hz3 := Try.sizeOf4
  have ha1 := Try.isAgg36
  have ha2 := Try.isAgg3
  have ha3 := Try.isAgg4
  have hv := equalIn_V9 r c g z
  simp [Op.eqFields, part, go_sem, Result.andThen, hz1, hz2, hz3, ha1, ha2, ha3, hv]
theorem neq_T (r c g z age : Int) (ch le fw : Bool) (w : World) : (binOp .neq 38 (.agg #[.int .u64 r, .int .i64 c, .int .u64 g, .int .i64 z, .int .i64 age, .bool ch, .bool le, .bool fw]) (.agg #[.int .u64 r, .int .i64 c, .int .u64 g, .int .i64 z, .int .i64 age, .bool ch, .bool le, .bool fw])).run Try.prog w = .ok (.bool false) w := by
  rw [run_neq_struct, equalIn_T]; rfl

/-- WHAT A STEP LEAVES. -/
def StepPost (w0 : World) (t rb cap : Nat) (A : List Nat) (q rb2 cap2 : Nat) (e : Ending) (w' : World) : Prop :=
  ∃ T' R', e = .returned (.bool true) ∧ Hid (Two w0 w' t rb cap A T' q rb2 cap2 R') ∧ Hid (Full T' R')

section
variable {w0 W : World} {t rb cap : Nat} {A : List Nat} {T : Part} {q rb2 cap2 : Nat} {R : RPart}

set_option maxHeartbeats 8000000 in
set_option maxRecDepth 100000 in
theorem step_0 (h : Two w0 W t rb cap A T q rb2 cap2 R) (hf : Full T R) (po : Int) (up : Bool) (r c g z age : Int) (ch le fw : Bool) (now : Int) (ha0 : -9223372036854775808 ≤ age) :
    Calls Try.prog 13 #[.pointer (some ⟨t, 0, none⟩), .pointer (some ⟨q, 0, none⟩), .agg #[.int .i64 0, .int .i64 po, .bool up, .int .u64 r, .int .i64 c, .int .u64 g, .int .i64 z, .int .i64 age, .bool ch, .bool le, .bool fw, .int .i64 now]] W (StepPost w0 t rb cap A q rb2 cap2) := by
  have H0 := Lib.hid (h.below ((Below.refl _ W).alloc (Nat.le_refl _) (.cells #[.int .i64 0, .int .i64 po, .bool up, .int .u64 r, .int .i64 c, .int .u64 g, .int .i64 z, .int .i64 age, .bool ch, .bool le, .bool fw, .int .i64 now] 40)))
  have HX := Lib.hid (heap_new W (.cells #[.int .i64 0, .int .i64 po, .bool up, .int .u64 r, .int .i64 c, .int .u64 g, .int .i64 z, .int .i64 age, .bool ch, .bool le, .bool fw, .int .i64 now] 40))
  have HF := Lib.hid hf
  clear h hf
  go_enter Try.func13, Try.ntmps13
  go_upto_region 1 with fail
  generalize W.alloc (.cells #[.int .i64 0, .int .i64 po, .bool up, .int .u64 r, .int .i64 c, .int .u64 g, .int .i64 z, .int .i64 age, .bool ch, .bool le, .bool fw, .int .i64 now] 40) = W1 at H0 HX ⊢
  generalize W.heap.size = xb at HX ⊢
  have y0 : W1.cell? ⟨xb, 0, none⟩ = some (.int .i64 0) := cell_of_block HX.out rfl
  have y1 : W1.cell? ⟨xb, 1, none⟩ = some (.int .i64 po) := cell_of_block HX.out rfl
  have y2 : W1.cell? ⟨xb, 2, none⟩ = some (.bool up) := cell_of_block HX.out rfl
  have y3 : W1.cell? ⟨xb, 3, none⟩ = some (.int .u64 r) := cell_of_block HX.out rfl
  have y4 : W1.cell? ⟨xb, 4, none⟩ = some (.int .i64 c) := cell_of_block HX.out rfl
  have y5 : W1.cell? ⟨xb, 5, none⟩ = some (.int .u64 g) := cell_of_block HX.out rfl
  have y6 : W1.cell? ⟨xb, 6, none⟩ = some (.int .i64 z) := cell_of_block HX.out rfl
  have y7 : W1.cell? ⟨xb, 7, none⟩ = some (.int .i64 age) := cell_of_block HX.out rfl
  have y8 : W1.cell? ⟨xb, 8, none⟩ = some (.bool ch) := cell_of_block HX.out rfl
  have y9 : W1.cell? ⟨xb, 9, none⟩ = some (.bool le) := cell_of_block HX.out rfl
  have y10 : W1.cell? ⟨xb, 10, none⟩ = some (.bool fw) := cell_of_block HX.out rfl
  have y11 : W1.cell? ⟨xb, 11, none⟩ = some (.int .i64 now) := cell_of_block HX.out rfl
  have A1 := Lib.hid (link_s H0.out.s po up now)
  go_wp2_with fail
  ((with_reducible refine A1.out.mono ?_); rintro e w3 ⟨rfl, s3, k3⟩)
  have H3 := Lib.hid (H0.out.ts s3 k3)
  have HX3 := Lib.hid (k3.cells HX.out (by decide))
  clear y0 y1 y2 y3 y4 y5 y6 y7 y8 y9 y10 y11
  clear s3 k3 A1 H0 HX
  have y0 : w3.cell? ⟨xb, 0, none⟩ = some (.int .i64 0) := cell_of_block HX3.out rfl
  have y1 : w3.cell? ⟨xb, 1, none⟩ = some (.int .i64 po) := cell_of_block HX3.out rfl
  have y2 : w3.cell? ⟨xb, 2, none⟩ = some (.bool up) := cell_of_block HX3.out rfl
  have y3 : w3.cell? ⟨xb, 3, none⟩ = some (.int .u64 r) := cell_of_block HX3.out rfl
  have y4 : w3.cell? ⟨xb, 4, none⟩ = some (.int .i64 c) := cell_of_block HX3.out rfl
  have y5 : w3.cell? ⟨xb, 5, none⟩ = some (.int .u64 g) := cell_of_block HX3.out rfl
  have y6 : w3.cell? ⟨xb, 6, none⟩ = some (.int .i64 z) := cell_of_block HX3.out rfl
  have y7 : w3.cell? ⟨xb, 7, none⟩ = some (.int .i64 age) := cell_of_block HX3.out rfl
  have y8 : w3.cell? ⟨xb, 8, none⟩ = some (.bool ch) := cell_of_block HX3.out rfl
  have y9 : w3.cell? ⟨xb, 9, none⟩ = some (.bool le) := cell_of_block HX3.out rfl
  have y10 : w3.cell? ⟨xb, 10, none⟩ = some (.bool fw) := cell_of_block HX3.out rfl
  have y11 : w3.cell? ⟨xb, 11, none⟩ = some (.int .i64 now) := cell_of_block HX3.out rfl
  have A2 := Lib.hid (rlink_c H3.out.r po up now)
  go_wp2_with fail
  ((with_reducible refine A2.out.mono ?_); rintro e w4 ⟨rfl, r4, k4⟩)
  have H4 := Lib.hid (H3.out.tr r4 k4)
  have HF4 := Lib.hid (full_link HF.out po up now)
  clear y0 y1 y2 y3 y4 y5 y6 y7 y8 y9 y10 y11
  clear r4 k4 A2 H3 HX3
  have LK := Lib.hid (looks_c H4.out HF4.out)
  go_wp2_with fail
  ((with_reducible refine LK.out.mono ?_); rintro e w5 ⟨rfl, h5⟩)
  go_wp2_with fail
  go_ret
  exact ⟨_, _, rfl, Lib.hid (H4.out.below h5), HF4⟩

set_option maxHeartbeats 8000000 in
set_option maxRecDepth 100000 in
theorem step_1 (h : Two w0 W t rb cap A T q rb2 cap2 R) (hf : Full T R) (po : Int) (up : Bool) (r c g z age : Int) (ch le fw : Bool) (now : Int) (ha0 : -9223372036854775808 ≤ age) :
    Calls Try.prog 13 #[.pointer (some ⟨t, 0, none⟩), .pointer (some ⟨q, 0, none⟩), .agg #[.int .i64 1, .int .i64 po, .bool up, .int .u64 r, .int .i64 c, .int .u64 g, .int .i64 z, .int .i64 age, .bool ch, .bool le, .bool fw, .int .i64 now]] W (StepPost w0 t rb cap A q rb2 cap2) := by
  have H0 := Lib.hid (h.below ((Below.refl _ W).alloc (Nat.le_refl _) (.cells #[.int .i64 1, .int .i64 po, .bool up, .int .u64 r, .int .i64 c, .int .u64 g, .int .i64 z, .int .i64 age, .bool ch, .bool le, .bool fw, .int .i64 now] 40)))
  have HX := Lib.hid (heap_new W (.cells #[.int .i64 1, .int .i64 po, .bool up, .int .u64 r, .int .i64 c, .int .u64 g, .int .i64 z, .int .i64 age, .bool ch, .bool le, .bool fw, .int .i64 now] 40))
  have HF := Lib.hid hf
  clear h hf
  go_enter Try.func13, Try.ntmps13
  go_upto_region 1 with fail
  generalize W.alloc (.cells #[.int .i64 1, .int .i64 po, .bool up, .int .u64 r, .int .i64 c, .int .u64 g, .int .i64 z, .int .i64 age, .bool ch, .bool le, .bool fw, .int .i64 now] 40) = W1 at H0 HX ⊢
  generalize W.heap.size = xb at HX ⊢
  have y0 : W1.cell? ⟨xb, 0, none⟩ = some (.int .i64 1) := cell_of_block HX.out rfl
  have y1 : W1.cell? ⟨xb, 1, none⟩ = some (.int .i64 po) := cell_of_block HX.out rfl
  have y2 : W1.cell? ⟨xb, 2, none⟩ = some (.bool up) := cell_of_block HX.out rfl
  have y3 : W1.cell? ⟨xb, 3, none⟩ = some (.int .u64 r) := cell_of_block HX.out rfl
  have y4 : W1.cell? ⟨xb, 4, none⟩ = some (.int .i64 c) := cell_of_block HX.out rfl
  have y5 : W1.cell? ⟨xb, 5, none⟩ = some (.int .u64 g) := cell_of_block HX.out rfl
  have y6 : W1.cell? ⟨xb, 6, none⟩ = some (.int .i64 z) := cell_of_block HX.out rfl
  have y7 : W1.cell? ⟨xb, 7, none⟩ = some (.int .i64 age) := cell_of_block HX.out rfl
  have y8 : W1.cell? ⟨xb, 8, none⟩ = some (.bool ch) := cell_of_block HX.out rfl
  have y9 : W1.cell? ⟨xb, 9, none⟩ = some (.bool le) := cell_of_block HX.out rfl
  have y10 : W1.cell? ⟨xb, 10, none⟩ = some (.bool fw) := cell_of_block HX.out rfl
  have y11 : W1.cell? ⟨xb, 11, none⟩ = some (.int .i64 now) := cell_of_block HX.out rfl
  have A1 := Lib.hid (hear_s H0.out.s po r c g z age ch le fw now ha0)
  go_wp2_with fail
  ((with_reducible refine A1.out.mono ?_); rintro e w3 ⟨rfl, s3, k3⟩)
  have H3 := Lib.hid (H0.out.ts s3 k3)
  have HX3 := Lib.hid (k3.cells HX.out (by decide))
  clear y0 y1 y2 y3 y4 y5 y6 y7 y8 y9 y10 y11
  clear s3 k3 A1 H0 HX
  have y0 : w3.cell? ⟨xb, 0, none⟩ = some (.int .i64 1) := cell_of_block HX3.out rfl
  have y1 : w3.cell? ⟨xb, 1, none⟩ = some (.int .i64 po) := cell_of_block HX3.out rfl
  have y2 : w3.cell? ⟨xb, 2, none⟩ = some (.bool up) := cell_of_block HX3.out rfl
  have y3 : w3.cell? ⟨xb, 3, none⟩ = some (.int .u64 r) := cell_of_block HX3.out rfl
  have y4 : w3.cell? ⟨xb, 4, none⟩ = some (.int .i64 c) := cell_of_block HX3.out rfl
  have y5 : w3.cell? ⟨xb, 5, none⟩ = some (.int .u64 g) := cell_of_block HX3.out rfl
  have y6 : w3.cell? ⟨xb, 6, none⟩ = some (.int .i64 z) := cell_of_block HX3.out rfl
  have y7 : w3.cell? ⟨xb, 7, none⟩ = some (.int .i64 age) := cell_of_block HX3.out rfl
  have y8 : w3.cell? ⟨xb, 8, none⟩ = some (.bool ch) := cell_of_block HX3.out rfl
  have y9 : w3.cell? ⟨xb, 9, none⟩ = some (.bool le) := cell_of_block HX3.out rfl
  have y10 : w3.cell? ⟨xb, 10, none⟩ = some (.bool fw) := cell_of_block HX3.out rfl
  have y11 : w3.cell? ⟨xb, 11, none⟩ = some (.int .i64 now) := cell_of_block HX3.out rfl
  have A2 := Lib.hid (rhear_c H3.out.r po r c g z age ch le fw now ha0)
  go_wp2_with fail
  ((with_reducible refine A2.out.mono ?_); rintro e w4 ⟨rfl, r4, k4⟩)
  have H4 := Lib.hid (H3.out.tr r4 k4)
  have HF4 := Lib.hid (full_hear HF.out po ⟨(r, c, g, z), age, ch, le, fw⟩ now)
  clear y0 y1 y2 y3 y4 y5 y6 y7 y8 y9 y10 y11
  clear r4 k4 A2 H3 HX3
  have LK := Lib.hid (looks_c H4.out HF4.out)
  go_wp2_with fail
  ((with_reducible refine LK.out.mono ?_); rintro e w5 ⟨rfl, h5⟩)
  go_wp2_with fail
  go_ret
  exact ⟨_, _, rfl, Lib.hid (H4.out.below h5), HF4⟩

theorem rowlen_le {α : Type} {cells : α → List Value} {s : Nat} {w : World} {B : Nat} {e : TypeId} {v : Value} {L : List α} (hs : 0 < s) (h : w.ownsRow B e s v L.length (L.flatMap cells)) : L.length ≤ 9223372036854775807 := by
  rcases h.2 with ⟨-, h0⟩ | ⟨g, cap, cur, -, -, -, h1, h2, -⟩
  · omega
  · unfold maxLen at h2
    omega
theorem rowat {α : Type} {cells : α → List Value} {s n : Nat} {w : World} {B : Nat} {e : TypeId} {p : Option Addr} {cap : Nat} {L : List α} (h : w.ownsRow B e s (.slice p n cap) n (L.flatMap cells)) (hl : ∀ a, (cells a).length = s) {k : Nat} {x : α} (hx : L[k]? = some x) (hs : 0 < s) : ∃ g, p = some ⟨g, 0, none⟩ ∧ ∀ j u, (cells x)[j]? = some u → w.cell? ⟨g, k * s + j, none⟩ = some u := by
  rcases h.2 with ⟨e, h0⟩ | ⟨g, cap', cur, e, -, -, -, -, -, -⟩
  · exfalso
    have h1 := h.1
    obtain ⟨u, hu⟩ : ∃ u, (cells x)[0]? = some u := ⟨_, List.getElem?_eq_getElem (by rw [hl]; exact hs)⟩
    have h2 := (List.getElem?_eq_some_iff.1 (flat_at hl hx hu)).1
    rw [h1, h0] at h2
    omega
  · cases e
    refine ⟨g, rfl, fun j u hj => ?_⟩
    have h1 := h.cells (g := g) rfl (k * s + j) u (flat_at hl hx hj)
    have e : (⟨g, 0, none⟩ : Addr).add (k * s + j) = ⟨g, k * s + j, none⟩ := by unfold Addr.add; split <;> simp_all
    rwa [e] at h1

set_option maxHeartbeats 8000000 in
set_option maxRecDepth 100000 in
theorem step_2 (h : Two w0 W t rb cap A T q rb2 cap2 R) (hf : Full T R) (dd : Int) (h0 : dd ≠ 0) (h1 : dd ≠ 1) (po : Int) (up : Bool) (r c g z age : Int) (ch le fw : Bool) (now : Int) (ha0 : -9223372036854775808 ≤ age) :
    Calls Try.prog 13 #[.pointer (some ⟨t, 0, none⟩), .pointer (some ⟨q, 0, none⟩), .agg #[.int .i64 dd, .int .i64 po, .bool up, .int .u64 r, .int .i64 c, .int .u64 g, .int .i64 z, .int .i64 age, .bool ch, .bool le, .bool fw, .int .i64 now]] W (StepPost w0 t rb cap A q rb2 cap2) := by
  obtain ⟨p0, p0n⟩ := ne_t h0
  obtain ⟨p1, p1n⟩ := ne_t h1
  clear h0 h1
  have H0 := Lib.hid (h.below ((Below.refl _ W).alloc (Nat.le_refl _) (.cells #[.int .i64 dd, .int .i64 po, .bool up, .int .u64 r, .int .i64 c, .int .u64 g, .int .i64 z, .int .i64 age, .bool ch, .bool le, .bool fw, .int .i64 now] 40)))
  have HX := Lib.hid (heap_new W (.cells #[.int .i64 dd, .int .i64 po, .bool up, .int .u64 r, .int .i64 c, .int .u64 g, .int .i64 z, .int .i64 age, .bool ch, .bool le, .bool fw, .int .i64 now] 40))
  have HF := Lib.hid hf
  clear h hf
  go_enter Try.func13, Try.ntmps13
  go_upto_region 1 with fail
  generalize W.alloc (.cells #[.int .i64 dd, .int .i64 po, .bool up, .int .u64 r, .int .i64 c, .int .u64 g, .int .i64 z, .int .i64 age, .bool ch, .bool le, .bool fw, .int .i64 now] 40) = W1 at H0 HX ⊢
  generalize W.heap.size = xb at HX ⊢
  have y0 : W1.cell? ⟨xb, 0, none⟩ = some (.int .i64 dd) := cell_of_block HX.out rfl
  have y1 : W1.cell? ⟨xb, 1, none⟩ = some (.int .i64 po) := cell_of_block HX.out rfl
  have y2 : W1.cell? ⟨xb, 2, none⟩ = some (.bool up) := cell_of_block HX.out rfl
  have y3 : W1.cell? ⟨xb, 3, none⟩ = some (.int .u64 r) := cell_of_block HX.out rfl
  have y4 : W1.cell? ⟨xb, 4, none⟩ = some (.int .i64 c) := cell_of_block HX.out rfl
  have y5 : W1.cell? ⟨xb, 5, none⟩ = some (.int .u64 g) := cell_of_block HX.out rfl
  have y6 : W1.cell? ⟨xb, 6, none⟩ = some (.int .i64 z) := cell_of_block HX.out rfl
  have y7 : W1.cell? ⟨xb, 7, none⟩ = some (.int .i64 age) := cell_of_block HX.out rfl
  have y8 : W1.cell? ⟨xb, 8, none⟩ = some (.bool ch) := cell_of_block HX.out rfl
  have y9 : W1.cell? ⟨xb, 9, none⟩ = some (.bool le) := cell_of_block HX.out rfl
  have y10 : W1.cell? ⟨xb, 10, none⟩ = some (.bool fw) := cell_of_block HX.out rfl
  have y11 : W1.cell? ⟨xb, 11, none⟩ = some (.int .i64 now) := cell_of_block HX.out rfl
  have A1 := Lib.hid (tick_s H0.out.s now)
  go_wp2_with fail
  ((with_reducible refine A1.out.mono ?_); rintro e w3 ⟨u1, rfl, o3, s3, k3⟩)
  have H3 := Lib.hid (H0.out.ts s3 k3)
  have HX3 := Lib.hid (k3.cells HX.out (by decide))
  have O3 := Lib.hid (o3.mono (Nat.zero_le _))
  clear y0 y1 y2 y3 y4 y5 y6 y7 y8 y9 y10 y11
  clear s3 k3 o3 A1 H0 HX
  have y0 : w3.cell? ⟨xb, 0, none⟩ = some (.int .i64 dd) := cell_of_block HX3.out rfl
  have y1 : w3.cell? ⟨xb, 1, none⟩ = some (.int .i64 po) := cell_of_block HX3.out rfl
  have y2 : w3.cell? ⟨xb, 2, none⟩ = some (.bool up) := cell_of_block HX3.out rfl
  have y3 : w3.cell? ⟨xb, 3, none⟩ = some (.int .u64 r) := cell_of_block HX3.out rfl
  have y4 : w3.cell? ⟨xb, 4, none⟩ = some (.int .i64 c) := cell_of_block HX3.out rfl
  have y5 : w3.cell? ⟨xb, 5, none⟩ = some (.int .u64 g) := cell_of_block HX3.out rfl
  have y6 : w3.cell? ⟨xb, 6, none⟩ = some (.int .i64 z) := cell_of_block HX3.out rfl
  have y7 : w3.cell? ⟨xb, 7, none⟩ = some (.int .i64 age) := cell_of_block HX3.out rfl
  have y8 : w3.cell? ⟨xb, 8, none⟩ = some (.bool ch) := cell_of_block HX3.out rfl
  have y9 : w3.cell? ⟨xb, 9, none⟩ = some (.bool le) := cell_of_block HX3.out rfl
  have y10 : w3.cell? ⟨xb, 10, none⟩ = some (.bool fw) := cell_of_block HX3.out rfl
  have y11 : w3.cell? ⟨xb, 11, none⟩ = some (.int .i64 now) := cell_of_block HX3.out rfl
  have A2 := Lib.hid (rtick_c H3.out.r now)
  go_wp2_with fail
  ((with_reducible refine A2.out.mono ?_); rintro e w4 ⟨u2, rfl, o4, r4, k4⟩)
  have H4 := Lib.hid (H3.out.tr r4 k4)
  have HF4 := Lib.hid (full_tick HF.out now)
  have O4 := Lib.hid (owns_tt (B := w0.heap.size) O3.out k4 (by decide))
  have E := Lib.hid (told_same HF.out now)
  rw [E.out] at O4
  have O5 := Lib.hid (o4.mono (Nat.zero_le _))
  clear y0 y1 y2 y3 y4 y5 y6 y7 y8 y9 y10 y11
  clear r4 k4 o4 A2 H3 HX3 O3 E
  generalize R.told now = L at O4 O5
  have LK := Lib.hid fun n => looks_c (H4.out.drewN n) HF4.out
  obtain ⟨n, hn⟩ : ∃ n, n = L.length := ⟨_, rfl⟩
  have HL := Lib.hid hn
  have s4 := O4.out
  have s5 := O5.out
  rw [← hn] at s4 s5
  have HLL := Lib.hid (show L.length ≤ 9223372036854775807 from rowlen_le (by decide) O4.out)
  rw [← hn] at HLL
  clear hn
  obtain ⟨pa, ca, rfl⟩ := owns_slice s4
  obtain ⟨pb, cb, rfl⟩ := owns_slice s5
  have P4 := Lib.hid s4
  have P5 := Lib.hid s5
  clear s4 s5 O4 O5
  have hnl := HLL.out
  go_wp2_with fail
  go_loopw [9] (fun i wr => ∃ k m : Nat, k ≤ n ∧ i = .int .i64 k ∧ wr = w4.drewN m) (fun i _ => n - (intOf i).toNat)
  case atStart => exact ⟨0, 0, Nat.zero_le _, rfl, rfl⟩
  case round =>
    obtain ⟨k, m, hk, rfl, rfl⟩ := hrel
    by_cases hlt : k < n
    · obtain ⟨x, hx⟩ : ∃ x, L[k]? = some x := ⟨_, List.getElem?_eq_getElem (by rw [← HL.out]; exact hlt)⟩
      obtain ⟨ga, rfl, ca0⟩ := rowat P4.out (cells := cellsO) (fun _ => rfl) hx (by decide)
      obtain ⟨gb, rfl, cb0⟩ := rowat P5.out (cells := cellsO) (fun _ => rfl) hx (by decide)
      obtain ⟨xi, ⟨⟨v1, v2, v3, v4⟩, xa, xc, xl, xf⟩⟩ := x
      have a0 : w4.cell? ⟨ga, k * 9, none⟩ = some (.int .i64 xi) := ca0 0 _ rfl
      have b0 : w4.cell? ⟨gb, k * 9, none⟩ = some (.int .i64 xi) := cb0 0 _ rfl
      have a1 : w4.cell? ⟨ga, k * 9 + 1, none⟩ = some (.int .u64 v1) := ca0 1 _ rfl
      have b1 : w4.cell? ⟨gb, k * 9 + 1, none⟩ = some (.int .u64 v1) := cb0 1 _ rfl
      have a2 : w4.cell? ⟨ga, k * 9 + 2, none⟩ = some (.int .i64 v2) := ca0 2 _ rfl
      have b2 : w4.cell? ⟨gb, k * 9 + 2, none⟩ = some (.int .i64 v2) := cb0 2 _ rfl
      have a3 : w4.cell? ⟨ga, k * 9 + 3, none⟩ = some (.int .u64 v3) := ca0 3 _ rfl
      have b3 : w4.cell? ⟨gb, k * 9 + 3, none⟩ = some (.int .u64 v3) := cb0 3 _ rfl
      have a4 : w4.cell? ⟨ga, k * 9 + 4, none⟩ = some (.int .i64 v4) := ca0 4 _ rfl
      have b4 : w4.cell? ⟨gb, k * 9 + 4, none⟩ = some (.int .i64 v4) := cb0 4 _ rfl
      have a5 : w4.cell? ⟨ga, k * 9 + 5, none⟩ = some (.int .i64 xa) := ca0 5 _ rfl
      have b5 : w4.cell? ⟨gb, k * 9 + 5, none⟩ = some (.int .i64 xa) := cb0 5 _ rfl
      have a6 : w4.cell? ⟨ga, k * 9 + 6, none⟩ = some (.bool xc) := ca0 6 _ rfl
      have b6 : w4.cell? ⟨gb, k * 9 + 6, none⟩ = some (.bool xc) := cb0 6 _ rfl
      have a7 : w4.cell? ⟨ga, k * 9 + 7, none⟩ = some (.bool xl) := ca0 7 _ rfl
      have b7 : w4.cell? ⟨gb, k * 9 + 7, none⟩ = some (.bool xl) := cb0 7 _ rfl
      have a8 : w4.cell? ⟨ga, k * 9 + 8, none⟩ = some (.bool xf) := ca0 8 _ rfl
      have b8 : w4.cell? ⟨gb, k * 9 + 8, none⟩ = some (.bool xf) := cb0 8 _ rfl
      have E1 := fun U => neq_T v1 v2 v3 v4 xa xc xl xf U
      have E2 := fun U => equalIn_T v1 v2 v3 v4 xa xc xl xf U
      have E3 := guard_T
      have E4 : (xi != xi) = false := by simp
      have d1 : decide (n ≤ k) = false := decide_eq_false (by omega)
      have d2 : decide (k < n) = true := decide_eq_true hlt
      have d3 : decide ((k : Int) < (n : Int)) = true := decide_eq_true (by omega)
      have d4 : decide (0 ≤ (k : Int)) = true := decide_eq_true (by omega)
      clear hx ca0 cb0
      go_wp2
      go_quiet (fail)
      go_wp2
      go_roundw
      case rel => exact ⟨k + 1, _, by omega, by go_num, rfl⟩
      case measure => simp [intOf]; omega
    · obtain rfl : n = k := by omega
      clear hlt
      go_wp2_with fail
      ((with_reducible refine (LK.out _).mono ?_); rintro e w5 ⟨rfl, h5⟩)
      go_wp2_with fail
      go_ret
      exact ⟨_, _, rfl, Lib.hid ((H4.out.drewN _).below h5), HF4⟩

theorem step_c (h : Two w0 W t rb cap A T q rb2 cap2 R) (hf : Full T R) (dd po : Int) (up : Bool) (r c g z age : Int) (ch le fw : Bool) (now : Int) (ha0 : -9223372036854775808 ≤ age) :
    Calls Try.prog 13 #[.pointer (some ⟨t, 0, none⟩), .pointer (some ⟨q, 0, none⟩), .agg #[.int .i64 dd, .int .i64 po, .bool up, .int .u64 r, .int .i64 c, .int .u64 g, .int .i64 z, .int .i64 age, .bool ch, .bool le, .bool fw, .int .i64 now]] W (StepPost w0 t rb cap A q rb2 cap2) := by
  by_cases h0 : dd = 0
  · subst h0
    exact step_0 h hf po up r c g z age ch le fw now ha0
  · by_cases h1 : dd = 1
    · subst h1
      exact step_1 h hf po up r c g z age ch le fw now ha0
    · exact step_2 h hf dd h0 h1 po up r c g z age ch le fw now ha0
end

end Go.Proofs.Ytdjeifbbbpbhoaa
