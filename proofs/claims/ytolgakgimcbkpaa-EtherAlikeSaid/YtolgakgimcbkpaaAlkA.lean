/-
  EtherAlike: the four rows are copied out of the argument, in whatever order their memory is made.
-/
import Derived.Test.YtolgakgimcbkpaaAlkT
import Derived.Test.YtolgakgimcbkpaaTxt
namespace Go.Proofs.Ytolgakgimcbkpaa
open Go.RowKit
set_option linter.unusedVariables false
set_option linter.unusedSimpArgs false

theorem wpAnyH_post {P : Program} {md : Region.Mode} {ops : Array Oper} {Q : Exit → Act → World → Prop} {S : World → Prop} {n : Nat} {L : Array Bool} {a : Act} {W : World} (h : ∀ b, b = Q → wpAnyH P md ops b S n L a W) : wpAnyH P md ops Q S n L a W := h Q rfl

/-- The forty bytes of the argument in their box. -/
def boxA (A B C D : List UInt8) : Array Value := byteRow (A ++ B ++ C ++ D)

theorem rows_below {w0 : World} {P k3 k4 k5 k6 : Nat} {X : Obj} {A B C D : Array Value} {W W' : World} (h : Rows4 w0 P X k3 k4 k5 k6 A B C D W) (k : Below W.heap.size W W') : Rows4 w0 P X k3 k4 k5 k6 A B C D W' :=
  ⟨below_block k (lt_of_block h.hP) h.hP, below_block k (lt_of_block h.h3) h.h3, below_block k (lt_of_block h.h4) h.h4, below_block k (lt_of_block h.h5) h.h5, below_block k (lt_of_block h.h6) h.h6, h.d34, h.d35, h.d36, h.d45, h.d46, h.d56, h.p3, h.p4, h.p5, h.p6, h.bl.trans (k.mono (Nat.le_of_lt (lt_of_block h.hP)))⟩
theorem conv_blk {k n : Nat} {l : List UInt8} {t : TypeId} {W : World} (h : W.heap[k]? = some (.cells (byteRow l) t (0, 0))) (hn : n = l.length) :
    (convert 31 30 (.slice (some ⟨k, 0, none⟩) n n)).run Try.prog W = .ok (.string ⟨l.toArray⟩) W := by
  subst hn
  refine run_convert_bytes_back W 31 30 5 _ _ l Try.underlying31 Try.underlying5 Try.underlying30 fun j hj => ?_
  have : (⟨k, 0, none⟩ : Addr).add j = ⟨k, j, none⟩ := by unfold Addr.add; split <;> simp_all
  rw [this]
  exact cell_of_block h (byteRow_at l j hj)
theorem byteAt_mk (l : List UInt8) (j : Nat) : byteAt ⟨l.toArray⟩ j = l.getD j 0 := rfl
theorem grp4_of (x b c d : UInt8) (h0 : 224 ≤ x.toNat) (h1 : x.toNat ≤ 239) : grpSpec ⟨[x, b, c, d].toArray⟩ = (⟨#[1, 0, 94, UInt8.ofNat (b.toNat % 128), c, d]⟩, 0) := by
  unfold grpSpec
  rw [if_pos ⟨rfl, h0, h1⟩]
  rfl
theorem grp16_of (l : List UInt8) (c d e f : UInt8) (hl : l.length = 11) : grpSpec ⟨(255 :: (l ++ [c, d, e, f])).toArray⟩ = (⟨#[51, 51, c, d, e, f]⟩, 0) := by
  unfold grpSpec
  have hz : (⟨(255 :: (l ++ [c, d, e, f])).toArray⟩ : ByteArray).size = 16 := by rw [ByteArray.size_mk', List.size_toArray]; simp [hl]
  rw [if_neg (by rw [hz]; omega), if_pos ⟨hz, rfl⟩]
  have e : (⟨(255 :: (l ++ [c, d, e, f])).toArray⟩ : ByteArray).extract 12 16 = ⟨[c, d, e, f].toArray⟩ := ext_mid _ (255 :: l) [c, d, e, f] [] 12 16 (by simp) (by simp [hl]) rfl
  rw [e]
  rfl

theorem alk_eq4 (b c d b' c' d' : UInt8) : (((⟨#[1, 0, 94, UInt8.ofNat (b.toNat % 128), c, d]⟩ : ByteArray).toList == (⟨#[1, 0, 94, UInt8.ofNat (b'.toNat % 128), c', d']⟩ : ByteArray).toList)) = decide (b.toNat % 128 = b'.toNat % 128 ∧ c.toNat = c'.toNat ∧ d.toNat = d'.toNat) := by
  rw [ByteArray.toList_eq, ByteArray.toList_eq, Bool.eq_iff_iff, beq_iff_eq, decide_eq_true_iff]
  constructor
  · intro h
    simp only [List.cons.injEq, and_true, true_and] at h
    have h1 := congrArg UInt8.toNat h.1
    rw [UInt8.toNat_ofNat', UInt8.toNat_ofNat', show (2 : Nat) ^ 8 = 256 from rfl] at h1
    exact ⟨by omega, congrArg UInt8.toNat h.2.1, congrArg UInt8.toNat h.2.2⟩
  · rintro ⟨h1, h2, h3⟩
    rw [h1, UInt8.toNat_inj.1 h2, UInt8.toNat_inj.1 h3]
theorem alk_eq6 (b c d e b' c' d' e' : UInt8) : (((⟨#[51, 51, b, c, d, e]⟩ : ByteArray).toList == (⟨#[51, 51, b', c', d', e']⟩ : ByteArray).toList)) = decide (b.toNat = b'.toNat ∧ c.toNat = c'.toNat ∧ d.toNat = d'.toNat ∧ e.toNat = e'.toNat) := by
  rw [ByteArray.toList_eq, ByteArray.toList_eq, Bool.eq_iff_iff, beq_iff_eq, decide_eq_true_iff]
  constructor
  · intro h
    simp only [List.cons.injEq, and_true, true_and] at h
    exact ⟨congrArg UInt8.toNat h.1, congrArg UInt8.toNat h.2.1, congrArg UInt8.toNat h.2.2.1, congrArg UInt8.toNat h.2.2.2⟩
  · rintro ⟨h1, h2, h3, h4⟩
    rw [UInt8.toNat_inj.1 h1, UInt8.toNat_inj.1 h2, UInt8.toNat_inj.1 h3, UInt8.toNat_inj.1 h4]
theorem alk_ne (b c d e b' c' d' : UInt8) : (⟨#[1, 0, 94, b', c', d']⟩ : ByteArray).toList ≠ (⟨#[51, 51, b, c, d, e]⟩ : ByteArray).toList := by
  rw [ByteArray.toList_eq, ByteArray.toList_eq]
  intro h
  simp only [List.cons.injEq] at h
  exact absurd h.1 (by decide)

set_option maxHeartbeats 4000000 in
set_option maxRecDepth 100000 in
theorem walk0 (b0 b1 b2 b3 b4 b5 b6 b7 b8 b9 b10 b11 b12 b13 b14 b15 b16 b17 b18 b19 b20 b21 b22 b23 b24 b25 b26 b27 b28 b29 b30 b31 b32 b33 b34 b35 b36 b37 b38 b39 : UInt8) (w : World) :
    Calls Try.prog 3 #[.agg (boxA [b0, b1, b2, b3] [b4, b5, b6, b7] [b8, b9, b10, b11, b12, b13, b14, b15, b16, b17, b18, b19, b20, b21, b22, b23] [b24, b25, b26, b27, b28, b29, b30, b31, b32, b33, b34, b35, b36, b37, b38, b39])] w fun e w' => e = .returned (.bool true) ∧ Below w.heap.size w w' := by
  obtain ⟨VS, hVS⟩ : ∃ VS, VS = boxA [b0, b1, b2, b3] [b4, b5, b6, b7] [b8, b9, b10, b11, b12, b13, b14, b15, b16, b17, b18, b19, b20, b21, b22, b23] [b24, b25, b26, b27, b28, b29, b30, b31, b32, b33, b34, b35, b36, b37, b38, b39] := ⟨_, rfl⟩
  rw [← hVS]
  have HV := Lib.hid hVS
  clear hVS
  go_enter Try.func3, Try.ntmps3
  go_upto_region 1 with fail
  go_cut [3, 4, 5, 6] (fun s3 s4 s5 s6 wx => ∃ k3 k4 k5 k6 : Nat, s3 = .pointer (some ⟨k3, 0, none⟩) ∧ s4 = .pointer (some ⟨k4, 0, none⟩) ∧ s5 = .pointer (some ⟨k5, 0, none⟩) ∧ s6 = .pointer (some ⟨k6, 0, none⟩) ∧
    Rows4 w w.heap.size (.cells VS 25) k3 k4 k5 k6 (byteRow [b0, b1, b2, b3]) (byteRow [b4, b5, b6, b7]) (byteRow [b8, b9, b10, b11, b12, b13, b14, b15, b16, b17, b18, b19, b20, b21, b22, b23]) (byteRow [b24, b25, b26, b27, b28, b29, b30, b31, b32, b33, b34, b35, b36, b37, b38, b39]) wx)
  case first =>
    have hS0 := heap_new w (.cells VS 25)
    have hB0 : Below w.heap.size w (w.alloc (.cells VS 25)) := (Below.refl _ w).alloc (Nat.le_refl _) _
    generalize (w.alloc (.cells VS 25)) = W at hS0 hB0 ⊢
    refine wp_region_held (S := fun w' => w'.heap[w.heap.size]? = some (.cells VS 25)) (by kernel_rfl) ?_
    refine wpAnyH_take (i := 0) (v := .pointer (some ⟨w.heap.size, 0, none⟩)) rfl (by kernel_rfl) (by kernel_rfl) (by kernel_rfl) (fun _ _ _ h => h) (Or.inl ⟨by rfl, ?_⟩) hS0 ?_
    · intro w' hS
      clear hS
      go_simp
    simp only [Act.put, List.setIfInBounds_toArray, List.set_cons_zero, List.set_cons_succ]
    refine wpAnyH_take (i := 1) (v := .agg #[.int .u8 (b0.toNat : Int), .int .u8 (b1.toNat : Int), .int .u8 (b2.toNat : Int), .int .u8 (b3.toNat : Int)]) rfl (by kernel_rfl) (by kernel_rfl) (by kernel_rfl) (fun _ _ _ h => h) (Or.inl ⟨by rfl, ?_⟩) hS0 ?_
    · intro w' hS
      rw [HV.out] at hS
      have c0 := cell_of_block hS (j := 0) (v := .int .u8 (b0.toNat : Int)) rfl
      have c1 := cell_of_block hS (j := 1) (v := .int .u8 (b1.toNat : Int)) rfl
      have c2 := cell_of_block hS (j := 2) (v := .int .u8 (b2.toNat : Int)) rfl
      have c3 := cell_of_block hS (j := 3) (v := .int .u8 (b3.toNat : Int)) rfl
      clear hS
      go_simp
    simp only [Act.put, List.setIfInBounds_toArray, List.set_cons_zero, List.set_cons_succ]
    refine wpAnyH_take (i := 2) (v := .pointer (some ⟨w.heap.size, 4, none⟩)) rfl (by kernel_rfl) (by kernel_rfl) (by kernel_rfl) (fun _ _ _ h => h) (Or.inl ⟨by rfl, ?_⟩) hS0 ?_
    · intro w' hS
      clear hS
      go_simp
    simp only [Act.put, List.setIfInBounds_toArray, List.set_cons_zero, List.set_cons_succ]
    refine wpAnyH_take (i := 3) (v := .agg #[.int .u8 (b4.toNat : Int), .int .u8 (b5.toNat : Int), .int .u8 (b6.toNat : Int), .int .u8 (b7.toNat : Int)]) rfl (by kernel_rfl) (by kernel_rfl) (by kernel_rfl) (fun _ _ _ h => h) (Or.inl ⟨by rfl, ?_⟩) hS0 ?_
    · intro w' hS
      rw [HV.out] at hS
      have c4 := cell_of_block hS (j := 4) (v := .int .u8 (b4.toNat : Int)) rfl
      have c5 := cell_of_block hS (j := 5) (v := .int .u8 (b5.toNat : Int)) rfl
      have c6 := cell_of_block hS (j := 6) (v := .int .u8 (b6.toNat : Int)) rfl
      have c7 := cell_of_block hS (j := 7) (v := .int .u8 (b7.toNat : Int)) rfl
      clear hS
      go_simp
    simp only [Act.put, List.setIfInBounds_toArray, List.set_cons_zero, List.set_cons_succ]
    refine wpAnyH_take (i := 4) (v := .pointer (some ⟨w.heap.size, 8, none⟩)) rfl (by kernel_rfl) (by kernel_rfl) (by kernel_rfl) (fun _ _ _ h => h) (Or.inl ⟨by rfl, ?_⟩) hS0 ?_
    · intro w' hS
      clear hS
      go_simp
    simp only [Act.put, List.setIfInBounds_toArray, List.set_cons_zero, List.set_cons_succ]
    refine wpAnyH_take (i := 5) (v := .agg #[.int .u8 (b8.toNat : Int), .int .u8 (b9.toNat : Int), .int .u8 (b10.toNat : Int), .int .u8 (b11.toNat : Int), .int .u8 (b12.toNat : Int), .int .u8 (b13.toNat : Int), .int .u8 (b14.toNat : Int), .int .u8 (b15.toNat : Int), .int .u8 (b16.toNat : Int), .int .u8 (b17.toNat : Int), .int .u8 (b18.toNat : Int), .int .u8 (b19.toNat : Int), .int .u8 (b20.toNat : Int), .int .u8 (b21.toNat : Int), .int .u8 (b22.toNat : Int), .int .u8 (b23.toNat : Int)]) rfl (by kernel_rfl) (by kernel_rfl) (by kernel_rfl) (fun _ _ _ h => h) (Or.inl ⟨by rfl, ?_⟩) hS0 ?_
    · intro w' hS
      rw [HV.out] at hS
      have c8 := cell_of_block hS (j := 8) (v := .int .u8 (b8.toNat : Int)) rfl
      have c9 := cell_of_block hS (j := 9) (v := .int .u8 (b9.toNat : Int)) rfl
      have c10 := cell_of_block hS (j := 10) (v := .int .u8 (b10.toNat : Int)) rfl
      have c11 := cell_of_block hS (j := 11) (v := .int .u8 (b11.toNat : Int)) rfl
      have c12 := cell_of_block hS (j := 12) (v := .int .u8 (b12.toNat : Int)) rfl
      have c13 := cell_of_block hS (j := 13) (v := .int .u8 (b13.toNat : Int)) rfl
      have c14 := cell_of_block hS (j := 14) (v := .int .u8 (b14.toNat : Int)) rfl
      have c15 := cell_of_block hS (j := 15) (v := .int .u8 (b15.toNat : Int)) rfl
      have c16 := cell_of_block hS (j := 16) (v := .int .u8 (b16.toNat : Int)) rfl
      have c17 := cell_of_block hS (j := 17) (v := .int .u8 (b17.toNat : Int)) rfl
      have c18 := cell_of_block hS (j := 18) (v := .int .u8 (b18.toNat : Int)) rfl
      have c19 := cell_of_block hS (j := 19) (v := .int .u8 (b19.toNat : Int)) rfl
      have c20 := cell_of_block hS (j := 20) (v := .int .u8 (b20.toNat : Int)) rfl
      have c21 := cell_of_block hS (j := 21) (v := .int .u8 (b21.toNat : Int)) rfl
      have c22 := cell_of_block hS (j := 22) (v := .int .u8 (b22.toNat : Int)) rfl
      have c23 := cell_of_block hS (j := 23) (v := .int .u8 (b23.toNat : Int)) rfl
      clear hS
      go_simp
    simp only [Act.put, List.setIfInBounds_toArray, List.set_cons_zero, List.set_cons_succ]
    refine wpAnyH_take (i := 6) (v := .pointer (some ⟨w.heap.size, 24, none⟩)) rfl (by kernel_rfl) (by kernel_rfl) (by kernel_rfl) (fun _ _ _ h => h) (Or.inl ⟨by rfl, ?_⟩) hS0 ?_
    · intro w' hS
      clear hS
      go_simp
    simp only [Act.put, List.setIfInBounds_toArray, List.set_cons_zero, List.set_cons_succ]
    refine wpAnyH_take (i := 7) (v := .agg #[.int .u8 (b24.toNat : Int), .int .u8 (b25.toNat : Int), .int .u8 (b26.toNat : Int), .int .u8 (b27.toNat : Int), .int .u8 (b28.toNat : Int), .int .u8 (b29.toNat : Int), .int .u8 (b30.toNat : Int), .int .u8 (b31.toNat : Int), .int .u8 (b32.toNat : Int), .int .u8 (b33.toNat : Int), .int .u8 (b34.toNat : Int), .int .u8 (b35.toNat : Int), .int .u8 (b36.toNat : Int), .int .u8 (b37.toNat : Int), .int .u8 (b38.toNat : Int), .int .u8 (b39.toNat : Int)]) rfl (by kernel_rfl) (by kernel_rfl) (by kernel_rfl) (fun _ _ _ h => h) (Or.inl ⟨by rfl, ?_⟩) hS0 ?_
    · intro w' hS
      rw [HV.out] at hS
      have c24 := cell_of_block hS (j := 24) (v := .int .u8 (b24.toNat : Int)) rfl
      have c25 := cell_of_block hS (j := 25) (v := .int .u8 (b25.toNat : Int)) rfl
      have c26 := cell_of_block hS (j := 26) (v := .int .u8 (b26.toNat : Int)) rfl
      have c27 := cell_of_block hS (j := 27) (v := .int .u8 (b27.toNat : Int)) rfl
      have c28 := cell_of_block hS (j := 28) (v := .int .u8 (b28.toNat : Int)) rfl
      have c29 := cell_of_block hS (j := 29) (v := .int .u8 (b29.toNat : Int)) rfl
      have c30 := cell_of_block hS (j := 30) (v := .int .u8 (b30.toNat : Int)) rfl
      have c31 := cell_of_block hS (j := 31) (v := .int .u8 (b31.toNat : Int)) rfl
      have c32 := cell_of_block hS (j := 32) (v := .int .u8 (b32.toNat : Int)) rfl
      have c33 := cell_of_block hS (j := 33) (v := .int .u8 (b33.toNat : Int)) rfl
      have c34 := cell_of_block hS (j := 34) (v := .int .u8 (b34.toNat : Int)) rfl
      have c35 := cell_of_block hS (j := 35) (v := .int .u8 (b35.toNat : Int)) rfl
      have c36 := cell_of_block hS (j := 36) (v := .int .u8 (b36.toNat : Int)) rfl
      have c37 := cell_of_block hS (j := 37) (v := .int .u8 (b37.toNat : Int)) rfl
      have c38 := cell_of_block hS (j := 38) (v := .int .u8 (b38.toNat : Int)) rfl
      have c39 := cell_of_block hS (j := 39) (v := .int .u8 (b39.toNat : Int)) rfl
      clear hS
      go_simp
    simp only [Act.put, List.setIfInBounds_toArray, List.set_cons_zero, List.set_cons_succ]
    change wpAnyH _ _ _ _ _ _ _ _ { W with drawn := W.drawn + 1 }
    have hS1 : ({ W with drawn := W.drawn + 1 } : World).heap[w.heap.size]? = some (.cells VS 25) := hS0
    have hB1 : Below w.heap.size w { W with drawn := W.drawn + 1 } := hB0.drew
    generalize ({ W with drawn := W.drawn + 1 } : World) = W0 at hS1 hB1 ⊢
    refine wpAnyH_act fun a0 ha0 => ?_
    have e18 : a0.eval (.tmp 18) = .agg (byteRow [b0, b1, b2, b3]) := by rw [ha0]; kernel_rfl
    have e20 : a0.eval (.tmp 20) = .agg (byteRow [b4, b5, b6, b7]) := by rw [ha0]; kernel_rfl
    have e22 : a0.eval (.tmp 22) = .agg (byteRow [b8, b9, b10, b11, b12, b13, b14, b15, b16, b17, b18, b19, b20, b21, b22, b23]) := by rw [ha0]; kernel_rfl
    have e24 : a0.eval (.tmp 24) = .agg (byteRow [b24, b25, b26, b27, b28, b29, b30, b31, b32, b33, b34, b35, b36, b37, b38, b39]) := by rw [ha0]; kernel_rfl
    refine wpAnyH_post fun QQ hQQ => ?_
    have HQ : ∀ (k3 k4 k5 k6 : Nat) (a : Act) (W2 : World), Rows4 w w.heap.size (.cells VS 25) k3 k4 k5 k6 (byteRow [b0, b1, b2, b3]) (byteRow [b4, b5, b6, b7]) (byteRow [b8, b9, b10, b11, b12, b13, b14, b15, b16, b17, b18, b19, b20, b21, b22, b23]) (byteRow [b24, b25, b26, b27, b28, b29, b30, b31, b32, b33, b34, b35, b36, b37, b38, b39]) W2 →
        a = (((a0.put (some 3) (.pointer (some ⟨k3, 0, none⟩))).put (some 4) (.pointer (some ⟨k4, 0, none⟩))).put (some 5) (.pointer (some ⟨k5, 0, none⟩))).put (some 6) (.pointer (some ⟨k6, 0, none⟩)) → QQ .normal a W2 := by
      intro k3 k4 k5 k6 a W2 R ha
      have hf : a = { tmps := #[.agg VS, .pointer (some ⟨w.heap.size, 0, none⟩), .bool false, .pointer (some ⟨k3, 0, none⟩), .pointer (some ⟨k4, 0, none⟩), .pointer (some ⟨k5, 0, none⟩), .pointer (some ⟨k6, 0, none⟩), undef, undef, undef, undef, undef, undef, undef, undef, undef, undef, .pointer (some ⟨w.heap.size, 0, none⟩), .agg #[.int .u8 (b0.toNat : Int), .int .u8 (b1.toNat : Int), .int .u8 (b2.toNat : Int), .int .u8 (b3.toNat : Int)], .pointer (some ⟨w.heap.size, 4, none⟩), .agg #[.int .u8 (b4.toNat : Int), .int .u8 (b5.toNat : Int), .int .u8 (b6.toNat : Int), .int .u8 (b7.toNat : Int)], .pointer (some ⟨w.heap.size, 8, none⟩), .agg #[.int .u8 (b8.toNat : Int), .int .u8 (b9.toNat : Int), .int .u8 (b10.toNat : Int), .int .u8 (b11.toNat : Int), .int .u8 (b12.toNat : Int), .int .u8 (b13.toNat : Int), .int .u8 (b14.toNat : Int), .int .u8 (b15.toNat : Int), .int .u8 (b16.toNat : Int), .int .u8 (b17.toNat : Int), .int .u8 (b18.toNat : Int), .int .u8 (b19.toNat : Int), .int .u8 (b20.toNat : Int), .int .u8 (b21.toNat : Int), .int .u8 (b22.toNat : Int), .int .u8 (b23.toNat : Int)], .pointer (some ⟨w.heap.size, 24, none⟩), .agg #[.int .u8 (b24.toNat : Int), .int .u8 (b25.toNat : Int), .int .u8 (b26.toNat : Int), .int .u8 (b27.toNat : Int), .int .u8 (b28.toNat : Int), .int .u8 (b29.toNat : Int), .int .u8 (b30.toNat : Int), .int .u8 (b31.toNat : Int), .int .u8 (b32.toNat : Int), .int .u8 (b33.toNat : Int), .int .u8 (b34.toNat : Int), .int .u8 (b35.toNat : Int), .int .u8 (b36.toNat : Int), .int .u8 (b37.toNat : Int), .int .u8 (b38.toNat : Int), .int .u8 (b39.toNat : Int)], undef, undef, undef, undef, undef, undef, undef, undef, undef, undef, undef, undef, undef, undef, undef, undef, undef, undef, undef, undef, undef, undef, undef, undef, undef, undef, undef, undef, undef, undef, undef, undef, undef, undef, undef, undef, undef, undef, undef, undef, undef, undef, undef, undef, undef, undef, undef, undef, undef, undef, undef, undef, undef, undef, undef, undef, undef, undef, undef, undef, undef, undef, undef, undef, undef, undef, undef, undef, undef, undef, undef, undef, undef, undef, undef, undef, undef, undef, undef, undef, undef, undef, undef, undef, undef, undef, undef, undef, undef, undef, undef, undef, undef, undef, undef, undef, undef, undef, undef, undef, undef, undef, undef, undef, undef, undef, undef, undef, undef, undef, undef, undef, undef, undef, undef, undef, undef], defers := [] } := by rw [ha, ha0]; kernel_rfl
      rw [hQQ, hf]
      clear ha ha0 hQQ hf
      go_wp2_with fail
      go_meet
      exact ⟨k3, k4, k5, k6, rfl, rfl, rfl, rfl, R⟩
    refine wpAnyH_all (rs := [8, 9, 10, 11]) (by kernel_rfl) (by simp) fun i hi => ?_
    simp only [List.mem_cons, List.not_mem_nil, or_false] at hi
    rcases hi with rfl | rfl | rfl | rfl
    · refine op_alloc4 rfl rfl 3 rfl rfl ⟨heap_old hS1, ?_⟩
      refine wpAnyH_all (rs := [9, 10, 11]) (by kernel_rfl) (by simp) fun i hi => ?_
      simp only [List.mem_cons, List.not_mem_nil, or_false] at hi
      rcases hi with rfl | rfl | rfl
      · refine op_alloc4 rfl rfl 4 rfl rfl ⟨heap_old (heap_old hS1), ?_⟩
        refine wpAnyH_all (rs := [10, 11]) (by kernel_rfl) (by simp) fun i hi => ?_
        simp only [List.mem_cons, List.not_mem_nil, or_false] at hi
        rcases hi with rfl | rfl
        · refine op_alloc16 rfl rfl 5 rfl rfl ⟨heap_old (heap_old (heap_old hS1)), ?_⟩
          refine wpAnyH_all (rs := [11]) (by kernel_rfl) (by simp) fun i hi => ?_
          obtain rfl := List.mem_singleton.1 hi
          refine op_alloc16 rfl rfl 6 rfl rfl ⟨heap_old (heap_old (heap_old (heap_old hS1))), ?_⟩
          have R := al4 (.cells z4 22) (.cells z4 22) (.cells z16 23) (.cells z16 23) hS1 hB1
          refine tail4 [b0, b1, b2, b3] [b4, b5, b6, b7] [b8, b9, b10, b11, b12, b13, b14, b15, b16, b17, b18, b19, b20, b21, b22, b23] [b24, b25, b26, b27, b28, b29, b30, b31, b32, b33, b34, b35, b36, b37, b38, b39] (by kernel_rfl) (by kernel_rfl) (by kernel_rfl) (by kernel_rfl) (by kernel_rfl) rfl rfl rfl rfl ⟨rfl, rfl, rfl⟩ ⟨rfl, rfl, rfl⟩ ⟨rfl, rfl, rfl⟩ ⟨rfl, rfl, rfl⟩ (by rw [ha0]; kernel_rfl) (by rw [ha0]; kernel_rfl) (by rw [ha0]; kernel_rfl) (by rw [ha0]; kernel_rfl) (by rw [ha0]; kernel_rfl) (by rw [ha0]; kernel_rfl) (by rw [ha0]; kernel_rfl) (by rw [ha0]; kernel_rfl) rfl rfl rfl rfl rfl rfl rfl rfl
            ⟨R.hP, R.h1, R.h2, R.h3, R.h4, (by have := R.l1; have := R.l2; have := R.l3; omega), (by have := R.l1; have := R.l2; have := R.l3; omega), (by have := R.l1; have := R.l2; have := R.l3; omega), (by have := R.l1; have := R.l2; have := R.l3; omega), (by have := R.l1; have := R.l2; have := R.l3; omega), (by have := R.l1; have := R.l2; have := R.l3; omega), (by have := R.p1; have := R.l1; have := R.l2; have := R.l3; omega), (by have := R.p1; have := R.l1; have := R.l2; have := R.l3; omega), (by have := R.p1; have := R.l1; have := R.l2; have := R.l3; omega), (by have := R.p1; have := R.l1; have := R.l2; have := R.l3; omega), R.bl⟩ (sets_row _ _ rfl) (sets_row _ _ rfl) (sets_row _ _ rfl) (sets_row _ _ rfl) (fun W2 R2 => ?_)
          exact HQ _ _ _ _ _ _ R2 (by first | (rw [ha0]; done) | (rw [ha0]; kernel_rfl))
        · refine op_alloc16 rfl rfl 6 rfl rfl ⟨heap_old (heap_old (heap_old hS1)), ?_⟩
          refine wpAnyH_all (rs := [10]) (by kernel_rfl) (by simp) fun i hi => ?_
          obtain rfl := List.mem_singleton.1 hi
          refine op_alloc16 rfl rfl 5 rfl rfl ⟨heap_old (heap_old (heap_old (heap_old hS1))), ?_⟩
          have R := al4 (.cells z4 22) (.cells z4 22) (.cells z16 23) (.cells z16 23) hS1 hB1
          refine tail4 [b0, b1, b2, b3] [b4, b5, b6, b7] [b8, b9, b10, b11, b12, b13, b14, b15, b16, b17, b18, b19, b20, b21, b22, b23] [b24, b25, b26, b27, b28, b29, b30, b31, b32, b33, b34, b35, b36, b37, b38, b39] (by kernel_rfl) (by kernel_rfl) (by kernel_rfl) (by kernel_rfl) (by kernel_rfl) rfl rfl rfl rfl ⟨rfl, rfl, rfl⟩ ⟨rfl, rfl, rfl⟩ ⟨rfl, rfl, rfl⟩ ⟨rfl, rfl, rfl⟩ (by rw [ha0]; kernel_rfl) (by rw [ha0]; kernel_rfl) (by rw [ha0]; kernel_rfl) (by rw [ha0]; kernel_rfl) (by rw [ha0]; kernel_rfl) (by rw [ha0]; kernel_rfl) (by rw [ha0]; kernel_rfl) (by rw [ha0]; kernel_rfl) rfl rfl rfl rfl rfl rfl rfl rfl
            ⟨R.hP, R.h1, R.h2, R.h4, R.h3, (by have := R.l1; have := R.l2; have := R.l3; omega), (by have := R.l1; have := R.l2; have := R.l3; omega), (by have := R.l1; have := R.l2; have := R.l3; omega), (by have := R.l1; have := R.l2; have := R.l3; omega), (by have := R.l1; have := R.l2; have := R.l3; omega), (by have := R.l1; have := R.l2; have := R.l3; omega), (by have := R.p1; have := R.l1; have := R.l2; have := R.l3; omega), (by have := R.p1; have := R.l1; have := R.l2; have := R.l3; omega), (by have := R.p1; have := R.l1; have := R.l2; have := R.l3; omega), (by have := R.p1; have := R.l1; have := R.l2; have := R.l3; omega), R.bl⟩ (sets_row _ _ rfl) (sets_row _ _ rfl) (sets_row _ _ rfl) (sets_row _ _ rfl) (fun W2 R2 => ?_)
          exact HQ _ _ _ _ _ _ R2 (by first | (rw [ha0]; done) | (rw [ha0]; kernel_rfl))
      · refine op_alloc16 rfl rfl 5 rfl rfl ⟨heap_old (heap_old hS1), ?_⟩
        refine wpAnyH_all (rs := [9, 11]) (by kernel_rfl) (by simp) fun i hi => ?_
        simp only [List.mem_cons, List.not_mem_nil, or_false] at hi
        rcases hi with rfl | rfl
        · refine op_alloc4 rfl rfl 4 rfl rfl ⟨heap_old (heap_old (heap_old hS1)), ?_⟩
          refine wpAnyH_all (rs := [11]) (by kernel_rfl) (by simp) fun i hi => ?_
          obtain rfl := List.mem_singleton.1 hi
          refine op_alloc16 rfl rfl 6 rfl rfl ⟨heap_old (heap_old (heap_old (heap_old hS1))), ?_⟩
          have R := al4 (.cells z4 22) (.cells z16 23) (.cells z4 22) (.cells z16 23) hS1 hB1
          refine tail4 [b0, b1, b2, b3] [b4, b5, b6, b7] [b8, b9, b10, b11, b12, b13, b14, b15, b16, b17, b18, b19, b20, b21, b22, b23] [b24, b25, b26, b27, b28, b29, b30, b31, b32, b33, b34, b35, b36, b37, b38, b39] (by kernel_rfl) (by kernel_rfl) (by kernel_rfl) (by kernel_rfl) (by kernel_rfl) rfl rfl rfl rfl ⟨rfl, rfl, rfl⟩ ⟨rfl, rfl, rfl⟩ ⟨rfl, rfl, rfl⟩ ⟨rfl, rfl, rfl⟩ (by rw [ha0]; kernel_rfl) (by rw [ha0]; kernel_rfl) (by rw [ha0]; kernel_rfl) (by rw [ha0]; kernel_rfl) (by rw [ha0]; kernel_rfl) (by rw [ha0]; kernel_rfl) (by rw [ha0]; kernel_rfl) (by rw [ha0]; kernel_rfl) rfl rfl rfl rfl rfl rfl rfl rfl
            ⟨R.hP, R.h1, R.h3, R.h2, R.h4, (by have := R.l1; have := R.l2; have := R.l3; omega), (by have := R.l1; have := R.l2; have := R.l3; omega), (by have := R.l1; have := R.l2; have := R.l3; omega), (by have := R.l1; have := R.l2; have := R.l3; omega), (by have := R.l1; have := R.l2; have := R.l3; omega), (by have := R.l1; have := R.l2; have := R.l3; omega), (by have := R.p1; have := R.l1; have := R.l2; have := R.l3; omega), (by have := R.p1; have := R.l1; have := R.l2; have := R.l3; omega), (by have := R.p1; have := R.l1; have := R.l2; have := R.l3; omega), (by have := R.p1; have := R.l1; have := R.l2; have := R.l3; omega), R.bl⟩ (sets_row _ _ rfl) (sets_row _ _ rfl) (sets_row _ _ rfl) (sets_row _ _ rfl) (fun W2 R2 => ?_)
          exact HQ _ _ _ _ _ _ R2 (by first | (rw [ha0]; done) | (rw [ha0]; kernel_rfl))
        · refine op_alloc16 rfl rfl 6 rfl rfl ⟨heap_old (heap_old (heap_old hS1)), ?_⟩
          refine wpAnyH_all (rs := [9]) (by kernel_rfl) (by simp) fun i hi => ?_
          obtain rfl := List.mem_singleton.1 hi
          refine op_alloc4 rfl rfl 4 rfl rfl ⟨heap_old (heap_old (heap_old (heap_old hS1))), ?_⟩
          have R := al4 (.cells z4 22) (.cells z16 23) (.cells z16 23) (.cells z4 22) hS1 hB1
          refine tail4 [b0, b1, b2, b3] [b4, b5, b6, b7] [b8, b9, b10, b11, b12, b13, b14, b15, b16, b17, b18, b19, b20, b21, b22, b23] [b24, b25, b26, b27, b28, b29, b30, b31, b32, b33, b34, b35, b36, b37, b38, b39] (by kernel_rfl) (by kernel_rfl) (by kernel_rfl) (by kernel_rfl) (by kernel_rfl) rfl rfl rfl rfl ⟨rfl, rfl, rfl⟩ ⟨rfl, rfl, rfl⟩ ⟨rfl, rfl, rfl⟩ ⟨rfl, rfl, rfl⟩ (by rw [ha0]; kernel_rfl) (by rw [ha0]; kernel_rfl) (by rw [ha0]; kernel_rfl) (by rw [ha0]; kernel_rfl) (by rw [ha0]; kernel_rfl) (by rw [ha0]; kernel_rfl) (by rw [ha0]; kernel_rfl) (by rw [ha0]; kernel_rfl) rfl rfl rfl rfl rfl rfl rfl rfl
            ⟨R.hP, R.h1, R.h4, R.h2, R.h3, (by have := R.l1; have := R.l2; have := R.l3; omega), (by have := R.l1; have := R.l2; have := R.l3; omega), (by have := R.l1; have := R.l2; have := R.l3; omega), (by have := R.l1; have := R.l2; have := R.l3; omega), (by have := R.l1; have := R.l2; have := R.l3; omega), (by have := R.l1; have := R.l2; have := R.l3; omega), (by have := R.p1; have := R.l1; have := R.l2; have := R.l3; omega), (by have := R.p1; have := R.l1; have := R.l2; have := R.l3; omega), (by have := R.p1; have := R.l1; have := R.l2; have := R.l3; omega), (by have := R.p1; have := R.l1; have := R.l2; have := R.l3; omega), R.bl⟩ (sets_row _ _ rfl) (sets_row _ _ rfl) (sets_row _ _ rfl) (sets_row _ _ rfl) (fun W2 R2 => ?_)
          exact HQ _ _ _ _ _ _ R2 (by first | (rw [ha0]; done) | (rw [ha0]; kernel_rfl))
      · refine op_alloc16 rfl rfl 6 rfl rfl ⟨heap_old (heap_old hS1), ?_⟩
        refine wpAnyH_all (rs := [9, 10]) (by kernel_rfl) (by simp) fun i hi => ?_
        simp only [List.mem_cons, List.not_mem_nil, or_false] at hi
        rcases hi with rfl | rfl
        · refine op_alloc4 rfl rfl 4 rfl rfl ⟨heap_old (heap_old (heap_old hS1)), ?_⟩
          refine wpAnyH_all (rs := [10]) (by kernel_rfl) (by simp) fun i hi => ?_
          obtain rfl := List.mem_singleton.1 hi
          refine op_alloc16 rfl rfl 5 rfl rfl ⟨heap_old (heap_old (heap_old (heap_old hS1))), ?_⟩
          have R := al4 (.cells z4 22) (.cells z16 23) (.cells z4 22) (.cells z16 23) hS1 hB1
          refine tail4 [b0, b1, b2, b3] [b4, b5, b6, b7] [b8, b9, b10, b11, b12, b13, b14, b15, b16, b17, b18, b19, b20, b21, b22, b23] [b24, b25, b26, b27, b28, b29, b30, b31, b32, b33, b34, b35, b36, b37, b38, b39] (by kernel_rfl) (by kernel_rfl) (by kernel_rfl) (by kernel_rfl) (by kernel_rfl) rfl rfl rfl rfl ⟨rfl, rfl, rfl⟩ ⟨rfl, rfl, rfl⟩ ⟨rfl, rfl, rfl⟩ ⟨rfl, rfl, rfl⟩ (by rw [ha0]; kernel_rfl) (by rw [ha0]; kernel_rfl) (by rw [ha0]; kernel_rfl) (by rw [ha0]; kernel_rfl) (by rw [ha0]; kernel_rfl) (by rw [ha0]; kernel_rfl) (by rw [ha0]; kernel_rfl) (by rw [ha0]; kernel_rfl) rfl rfl rfl rfl rfl rfl rfl rfl
            ⟨R.hP, R.h1, R.h3, R.h4, R.h2, (by have := R.l1; have := R.l2; have := R.l3; omega), (by have := R.l1; have := R.l2; have := R.l3; omega), (by have := R.l1; have := R.l2; have := R.l3; omega), (by have := R.l1; have := R.l2; have := R.l3; omega), (by have := R.l1; have := R.l2; have := R.l3; omega), (by have := R.l1; have := R.l2; have := R.l3; omega), (by have := R.p1; have := R.l1; have := R.l2; have := R.l3; omega), (by have := R.p1; have := R.l1; have := R.l2; have := R.l3; omega), (by have := R.p1; have := R.l1; have := R.l2; have := R.l3; omega), (by have := R.p1; have := R.l1; have := R.l2; have := R.l3; omega), R.bl⟩ (sets_row _ _ rfl) (sets_row _ _ rfl) (sets_row _ _ rfl) (sets_row _ _ rfl) (fun W2 R2 => ?_)
          exact HQ _ _ _ _ _ _ R2 (by first | (rw [ha0]; done) | (rw [ha0]; kernel_rfl))
        · refine op_alloc16 rfl rfl 5 rfl rfl ⟨heap_old (heap_old (heap_old hS1)), ?_⟩
          refine wpAnyH_all (rs := [9]) (by kernel_rfl) (by simp) fun i hi => ?_
          obtain rfl := List.mem_singleton.1 hi
          refine op_alloc4 rfl rfl 4 rfl rfl ⟨heap_old (heap_old (heap_old (heap_old hS1))), ?_⟩
          have R := al4 (.cells z4 22) (.cells z16 23) (.cells z16 23) (.cells z4 22) hS1 hB1
          refine tail4 [b0, b1, b2, b3] [b4, b5, b6, b7] [b8, b9, b10, b11, b12, b13, b14, b15, b16, b17, b18, b19, b20, b21, b22, b23] [b24, b25, b26, b27, b28, b29, b30, b31, b32, b33, b34, b35, b36, b37, b38, b39] (by kernel_rfl) (by kernel_rfl) (by kernel_rfl) (by kernel_rfl) (by kernel_rfl) rfl rfl rfl rfl ⟨rfl, rfl, rfl⟩ ⟨rfl, rfl, rfl⟩ ⟨rfl, rfl, rfl⟩ ⟨rfl, rfl, rfl⟩ (by rw [ha0]; kernel_rfl) (by rw [ha0]; kernel_rfl) (by rw [ha0]; kernel_rfl) (by rw [ha0]; kernel_rfl) (by rw [ha0]; kernel_rfl) (by rw [ha0]; kernel_rfl) (by rw [ha0]; kernel_rfl) (by rw [ha0]; kernel_rfl) rfl rfl rfl rfl rfl rfl rfl rfl
            ⟨R.hP, R.h1, R.h4, R.h3, R.h2, (by have := R.l1; have := R.l2; have := R.l3; omega), (by have := R.l1; have := R.l2; have := R.l3; omega), (by have := R.l1; have := R.l2; have := R.l3; omega), (by have := R.l1; have := R.l2; have := R.l3; omega), (by have := R.l1; have := R.l2; have := R.l3; omega), (by have := R.l1; have := R.l2; have := R.l3; omega), (by have := R.p1; have := R.l1; have := R.l2; have := R.l3; omega), (by have := R.p1; have := R.l1; have := R.l2; have := R.l3; omega), (by have := R.p1; have := R.l1; have := R.l2; have := R.l3; omega), (by have := R.p1; have := R.l1; have := R.l2; have := R.l3; omega), R.bl⟩ (sets_row _ _ rfl) (sets_row _ _ rfl) (sets_row _ _ rfl) (sets_row _ _ rfl) (fun W2 R2 => ?_)
          exact HQ _ _ _ _ _ _ R2 (by first | (rw [ha0]; done) | (rw [ha0]; kernel_rfl))
    · refine op_alloc4 rfl rfl 4 rfl rfl ⟨heap_old hS1, ?_⟩
      refine wpAnyH_all (rs := [8, 10, 11]) (by kernel_rfl) (by simp) fun i hi => ?_
      simp only [List.mem_cons, List.not_mem_nil, or_false] at hi
      rcases hi with rfl | rfl | rfl
      · refine op_alloc4 rfl rfl 3 rfl rfl ⟨heap_old (heap_old hS1), ?_⟩
        refine wpAnyH_all (rs := [10, 11]) (by kernel_rfl) (by simp) fun i hi => ?_
        simp only [List.mem_cons, List.not_mem_nil, or_false] at hi
        rcases hi with rfl | rfl
        · refine op_alloc16 rfl rfl 5 rfl rfl ⟨heap_old (heap_old (heap_old hS1)), ?_⟩
          refine wpAnyH_all (rs := [11]) (by kernel_rfl) (by simp) fun i hi => ?_
          obtain rfl := List.mem_singleton.1 hi
          refine op_alloc16 rfl rfl 6 rfl rfl ⟨heap_old (heap_old (heap_old (heap_old hS1))), ?_⟩
          have R := al4 (.cells z4 22) (.cells z4 22) (.cells z16 23) (.cells z16 23) hS1 hB1
          refine tail4 [b0, b1, b2, b3] [b4, b5, b6, b7] [b8, b9, b10, b11, b12, b13, b14, b15, b16, b17, b18, b19, b20, b21, b22, b23] [b24, b25, b26, b27, b28, b29, b30, b31, b32, b33, b34, b35, b36, b37, b38, b39] (by kernel_rfl) (by kernel_rfl) (by kernel_rfl) (by kernel_rfl) (by kernel_rfl) rfl rfl rfl rfl ⟨rfl, rfl, rfl⟩ ⟨rfl, rfl, rfl⟩ ⟨rfl, rfl, rfl⟩ ⟨rfl, rfl, rfl⟩ (by rw [ha0]; kernel_rfl) (by rw [ha0]; kernel_rfl) (by rw [ha0]; kernel_rfl) (by rw [ha0]; kernel_rfl) (by rw [ha0]; kernel_rfl) (by rw [ha0]; kernel_rfl) (by rw [ha0]; kernel_rfl) (by rw [ha0]; kernel_rfl) rfl rfl rfl rfl rfl rfl rfl rfl
            ⟨R.hP, R.h2, R.h1, R.h3, R.h4, (by have := R.l1; have := R.l2; have := R.l3; omega), (by have := R.l1; have := R.l2; have := R.l3; omega), (by have := R.l1; have := R.l2; have := R.l3; omega), (by have := R.l1; have := R.l2; have := R.l3; omega), (by have := R.l1; have := R.l2; have := R.l3; omega), (by have := R.l1; have := R.l2; have := R.l3; omega), (by have := R.p1; have := R.l1; have := R.l2; have := R.l3; omega), (by have := R.p1; have := R.l1; have := R.l2; have := R.l3; omega), (by have := R.p1; have := R.l1; have := R.l2; have := R.l3; omega), (by have := R.p1; have := R.l1; have := R.l2; have := R.l3; omega), R.bl⟩ (sets_row _ _ rfl) (sets_row _ _ rfl) (sets_row _ _ rfl) (sets_row _ _ rfl) (fun W2 R2 => ?_)
          exact HQ _ _ _ _ _ _ R2 (by first | (rw [ha0]; done) | (rw [ha0]; kernel_rfl))
        · refine op_alloc16 rfl rfl 6 rfl rfl ⟨heap_old (heap_old (heap_old hS1)), ?_⟩
          refine wpAnyH_all (rs := [10]) (by kernel_rfl) (by simp) fun i hi => ?_
          obtain rfl := List.mem_singleton.1 hi
          refine op_alloc16 rfl rfl 5 rfl rfl ⟨heap_old (heap_old (heap_old (heap_old hS1))), ?_⟩
          have R := al4 (.cells z4 22) (.cells z4 22) (.cells z16 23) (.cells z16 23) hS1 hB1
          refine tail4 [b0, b1, b2, b3] [b4, b5, b6, b7] [b8, b9, b10, b11, b12, b13, b14, b15, b16, b17, b18, b19, b20, b21, b22, b23] [b24, b25, b26, b27, b28, b29, b30, b31, b32, b33, b34, b35, b36, b37, b38, b39] (by kernel_rfl) (by kernel_rfl) (by kernel_rfl) (by kernel_rfl) (by kernel_rfl) rfl rfl rfl rfl ⟨rfl, rfl, rfl⟩ ⟨rfl, rfl, rfl⟩ ⟨rfl, rfl, rfl⟩ ⟨rfl, rfl, rfl⟩ (by rw [ha0]; kernel_rfl) (by rw [ha0]; kernel_rfl) (by rw [ha0]; kernel_rfl) (by rw [ha0]; kernel_rfl) (by rw [ha0]; kernel_rfl) (by rw [ha0]; kernel_rfl) (by rw [ha0]; kernel_rfl) (by rw [ha0]; kernel_rfl) rfl rfl rfl rfl rfl rfl rfl rfl
            ⟨R.hP, R.h2, R.h1, R.h4, R.h3, (by have := R.l1; have := R.l2; have := R.l3; omega), (by have := R.l1; have := R.l2; have := R.l3; omega), (by have := R.l1; have := R.l2; have := R.l3; omega), (by have := R.l1; have := R.l2; have := R.l3; omega), (by have := R.l1; have := R.l2; have := R.l3; omega), (by have := R.l1; have := R.l2; have := R.l3; omega), (by have := R.p1; have := R.l1; have := R.l2; have := R.l3; omega), (by have := R.p1; have := R.l1; have := R.l2; have := R.l3; omega), (by have := R.p1; have := R.l1; have := R.l2; have := R.l3; omega), (by have := R.p1; have := R.l1; have := R.l2; have := R.l3; omega), R.bl⟩ (sets_row _ _ rfl) (sets_row _ _ rfl) (sets_row _ _ rfl) (sets_row _ _ rfl) (fun W2 R2 => ?_)
          exact HQ _ _ _ _ _ _ R2 (by first | (rw [ha0]; done) | (rw [ha0]; kernel_rfl))
      · refine op_alloc16 rfl rfl 5 rfl rfl ⟨heap_old (heap_old hS1), ?_⟩
        refine wpAnyH_all (rs := [8, 11]) (by kernel_rfl) (by simp) fun i hi => ?_
        simp only [List.mem_cons, List.not_mem_nil, or_false] at hi
        rcases hi with rfl | rfl
        · refine op_alloc4 rfl rfl 3 rfl rfl ⟨heap_old (heap_old (heap_old hS1)), ?_⟩
          refine wpAnyH_all (rs := [11]) (by kernel_rfl) (by simp) fun i hi => ?_
          obtain rfl := List.mem_singleton.1 hi
          refine op_alloc16 rfl rfl 6 rfl rfl ⟨heap_old (heap_old (heap_old (heap_old hS1))), ?_⟩
          have R := al4 (.cells z4 22) (.cells z16 23) (.cells z4 22) (.cells z16 23) hS1 hB1
          refine tail4 [b0, b1, b2, b3] [b4, b5, b6, b7] [b8, b9, b10, b11, b12, b13, b14, b15, b16, b17, b18, b19, b20, b21, b22, b23] [b24, b25, b26, b27, b28, b29, b30, b31, b32, b33, b34, b35, b36, b37, b38, b39] (by kernel_rfl) (by kernel_rfl) (by kernel_rfl) (by kernel_rfl) (by kernel_rfl) rfl rfl rfl rfl ⟨rfl, rfl, rfl⟩ ⟨rfl, rfl, rfl⟩ ⟨rfl, rfl, rfl⟩ ⟨rfl, rfl, rfl⟩ (by rw [ha0]; kernel_rfl) (by rw [ha0]; kernel_rfl) (by rw [ha0]; kernel_rfl) (by rw [ha0]; kernel_rfl) (by rw [ha0]; kernel_rfl) (by rw [ha0]; kernel_rfl) (by rw [ha0]; kernel_rfl) (by rw [ha0]; kernel_rfl) rfl rfl rfl rfl rfl rfl rfl rfl
            ⟨R.hP, R.h3, R.h1, R.h2, R.h4, (by have := R.l1; have := R.l2; have := R.l3; omega), (by have := R.l1; have := R.l2; have := R.l3; omega), (by have := R.l1; have := R.l2; have := R.l3; omega), (by have := R.l1; have := R.l2; have := R.l3; omega), (by have := R.l1; have := R.l2; have := R.l3; omega), (by have := R.l1; have := R.l2; have := R.l3; omega), (by have := R.p1; have := R.l1; have := R.l2; have := R.l3; omega), (by have := R.p1; have := R.l1; have := R.l2; have := R.l3; omega), (by have := R.p1; have := R.l1; have := R.l2; have := R.l3; omega), (by have := R.p1; have := R.l1; have := R.l2; have := R.l3; omega), R.bl⟩ (sets_row _ _ rfl) (sets_row _ _ rfl) (sets_row _ _ rfl) (sets_row _ _ rfl) (fun W2 R2 => ?_)
          exact HQ _ _ _ _ _ _ R2 (by first | (rw [ha0]; done) | (rw [ha0]; kernel_rfl))
        · refine op_alloc16 rfl rfl 6 rfl rfl ⟨heap_old (heap_old (heap_old hS1)), ?_⟩
          refine wpAnyH_all (rs := [8]) (by kernel_rfl) (by simp) fun i hi => ?_
          obtain rfl := List.mem_singleton.1 hi
          refine op_alloc4 rfl rfl 3 rfl rfl ⟨heap_old (heap_old (heap_old (heap_old hS1))), ?_⟩
          have R := al4 (.cells z4 22) (.cells z16 23) (.cells z16 23) (.cells z4 22) hS1 hB1
          refine tail4 [b0, b1, b2, b3] [b4, b5, b6, b7] [b8, b9, b10, b11, b12, b13, b14, b15, b16, b17, b18, b19, b20, b21, b22, b23] [b24, b25, b26, b27, b28, b29, b30, b31, b32, b33, b34, b35, b36, b37, b38, b39] (by kernel_rfl) (by kernel_rfl) (by kernel_rfl) (by kernel_rfl) (by kernel_rfl) rfl rfl rfl rfl ⟨rfl, rfl, rfl⟩ ⟨rfl, rfl, rfl⟩ ⟨rfl, rfl, rfl⟩ ⟨rfl, rfl, rfl⟩ (by rw [ha0]; kernel_rfl) (by rw [ha0]; kernel_rfl) (by rw [ha0]; kernel_rfl) (by rw [ha0]; kernel_rfl) (by rw [ha0]; kernel_rfl) (by rw [ha0]; kernel_rfl) (by rw [ha0]; kernel_rfl) (by rw [ha0]; kernel_rfl) rfl rfl rfl rfl rfl rfl rfl rfl
            ⟨R.hP, R.h4, R.h1, R.h2, R.h3, (by have := R.l1; have := R.l2; have := R.l3; omega), (by have := R.l1; have := R.l2; have := R.l3; omega), (by have := R.l1; have := R.l2; have := R.l3; omega), (by have := R.l1; have := R.l2; have := R.l3; omega), (by have := R.l1; have := R.l2; have := R.l3; omega), (by have := R.l1; have := R.l2; have := R.l3; omega), (by have := R.p1; have := R.l1; have := R.l2; have := R.l3; omega), (by have := R.p1; have := R.l1; have := R.l2; have := R.l3; omega), (by have := R.p1; have := R.l1; have := R.l2; have := R.l3; omega), (by have := R.p1; have := R.l1; have := R.l2; have := R.l3; omega), R.bl⟩ (sets_row _ _ rfl) (sets_row _ _ rfl) (sets_row _ _ rfl) (sets_row _ _ rfl) (fun W2 R2 => ?_)
          exact HQ _ _ _ _ _ _ R2 (by first | (rw [ha0]; done) | (rw [ha0]; kernel_rfl))
      · refine op_alloc16 rfl rfl 6 rfl rfl ⟨heap_old (heap_old hS1), ?_⟩
        refine wpAnyH_all (rs := [8, 10]) (by kernel_rfl) (by simp) fun i hi => ?_
        simp only [List.mem_cons, List.not_mem_nil, or_false] at hi
        rcases hi with rfl | rfl
        · refine op_alloc4 rfl rfl 3 rfl rfl ⟨heap_old (heap_old (heap_old hS1)), ?_⟩
          refine wpAnyH_all (rs := [10]) (by kernel_rfl) (by simp) fun i hi => ?_
          obtain rfl := List.mem_singleton.1 hi
          refine op_alloc16 rfl rfl 5 rfl rfl ⟨heap_old (heap_old (heap_old (heap_old hS1))), ?_⟩
          have R := al4 (.cells z4 22) (.cells z16 23) (.cells z4 22) (.cells z16 23) hS1 hB1
          refine tail4 [b0, b1, b2, b3] [b4, b5, b6, b7] [b8, b9, b10, b11, b12, b13, b14, b15, b16, b17, b18, b19, b20, b21, b22, b23] [b24, b25, b26, b27, b28, b29, b30, b31, b32, b33, b34, b35, b36, b37, b38, b39] (by kernel_rfl) (by kernel_rfl) (by kernel_rfl) (by kernel_rfl) (by kernel_rfl) rfl rfl rfl rfl ⟨rfl, rfl, rfl⟩ ⟨rfl, rfl, rfl⟩ ⟨rfl, rfl, rfl⟩ ⟨rfl, rfl, rfl⟩ (by rw [ha0]; kernel_rfl) (by rw [ha0]; kernel_rfl) (by rw [ha0]; kernel_rfl) (by rw [ha0]; kernel_rfl) (by rw [ha0]; kernel_rfl) (by rw [ha0]; kernel_rfl) (by rw [ha0]; kernel_rfl) (by rw [ha0]; kernel_rfl) rfl rfl rfl rfl rfl rfl rfl rfl
            ⟨R.hP, R.h3, R.h1, R.h4, R.h2, (by have := R.l1; have := R.l2; have := R.l3; omega), (by have := R.l1; have := R.l2; have := R.l3; omega), (by have := R.l1; have := R.l2; have := R.l3; omega), (by have := R.l1; have := R.l2; have := R.l3; omega), (by have := R.l1; have := R.l2; have := R.l3; omega), (by have := R.l1; have := R.l2; have := R.l3; omega), (by have := R.p1; have := R.l1; have := R.l2; have := R.l3; omega), (by have := R.p1; have := R.l1; have := R.l2; have := R.l3; omega), (by have := R.p1; have := R.l1; have := R.l2; have := R.l3; omega), (by have := R.p1; have := R.l1; have := R.l2; have := R.l3; omega), R.bl⟩ (sets_row _ _ rfl) (sets_row _ _ rfl) (sets_row _ _ rfl) (sets_row _ _ rfl) (fun W2 R2 => ?_)
          exact HQ _ _ _ _ _ _ R2 (by first | (rw [ha0]; done) | (rw [ha0]; kernel_rfl))
        · refine op_alloc16 rfl rfl 5 rfl rfl ⟨heap_old (heap_old (heap_old hS1)), ?_⟩
          refine wpAnyH_all (rs := [8]) (by kernel_rfl) (by simp) fun i hi => ?_
          obtain rfl := List.mem_singleton.1 hi
          refine op_alloc4 rfl rfl 3 rfl rfl ⟨heap_old (heap_old (heap_old (heap_old hS1))), ?_⟩
          have R := al4 (.cells z4 22) (.cells z16 23) (.cells z16 23) (.cells z4 22) hS1 hB1
          refine tail4 [b0, b1, b2, b3] [b4, b5, b6, b7] [b8, b9, b10, b11, b12, b13, b14, b15, b16, b17, b18, b19, b20, b21, b22, b23] [b24, b25, b26, b27, b28, b29, b30, b31, b32, b33, b34, b35, b36, b37, b38, b39] (by kernel_rfl) (by kernel_rfl) (by kernel_rfl) (by kernel_rfl) (by kernel_rfl) rfl rfl rfl rfl ⟨rfl, rfl, rfl⟩ ⟨rfl, rfl, rfl⟩ ⟨rfl, rfl, rfl⟩ ⟨rfl, rfl, rfl⟩ (by rw [ha0]; kernel_rfl) (by rw [ha0]; kernel_rfl) (by rw [ha0]; kernel_rfl) (by rw [ha0]; kernel_rfl) (by rw [ha0]; kernel_rfl) (by rw [ha0]; kernel_rfl) (by rw [ha0]; kernel_rfl) (by rw [ha0]; kernel_rfl) rfl rfl rfl rfl rfl rfl rfl rfl
            ⟨R.hP, R.h4, R.h1, R.h3, R.h2, (by have := R.l1; have := R.l2; have := R.l3; omega), (by have := R.l1; have := R.l2; have := R.l3; omega), (by have := R.l1; have := R.l2; have := R.l3; omega), (by have := R.l1; have := R.l2; have := R.l3; omega), (by have := R.l1; have := R.l2; have := R.l3; omega), (by have := R.l1; have := R.l2; have := R.l3; omega), (by have := R.p1; have := R.l1; have := R.l2; have := R.l3; omega), (by have := R.p1; have := R.l1; have := R.l2; have := R.l3; omega), (by have := R.p1; have := R.l1; have := R.l2; have := R.l3; omega), (by have := R.p1; have := R.l1; have := R.l2; have := R.l3; omega), R.bl⟩ (sets_row _ _ rfl) (sets_row _ _ rfl) (sets_row _ _ rfl) (sets_row _ _ rfl) (fun W2 R2 => ?_)
          exact HQ _ _ _ _ _ _ R2 (by first | (rw [ha0]; done) | (rw [ha0]; kernel_rfl))
    · refine op_alloc16 rfl rfl 5 rfl rfl ⟨heap_old hS1, ?_⟩
      refine wpAnyH_all (rs := [8, 9, 11]) (by kernel_rfl) (by simp) fun i hi => ?_
      simp only [List.mem_cons, List.not_mem_nil, or_false] at hi
      rcases hi with rfl | rfl | rfl
      · refine op_alloc4 rfl rfl 3 rfl rfl ⟨heap_old (heap_old hS1), ?_⟩
        refine wpAnyH_all (rs := [9, 11]) (by kernel_rfl) (by simp) fun i hi => ?_
        simp only [List.mem_cons, List.not_mem_nil, or_false] at hi
        rcases hi with rfl | rfl
        · refine op_alloc4 rfl rfl 4 rfl rfl ⟨heap_old (heap_old (heap_old hS1)), ?_⟩
          refine wpAnyH_all (rs := [11]) (by kernel_rfl) (by simp) fun i hi => ?_
          obtain rfl := List.mem_singleton.1 hi
          refine op_alloc16 rfl rfl 6 rfl rfl ⟨heap_old (heap_old (heap_old (heap_old hS1))), ?_⟩
          have R := al4 (.cells z16 23) (.cells z4 22) (.cells z4 22) (.cells z16 23) hS1 hB1
          refine tail4 [b0, b1, b2, b3] [b4, b5, b6, b7] [b8, b9, b10, b11, b12, b13, b14, b15, b16, b17, b18, b19, b20, b21, b22, b23] [b24, b25, b26, b27, b28, b29, b30, b31, b32, b33, b34, b35, b36, b37, b38, b39] (by kernel_rfl) (by kernel_rfl) (by kernel_rfl) (by kernel_rfl) (by kernel_rfl) rfl rfl rfl rfl ⟨rfl, rfl, rfl⟩ ⟨rfl, rfl, rfl⟩ ⟨rfl, rfl, rfl⟩ ⟨rfl, rfl, rfl⟩ (by rw [ha0]; kernel_rfl) (by rw [ha0]; kernel_rfl) (by rw [ha0]; kernel_rfl) (by rw [ha0]; kernel_rfl) (by rw [ha0]; kernel_rfl) (by rw [ha0]; kernel_rfl) (by rw [ha0]; kernel_rfl) (by rw [ha0]; kernel_rfl) rfl rfl rfl rfl rfl rfl rfl rfl
            ⟨R.hP, R.h2, R.h3, R.h1, R.h4, (by have := R.l1; have := R.l2; have := R.l3; omega), (by have := R.l1; have := R.l2; have := R.l3; omega), (by have := R.l1; have := R.l2; have := R.l3; omega), (by have := R.l1; have := R.l2; have := R.l3; omega), (by have := R.l1; have := R.l2; have := R.l3; omega), (by have := R.l1; have := R.l2; have := R.l3; omega), (by have := R.p1; have := R.l1; have := R.l2; have := R.l3; omega), (by have := R.p1; have := R.l1; have := R.l2; have := R.l3; omega), (by have := R.p1; have := R.l1; have := R.l2; have := R.l3; omega), (by have := R.p1; have := R.l1; have := R.l2; have := R.l3; omega), R.bl⟩ (sets_row _ _ rfl) (sets_row _ _ rfl) (sets_row _ _ rfl) (sets_row _ _ rfl) (fun W2 R2 => ?_)
          exact HQ _ _ _ _ _ _ R2 (by first | (rw [ha0]; done) | (rw [ha0]; kernel_rfl))
        · refine op_alloc16 rfl rfl 6 rfl rfl ⟨heap_old (heap_old (heap_old hS1)), ?_⟩
          refine wpAnyH_all (rs := [9]) (by kernel_rfl) (by simp) fun i hi => ?_
          obtain rfl := List.mem_singleton.1 hi
          refine op_alloc4 rfl rfl 4 rfl rfl ⟨heap_old (heap_old (heap_old (heap_old hS1))), ?_⟩
          have R := al4 (.cells z16 23) (.cells z4 22) (.cells z16 23) (.cells z4 22) hS1 hB1
          refine tail4 [b0, b1, b2, b3] [b4, b5, b6, b7] [b8, b9, b10, b11, b12, b13, b14, b15, b16, b17, b18, b19, b20, b21, b22, b23] [b24, b25, b26, b27, b28, b29, b30, b31, b32, b33, b34, b35, b36, b37, b38, b39] (by kernel_rfl) (by kernel_rfl) (by kernel_rfl) (by kernel_rfl) (by kernel_rfl) rfl rfl rfl rfl ⟨rfl, rfl, rfl⟩ ⟨rfl, rfl, rfl⟩ ⟨rfl, rfl, rfl⟩ ⟨rfl, rfl, rfl⟩ (by rw [ha0]; kernel_rfl) (by rw [ha0]; kernel_rfl) (by rw [ha0]; kernel_rfl) (by rw [ha0]; kernel_rfl) (by rw [ha0]; kernel_rfl) (by rw [ha0]; kernel_rfl) (by rw [ha0]; kernel_rfl) (by rw [ha0]; kernel_rfl) rfl rfl rfl rfl rfl rfl rfl rfl
            ⟨R.hP, R.h2, R.h4, R.h1, R.h3, (by have := R.l1; have := R.l2; have := R.l3; omega), (by have := R.l1; have := R.l2; have := R.l3; omega), (by have := R.l1; have := R.l2; have := R.l3; omega), (by have := R.l1; have := R.l2; have := R.l3; omega), (by have := R.l1; have := R.l2; have := R.l3; omega), (by have := R.l1; have := R.l2; have := R.l3; omega), (by have := R.p1; have := R.l1; have := R.l2; have := R.l3; omega), (by have := R.p1; have := R.l1; have := R.l2; have := R.l3; omega), (by have := R.p1; have := R.l1; have := R.l2; have := R.l3; omega), (by have := R.p1; have := R.l1; have := R.l2; have := R.l3; omega), R.bl⟩ (sets_row _ _ rfl) (sets_row _ _ rfl) (sets_row _ _ rfl) (sets_row _ _ rfl) (fun W2 R2 => ?_)
          exact HQ _ _ _ _ _ _ R2 (by first | (rw [ha0]; done) | (rw [ha0]; kernel_rfl))
      · refine op_alloc4 rfl rfl 4 rfl rfl ⟨heap_old (heap_old hS1), ?_⟩
        refine wpAnyH_all (rs := [8, 11]) (by kernel_rfl) (by simp) fun i hi => ?_
        simp only [List.mem_cons, List.not_mem_nil, or_false] at hi
        rcases hi with rfl | rfl
        · refine op_alloc4 rfl rfl 3 rfl rfl ⟨heap_old (heap_old (heap_old hS1)), ?_⟩
          refine wpAnyH_all (rs := [11]) (by kernel_rfl) (by simp) fun i hi => ?_
          obtain rfl := List.mem_singleton.1 hi
          refine op_alloc16 rfl rfl 6 rfl rfl ⟨heap_old (heap_old (heap_old (heap_old hS1))), ?_⟩
          have R := al4 (.cells z16 23) (.cells z4 22) (.cells z4 22) (.cells z16 23) hS1 hB1
          refine tail4 [b0, b1, b2, b3] [b4, b5, b6, b7] [b8, b9, b10, b11, b12, b13, b14, b15, b16, b17, b18, b19, b20, b21, b22, b23] [b24, b25, b26, b27, b28, b29, b30, b31, b32, b33, b34, b35, b36, b37, b38, b39] (by kernel_rfl) (by kernel_rfl) (by kernel_rfl) (by kernel_rfl) (by kernel_rfl) rfl rfl rfl rfl ⟨rfl, rfl, rfl⟩ ⟨rfl, rfl, rfl⟩ ⟨rfl, rfl, rfl⟩ ⟨rfl, rfl, rfl⟩ (by rw [ha0]; kernel_rfl) (by rw [ha0]; kernel_rfl) (by rw [ha0]; kernel_rfl) (by rw [ha0]; kernel_rfl) (by rw [ha0]; kernel_rfl) (by rw [ha0]; kernel_rfl) (by rw [ha0]; kernel_rfl) (by rw [ha0]; kernel_rfl) rfl rfl rfl rfl rfl rfl rfl rfl
            ⟨R.hP, R.h3, R.h2, R.h1, R.h4, (by have := R.l1; have := R.l2; have := R.l3; omega), (by have := R.l1; have := R.l2; have := R.l3; omega), (by have := R.l1; have := R.l2; have := R.l3; omega), (by have := R.l1; have := R.l2; have := R.l3; omega), (by have := R.l1; have := R.l2; have := R.l3; omega), (by have := R.l1; have := R.l2; have := R.l3; omega), (by have := R.p1; have := R.l1; have := R.l2; have := R.l3; omega), (by have := R.p1; have := R.l1; have := R.l2; have := R.l3; omega), (by have := R.p1; have := R.l1; have := R.l2; have := R.l3; omega), (by have := R.p1; have := R.l1; have := R.l2; have := R.l3; omega), R.bl⟩ (sets_row _ _ rfl) (sets_row _ _ rfl) (sets_row _ _ rfl) (sets_row _ _ rfl) (fun W2 R2 => ?_)
          exact HQ _ _ _ _ _ _ R2 (by first | (rw [ha0]; done) | (rw [ha0]; kernel_rfl))
        · refine op_alloc16 rfl rfl 6 rfl rfl ⟨heap_old (heap_old (heap_old hS1)), ?_⟩
          refine wpAnyH_all (rs := [8]) (by kernel_rfl) (by simp) fun i hi => ?_
          obtain rfl := List.mem_singleton.1 hi
          refine op_alloc4 rfl rfl 3 rfl rfl ⟨heap_old (heap_old (heap_old (heap_old hS1))), ?_⟩
          have R := al4 (.cells z16 23) (.cells z4 22) (.cells z16 23) (.cells z4 22) hS1 hB1
          refine tail4 [b0, b1, b2, b3] [b4, b5, b6, b7] [b8, b9, b10, b11, b12, b13, b14, b15, b16, b17, b18, b19, b20, b21, b22, b23] [b24, b25, b26, b27, b28, b29, b30, b31, b32, b33, b34, b35, b36, b37, b38, b39] (by kernel_rfl) (by kernel_rfl) (by kernel_rfl) (by kernel_rfl) (by kernel_rfl) rfl rfl rfl rfl ⟨rfl, rfl, rfl⟩ ⟨rfl, rfl, rfl⟩ ⟨rfl, rfl, rfl⟩ ⟨rfl, rfl, rfl⟩ (by rw [ha0]; kernel_rfl) (by rw [ha0]; kernel_rfl) (by rw [ha0]; kernel_rfl) (by rw [ha0]; kernel_rfl) (by rw [ha0]; kernel_rfl) (by rw [ha0]; kernel_rfl) (by rw [ha0]; kernel_rfl) (by rw [ha0]; kernel_rfl) rfl rfl rfl rfl rfl rfl rfl rfl
            ⟨R.hP, R.h4, R.h2, R.h1, R.h3, (by have := R.l1; have := R.l2; have := R.l3; omega), (by have := R.l1; have := R.l2; have := R.l3; omega), (by have := R.l1; have := R.l2; have := R.l3; omega), (by have := R.l1; have := R.l2; have := R.l3; omega), (by have := R.l1; have := R.l2; have := R.l3; omega), (by have := R.l1; have := R.l2; have := R.l3; omega), (by have := R.p1; have := R.l1; have := R.l2; have := R.l3; omega), (by have := R.p1; have := R.l1; have := R.l2; have := R.l3; omega), (by have := R.p1; have := R.l1; have := R.l2; have := R.l3; omega), (by have := R.p1; have := R.l1; have := R.l2; have := R.l3; omega), R.bl⟩ (sets_row _ _ rfl) (sets_row _ _ rfl) (sets_row _ _ rfl) (sets_row _ _ rfl) (fun W2 R2 => ?_)
          exact HQ _ _ _ _ _ _ R2 (by first | (rw [ha0]; done) | (rw [ha0]; kernel_rfl))
      · refine op_alloc16 rfl rfl 6 rfl rfl ⟨heap_old (heap_old hS1), ?_⟩
        refine wpAnyH_all (rs := [8, 9]) (by kernel_rfl) (by simp) fun i hi => ?_
        simp only [List.mem_cons, List.not_mem_nil, or_false] at hi
        rcases hi with rfl | rfl
        · refine op_alloc4 rfl rfl 3 rfl rfl ⟨heap_old (heap_old (heap_old hS1)), ?_⟩
          refine wpAnyH_all (rs := [9]) (by kernel_rfl) (by simp) fun i hi => ?_
          obtain rfl := List.mem_singleton.1 hi
          refine op_alloc4 rfl rfl 4 rfl rfl ⟨heap_old (heap_old (heap_old (heap_old hS1))), ?_⟩
          have R := al4 (.cells z16 23) (.cells z16 23) (.cells z4 22) (.cells z4 22) hS1 hB1
          refine tail4 [b0, b1, b2, b3] [b4, b5, b6, b7] [b8, b9, b10, b11, b12, b13, b14, b15, b16, b17, b18, b19, b20, b21, b22, b23] [b24, b25, b26, b27, b28, b29, b30, b31, b32, b33, b34, b35, b36, b37, b38, b39] (by kernel_rfl) (by kernel_rfl) (by kernel_rfl) (by kernel_rfl) (by kernel_rfl) rfl rfl rfl rfl ⟨rfl, rfl, rfl⟩ ⟨rfl, rfl, rfl⟩ ⟨rfl, rfl, rfl⟩ ⟨rfl, rfl, rfl⟩ (by rw [ha0]; kernel_rfl) (by rw [ha0]; kernel_rfl) (by rw [ha0]; kernel_rfl) (by rw [ha0]; kernel_rfl) (by rw [ha0]; kernel_rfl) (by rw [ha0]; kernel_rfl) (by rw [ha0]; kernel_rfl) (by rw [ha0]; kernel_rfl) rfl rfl rfl rfl rfl rfl rfl rfl
            ⟨R.hP, R.h3, R.h4, R.h1, R.h2, (by have := R.l1; have := R.l2; have := R.l3; omega), (by have := R.l1; have := R.l2; have := R.l3; omega), (by have := R.l1; have := R.l2; have := R.l3; omega), (by have := R.l1; have := R.l2; have := R.l3; omega), (by have := R.l1; have := R.l2; have := R.l3; omega), (by have := R.l1; have := R.l2; have := R.l3; omega), (by have := R.p1; have := R.l1; have := R.l2; have := R.l3; omega), (by have := R.p1; have := R.l1; have := R.l2; have := R.l3; omega), (by have := R.p1; have := R.l1; have := R.l2; have := R.l3; omega), (by have := R.p1; have := R.l1; have := R.l2; have := R.l3; omega), R.bl⟩ (sets_row _ _ rfl) (sets_row _ _ rfl) (sets_row _ _ rfl) (sets_row _ _ rfl) (fun W2 R2 => ?_)
          exact HQ _ _ _ _ _ _ R2 (by first | (rw [ha0]; done) | (rw [ha0]; kernel_rfl))
        · refine op_alloc4 rfl rfl 4 rfl rfl ⟨heap_old (heap_old (heap_old hS1)), ?_⟩
          refine wpAnyH_all (rs := [8]) (by kernel_rfl) (by simp) fun i hi => ?_
          obtain rfl := List.mem_singleton.1 hi
          refine op_alloc4 rfl rfl 3 rfl rfl ⟨heap_old (heap_old (heap_old (heap_old hS1))), ?_⟩
          have R := al4 (.cells z16 23) (.cells z16 23) (.cells z4 22) (.cells z4 22) hS1 hB1
          refine tail4 [b0, b1, b2, b3] [b4, b5, b6, b7] [b8, b9, b10, b11, b12, b13, b14, b15, b16, b17, b18, b19, b20, b21, b22, b23] [b24, b25, b26, b27, b28, b29, b30, b31, b32, b33, b34, b35, b36, b37, b38, b39] (by kernel_rfl) (by kernel_rfl) (by kernel_rfl) (by kernel_rfl) (by kernel_rfl) rfl rfl rfl rfl ⟨rfl, rfl, rfl⟩ ⟨rfl, rfl, rfl⟩ ⟨rfl, rfl, rfl⟩ ⟨rfl, rfl, rfl⟩ (by rw [ha0]; kernel_rfl) (by rw [ha0]; kernel_rfl) (by rw [ha0]; kernel_rfl) (by rw [ha0]; kernel_rfl) (by rw [ha0]; kernel_rfl) (by rw [ha0]; kernel_rfl) (by rw [ha0]; kernel_rfl) (by rw [ha0]; kernel_rfl) rfl rfl rfl rfl rfl rfl rfl rfl
            ⟨R.hP, R.h4, R.h3, R.h1, R.h2, (by have := R.l1; have := R.l2; have := R.l3; omega), (by have := R.l1; have := R.l2; have := R.l3; omega), (by have := R.l1; have := R.l2; have := R.l3; omega), (by have := R.l1; have := R.l2; have := R.l3; omega), (by have := R.l1; have := R.l2; have := R.l3; omega), (by have := R.l1; have := R.l2; have := R.l3; omega), (by have := R.p1; have := R.l1; have := R.l2; have := R.l3; omega), (by have := R.p1; have := R.l1; have := R.l2; have := R.l3; omega), (by have := R.p1; have := R.l1; have := R.l2; have := R.l3; omega), (by have := R.p1; have := R.l1; have := R.l2; have := R.l3; omega), R.bl⟩ (sets_row _ _ rfl) (sets_row _ _ rfl) (sets_row _ _ rfl) (sets_row _ _ rfl) (fun W2 R2 => ?_)
          exact HQ _ _ _ _ _ _ R2 (by first | (rw [ha0]; done) | (rw [ha0]; kernel_rfl))
    · refine op_alloc16 rfl rfl 6 rfl rfl ⟨heap_old hS1, ?_⟩
      refine wpAnyH_all (rs := [8, 9, 10]) (by kernel_rfl) (by simp) fun i hi => ?_
      simp only [List.mem_cons, List.not_mem_nil, or_false] at hi
      rcases hi with rfl | rfl | rfl
      · refine op_alloc4 rfl rfl 3 rfl rfl ⟨heap_old (heap_old hS1), ?_⟩
        refine wpAnyH_all (rs := [9, 10]) (by kernel_rfl) (by simp) fun i hi => ?_
        simp only [List.mem_cons, List.not_mem_nil, or_false] at hi
        rcases hi with rfl | rfl
        · refine op_alloc4 rfl rfl 4 rfl rfl ⟨heap_old (heap_old (heap_old hS1)), ?_⟩
          refine wpAnyH_all (rs := [10]) (by kernel_rfl) (by simp) fun i hi => ?_
          obtain rfl := List.mem_singleton.1 hi
          refine op_alloc16 rfl rfl 5 rfl rfl ⟨heap_old (heap_old (heap_old (heap_old hS1))), ?_⟩
          have R := al4 (.cells z16 23) (.cells z4 22) (.cells z4 22) (.cells z16 23) hS1 hB1
          refine tail4 [b0, b1, b2, b3] [b4, b5, b6, b7] [b8, b9, b10, b11, b12, b13, b14, b15, b16, b17, b18, b19, b20, b21, b22, b23] [b24, b25, b26, b27, b28, b29, b30, b31, b32, b33, b34, b35, b36, b37, b38, b39] (by kernel_rfl) (by kernel_rfl) (by kernel_rfl) (by kernel_rfl) (by kernel_rfl) rfl rfl rfl rfl ⟨rfl, rfl, rfl⟩ ⟨rfl, rfl, rfl⟩ ⟨rfl, rfl, rfl⟩ ⟨rfl, rfl, rfl⟩ (by rw [ha0]; kernel_rfl) (by rw [ha0]; kernel_rfl) (by rw [ha0]; kernel_rfl) (by rw [ha0]; kernel_rfl) (by rw [ha0]; kernel_rfl) (by rw [ha0]; kernel_rfl) (by rw [ha0]; kernel_rfl) (by rw [ha0]; kernel_rfl) rfl rfl rfl rfl rfl rfl rfl rfl
            ⟨R.hP, R.h2, R.h3, R.h4, R.h1, (by have := R.l1; have := R.l2; have := R.l3; omega), (by have := R.l1; have := R.l2; have := R.l3; omega), (by have := R.l1; have := R.l2; have := R.l3; omega), (by have := R.l1; have := R.l2; have := R.l3; omega), (by have := R.l1; have := R.l2; have := R.l3; omega), (by have := R.l1; have := R.l2; have := R.l3; omega), (by have := R.p1; have := R.l1; have := R.l2; have := R.l3; omega), (by have := R.p1; have := R.l1; have := R.l2; have := R.l3; omega), (by have := R.p1; have := R.l1; have := R.l2; have := R.l3; omega), (by have := R.p1; have := R.l1; have := R.l2; have := R.l3; omega), R.bl⟩ (sets_row _ _ rfl) (sets_row _ _ rfl) (sets_row _ _ rfl) (sets_row _ _ rfl) (fun W2 R2 => ?_)
          exact HQ _ _ _ _ _ _ R2 (by first | (rw [ha0]; done) | (rw [ha0]; kernel_rfl))
        · refine op_alloc16 rfl rfl 5 rfl rfl ⟨heap_old (heap_old (heap_old hS1)), ?_⟩
          refine wpAnyH_all (rs := [9]) (by kernel_rfl) (by simp) fun i hi => ?_
          obtain rfl := List.mem_singleton.1 hi
          refine op_alloc4 rfl rfl 4 rfl rfl ⟨heap_old (heap_old (heap_old (heap_old hS1))), ?_⟩
          have R := al4 (.cells z16 23) (.cells z4 22) (.cells z16 23) (.cells z4 22) hS1 hB1
          refine tail4 [b0, b1, b2, b3] [b4, b5, b6, b7] [b8, b9, b10, b11, b12, b13, b14, b15, b16, b17, b18, b19, b20, b21, b22, b23] [b24, b25, b26, b27, b28, b29, b30, b31, b32, b33, b34, b35, b36, b37, b38, b39] (by kernel_rfl) (by kernel_rfl) (by kernel_rfl) (by kernel_rfl) (by kernel_rfl) rfl rfl rfl rfl ⟨rfl, rfl, rfl⟩ ⟨rfl, rfl, rfl⟩ ⟨rfl, rfl, rfl⟩ ⟨rfl, rfl, rfl⟩ (by rw [ha0]; kernel_rfl) (by rw [ha0]; kernel_rfl) (by rw [ha0]; kernel_rfl) (by rw [ha0]; kernel_rfl) (by rw [ha0]; kernel_rfl) (by rw [ha0]; kernel_rfl) (by rw [ha0]; kernel_rfl) (by rw [ha0]; kernel_rfl) rfl rfl rfl rfl rfl rfl rfl rfl
            ⟨R.hP, R.h2, R.h4, R.h3, R.h1, (by have := R.l1; have := R.l2; have := R.l3; omega), (by have := R.l1; have := R.l2; have := R.l3; omega), (by have := R.l1; have := R.l2; have := R.l3; omega), (by have := R.l1; have := R.l2; have := R.l3; omega), (by have := R.l1; have := R.l2; have := R.l3; omega), (by have := R.l1; have := R.l2; have := R.l3; omega), (by have := R.p1; have := R.l1; have := R.l2; have := R.l3; omega), (by have := R.p1; have := R.l1; have := R.l2; have := R.l3; omega), (by have := R.p1; have := R.l1; have := R.l2; have := R.l3; omega), (by have := R.p1; have := R.l1; have := R.l2; have := R.l3; omega), R.bl⟩ (sets_row _ _ rfl) (sets_row _ _ rfl) (sets_row _ _ rfl) (sets_row _ _ rfl) (fun W2 R2 => ?_)
          exact HQ _ _ _ _ _ _ R2 (by first | (rw [ha0]; done) | (rw [ha0]; kernel_rfl))
      · refine op_alloc4 rfl rfl 4 rfl rfl ⟨heap_old (heap_old hS1), ?_⟩
        refine wpAnyH_all (rs := [8, 10]) (by kernel_rfl) (by simp) fun i hi => ?_
        simp only [List.mem_cons, List.not_mem_nil, or_false] at hi
        rcases hi with rfl | rfl
        · refine op_alloc4 rfl rfl 3 rfl rfl ⟨heap_old (heap_old (heap_old hS1)), ?_⟩
          refine wpAnyH_all (rs := [10]) (by kernel_rfl) (by simp) fun i hi => ?_
          obtain rfl := List.mem_singleton.1 hi
          refine op_alloc16 rfl rfl 5 rfl rfl ⟨heap_old (heap_old (heap_old (heap_old hS1))), ?_⟩
          have R := al4 (.cells z16 23) (.cells z4 22) (.cells z4 22) (.cells z16 23) hS1 hB1
          refine tail4 [b0, b1, b2, b3] [b4, b5, b6, b7] [b8, b9, b10, b11, b12, b13, b14, b15, b16, b17, b18, b19, b20, b21, b22, b23] [b24, b25, b26, b27, b28, b29, b30, b31, b32, b33, b34, b35, b36, b37, b38, b39] (by kernel_rfl) (by kernel_rfl) (by kernel_rfl) (by kernel_rfl) (by kernel_rfl) rfl rfl rfl rfl ⟨rfl, rfl, rfl⟩ ⟨rfl, rfl, rfl⟩ ⟨rfl, rfl, rfl⟩ ⟨rfl, rfl, rfl⟩ (by rw [ha0]; kernel_rfl) (by rw [ha0]; kernel_rfl) (by rw [ha0]; kernel_rfl) (by rw [ha0]; kernel_rfl) (by rw [ha0]; kernel_rfl) (by rw [ha0]; kernel_rfl) (by rw [ha0]; kernel_rfl) (by rw [ha0]; kernel_rfl) rfl rfl rfl rfl rfl rfl rfl rfl
            ⟨R.hP, R.h3, R.h2, R.h4, R.h1, (by have := R.l1; have := R.l2; have := R.l3; omega), (by have := R.l1; have := R.l2; have := R.l3; omega), (by have := R.l1; have := R.l2; have := R.l3; omega), (by have := R.l1; have := R.l2; have := R.l3; omega), (by have := R.l1; have := R.l2; have := R.l3; omega), (by have := R.l1; have := R.l2; have := R.l3; omega), (by have := R.p1; have := R.l1; have := R.l2; have := R.l3; omega), (by have := R.p1; have := R.l1; have := R.l2; have := R.l3; omega), (by have := R.p1; have := R.l1; have := R.l2; have := R.l3; omega), (by have := R.p1; have := R.l1; have := R.l2; have := R.l3; omega), R.bl⟩ (sets_row _ _ rfl) (sets_row _ _ rfl) (sets_row _ _ rfl) (sets_row _ _ rfl) (fun W2 R2 => ?_)
          exact HQ _ _ _ _ _ _ R2 (by first | (rw [ha0]; done) | (rw [ha0]; kernel_rfl))
        · refine op_alloc16 rfl rfl 5 rfl rfl ⟨heap_old (heap_old (heap_old hS1)), ?_⟩
          refine wpAnyH_all (rs := [8]) (by kernel_rfl) (by simp) fun i hi => ?_
          obtain rfl := List.mem_singleton.1 hi
          refine op_alloc4 rfl rfl 3 rfl rfl ⟨heap_old (heap_old (heap_old (heap_old hS1))), ?_⟩
          have R := al4 (.cells z16 23) (.cells z4 22) (.cells z16 23) (.cells z4 22) hS1 hB1
          refine tail4 [b0, b1, b2, b3] [b4, b5, b6, b7] [b8, b9, b10, b11, b12, b13, b14, b15, b16, b17, b18, b19, b20, b21, b22, b23] [b24, b25, b26, b27, b28, b29, b30, b31, b32, b33, b34, b35, b36, b37, b38, b39] (by kernel_rfl) (by kernel_rfl) (by kernel_rfl) (by kernel_rfl) (by kernel_rfl) rfl rfl rfl rfl ⟨rfl, rfl, rfl⟩ ⟨rfl, rfl, rfl⟩ ⟨rfl, rfl, rfl⟩ ⟨rfl, rfl, rfl⟩ (by rw [ha0]; kernel_rfl) (by rw [ha0]; kernel_rfl) (by rw [ha0]; kernel_rfl) (by rw [ha0]; kernel_rfl) (by rw [ha0]; kernel_rfl) (by rw [ha0]; kernel_rfl) (by rw [ha0]; kernel_rfl) (by rw [ha0]; kernel_rfl) rfl rfl rfl rfl rfl rfl rfl rfl
            ⟨R.hP, R.h4, R.h2, R.h3, R.h1, (by have := R.l1; have := R.l2; have := R.l3; omega), (by have := R.l1; have := R.l2; have := R.l3; omega), (by have := R.l1; have := R.l2; have := R.l3; omega), (by have := R.l1; have := R.l2; have := R.l3; omega), (by have := R.l1; have := R.l2; have := R.l3; omega), (by have := R.l1; have := R.l2; have := R.l3; omega), (by have := R.p1; have := R.l1; have := R.l2; have := R.l3; omega), (by have := R.p1; have := R.l1; have := R.l2; have := R.l3; omega), (by have := R.p1; have := R.l1; have := R.l2; have := R.l3; omega), (by have := R.p1; have := R.l1; have := R.l2; have := R.l3; omega), R.bl⟩ (sets_row _ _ rfl) (sets_row _ _ rfl) (sets_row _ _ rfl) (sets_row _ _ rfl) (fun W2 R2 => ?_)
          exact HQ _ _ _ _ _ _ R2 (by first | (rw [ha0]; done) | (rw [ha0]; kernel_rfl))
      · refine op_alloc16 rfl rfl 5 rfl rfl ⟨heap_old (heap_old hS1), ?_⟩
        refine wpAnyH_all (rs := [8, 9]) (by kernel_rfl) (by simp) fun i hi => ?_
        simp only [List.mem_cons, List.not_mem_nil, or_false] at hi
        rcases hi with rfl | rfl
        · refine op_alloc4 rfl rfl 3 rfl rfl ⟨heap_old (heap_old (heap_old hS1)), ?_⟩
          refine wpAnyH_all (rs := [9]) (by kernel_rfl) (by simp) fun i hi => ?_
          obtain rfl := List.mem_singleton.1 hi
          refine op_alloc4 rfl rfl 4 rfl rfl ⟨heap_old (heap_old (heap_old (heap_old hS1))), ?_⟩
          have R := al4 (.cells z16 23) (.cells z16 23) (.cells z4 22) (.cells z4 22) hS1 hB1
          refine tail4 [b0, b1, b2, b3] [b4, b5, b6, b7] [b8, b9, b10, b11, b12, b13, b14, b15, b16, b17, b18, b19, b20, b21, b22, b23] [b24, b25, b26, b27, b28, b29, b30, b31, b32, b33, b34, b35, b36, b37, b38, b39] (by kernel_rfl) (by kernel_rfl) (by kernel_rfl) (by kernel_rfl) (by kernel_rfl) rfl rfl rfl rfl ⟨rfl, rfl, rfl⟩ ⟨rfl, rfl, rfl⟩ ⟨rfl, rfl, rfl⟩ ⟨rfl, rfl, rfl⟩ (by rw [ha0]; kernel_rfl) (by rw [ha0]; kernel_rfl) (by rw [ha0]; kernel_rfl) (by rw [ha0]; kernel_rfl) (by rw [ha0]; kernel_rfl) (by rw [ha0]; kernel_rfl) (by rw [ha0]; kernel_rfl) (by rw [ha0]; kernel_rfl) rfl rfl rfl rfl rfl rfl rfl rfl
            ⟨R.hP, R.h3, R.h4, R.h2, R.h1, (by have := R.l1; have := R.l2; have := R.l3; omega), (by have := R.l1; have := R.l2; have := R.l3; omega), (by have := R.l1; have := R.l2; have := R.l3; omega), (by have := R.l1; have := R.l2; have := R.l3; omega), (by have := R.l1; have := R.l2; have := R.l3; omega), (by have := R.l1; have := R.l2; have := R.l3; omega), (by have := R.p1; have := R.l1; have := R.l2; have := R.l3; omega), (by have := R.p1; have := R.l1; have := R.l2; have := R.l3; omega), (by have := R.p1; have := R.l1; have := R.l2; have := R.l3; omega), (by have := R.p1; have := R.l1; have := R.l2; have := R.l3; omega), R.bl⟩ (sets_row _ _ rfl) (sets_row _ _ rfl) (sets_row _ _ rfl) (sets_row _ _ rfl) (fun W2 R2 => ?_)
          exact HQ _ _ _ _ _ _ R2 (by first | (rw [ha0]; done) | (rw [ha0]; kernel_rfl))
        · refine op_alloc4 rfl rfl 4 rfl rfl ⟨heap_old (heap_old (heap_old hS1)), ?_⟩
          refine wpAnyH_all (rs := [8]) (by kernel_rfl) (by simp) fun i hi => ?_
          obtain rfl := List.mem_singleton.1 hi
          refine op_alloc4 rfl rfl 3 rfl rfl ⟨heap_old (heap_old (heap_old (heap_old hS1))), ?_⟩
          have R := al4 (.cells z16 23) (.cells z16 23) (.cells z4 22) (.cells z4 22) hS1 hB1
          refine tail4 [b0, b1, b2, b3] [b4, b5, b6, b7] [b8, b9, b10, b11, b12, b13, b14, b15, b16, b17, b18, b19, b20, b21, b22, b23] [b24, b25, b26, b27, b28, b29, b30, b31, b32, b33, b34, b35, b36, b37, b38, b39] (by kernel_rfl) (by kernel_rfl) (by kernel_rfl) (by kernel_rfl) (by kernel_rfl) rfl rfl rfl rfl ⟨rfl, rfl, rfl⟩ ⟨rfl, rfl, rfl⟩ ⟨rfl, rfl, rfl⟩ ⟨rfl, rfl, rfl⟩ (by rw [ha0]; kernel_rfl) (by rw [ha0]; kernel_rfl) (by rw [ha0]; kernel_rfl) (by rw [ha0]; kernel_rfl) (by rw [ha0]; kernel_rfl) (by rw [ha0]; kernel_rfl) (by rw [ha0]; kernel_rfl) (by rw [ha0]; kernel_rfl) rfl rfl rfl rfl rfl rfl rfl rfl
            ⟨R.hP, R.h4, R.h3, R.h2, R.h1, (by have := R.l1; have := R.l2; have := R.l3; omega), (by have := R.l1; have := R.l2; have := R.l3; omega), (by have := R.l1; have := R.l2; have := R.l3; omega), (by have := R.l1; have := R.l2; have := R.l3; omega), (by have := R.l1; have := R.l2; have := R.l3; omega), (by have := R.l1; have := R.l2; have := R.l3; omega), (by have := R.p1; have := R.l1; have := R.l2; have := R.l3; omega), (by have := R.p1; have := R.l1; have := R.l2; have := R.l3; omega), (by have := R.p1; have := R.l1; have := R.l2; have := R.l3; omega), (by have := R.p1; have := R.l1; have := R.l2; have := R.l3; omega), R.bl⟩ (sets_row _ _ rfl) (sets_row _ _ rfl) (sets_row _ _ rfl) (sets_row _ _ rfl) (fun W2 R2 => ?_)
          exact HQ _ _ _ _ _ _ R2 (by first | (rw [ha0]; done) | (rw [ha0]; kernel_rfl))
  case rest =>
  obtain ⟨k3, k4, k5, k6, rfl, rfl, rfl, rfl, R⟩ := hcut
  have c3 := cell_of_block (j := 0) (v := .int .u8 (b0.toNat : Int)) R.h3 rfl
  have c4 := cell_of_block (j := 0) (v := .int .u8 (b4.toNat : Int)) R.h4 rfl
  have c5 := cell_of_block (j := 0) (v := .int .u8 (b8.toNat : Int)) R.h5 rfl
  have c6 := cell_of_block (j := 0) (v := .int .u8 (b24.toNat : Int)) R.h6 rfl
  have f3 := free_of_block (j := 0) R.h3
  have f4 := free_of_block (j := 0) R.h4
  have f5 := free_of_block (j := 0) R.h5
  have f6 := free_of_block (j := 0) R.h6
  have d34 := R.d34
  have d35 := R.d35
  have d36 := R.d36
  have d45 := R.d45
  have d46 := R.d46
  have d56 := R.d56
  have e34 := Ne.symm R.d34
  have e35 := Ne.symm R.d35
  have e36 := Ne.symm R.d36
  have e45 := Ne.symm R.d45
  have e46 := Ne.symm R.d46
  have e56 := Ne.symm R.d56
  have u0 : (b0.toNat : Int) < 256 := by have := b0.toNat_lt; omega
  have u4 : (b4.toNat : Int) < 256 := by have := b4.toNat_lt; omega
  obtain ⟨x0, hx0⟩ : ∃ x : UInt8, x.toNat = 224 + b0.toNat % 16 := ⟨UInt8.ofNat (224 + b0.toNat % 16), by rw [UInt8.toNat_ofNat', Nat.mod_eq_of_lt (by omega)]⟩
  obtain ⟨x4, hx4⟩ : ∃ x : UInt8, x.toNat = 224 + b4.toNat % 16 := ⟨UInt8.ofNat (224 + b4.toNat % 16), by rw [UInt8.toNat_ofNat', Nat.mod_eq_of_lt (by omega)]⟩
  have g0 : (224 + (b0.toNat : Int) % 16) = (x0.toNat : Int) := by omega
  have g4 : (224 + (b4.toNat : Int) % 16) = (x4.toNat : Int) := by omega
  have R3 := rows_3 R 0 [.int .u8 (x0.toNat : Int)]
  have R4 := rows_4 R3 0 [.int .u8 (x4.toNat : Int)]
  have R5 := rows_5 R4 0 [.int .u8 255]
  have R6 := rows_6 R5 0 [.int .u8 255]
  have R7 : Rows4 w w.heap.size (.cells VS 25) k3 k4 k5 k6 (byteRow [x0, b1, b2, b3]) (byteRow [x4, b5, b6, b7]) (byteRow [255, b9, b10, b11, b12, b13, b14, b15, b16, b17, b18, b19, b20, b21, b22, b23]) (byteRow [255, b25, b26, b27, b28, b29, b30, b31, b32, b33, b34, b35, b36, b37, b38, b39]) ((((wc.setCell ⟨k3, 0, none⟩ (.int .u8 (x0.toNat : Int))).setCell ⟨k4, 0, none⟩ (.int .u8 (x4.toNat : Int))).setCell ⟨k5, 0, none⟩ (.int .u8 255)).setCell ⟨k6, 0, none⟩ (.int .u8 255)) := R6
  have HR := Lib.hid R7
  have G1 := Lib.hid fun U => grp_c ⟨[x0, b1, b2, b3].toArray⟩ U
  rw [grp4_of x0 b1 b2 b3 (by omega) (by omega)] at G1
  have G2 := Lib.hid fun U => grp_c ⟨[x4, b5, b6, b7].toArray⟩ U
  rw [grp4_of x4 b5 b6 b7 (by omega) (by omega)] at G2
  have G3 := Lib.hid fun U => grp_c ⟨[255, b9, b10, b11, b12, b13, b14, b15, b16, b17, b18, b19, b20, b21, b22, b23].toArray⟩ U
  rw [show [255, b9, b10, b11, b12, b13, b14, b15, b16, b17, b18, b19, b20, b21, b22, b23] = 255 :: ([b9, b10, b11, b12, b13, b14, b15, b16, b17, b18, b19] ++ [b20, b21, b22, b23]) from rfl, grp16_of _ b20 b21 b22 b23 rfl] at G3
  have G4 := Lib.hid fun U => grp_c ⟨[255, b25, b26, b27, b28, b29, b30, b31, b32, b33, b34, b35, b36, b37, b38, b39].toArray⟩ U
  rw [show [255, b25, b26, b27, b28, b29, b30, b31, b32, b33, b34, b35, b36, b37, b38, b39] = 255 :: ([b25, b26, b27, b28, b29, b30, b31, b32, b33, b34, b35] ++ [b36, b37, b38, b39]) from rfl, grp16_of _ b36 b37 b38 b39 rfl] at G4
  obtain ⟨SA, hSA⟩ : ∃ s : ByteArray, s = ⟨#[1, 0, 94, UInt8.ofNat (b1.toNat % 128), b2, b3]⟩ := ⟨_, rfl⟩
  obtain ⟨SB, hSB⟩ : ∃ s : ByteArray, s = ⟨#[1, 0, 94, UInt8.ofNat (b5.toNat % 128), b6, b7]⟩ := ⟨_, rfl⟩
  obtain ⟨SC, hSC⟩ : ∃ s : ByteArray, s = ⟨#[51, 51, b20, b21, b22, b23]⟩ := ⟨_, rfl⟩
  obtain ⟨SD, hSD⟩ : ∃ s : ByteArray, s = ⟨#[51, 51, b36, b37, b38, b39]⟩ := ⟨_, rfl⟩
  rw [← hSA] at G1
  rw [← hSB] at G2
  rw [← hSC] at G3
  rw [← hSD] at G4
  have HA := Lib.hid hSA
  have HB := Lib.hid hSB
  have HC := Lib.hid hSC
  have HD := Lib.hid hSD
  clear R R3 R4 R5 R6 R7 hx0 hx4 hSA hSB hSC hSD
  go_upto_region 6 with fail
  clear c3 c4 c5 c6 f3 f4 f5 f6 d34 d35 d36 d45 d46 d56 e34 e35 e36 e45 e46 e56 u0 u4 g0 g4
  generalize ((((wc.setCell ⟨k3, 0, none⟩ (.int .u8 (x0.toNat : Int))).setCell ⟨k4, 0, none⟩ (.int .u8 (x4.toNat : Int))).setCell ⟨k5, 0, none⟩ (.int .u8 255)).setCell ⟨k6, 0, none⟩ (.int .u8 255)) = W6 at HR ⊢
  have v1 := conv_blk HR.out.h3 (n := 4) rfl
  go_wp2_with fail
  refine (G1.out _).mono ?_
  rintro e w1 ⟨rfl, h1⟩
  have HR2 := Lib.hid (rows_below HR.out h1)
  clear HR v1 h1
  have v1 := conv_blk HR2.out.h4 (n := 4) rfl
  go_wp2_with fail
  refine (G2.out _).mono ?_
  rintro e w2 ⟨rfl, h1⟩
  have HR3 := Lib.hid (rows_below HR2.out h1)
  clear HR2 v1 h1
  have v1 := conv_blk HR3.out.h5 (n := 16) rfl
  go_wp2_with fail
  refine (G3.out _).mono ?_
  rintro e w3 ⟨rfl, h1⟩
  have HR4 := Lib.hid (rows_below HR3.out h1)
  clear HR3 v1 h1
  have v1 := conv_blk HR4.out.h6 (n := 16) rfl
  go_wp2_with fail
  refine (G4.out _).mono ?_
  rintro e w4 ⟨rfl, h1⟩
  have HR5 := Lib.hid (rows_below HR4.out h1)
  clear HR4 v1 h1
  obtain ⟨F, hF⟩ : ∃ F : Bool, F = decide (b1.toNat % 128 = b5.toNat % 128 ∧ b2.toNat = b6.toNat ∧ b3.toNat = b7.toNat) := ⟨_, rfl⟩
  have HF := Lib.hid hF
  clear hF
  obtain ⟨E, hE⟩ : ∃ E : Bool, E = decide (b20.toNat = b36.toNat ∧ b21.toNat = b37.toNat ∧ b22.toNat = b38.toNat ∧ b23.toNat = b39.toNat) := ⟨_, rfl⟩
  have HE := Lib.hid hE
  clear hE
  have c31 := cell_of_block (j := 1) (v := .int .u8 (b1.toNat : Int)) HR5.out.h3 rfl
  have c32 := cell_of_block (j := 2) (v := .int .u8 (b2.toNat : Int)) HR5.out.h3 rfl
  have c33 := cell_of_block (j := 3) (v := .int .u8 (b3.toNat : Int)) HR5.out.h3 rfl
  have c41 := cell_of_block (j := 1) (v := .int .u8 (b5.toNat : Int)) HR5.out.h4 rfl
  have c42 := cell_of_block (j := 2) (v := .int .u8 (b6.toNat : Int)) HR5.out.h4 rfl
  have c43 := cell_of_block (j := 3) (v := .int .u8 (b7.toNat : Int)) HR5.out.h4 rfl
  have c512 := cell_of_block (j := 12) (v := .int .u8 (b20.toNat : Int)) HR5.out.h5 rfl
  have c513 := cell_of_block (j := 13) (v := .int .u8 (b21.toNat : Int)) HR5.out.h5 rfl
  have c514 := cell_of_block (j := 14) (v := .int .u8 (b22.toNat : Int)) HR5.out.h5 rfl
  have c515 := cell_of_block (j := 15) (v := .int .u8 (b23.toNat : Int)) HR5.out.h5 rfl
  have c612 := cell_of_block (j := 12) (v := .int .u8 (b36.toNat : Int)) HR5.out.h6 rfl
  have c613 := cell_of_block (j := 13) (v := .int .u8 (b37.toNat : Int)) HR5.out.h6 rfl
  have c614 := cell_of_block (j := 14) (v := .int .u8 (b38.toNat : Int)) HR5.out.h6 rfl
  have c615 := cell_of_block (j := 15) (v := .int .u8 (b39.toNat : Int)) HR5.out.h6 rfl
  go_upto_region 12 with fail
  go_cut [15] (fun s15 wx => s15 = .bool F ∧ w4 = wx)
  case first =>
    by_cases x1 : b1.toNat % 128 = b5.toNat % 128
    · obtain ⟨y1, y2⟩ := eq_t (show (b1.toNat : Int) % 128 = (b5.toNat : Int) % 128 by omega)
      by_cases x2 : b2.toNat = b6.toNat
      · obtain ⟨y3, y4⟩ := eq_t (show (b2.toNat : Int) = (b6.toNat : Int) by omega)
        by_cases x3 : b3.toNat = b7.toNat
        · obtain ⟨y5, y6⟩ := eq_t (show (b3.toNat : Int) = (b7.toNat : Int) by omega)
          have hF : F = true := by rw [HF.out]; exact decide_eq_true ⟨x1, x2, x3⟩
          subst hF
          clear x1 x2 x3
          go_wp2_with fail
          go_meet
          exact ⟨rfl, rfl⟩
        · obtain ⟨y5, y6⟩ := ne_t (show (b3.toNat : Int) ≠ (b7.toNat : Int) by omega)
          have hF : F = false := by rw [HF.out]; exact decide_eq_false fun h => x3 h.2.2
          subst hF
          clear x1 x2 x3
          go_wp2_with fail
          go_meet
          exact ⟨rfl, rfl⟩
      · obtain ⟨y3, y4⟩ := ne_t (show (b2.toNat : Int) ≠ (b6.toNat : Int) by omega)
        have hF : F = false := by rw [HF.out]; exact decide_eq_false fun h => x2 h.2.1
        subst hF
        clear x1 x2
        go_wp2_with fail
        go_meet
        exact ⟨rfl, rfl⟩
    · obtain ⟨y1, y2⟩ := ne_t (show (b1.toNat : Int) % 128 ≠ (b5.toNat : Int) % 128 by omega)
      have hF : F = false := by rw [HF.out]; exact decide_eq_false fun h => x1 h.1
      subst hF
      clear x1
      go_wp2_with fail
      go_meet
      exact ⟨rfl, rfl⟩
  case rest =>
  obtain ⟨rfl, rfl⟩ := hcut
  go_upto_region 13 with fail
  go_cut [16] (fun s16 wx => s16 = .bool E ∧ w4 = wx)
  case first =>
    by_cases x1 : b20.toNat = b36.toNat
    · obtain ⟨y1, y2⟩ := eq_t (show (b20.toNat : Int) = (b36.toNat : Int) by omega)
      by_cases x2 : b21.toNat = b37.toNat
      · obtain ⟨y3, y4⟩ := eq_t (show (b21.toNat : Int) = (b37.toNat : Int) by omega)
        by_cases x3 : b22.toNat = b38.toNat
        · obtain ⟨y5, y6⟩ := eq_t (show (b22.toNat : Int) = (b38.toNat : Int) by omega)
          by_cases x4' : b23.toNat = b39.toNat
          · obtain ⟨y7, y8⟩ := eq_t (show (b23.toNat : Int) = (b39.toNat : Int) by omega)
            have hF : E = true := by rw [HE.out]; exact decide_eq_true ⟨x1, x2, x3, x4'⟩
            subst hF
            clear x1 x2 x3 x4'
            go_wp2_with fail
            go_meet
            exact ⟨rfl, rfl⟩
          · obtain ⟨y7, y8⟩ := ne_t (show (b23.toNat : Int) ≠ (b39.toNat : Int) by omega)
            have hF : E = false := by rw [HE.out]; exact decide_eq_false fun h => x4' h.2.2.2
            subst hF
            clear x1 x2 x3 x4'
            go_wp2_with fail
            go_meet
            exact ⟨rfl, rfl⟩
        · obtain ⟨y5, y6⟩ := ne_t (show (b22.toNat : Int) ≠ (b38.toNat : Int) by omega)
          have hF : E = false := by rw [HE.out]; exact decide_eq_false fun h => x3 h.2.2.1
          subst hF
          clear x1 x2 x3
          go_wp2_with fail
          go_meet
          exact ⟨rfl, rfl⟩
      · obtain ⟨y3, y4⟩ := ne_t (show (b21.toNat : Int) ≠ (b37.toNat : Int) by omega)
        have hF : E = false := by rw [HE.out]; exact decide_eq_false fun h => x2 h.2.1
        subst hF
        clear x1 x2
        go_wp2_with fail
        go_meet
        exact ⟨rfl, rfl⟩
    · obtain ⟨y1, y2⟩ := ne_t (show (b20.toNat : Int) ≠ (b36.toNat : Int) by omega)
      have hF : E = false := by rw [HE.out]; exact decide_eq_false fun h => x1 h.1
      subst hF
      clear x1
      go_wp2_with fail
      go_meet
      exact ⟨rfl, rfl⟩
  case rest =>
  obtain ⟨rfl, rfl⟩ := hcut
  have k9 := HR5.out.bl
  clear c31 c32 c33 c41 c42 c43 c512 c513 c514 c515 c612 c613 c614 c615 HR5
  have z1 : (SA.toList == SB.toList) = F := by rw [HA.out, HB.out, HF.out]; exact alk_eq4 _ _ _ _ _ _
  have z2 : (SC.toList == SD.toList) = E := by rw [HC.out, HD.out, HE.out]; exact alk_eq6 _ _ _ _ _ _ _ _
  have z3 : SA.toList ≠ SC.toList := by rw [HA.out, HC.out]; exact alk_ne _ _ _ _ _ _ _
  have z4 : (SA.toList == SC.toList) = false := by rw [beq_eq_false_iff_ne]; exact z3
  have z5 : (SA.toList != SC.toList) = true := by rw [bne_iff_ne]; exact z3
  go_wp2_with fail
  refine (live3_c _).mono ?_
  rintro e w5 ⟨rfl, h5⟩
  go_wp2_with fail
  go_ret
  exact ⟨rfl, below_then k9 h5⟩

end Go.Proofs.Ytolgakgimcbkpaa
