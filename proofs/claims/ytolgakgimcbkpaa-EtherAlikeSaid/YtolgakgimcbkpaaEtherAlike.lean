/-
  'siphonlaw03.EtherAlike' returns true, whatever the input, and each argument reads behind the call as it read before. Conditions: none beyond those that the row itself states.
-/
import Derived.Test.YtolgakgimcbkpaaRows
import Derived.Test.YtolgakgimcbkpaaAlkA
import Derived.WalkKit
import Derived.ProofKit
import Derived.OpenShut
import Derived.ShutString
import Derived.ChangeOld
import Derived.Below
import Derived.Carry
import Derived.SizedLaws
import Derived.Lib.SmallJoins
import Derived.ChangeArms
import Derived.WideShapes
namespace Go.Proofs.Ytolgakgimcbkpaa.etherAlikeLaw
open Go.ChangeShapes Go.WideShapes Go.ChangeAt Go.RowKit Go.Joins
open Go.ChangeMaps (open_string shut_string)
set_option linter.unusedVariables false

theorem list4 {α : Type} (l : List α) (h : l.length = 4) : ∃ x0 x1 x2 x3 : α, l = [x0, x1, x2, x3] := by
  match l, h with
  | [x0, x1, x2, x3], _ => exact ⟨x0, x1, x2, x3, rfl⟩

theorem list16 {α : Type} (l : List α) (h : l.length = 16) : ∃ x0 x1 x2 x3 x4 x5 x6 x7 x8 x9 x10 x11 x12 x13 x14 x15 : α, l = [x0, x1, x2, x3, x4, x5, x6, x7, x8, x9, x10, x11, x12, x13, x14, x15] := by
  match l, h with
  | [x0, x1, x2, x3, x4, x5, x6, x7, x8, x9, x10, x11, x12, x13, x14, x15], _ => exact ⟨x0, x1, x2, x3, x4, x5, x6, x7, x8, x9, x10, x11, x12, x13, x14, x15, rfl⟩

theorem list40u {α : Type} (l : List α) (h : l.length = 20) : ∃ x0 x1 x2 x3 x4 x5 x6 x7 x8 x9 x10 x11 x12 x13 x14 x15 x16 x17 x18 x19 : α, l = [x0, x1, x2, x3, x4, x5, x6, x7, x8, x9, x10, x11, x12, x13, x14, x15, x16, x17, x18, x19] := by
  match l, h with
  | [x0, x1, x2, x3, x4, x5, x6, x7, x8, x9, x10, x11, x12, x13, x14, x15, x16, x17, x18, x19], _ => exact ⟨x0, x1, x2, x3, x4, x5, x6, x7, x8, x9, x10, x11, x12, x13, x14, x15, x16, x17, x18, x19, rfl⟩

theorem list40v {α : Type} (l : List α) (h : l.length = 20) : ∃ x0 x1 x2 x3 x4 x5 x6 x7 x8 x9 x10 x11 x12 x13 x14 x15 x16 x17 x18 x19 : α, l = [x0, x1, x2, x3, x4, x5, x6, x7, x8, x9, x10, x11, x12, x13, x14, x15, x16, x17, x18, x19] := by
  match l, h with
  | [x0, x1, x2, x3, x4, x5, x6, x7, x8, x9, x10, x11, x12, x13, x14, x15, x16, x17, x18, x19], _ => exact ⟨x0, x1, x2, x3, x4, x5, x6, x7, x8, x9, x10, x11, x12, x13, x14, x15, x16, x17, x18, x19, rfl⟩

theorem list40 {α : Type} (l : List α) (h : l.length = 40) : ∃ x0 x1 x2 x3 x4 x5 x6 x7 x8 x9 x10 x11 x12 x13 x14 x15 x16 x17 x18 x19 x20 x21 x22 x23 x24 x25 x26 x27 x28 x29 x30 x31 x32 x33 x34 x35 x36 x37 x38 x39 : α, l = [x0, x1, x2, x3, x4, x5, x6, x7, x8, x9, x10, x11, x12, x13, x14, x15, x16, x17, x18, x19, x20, x21, x22, x23, x24, x25, x26, x27, x28, x29, x30, x31, x32, x33, x34, x35, x36, x37, x38, x39] := by
  obtain ⟨x0, x1, x2, x3, x4, x5, x6, x7, x8, x9, x10, x11, x12, x13, x14, x15, x16, x17, x18, x19, h1⟩ := list40u (l.take 20) (by rw [List.length_take]; omega)
  obtain ⟨y0, y1, y2, y3, y4, y5, y6, y7, y8, y9, y10, y11, y12, y13, y14, y15, y16, y17, y18, y19, h2⟩ := list40v (l.drop 20) (by rw [List.length_drop]; omega)
  exact ⟨x0, x1, x2, x3, x4, x5, x6, x7, x8, x9, x10, x11, x12, x13, x14, x15, x16, x17, x18, x19, y0, y1, y2, y3, y4, y5, y6, y7, y8, y9, y10, y11, y12, y13, y14, y15, y16, y17, y18, y19, by rw [← List.take_append_drop 20 l, h1, h2]; rfl⟩

theorem box_lit (b0 b1 b2 b3 b4 b5 b6 b7 b8 b9 b10 b11 b12 b13 b14 b15 b16 b17 b18 b19 b20 b21 b22 b23 b24 b25 b26 b27 b28 b29 b30 b31 b32 b33 b34 b35 b36 b37 b38 b39 : UInt8) : boxA [b0, b1, b2, b3] [b4, b5, b6, b7] [b8, b9, b10, b11, b12, b13, b14, b15, b16, b17, b18, b19, b20, b21, b22, b23] [b24, b25, b26, b27, b28, b29, b30, b31, b32, b33, b34, b35, b36, b37, b38, b39] = #[.int .u8 (b0.toNat : Int), .int .u8 (b1.toNat : Int), .int .u8 (b2.toNat : Int), .int .u8 (b3.toNat : Int), .int .u8 (b4.toNat : Int), .int .u8 (b5.toNat : Int), .int .u8 (b6.toNat : Int), .int .u8 (b7.toNat : Int), .int .u8 (b8.toNat : Int), .int .u8 (b9.toNat : Int), .int .u8 (b10.toNat : Int), .int .u8 (b11.toNat : Int), .int .u8 (b12.toNat : Int), .int .u8 (b13.toNat : Int), .int .u8 (b14.toNat : Int), .int .u8 (b15.toNat : Int), .int .u8 (b16.toNat : Int), .int .u8 (b17.toNat : Int), .int .u8 (b18.toNat : Int), .int .u8 (b19.toNat : Int), .int .u8 (b20.toNat : Int), .int .u8 (b21.toNat : Int), .int .u8 (b22.toNat : Int), .int .u8 (b23.toNat : Int), .int .u8 (b24.toNat : Int), .int .u8 (b25.toNat : Int), .int .u8 (b26.toNat : Int), .int .u8 (b27.toNat : Int), .int .u8 (b28.toNat : Int), .int .u8 (b29.toNat : Int), .int .u8 (b30.toNat : Int), .int .u8 (b31.toNat : Int), .int .u8 (b32.toNat : Int), .int .u8 (b33.toNat : Int), .int .u8 (b34.toNat : Int), .int .u8 (b35.toNat : Int), .int .u8 (b36.toNat : Int), .int .u8 (b37.toNat : Int), .int .u8 (b38.toNat : Int), .int .u8 (b39.toNat : Int)] := by simp [boxA, byteRow]

set_option maxRecDepth 100000 in
theorem walk (a0_0 : Int) (a0_1 : Int) (a0_2 : Int) (a0_3 : Int) (a0_4 : Int) (a0_5 : Int) (a0_6 : Int) (a0_7 : Int) (a0_8 : Int) (a0_9 : Int) (a0_10 : Int) (a0_11 : Int) (a0_12 : Int) (a0_13 : Int) (a0_14 : Int) (a0_15 : Int) (a0_16 : Int) (a0_17 : Int) (a0_18 : Int) (a0_19 : Int) (a0_20 : Int) (a0_21 : Int) (a0_22 : Int) (a0_23 : Int) (a0_24 : Int) (a0_25 : Int) (a0_26 : Int) (a0_27 : Int) (a0_28 : Int) (a0_29 : Int) (a0_30 : Int) (a0_31 : Int) (a0_32 : Int) (a0_33 : Int) (a0_34 : Int) (a0_35 : Int) (a0_36 : Int) (a0_37 : Int) (a0_38 : Int) (a0_39 : Int) (w : World) (la0_0 : 0 ≤ a0_0) (ua0_0 : a0_0 ≤ 255) (la0_1 : 0 ≤ a0_1) (ua0_1 : a0_1 ≤ 255) (la0_2 : 0 ≤ a0_2) (ua0_2 : a0_2 ≤ 255) (la0_3 : 0 ≤ a0_3) (ua0_3 : a0_3 ≤ 255) (la0_4 : 0 ≤ a0_4) (ua0_4 : a0_4 ≤ 255) (la0_5 : 0 ≤ a0_5) (ua0_5 : a0_5 ≤ 255) (la0_6 : 0 ≤ a0_6) (ua0_6 : a0_6 ≤ 255) (la0_7 : 0 ≤ a0_7) (ua0_7 : a0_7 ≤ 255) (la0_8 : 0 ≤ a0_8) (ua0_8 : a0_8 ≤ 255) (la0_9 : 0 ≤ a0_9) (ua0_9 : a0_9 ≤ 255) (la0_10 : 0 ≤ a0_10) (ua0_10 : a0_10 ≤ 255) (la0_11 : 0 ≤ a0_11) (ua0_11 : a0_11 ≤ 255) (la0_12 : 0 ≤ a0_12) (ua0_12 : a0_12 ≤ 255) (la0_13 : 0 ≤ a0_13) (ua0_13 : a0_13 ≤ 255) (la0_14 : 0 ≤ a0_14) (ua0_14 : a0_14 ≤ 255) (la0_15 : 0 ≤ a0_15) (ua0_15 : a0_15 ≤ 255) (la0_16 : 0 ≤ a0_16) (ua0_16 : a0_16 ≤ 255) (la0_17 : 0 ≤ a0_17) (ua0_17 : a0_17 ≤ 255) (la0_18 : 0 ≤ a0_18) (ua0_18 : a0_18 ≤ 255) (la0_19 : 0 ≤ a0_19) (ua0_19 : a0_19 ≤ 255) (la0_20 : 0 ≤ a0_20) (ua0_20 : a0_20 ≤ 255) (la0_21 : 0 ≤ a0_21) (ua0_21 : a0_21 ≤ 255) (la0_22 : 0 ≤ a0_22) (ua0_22 : a0_22 ≤ 255) (la0_23 : 0 ≤ a0_23) (ua0_23 : a0_23 ≤ 255) (la0_24 : 0 ≤ a0_24) (ua0_24 : a0_24 ≤ 255) (la0_25 : 0 ≤ a0_25) (ua0_25 : a0_25 ≤ 255) (la0_26 : 0 ≤ a0_26) (ua0_26 : a0_26 ≤ 255) (la0_27 : 0 ≤ a0_27) (ua0_27 : a0_27 ≤ 255) (la0_28 : 0 ≤ a0_28) (ua0_28 : a0_28 ≤ 255) (la0_29 : 0 ≤ a0_29) (ua0_29 : a0_29 ≤ 255) (la0_30 : 0 ≤ a0_30) (ua0_30 : a0_30 ≤ 255) (la0_31 : 0 ≤ a0_31) (ua0_31 : a0_31 ≤ 255) (la0_32 : 0 ≤ a0_32) (ua0_32 : a0_32 ≤ 255) (la0_33 : 0 ≤ a0_33) (ua0_33 : a0_33 ≤ 255) (la0_34 : 0 ≤ a0_34) (ua0_34 : a0_34 ≤ 255) (la0_35 : 0 ≤ a0_35) (ua0_35 : a0_35 ≤ 255) (la0_36 : 0 ≤ a0_36) (ua0_36 : a0_36 ≤ 255) (la0_37 : 0 ≤ a0_37) (ua0_37 : a0_37 ≤ 255) (la0_38 : 0 ≤ a0_38) (ua0_38 : a0_38 ≤ 255) (la0_39 : 0 ≤ a0_39) (ua0_39 : a0_39 ≤ 255) :
    Calls Try.prog 3 #[.agg #[.int .u8 a0_0, .int .u8 a0_1, .int .u8 a0_2, .int .u8 a0_3, .int .u8 a0_4, .int .u8 a0_5, .int .u8 a0_6, .int .u8 a0_7, .int .u8 a0_8, .int .u8 a0_9, .int .u8 a0_10, .int .u8 a0_11, .int .u8 a0_12, .int .u8 a0_13, .int .u8 a0_14, .int .u8 a0_15, .int .u8 a0_16, .int .u8 a0_17, .int .u8 a0_18, .int .u8 a0_19, .int .u8 a0_20, .int .u8 a0_21, .int .u8 a0_22, .int .u8 a0_23, .int .u8 a0_24, .int .u8 a0_25, .int .u8 a0_26, .int .u8 a0_27, .int .u8 a0_28, .int .u8 a0_29, .int .u8 a0_30, .int .u8 a0_31, .int .u8 a0_32, .int .u8 a0_33, .int .u8 a0_34, .int .u8 a0_35, .int .u8 a0_36, .int .u8 a0_37, .int .u8 a0_38, .int .u8 a0_39]] w fun e w' => e = .returned (.bool true) ∧ Below w.heap.size w w' := by
  have nat8 : ∀ x : Int, 0 ≤ x → x ≤ 255 → ∃ y : UInt8, (y.toNat : Int) = x := fun x h0 h1 => ⟨UInt8.ofNat x.toNat, by rw [UInt8.toNat_ofNat', Nat.mod_eq_of_lt (by omega)]; omega⟩
  obtain ⟨b0, rfl⟩ := nat8 a0_0 la0_0 ua0_0
  obtain ⟨b1, rfl⟩ := nat8 a0_1 la0_1 ua0_1
  obtain ⟨b2, rfl⟩ := nat8 a0_2 la0_2 ua0_2
  obtain ⟨b3, rfl⟩ := nat8 a0_3 la0_3 ua0_3
  obtain ⟨b4, rfl⟩ := nat8 a0_4 la0_4 ua0_4
  obtain ⟨b5, rfl⟩ := nat8 a0_5 la0_5 ua0_5
  obtain ⟨b6, rfl⟩ := nat8 a0_6 la0_6 ua0_6
  obtain ⟨b7, rfl⟩ := nat8 a0_7 la0_7 ua0_7
  obtain ⟨b8, rfl⟩ := nat8 a0_8 la0_8 ua0_8
  obtain ⟨b9, rfl⟩ := nat8 a0_9 la0_9 ua0_9
  obtain ⟨b10, rfl⟩ := nat8 a0_10 la0_10 ua0_10
  obtain ⟨b11, rfl⟩ := nat8 a0_11 la0_11 ua0_11
  obtain ⟨b12, rfl⟩ := nat8 a0_12 la0_12 ua0_12
  obtain ⟨b13, rfl⟩ := nat8 a0_13 la0_13 ua0_13
  obtain ⟨b14, rfl⟩ := nat8 a0_14 la0_14 ua0_14
  obtain ⟨b15, rfl⟩ := nat8 a0_15 la0_15 ua0_15
  obtain ⟨b16, rfl⟩ := nat8 a0_16 la0_16 ua0_16
  obtain ⟨b17, rfl⟩ := nat8 a0_17 la0_17 ua0_17
  obtain ⟨b18, rfl⟩ := nat8 a0_18 la0_18 ua0_18
  obtain ⟨b19, rfl⟩ := nat8 a0_19 la0_19 ua0_19
  obtain ⟨b20, rfl⟩ := nat8 a0_20 la0_20 ua0_20
  obtain ⟨b21, rfl⟩ := nat8 a0_21 la0_21 ua0_21
  obtain ⟨b22, rfl⟩ := nat8 a0_22 la0_22 ua0_22
  obtain ⟨b23, rfl⟩ := nat8 a0_23 la0_23 ua0_23
  obtain ⟨b24, rfl⟩ := nat8 a0_24 la0_24 ua0_24
  obtain ⟨b25, rfl⟩ := nat8 a0_25 la0_25 ua0_25
  obtain ⟨b26, rfl⟩ := nat8 a0_26 la0_26 ua0_26
  obtain ⟨b27, rfl⟩ := nat8 a0_27 la0_27 ua0_27
  obtain ⟨b28, rfl⟩ := nat8 a0_28 la0_28 ua0_28
  obtain ⟨b29, rfl⟩ := nat8 a0_29 la0_29 ua0_29
  obtain ⟨b30, rfl⟩ := nat8 a0_30 la0_30 ua0_30
  obtain ⟨b31, rfl⟩ := nat8 a0_31 la0_31 ua0_31
  obtain ⟨b32, rfl⟩ := nat8 a0_32 la0_32 ua0_32
  obtain ⟨b33, rfl⟩ := nat8 a0_33 la0_33 ua0_33
  obtain ⟨b34, rfl⟩ := nat8 a0_34 la0_34 ua0_34
  obtain ⟨b35, rfl⟩ := nat8 a0_35 la0_35 ua0_35
  obtain ⟨b36, rfl⟩ := nat8 a0_36 la0_36 ua0_36
  obtain ⟨b37, rfl⟩ := nat8 a0_37 la0_37 ua0_37
  obtain ⟨b38, rfl⟩ := nat8 a0_38 la0_38 ua0_38
  obtain ⟨b39, rfl⟩ := nat8 a0_39 la0_39 ua0_39
  have h := walk0 b0 b1 b2 b3 b4 b5 b6 b7 b8 b9 b10 b11 b12 b13 b14 b15 b16 b17 b18 b19 b20 b21 b22 b23 b24 b25 b26 b27 b28 b29 b30 b31 b32 b33 b34 b35 b36 b37 b38 b39 w
  rw [box_lit] at h
  exact h

theorem own : ownKnob Try.prog.godebug = none := by kernel_rfl
theorem laidOut : laidOutB Try.prog = true := by kernel_rfl

set_option maxRecDepth 100000 in
theorem lifted (os : Os) (started : os.Started) (H : Type) (enc : TypeId × Value → H) :
    ReturnsInHanded {} Try.checked os 3 .any (Rows.etherAlikeSpec.pre6 enc Try.prog Try.f3 Rows.etherAlikeRow.domain false) (Rows.etherAlikeSpec.post enc Try.prog Try.f3 false true false false) := by
  refine returnsInHanded_of_change_sized (C := Try.checked) own started (by kernel_rfl) Try.func3
    (ChangeSpec.witness6 (enc := enc) (C := Try.checked) false ⟨#[], #[.agg #[.int .u8 0, .int .u8 0, .int .u8 0, .int .u8 0, .int .u8 0, .int .u8 0, .int .u8 0, .int .u8 0, .int .u8 0, .int .u8 0, .int .u8 0, .int .u8 0, .int .u8 0, .int .u8 0, .int .u8 0, .int .u8 0, .int .u8 0, .int .u8 0, .int .u8 0, .int .u8 0, .int .u8 0, .int .u8 0, .int .u8 0, .int .u8 0, .int .u8 0, .int .u8 0, .int .u8 0, .int .u8 0, .int .u8 0, .int .u8 0, .int .u8 0, .int .u8 0, .int .u8 0, .int .u8 0, .int .u8 0, .int .u8 0, .int .u8 0, .int .u8 0, .int .u8 0, .int .u8 0]], []⟩ 8 (by kernel_rfl) (by kernel_rfl) (by kernel_rfl) (by kernel_rfl)) ?_
  intro W base args ds gs before hval0 hW hcnd hsz0 hholds
  have hval : ∀ (j : Nat) t v, Try.f3.params[j]? = some t → args[j]? = some v → Value.okWide Try.prog W .any base t v := hval0
  have hsz : (DataW.weightsEach Try.prog (Try.f3.params.toList ++ Rows.etherAlikeSpec.plain.varTypes Try.prog) (ds ++ gs)).all (· ≤ reachBytes) = true := hsz0
  have hW' := hW
  obtain ⟨p, q, hA0, hV, rfl, hfz, hnd⟩ := hW
  have hA : DataW.TrodAll enc Try.prog W 0 (fun _ => true) true Try.f3.params.toList args.toList ds p := hA0
  rw [Try.params3] at hA hval hsz
  obtain ⟨v0, vs0, d0, ds0, p0, q0, hargs, rfl, rfl, h0, r0⟩ := trodAll_cons hA
  obtain ⟨rfl, rfl, rfl⟩ := trodAll_nil r0
  obtain rfl : args = #[v0] := by cases args; simp_all
  obtain ⟨rfl, rfl⟩ := trodVars_none hV
  have k0 := h0
  have lt0 : ∀ x ∈ p0, x.block < W.heap.size := by obtain ⟨m, hm⟩ := k0; exact DataW.trod_lt m _ _ _ hm
  obtain ⟨cs0, rfl, hz0⟩ := okWide_struct Try.underlying25 (hval 0 25 v0 rfl rfl)
  obtain ⟨l0⟩ := cs0
  obtain ⟨c0_0, c0_1, c0_2, c0_3, c0_4, c0_5, c0_6, c0_7, c0_8, c0_9, c0_10, c0_11, c0_12, c0_13, c0_14, c0_15, c0_16, c0_17, c0_18, c0_19, c0_20, c0_21, c0_22, c0_23, c0_24, c0_25, c0_26, c0_27, c0_28, c0_29, c0_30, c0_31, c0_32, c0_33, c0_34, c0_35, c0_36, c0_37, c0_38, c0_39, rfl⟩ := list40 l0 (hz0.trans (by kernel_rfl))
  obtain ⟨fu0, hf0⟩ := h0
  obtain ⟨xs0, m0, -, hx0, -, hn0, hg0⟩ := DataW.trod_struct Try.underlying25 hf0
  obtain ⟨y0_0, y0_1, y0_2, y0_3, rfl⟩ := list4 xs0 hn0
  simp only [Prod.mk.injEq] at hx0
  obtain ⟨rfl, rfl⟩ := hx0
  have g0_0 : DataW.trod enc Try.prog W 0 (fun _ => true) true m0 22 (List.take (Try.prog.cellsOf 22) (List.drop 0 [c0_0, c0_1, c0_2, c0_3, c0_4, c0_5, c0_6, c0_7, c0_8, c0_9, c0_10, c0_11, c0_12, c0_13, c0_14, c0_15, c0_16, c0_17, c0_18, c0_19, c0_20, c0_21, c0_22, c0_23, c0_24, c0_25, c0_26, c0_27, c0_28, c0_29, c0_30, c0_31, c0_32, c0_33, c0_34, c0_35, c0_36, c0_37, c0_38, c0_39])) = some y0_0 := hg0 0 _ rfl
  rw [show Try.prog.cellsOf 22 = 4 from by kernel_rfl] at g0_0
  replace g0_0 : DataW.trod enc Try.prog W 0 (fun _ => true) true m0 22 [c0_0, c0_1, c0_2, c0_3] = some y0_0 := g0_0
  have g0_1 : DataW.trod enc Try.prog W 0 (fun _ => true) true m0 22 (List.take (Try.prog.cellsOf 22) (List.drop 4 [c0_0, c0_1, c0_2, c0_3, c0_4, c0_5, c0_6, c0_7, c0_8, c0_9, c0_10, c0_11, c0_12, c0_13, c0_14, c0_15, c0_16, c0_17, c0_18, c0_19, c0_20, c0_21, c0_22, c0_23, c0_24, c0_25, c0_26, c0_27, c0_28, c0_29, c0_30, c0_31, c0_32, c0_33, c0_34, c0_35, c0_36, c0_37, c0_38, c0_39])) = some y0_1 := hg0 1 _ rfl
  rw [show Try.prog.cellsOf 22 = 4 from by kernel_rfl] at g0_1
  replace g0_1 : DataW.trod enc Try.prog W 0 (fun _ => true) true m0 22 [c0_4, c0_5, c0_6, c0_7] = some y0_1 := g0_1
  have g0_2 : DataW.trod enc Try.prog W 0 (fun _ => true) true m0 23 (List.take (Try.prog.cellsOf 23) (List.drop 8 [c0_0, c0_1, c0_2, c0_3, c0_4, c0_5, c0_6, c0_7, c0_8, c0_9, c0_10, c0_11, c0_12, c0_13, c0_14, c0_15, c0_16, c0_17, c0_18, c0_19, c0_20, c0_21, c0_22, c0_23, c0_24, c0_25, c0_26, c0_27, c0_28, c0_29, c0_30, c0_31, c0_32, c0_33, c0_34, c0_35, c0_36, c0_37, c0_38, c0_39])) = some y0_2 := hg0 2 _ rfl
  rw [show Try.prog.cellsOf 23 = 16 from by kernel_rfl] at g0_2
  replace g0_2 : DataW.trod enc Try.prog W 0 (fun _ => true) true m0 23 [c0_8, c0_9, c0_10, c0_11, c0_12, c0_13, c0_14, c0_15, c0_16, c0_17, c0_18, c0_19, c0_20, c0_21, c0_22, c0_23] = some y0_2 := g0_2
  have g0_3 : DataW.trod enc Try.prog W 0 (fun _ => true) true m0 23 (List.take (Try.prog.cellsOf 23) (List.drop 24 [c0_0, c0_1, c0_2, c0_3, c0_4, c0_5, c0_6, c0_7, c0_8, c0_9, c0_10, c0_11, c0_12, c0_13, c0_14, c0_15, c0_16, c0_17, c0_18, c0_19, c0_20, c0_21, c0_22, c0_23, c0_24, c0_25, c0_26, c0_27, c0_28, c0_29, c0_30, c0_31, c0_32, c0_33, c0_34, c0_35, c0_36, c0_37, c0_38, c0_39])) = some y0_3 := hg0 3 _ rfl
  rw [show Try.prog.cellsOf 23 = 16 from by kernel_rfl] at g0_3
  replace g0_3 : DataW.trod enc Try.prog W 0 (fun _ => true) true m0 23 [c0_24, c0_25, c0_26, c0_27, c0_28, c0_29, c0_30, c0_31, c0_32, c0_33, c0_34, c0_35, c0_36, c0_37, c0_38, c0_39] = some y0_3 := g0_3
  clear hg0
  obtain ⟨xs0_0, m0_0, -, hx0_0, -, hn0_0, hg0_0⟩ := DataW.trod_array Try.underlying22 g0_0
  obtain ⟨y0_0_0, y0_0_1, y0_0_2, y0_0_3, rfl⟩ := list4 xs0_0 hn0_0
  subst hx0_0
  have g0_0_0 : DataW.trod enc Try.prog W 0 (fun _ => true) true m0_0 5 (List.take (Try.prog.cellsOf 5) (List.drop (0 * Try.prog.cellsOf 5) [c0_0, c0_1, c0_2, c0_3])) = some y0_0_0 := hg0_0 0 (by omega)
  rw [show Try.prog.cellsOf 5 = 1 from by kernel_rfl] at g0_0_0
  replace g0_0_0 : DataW.trod enc Try.prog W 0 (fun _ => true) true m0_0 5 [c0_0] = some y0_0_0 := g0_0_0
  have g0_0_1 : DataW.trod enc Try.prog W 0 (fun _ => true) true m0_0 5 (List.take (Try.prog.cellsOf 5) (List.drop (1 * Try.prog.cellsOf 5) [c0_0, c0_1, c0_2, c0_3])) = some y0_0_1 := hg0_0 1 (by omega)
  rw [show Try.prog.cellsOf 5 = 1 from by kernel_rfl] at g0_0_1
  replace g0_0_1 : DataW.trod enc Try.prog W 0 (fun _ => true) true m0_0 5 [c0_1] = some y0_0_1 := g0_0_1
  have g0_0_2 : DataW.trod enc Try.prog W 0 (fun _ => true) true m0_0 5 (List.take (Try.prog.cellsOf 5) (List.drop (2 * Try.prog.cellsOf 5) [c0_0, c0_1, c0_2, c0_3])) = some y0_0_2 := hg0_0 2 (by omega)
  rw [show Try.prog.cellsOf 5 = 1 from by kernel_rfl] at g0_0_2
  replace g0_0_2 : DataW.trod enc Try.prog W 0 (fun _ => true) true m0_0 5 [c0_2] = some y0_0_2 := g0_0_2
  have g0_0_3 : DataW.trod enc Try.prog W 0 (fun _ => true) true m0_0 5 (List.take (Try.prog.cellsOf 5) (List.drop (3 * Try.prog.cellsOf 5) [c0_0, c0_1, c0_2, c0_3])) = some y0_0_3 := hg0_0 3 (by omega)
  rw [show Try.prog.cellsOf 5 = 1 from by kernel_rfl] at g0_0_3
  replace g0_0_3 : DataW.trod enc Try.prog W 0 (fun _ => true) true m0_0 5 [c0_3] = some y0_0_3 := g0_0_3
  clear hg0_0
  obtain ⟨a0_0, e0_0, rfl, w0_0⟩ := DataW.trod_int Try.underlying5 g0_0_0
  simp at e0_0
  subst e0_0
  obtain ⟨a0_1, e0_1, rfl, w0_1⟩ := DataW.trod_int Try.underlying5 g0_0_1
  simp at e0_1
  subst e0_1
  obtain ⟨a0_2, e0_2, rfl, w0_2⟩ := DataW.trod_int Try.underlying5 g0_0_2
  simp at e0_2
  subst e0_2
  obtain ⟨a0_3, e0_3, rfl, w0_3⟩ := DataW.trod_int Try.underlying5 g0_0_3
  simp at e0_3
  subst e0_3
  obtain ⟨xs0_1, m0_1, -, hx0_1, -, hn0_1, hg0_1⟩ := DataW.trod_array Try.underlying22 g0_1
  obtain ⟨y0_1_0, y0_1_1, y0_1_2, y0_1_3, rfl⟩ := list4 xs0_1 hn0_1
  subst hx0_1
  have g0_1_0 : DataW.trod enc Try.prog W 0 (fun _ => true) true m0_1 5 (List.take (Try.prog.cellsOf 5) (List.drop (0 * Try.prog.cellsOf 5) [c0_4, c0_5, c0_6, c0_7])) = some y0_1_0 := hg0_1 0 (by omega)
  rw [show Try.prog.cellsOf 5 = 1 from by kernel_rfl] at g0_1_0
  replace g0_1_0 : DataW.trod enc Try.prog W 0 (fun _ => true) true m0_1 5 [c0_4] = some y0_1_0 := g0_1_0
  have g0_1_1 : DataW.trod enc Try.prog W 0 (fun _ => true) true m0_1 5 (List.take (Try.prog.cellsOf 5) (List.drop (1 * Try.prog.cellsOf 5) [c0_4, c0_5, c0_6, c0_7])) = some y0_1_1 := hg0_1 1 (by omega)
  rw [show Try.prog.cellsOf 5 = 1 from by kernel_rfl] at g0_1_1
  replace g0_1_1 : DataW.trod enc Try.prog W 0 (fun _ => true) true m0_1 5 [c0_5] = some y0_1_1 := g0_1_1
  have g0_1_2 : DataW.trod enc Try.prog W 0 (fun _ => true) true m0_1 5 (List.take (Try.prog.cellsOf 5) (List.drop (2 * Try.prog.cellsOf 5) [c0_4, c0_5, c0_6, c0_7])) = some y0_1_2 := hg0_1 2 (by omega)
  rw [show Try.prog.cellsOf 5 = 1 from by kernel_rfl] at g0_1_2
  replace g0_1_2 : DataW.trod enc Try.prog W 0 (fun _ => true) true m0_1 5 [c0_6] = some y0_1_2 := g0_1_2
  have g0_1_3 : DataW.trod enc Try.prog W 0 (fun _ => true) true m0_1 5 (List.take (Try.prog.cellsOf 5) (List.drop (3 * Try.prog.cellsOf 5) [c0_4, c0_5, c0_6, c0_7])) = some y0_1_3 := hg0_1 3 (by omega)
  rw [show Try.prog.cellsOf 5 = 1 from by kernel_rfl] at g0_1_3
  replace g0_1_3 : DataW.trod enc Try.prog W 0 (fun _ => true) true m0_1 5 [c0_7] = some y0_1_3 := g0_1_3
  clear hg0_1
  obtain ⟨a0_4, e0_4, rfl, w0_4⟩ := DataW.trod_int Try.underlying5 g0_1_0
  simp at e0_4
  subst e0_4
  obtain ⟨a0_5, e0_5, rfl, w0_5⟩ := DataW.trod_int Try.underlying5 g0_1_1
  simp at e0_5
  subst e0_5
  obtain ⟨a0_6, e0_6, rfl, w0_6⟩ := DataW.trod_int Try.underlying5 g0_1_2
  simp at e0_6
  subst e0_6
  obtain ⟨a0_7, e0_7, rfl, w0_7⟩ := DataW.trod_int Try.underlying5 g0_1_3
  simp at e0_7
  subst e0_7
  obtain ⟨xs0_2, m0_2, -, hx0_2, -, hn0_2, hg0_2⟩ := DataW.trod_array Try.underlying23 g0_2
  obtain ⟨y0_2_0, y0_2_1, y0_2_2, y0_2_3, y0_2_4, y0_2_5, y0_2_6, y0_2_7, y0_2_8, y0_2_9, y0_2_10, y0_2_11, y0_2_12, y0_2_13, y0_2_14, y0_2_15, rfl⟩ := list16 xs0_2 hn0_2
  subst hx0_2
  have g0_2_0 : DataW.trod enc Try.prog W 0 (fun _ => true) true m0_2 5 (List.take (Try.prog.cellsOf 5) (List.drop (0 * Try.prog.cellsOf 5) [c0_8, c0_9, c0_10, c0_11, c0_12, c0_13, c0_14, c0_15, c0_16, c0_17, c0_18, c0_19, c0_20, c0_21, c0_22, c0_23])) = some y0_2_0 := hg0_2 0 (by omega)
  rw [show Try.prog.cellsOf 5 = 1 from by kernel_rfl] at g0_2_0
  replace g0_2_0 : DataW.trod enc Try.prog W 0 (fun _ => true) true m0_2 5 [c0_8] = some y0_2_0 := g0_2_0
  have g0_2_1 : DataW.trod enc Try.prog W 0 (fun _ => true) true m0_2 5 (List.take (Try.prog.cellsOf 5) (List.drop (1 * Try.prog.cellsOf 5) [c0_8, c0_9, c0_10, c0_11, c0_12, c0_13, c0_14, c0_15, c0_16, c0_17, c0_18, c0_19, c0_20, c0_21, c0_22, c0_23])) = some y0_2_1 := hg0_2 1 (by omega)
  rw [show Try.prog.cellsOf 5 = 1 from by kernel_rfl] at g0_2_1
  replace g0_2_1 : DataW.trod enc Try.prog W 0 (fun _ => true) true m0_2 5 [c0_9] = some y0_2_1 := g0_2_1
  have g0_2_2 : DataW.trod enc Try.prog W 0 (fun _ => true) true m0_2 5 (List.take (Try.prog.cellsOf 5) (List.drop (2 * Try.prog.cellsOf 5) [c0_8, c0_9, c0_10, c0_11, c0_12, c0_13, c0_14, c0_15, c0_16, c0_17, c0_18, c0_19, c0_20, c0_21, c0_22, c0_23])) = some y0_2_2 := hg0_2 2 (by omega)
  rw [show Try.prog.cellsOf 5 = 1 from by kernel_rfl] at g0_2_2
  replace g0_2_2 : DataW.trod enc Try.prog W 0 (fun _ => true) true m0_2 5 [c0_10] = some y0_2_2 := g0_2_2
  have g0_2_3 : DataW.trod enc Try.prog W 0 (fun _ => true) true m0_2 5 (List.take (Try.prog.cellsOf 5) (List.drop (3 * Try.prog.cellsOf 5) [c0_8, c0_9, c0_10, c0_11, c0_12, c0_13, c0_14, c0_15, c0_16, c0_17, c0_18, c0_19, c0_20, c0_21, c0_22, c0_23])) = some y0_2_3 := hg0_2 3 (by omega)
  rw [show Try.prog.cellsOf 5 = 1 from by kernel_rfl] at g0_2_3
  replace g0_2_3 : DataW.trod enc Try.prog W 0 (fun _ => true) true m0_2 5 [c0_11] = some y0_2_3 := g0_2_3
  have g0_2_4 : DataW.trod enc Try.prog W 0 (fun _ => true) true m0_2 5 (List.take (Try.prog.cellsOf 5) (List.drop (4 * Try.prog.cellsOf 5) [c0_8, c0_9, c0_10, c0_11, c0_12, c0_13, c0_14, c0_15, c0_16, c0_17, c0_18, c0_19, c0_20, c0_21, c0_22, c0_23])) = some y0_2_4 := hg0_2 4 (by omega)
  rw [show Try.prog.cellsOf 5 = 1 from by kernel_rfl] at g0_2_4
  replace g0_2_4 : DataW.trod enc Try.prog W 0 (fun _ => true) true m0_2 5 [c0_12] = some y0_2_4 := g0_2_4
  have g0_2_5 : DataW.trod enc Try.prog W 0 (fun _ => true) true m0_2 5 (List.take (Try.prog.cellsOf 5) (List.drop (5 * Try.prog.cellsOf 5) [c0_8, c0_9, c0_10, c0_11, c0_12, c0_13, c0_14, c0_15, c0_16, c0_17, c0_18, c0_19, c0_20, c0_21, c0_22, c0_23])) = some y0_2_5 := hg0_2 5 (by omega)
  rw [show Try.prog.cellsOf 5 = 1 from by kernel_rfl] at g0_2_5
  replace g0_2_5 : DataW.trod enc Try.prog W 0 (fun _ => true) true m0_2 5 [c0_13] = some y0_2_5 := g0_2_5
  have g0_2_6 : DataW.trod enc Try.prog W 0 (fun _ => true) true m0_2 5 (List.take (Try.prog.cellsOf 5) (List.drop (6 * Try.prog.cellsOf 5) [c0_8, c0_9, c0_10, c0_11, c0_12, c0_13, c0_14, c0_15, c0_16, c0_17, c0_18, c0_19, c0_20, c0_21, c0_22, c0_23])) = some y0_2_6 := hg0_2 6 (by omega)
  rw [show Try.prog.cellsOf 5 = 1 from by kernel_rfl] at g0_2_6
  replace g0_2_6 : DataW.trod enc Try.prog W 0 (fun _ => true) true m0_2 5 [c0_14] = some y0_2_6 := g0_2_6
  have g0_2_7 : DataW.trod enc Try.prog W 0 (fun _ => true) true m0_2 5 (List.take (Try.prog.cellsOf 5) (List.drop (7 * Try.prog.cellsOf 5) [c0_8, c0_9, c0_10, c0_11, c0_12, c0_13, c0_14, c0_15, c0_16, c0_17, c0_18, c0_19, c0_20, c0_21, c0_22, c0_23])) = some y0_2_7 := hg0_2 7 (by omega)
  rw [show Try.prog.cellsOf 5 = 1 from by kernel_rfl] at g0_2_7
  replace g0_2_7 : DataW.trod enc Try.prog W 0 (fun _ => true) true m0_2 5 [c0_15] = some y0_2_7 := g0_2_7
  have g0_2_8 : DataW.trod enc Try.prog W 0 (fun _ => true) true m0_2 5 (List.take (Try.prog.cellsOf 5) (List.drop (8 * Try.prog.cellsOf 5) [c0_8, c0_9, c0_10, c0_11, c0_12, c0_13, c0_14, c0_15, c0_16, c0_17, c0_18, c0_19, c0_20, c0_21, c0_22, c0_23])) = some y0_2_8 := hg0_2 8 (by omega)
  rw [show Try.prog.cellsOf 5 = 1 from by kernel_rfl] at g0_2_8
  replace g0_2_8 : DataW.trod enc Try.prog W 0 (fun _ => true) true m0_2 5 [c0_16] = some y0_2_8 := g0_2_8
  have g0_2_9 : DataW.trod enc Try.prog W 0 (fun _ => true) true m0_2 5 (List.take (Try.prog.cellsOf 5) (List.drop (9 * Try.prog.cellsOf 5) [c0_8, c0_9, c0_10, c0_11, c0_12, c0_13, c0_14, c0_15, c0_16, c0_17, c0_18, c0_19, c0_20, c0_21, c0_22, c0_23])) = some y0_2_9 := hg0_2 9 (by omega)
  rw [show Try.prog.cellsOf 5 = 1 from by kernel_rfl] at g0_2_9
  replace g0_2_9 : DataW.trod enc Try.prog W 0 (fun _ => true) true m0_2 5 [c0_17] = some y0_2_9 := g0_2_9
  have g0_2_10 : DataW.trod enc Try.prog W 0 (fun _ => true) true m0_2 5 (List.take (Try.prog.cellsOf 5) (List.drop (10 * Try.prog.cellsOf 5) [c0_8, c0_9, c0_10, c0_11, c0_12, c0_13, c0_14, c0_15, c0_16, c0_17, c0_18, c0_19, c0_20, c0_21, c0_22, c0_23])) = some y0_2_10 := hg0_2 10 (by omega)
  rw [show Try.prog.cellsOf 5 = 1 from by kernel_rfl] at g0_2_10
  replace g0_2_10 : DataW.trod enc Try.prog W 0 (fun _ => true) true m0_2 5 [c0_18] = some y0_2_10 := g0_2_10
  have g0_2_11 : DataW.trod enc Try.prog W 0 (fun _ => true) true m0_2 5 (List.take (Try.prog.cellsOf 5) (List.drop (11 * Try.prog.cellsOf 5) [c0_8, c0_9, c0_10, c0_11, c0_12, c0_13, c0_14, c0_15, c0_16, c0_17, c0_18, c0_19, c0_20, c0_21, c0_22, c0_23])) = some y0_2_11 := hg0_2 11 (by omega)
  rw [show Try.prog.cellsOf 5 = 1 from by kernel_rfl] at g0_2_11
  replace g0_2_11 : DataW.trod enc Try.prog W 0 (fun _ => true) true m0_2 5 [c0_19] = some y0_2_11 := g0_2_11
  have g0_2_12 : DataW.trod enc Try.prog W 0 (fun _ => true) true m0_2 5 (List.take (Try.prog.cellsOf 5) (List.drop (12 * Try.prog.cellsOf 5) [c0_8, c0_9, c0_10, c0_11, c0_12, c0_13, c0_14, c0_15, c0_16, c0_17, c0_18, c0_19, c0_20, c0_21, c0_22, c0_23])) = some y0_2_12 := hg0_2 12 (by omega)
  rw [show Try.prog.cellsOf 5 = 1 from by kernel_rfl] at g0_2_12
  replace g0_2_12 : DataW.trod enc Try.prog W 0 (fun _ => true) true m0_2 5 [c0_20] = some y0_2_12 := g0_2_12
  have g0_2_13 : DataW.trod enc Try.prog W 0 (fun _ => true) true m0_2 5 (List.take (Try.prog.cellsOf 5) (List.drop (13 * Try.prog.cellsOf 5) [c0_8, c0_9, c0_10, c0_11, c0_12, c0_13, c0_14, c0_15, c0_16, c0_17, c0_18, c0_19, c0_20, c0_21, c0_22, c0_23])) = some y0_2_13 := hg0_2 13 (by omega)
  rw [show Try.prog.cellsOf 5 = 1 from by kernel_rfl] at g0_2_13
  replace g0_2_13 : DataW.trod enc Try.prog W 0 (fun _ => true) true m0_2 5 [c0_21] = some y0_2_13 := g0_2_13
  have g0_2_14 : DataW.trod enc Try.prog W 0 (fun _ => true) true m0_2 5 (List.take (Try.prog.cellsOf 5) (List.drop (14 * Try.prog.cellsOf 5) [c0_8, c0_9, c0_10, c0_11, c0_12, c0_13, c0_14, c0_15, c0_16, c0_17, c0_18, c0_19, c0_20, c0_21, c0_22, c0_23])) = some y0_2_14 := hg0_2 14 (by omega)
  rw [show Try.prog.cellsOf 5 = 1 from by kernel_rfl] at g0_2_14
  replace g0_2_14 : DataW.trod enc Try.prog W 0 (fun _ => true) true m0_2 5 [c0_22] = some y0_2_14 := g0_2_14
  have g0_2_15 : DataW.trod enc Try.prog W 0 (fun _ => true) true m0_2 5 (List.take (Try.prog.cellsOf 5) (List.drop (15 * Try.prog.cellsOf 5) [c0_8, c0_9, c0_10, c0_11, c0_12, c0_13, c0_14, c0_15, c0_16, c0_17, c0_18, c0_19, c0_20, c0_21, c0_22, c0_23])) = some y0_2_15 := hg0_2 15 (by omega)
  rw [show Try.prog.cellsOf 5 = 1 from by kernel_rfl] at g0_2_15
  replace g0_2_15 : DataW.trod enc Try.prog W 0 (fun _ => true) true m0_2 5 [c0_23] = some y0_2_15 := g0_2_15
  clear hg0_2
  obtain ⟨a0_8, e0_8, rfl, w0_8⟩ := DataW.trod_int Try.underlying5 g0_2_0
  simp at e0_8
  subst e0_8
  obtain ⟨a0_9, e0_9, rfl, w0_9⟩ := DataW.trod_int Try.underlying5 g0_2_1
  simp at e0_9
  subst e0_9
  obtain ⟨a0_10, e0_10, rfl, w0_10⟩ := DataW.trod_int Try.underlying5 g0_2_2
  simp at e0_10
  subst e0_10
  obtain ⟨a0_11, e0_11, rfl, w0_11⟩ := DataW.trod_int Try.underlying5 g0_2_3
  simp at e0_11
  subst e0_11
  obtain ⟨a0_12, e0_12, rfl, w0_12⟩ := DataW.trod_int Try.underlying5 g0_2_4
  simp at e0_12
  subst e0_12
  obtain ⟨a0_13, e0_13, rfl, w0_13⟩ := DataW.trod_int Try.underlying5 g0_2_5
  simp at e0_13
  subst e0_13
  obtain ⟨a0_14, e0_14, rfl, w0_14⟩ := DataW.trod_int Try.underlying5 g0_2_6
  simp at e0_14
  subst e0_14
  obtain ⟨a0_15, e0_15, rfl, w0_15⟩ := DataW.trod_int Try.underlying5 g0_2_7
  simp at e0_15
  subst e0_15
  obtain ⟨a0_16, e0_16, rfl, w0_16⟩ := DataW.trod_int Try.underlying5 g0_2_8
  simp at e0_16
  subst e0_16
  obtain ⟨a0_17, e0_17, rfl, w0_17⟩ := DataW.trod_int Try.underlying5 g0_2_9
  simp at e0_17
  subst e0_17
  obtain ⟨a0_18, e0_18, rfl, w0_18⟩ := DataW.trod_int Try.underlying5 g0_2_10
  simp at e0_18
  subst e0_18
  obtain ⟨a0_19, e0_19, rfl, w0_19⟩ := DataW.trod_int Try.underlying5 g0_2_11
  simp at e0_19
  subst e0_19
  obtain ⟨a0_20, e0_20, rfl, w0_20⟩ := DataW.trod_int Try.underlying5 g0_2_12
  simp at e0_20
  subst e0_20
  obtain ⟨a0_21, e0_21, rfl, w0_21⟩ := DataW.trod_int Try.underlying5 g0_2_13
  simp at e0_21
  subst e0_21
  obtain ⟨a0_22, e0_22, rfl, w0_22⟩ := DataW.trod_int Try.underlying5 g0_2_14
  simp at e0_22
  subst e0_22
  obtain ⟨a0_23, e0_23, rfl, w0_23⟩ := DataW.trod_int Try.underlying5 g0_2_15
  simp at e0_23
  subst e0_23
  obtain ⟨xs0_3, m0_3, -, hx0_3, -, hn0_3, hg0_3⟩ := DataW.trod_array Try.underlying23 g0_3
  obtain ⟨y0_3_0, y0_3_1, y0_3_2, y0_3_3, y0_3_4, y0_3_5, y0_3_6, y0_3_7, y0_3_8, y0_3_9, y0_3_10, y0_3_11, y0_3_12, y0_3_13, y0_3_14, y0_3_15, rfl⟩ := list16 xs0_3 hn0_3
  subst hx0_3
  have g0_3_0 : DataW.trod enc Try.prog W 0 (fun _ => true) true m0_3 5 (List.take (Try.prog.cellsOf 5) (List.drop (0 * Try.prog.cellsOf 5) [c0_24, c0_25, c0_26, c0_27, c0_28, c0_29, c0_30, c0_31, c0_32, c0_33, c0_34, c0_35, c0_36, c0_37, c0_38, c0_39])) = some y0_3_0 := hg0_3 0 (by omega)
  rw [show Try.prog.cellsOf 5 = 1 from by kernel_rfl] at g0_3_0
  replace g0_3_0 : DataW.trod enc Try.prog W 0 (fun _ => true) true m0_3 5 [c0_24] = some y0_3_0 := g0_3_0
  have g0_3_1 : DataW.trod enc Try.prog W 0 (fun _ => true) true m0_3 5 (List.take (Try.prog.cellsOf 5) (List.drop (1 * Try.prog.cellsOf 5) [c0_24, c0_25, c0_26, c0_27, c0_28, c0_29, c0_30, c0_31, c0_32, c0_33, c0_34, c0_35, c0_36, c0_37, c0_38, c0_39])) = some y0_3_1 := hg0_3 1 (by omega)
  rw [show Try.prog.cellsOf 5 = 1 from by kernel_rfl] at g0_3_1
  replace g0_3_1 : DataW.trod enc Try.prog W 0 (fun _ => true) true m0_3 5 [c0_25] = some y0_3_1 := g0_3_1
  have g0_3_2 : DataW.trod enc Try.prog W 0 (fun _ => true) true m0_3 5 (List.take (Try.prog.cellsOf 5) (List.drop (2 * Try.prog.cellsOf 5) [c0_24, c0_25, c0_26, c0_27, c0_28, c0_29, c0_30, c0_31, c0_32, c0_33, c0_34, c0_35, c0_36, c0_37, c0_38, c0_39])) = some y0_3_2 := hg0_3 2 (by omega)
  rw [show Try.prog.cellsOf 5 = 1 from by kernel_rfl] at g0_3_2
  replace g0_3_2 : DataW.trod enc Try.prog W 0 (fun _ => true) true m0_3 5 [c0_26] = some y0_3_2 := g0_3_2
  have g0_3_3 : DataW.trod enc Try.prog W 0 (fun _ => true) true m0_3 5 (List.take (Try.prog.cellsOf 5) (List.drop (3 * Try.prog.cellsOf 5) [c0_24, c0_25, c0_26, c0_27, c0_28, c0_29, c0_30, c0_31, c0_32, c0_33, c0_34, c0_35, c0_36, c0_37, c0_38, c0_39])) = some y0_3_3 := hg0_3 3 (by omega)
  rw [show Try.prog.cellsOf 5 = 1 from by kernel_rfl] at g0_3_3
  replace g0_3_3 : DataW.trod enc Try.prog W 0 (fun _ => true) true m0_3 5 [c0_27] = some y0_3_3 := g0_3_3
  have g0_3_4 : DataW.trod enc Try.prog W 0 (fun _ => true) true m0_3 5 (List.take (Try.prog.cellsOf 5) (List.drop (4 * Try.prog.cellsOf 5) [c0_24, c0_25, c0_26, c0_27, c0_28, c0_29, c0_30, c0_31, c0_32, c0_33, c0_34, c0_35, c0_36, c0_37, c0_38, c0_39])) = some y0_3_4 := hg0_3 4 (by omega)
  rw [show Try.prog.cellsOf 5 = 1 from by kernel_rfl] at g0_3_4
  replace g0_3_4 : DataW.trod enc Try.prog W 0 (fun _ => true) true m0_3 5 [c0_28] = some y0_3_4 := g0_3_4
  have g0_3_5 : DataW.trod enc Try.prog W 0 (fun _ => true) true m0_3 5 (List.take (Try.prog.cellsOf 5) (List.drop (5 * Try.prog.cellsOf 5) [c0_24, c0_25, c0_26, c0_27, c0_28, c0_29, c0_30, c0_31, c0_32, c0_33, c0_34, c0_35, c0_36, c0_37, c0_38, c0_39])) = some y0_3_5 := hg0_3 5 (by omega)
  rw [show Try.prog.cellsOf 5 = 1 from by kernel_rfl] at g0_3_5
  replace g0_3_5 : DataW.trod enc Try.prog W 0 (fun _ => true) true m0_3 5 [c0_29] = some y0_3_5 := g0_3_5
  have g0_3_6 : DataW.trod enc Try.prog W 0 (fun _ => true) true m0_3 5 (List.take (Try.prog.cellsOf 5) (List.drop (6 * Try.prog.cellsOf 5) [c0_24, c0_25, c0_26, c0_27, c0_28, c0_29, c0_30, c0_31, c0_32, c0_33, c0_34, c0_35, c0_36, c0_37, c0_38, c0_39])) = some y0_3_6 := hg0_3 6 (by omega)
  rw [show Try.prog.cellsOf 5 = 1 from by kernel_rfl] at g0_3_6
  replace g0_3_6 : DataW.trod enc Try.prog W 0 (fun _ => true) true m0_3 5 [c0_30] = some y0_3_6 := g0_3_6
  have g0_3_7 : DataW.trod enc Try.prog W 0 (fun _ => true) true m0_3 5 (List.take (Try.prog.cellsOf 5) (List.drop (7 * Try.prog.cellsOf 5) [c0_24, c0_25, c0_26, c0_27, c0_28, c0_29, c0_30, c0_31, c0_32, c0_33, c0_34, c0_35, c0_36, c0_37, c0_38, c0_39])) = some y0_3_7 := hg0_3 7 (by omega)
  rw [show Try.prog.cellsOf 5 = 1 from by kernel_rfl] at g0_3_7
  replace g0_3_7 : DataW.trod enc Try.prog W 0 (fun _ => true) true m0_3 5 [c0_31] = some y0_3_7 := g0_3_7
  have g0_3_8 : DataW.trod enc Try.prog W 0 (fun _ => true) true m0_3 5 (List.take (Try.prog.cellsOf 5) (List.drop (8 * Try.prog.cellsOf 5) [c0_24, c0_25, c0_26, c0_27, c0_28, c0_29, c0_30, c0_31, c0_32, c0_33, c0_34, c0_35, c0_36, c0_37, c0_38, c0_39])) = some y0_3_8 := hg0_3 8 (by omega)
  rw [show Try.prog.cellsOf 5 = 1 from by kernel_rfl] at g0_3_8
  replace g0_3_8 : DataW.trod enc Try.prog W 0 (fun _ => true) true m0_3 5 [c0_32] = some y0_3_8 := g0_3_8
  have g0_3_9 : DataW.trod enc Try.prog W 0 (fun _ => true) true m0_3 5 (List.take (Try.prog.cellsOf 5) (List.drop (9 * Try.prog.cellsOf 5) [c0_24, c0_25, c0_26, c0_27, c0_28, c0_29, c0_30, c0_31, c0_32, c0_33, c0_34, c0_35, c0_36, c0_37, c0_38, c0_39])) = some y0_3_9 := hg0_3 9 (by omega)
  rw [show Try.prog.cellsOf 5 = 1 from by kernel_rfl] at g0_3_9
  replace g0_3_9 : DataW.trod enc Try.prog W 0 (fun _ => true) true m0_3 5 [c0_33] = some y0_3_9 := g0_3_9
  have g0_3_10 : DataW.trod enc Try.prog W 0 (fun _ => true) true m0_3 5 (List.take (Try.prog.cellsOf 5) (List.drop (10 * Try.prog.cellsOf 5) [c0_24, c0_25, c0_26, c0_27, c0_28, c0_29, c0_30, c0_31, c0_32, c0_33, c0_34, c0_35, c0_36, c0_37, c0_38, c0_39])) = some y0_3_10 := hg0_3 10 (by omega)
  rw [show Try.prog.cellsOf 5 = 1 from by kernel_rfl] at g0_3_10
  replace g0_3_10 : DataW.trod enc Try.prog W 0 (fun _ => true) true m0_3 5 [c0_34] = some y0_3_10 := g0_3_10
  have g0_3_11 : DataW.trod enc Try.prog W 0 (fun _ => true) true m0_3 5 (List.take (Try.prog.cellsOf 5) (List.drop (11 * Try.prog.cellsOf 5) [c0_24, c0_25, c0_26, c0_27, c0_28, c0_29, c0_30, c0_31, c0_32, c0_33, c0_34, c0_35, c0_36, c0_37, c0_38, c0_39])) = some y0_3_11 := hg0_3 11 (by omega)
  rw [show Try.prog.cellsOf 5 = 1 from by kernel_rfl] at g0_3_11
  replace g0_3_11 : DataW.trod enc Try.prog W 0 (fun _ => true) true m0_3 5 [c0_35] = some y0_3_11 := g0_3_11
  have g0_3_12 : DataW.trod enc Try.prog W 0 (fun _ => true) true m0_3 5 (List.take (Try.prog.cellsOf 5) (List.drop (12 * Try.prog.cellsOf 5) [c0_24, c0_25, c0_26, c0_27, c0_28, c0_29, c0_30, c0_31, c0_32, c0_33, c0_34, c0_35, c0_36, c0_37, c0_38, c0_39])) = some y0_3_12 := hg0_3 12 (by omega)
  rw [show Try.prog.cellsOf 5 = 1 from by kernel_rfl] at g0_3_12
  replace g0_3_12 : DataW.trod enc Try.prog W 0 (fun _ => true) true m0_3 5 [c0_36] = some y0_3_12 := g0_3_12
  have g0_3_13 : DataW.trod enc Try.prog W 0 (fun _ => true) true m0_3 5 (List.take (Try.prog.cellsOf 5) (List.drop (13 * Try.prog.cellsOf 5) [c0_24, c0_25, c0_26, c0_27, c0_28, c0_29, c0_30, c0_31, c0_32, c0_33, c0_34, c0_35, c0_36, c0_37, c0_38, c0_39])) = some y0_3_13 := hg0_3 13 (by omega)
  rw [show Try.prog.cellsOf 5 = 1 from by kernel_rfl] at g0_3_13
  replace g0_3_13 : DataW.trod enc Try.prog W 0 (fun _ => true) true m0_3 5 [c0_37] = some y0_3_13 := g0_3_13
  have g0_3_14 : DataW.trod enc Try.prog W 0 (fun _ => true) true m0_3 5 (List.take (Try.prog.cellsOf 5) (List.drop (14 * Try.prog.cellsOf 5) [c0_24, c0_25, c0_26, c0_27, c0_28, c0_29, c0_30, c0_31, c0_32, c0_33, c0_34, c0_35, c0_36, c0_37, c0_38, c0_39])) = some y0_3_14 := hg0_3 14 (by omega)
  rw [show Try.prog.cellsOf 5 = 1 from by kernel_rfl] at g0_3_14
  replace g0_3_14 : DataW.trod enc Try.prog W 0 (fun _ => true) true m0_3 5 [c0_38] = some y0_3_14 := g0_3_14
  have g0_3_15 : DataW.trod enc Try.prog W 0 (fun _ => true) true m0_3 5 (List.take (Try.prog.cellsOf 5) (List.drop (15 * Try.prog.cellsOf 5) [c0_24, c0_25, c0_26, c0_27, c0_28, c0_29, c0_30, c0_31, c0_32, c0_33, c0_34, c0_35, c0_36, c0_37, c0_38, c0_39])) = some y0_3_15 := hg0_3 15 (by omega)
  rw [show Try.prog.cellsOf 5 = 1 from by kernel_rfl] at g0_3_15
  replace g0_3_15 : DataW.trod enc Try.prog W 0 (fun _ => true) true m0_3 5 [c0_39] = some y0_3_15 := g0_3_15
  clear hg0_3
  obtain ⟨a0_24, e0_24, rfl, w0_24⟩ := DataW.trod_int Try.underlying5 g0_3_0
  simp at e0_24
  subst e0_24
  obtain ⟨a0_25, e0_25, rfl, w0_25⟩ := DataW.trod_int Try.underlying5 g0_3_1
  simp at e0_25
  subst e0_25
  obtain ⟨a0_26, e0_26, rfl, w0_26⟩ := DataW.trod_int Try.underlying5 g0_3_2
  simp at e0_26
  subst e0_26
  obtain ⟨a0_27, e0_27, rfl, w0_27⟩ := DataW.trod_int Try.underlying5 g0_3_3
  simp at e0_27
  subst e0_27
  obtain ⟨a0_28, e0_28, rfl, w0_28⟩ := DataW.trod_int Try.underlying5 g0_3_4
  simp at e0_28
  subst e0_28
  obtain ⟨a0_29, e0_29, rfl, w0_29⟩ := DataW.trod_int Try.underlying5 g0_3_5
  simp at e0_29
  subst e0_29
  obtain ⟨a0_30, e0_30, rfl, w0_30⟩ := DataW.trod_int Try.underlying5 g0_3_6
  simp at e0_30
  subst e0_30
  obtain ⟨a0_31, e0_31, rfl, w0_31⟩ := DataW.trod_int Try.underlying5 g0_3_7
  simp at e0_31
  subst e0_31
  obtain ⟨a0_32, e0_32, rfl, w0_32⟩ := DataW.trod_int Try.underlying5 g0_3_8
  simp at e0_32
  subst e0_32
  obtain ⟨a0_33, e0_33, rfl, w0_33⟩ := DataW.trod_int Try.underlying5 g0_3_9
  simp at e0_33
  subst e0_33
  obtain ⟨a0_34, e0_34, rfl, w0_34⟩ := DataW.trod_int Try.underlying5 g0_3_10
  simp at e0_34
  subst e0_34
  obtain ⟨a0_35, e0_35, rfl, w0_35⟩ := DataW.trod_int Try.underlying5 g0_3_11
  simp at e0_35
  subst e0_35
  obtain ⟨a0_36, e0_36, rfl, w0_36⟩ := DataW.trod_int Try.underlying5 g0_3_12
  simp at e0_36
  subst e0_36
  obtain ⟨a0_37, e0_37, rfl, w0_37⟩ := DataW.trod_int Try.underlying5 g0_3_13
  simp at e0_37
  subst e0_37
  obtain ⟨a0_38, e0_38, rfl, w0_38⟩ := DataW.trod_int Try.underlying5 g0_3_14
  simp at e0_38
  subst e0_38
  obtain ⟨a0_39, e0_39, rfl, w0_39⟩ := DataW.trod_int Try.underlying5 g0_3_15
  simp at e0_39
  subst e0_39
  have ba0_0 := bounds_u8 w0_0
  have ba0_1 := bounds_u8 w0_1
  have ba0_2 := bounds_u8 w0_2
  have ba0_3 := bounds_u8 w0_3
  have ba0_4 := bounds_u8 w0_4
  have ba0_5 := bounds_u8 w0_5
  have ba0_6 := bounds_u8 w0_6
  have ba0_7 := bounds_u8 w0_7
  have ba0_8 := bounds_u8 w0_8
  have ba0_9 := bounds_u8 w0_9
  have ba0_10 := bounds_u8 w0_10
  have ba0_11 := bounds_u8 w0_11
  have ba0_12 := bounds_u8 w0_12
  have ba0_13 := bounds_u8 w0_13
  have ba0_14 := bounds_u8 w0_14
  have ba0_15 := bounds_u8 w0_15
  have ba0_16 := bounds_u8 w0_16
  have ba0_17 := bounds_u8 w0_17
  have ba0_18 := bounds_u8 w0_18
  have ba0_19 := bounds_u8 w0_19
  have ba0_20 := bounds_u8 w0_20
  have ba0_21 := bounds_u8 w0_21
  have ba0_22 := bounds_u8 w0_22
  have ba0_23 := bounds_u8 w0_23
  have ba0_24 := bounds_u8 w0_24
  have ba0_25 := bounds_u8 w0_25
  have ba0_26 := bounds_u8 w0_26
  have ba0_27 := bounds_u8 w0_27
  have ba0_28 := bounds_u8 w0_28
  have ba0_29 := bounds_u8 w0_29
  have ba0_30 := bounds_u8 w0_30
  have ba0_31 := bounds_u8 w0_31
  have ba0_32 := bounds_u8 w0_32
  have ba0_33 := bounds_u8 w0_33
  have ba0_34 := bounds_u8 w0_34
  have ba0_35 := bounds_u8 w0_35
  have ba0_36 := bounds_u8 w0_36
  have ba0_37 := bounds_u8 w0_37
  have ba0_38 := bounds_u8 w0_38
  have ba0_39 := bounds_u8 w0_39
  clear hA0 hval0
  refine (walk a0_0 a0_1 a0_2 a0_3 a0_4 a0_5 a0_6 a0_7 a0_8 a0_9 a0_10 a0_11 a0_12 a0_13 a0_14 a0_15 a0_16 a0_17 a0_18 a0_19 a0_20 a0_21 a0_22 a0_23 a0_24 a0_25 a0_26 a0_27 a0_28 a0_29 a0_30 a0_31 a0_32 a0_33 a0_34 a0_35 a0_36 a0_37 a0_38 a0_39 W ba0_0.1 ba0_0.2 ba0_1.1 ba0_1.2 ba0_2.1 ba0_2.2 ba0_3.1 ba0_3.2 ba0_4.1 ba0_4.2 ba0_5.1 ba0_5.2 ba0_6.1 ba0_6.2 ba0_7.1 ba0_7.2 ba0_8.1 ba0_8.2 ba0_9.1 ba0_9.2 ba0_10.1 ba0_10.2 ba0_11.1 ba0_11.2 ba0_12.1 ba0_12.2 ba0_13.1 ba0_13.2 ba0_14.1 ba0_14.2 ba0_15.1 ba0_15.2 ba0_16.1 ba0_16.2 ba0_17.1 ba0_17.2 ba0_18.1 ba0_18.2 ba0_19.1 ba0_19.2 ba0_20.1 ba0_20.2 ba0_21.1 ba0_21.2 ba0_22.1 ba0_22.2 ba0_23.1 ba0_23.2 ba0_24.1 ba0_24.2 ba0_25.1 ba0_25.2 ba0_26.1 ba0_26.2 ba0_27.1 ba0_27.2 ba0_28.1 ba0_28.2 ba0_29.1 ba0_29.2 ba0_30.1 ba0_30.2 ba0_31.1 ba0_31.2 ba0_32.1 ba0_32.2 ba0_33.1 ba0_33.2 ba0_34.1 ba0_34.2 ba0_35.1 ba0_35.2 ba0_36.1 ba0_36.2 ba0_37.1 ba0_37.2 ba0_38.1 ba0_38.2 ba0_39.1 ba0_39.2).mono fun e W' ⟨he, bel⟩ => ?_
  subst he
  exact ⟨_, rfl, _, _, _, [], _, [], hW', trodAll_mk1 (shut_bool Try.underlying4 _), (trodAll_cons_mk (Below.trod laidOut (by kernel_rfl) (of_decide_eq_true (by kernel_rfl)) k0 bel lt0) trodAll_mk0), rfl, bel.frame _, fun h => by cases h⟩

theorem over : Rows.etherAlikeRow.holds Try.pinned (OpenSpec.ofChange Rows.etherAlikeSpec) :=
  OpenClaim.holds_of_wide 3 Try.f3 rfl rfl rfl rfl rfl rfl rfl ⟨rfl, rfl, rfl, rfl, rfl⟩ rfl rfl rfl rfl rfl (by kernel_rfl) Try.func3 (by kernel_rfl)
    (of_decide_eq_true (by kernel_rfl)) (by unfold Func.isWrapper; first | (rw [if_pos (by decide +kernel)]; kernel_rfl) | (rw [if_neg (by decide +kernel)]; exact ⟨rfl, rfl⟩))
    (fun os started H enc _ => lifted os started H enc)

/-- The statement. -/
theorem proved : Rows.EtherAlikeSaid := over
#print axioms proved
end Go.Proofs.Ytolgakgimcbkpaa.etherAlikeLaw
