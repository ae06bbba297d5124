/-
  'siphonlaw04.Ipv4Free' returns true, whatever the input, and each argument reads behind the call as it read before. Conditions: none beyond those that the row itself states.
-/
import Derived.Test.YtolgakgimcbkpaaRows
import Derived.Test.YtolgakgimcbkpaaBytesN
import Derived.Test.YtolgakgimcbkpaaLive4
import Derived.Test.YtolgakgimcbkpaaV4Math
import Derived.Test.YtolgakgimcbkpaaRFill
import Derived.WalkKit
import Derived.ProofKit
import Derived.OpenShut
import Derived.ShutString
import Derived.ChangeOld
import Derived.Below
import Derived.Carry
import Derived.SizedLaws
import Derived.Lib.SmallJoins
import Derived.ChangeArms
import Derived.WideShapes
namespace Go.Proofs.Ytolgakgimcbkpaa.ipv4FreeLaw
open Go.ChangeShapes Go.WideShapes Go.ChangeAt Go.RowKit Go.Joins
open Go.ChangeMaps (open_string shut_string)
set_option linter.unusedVariables false

theorem list7 {α : Type} (l : List α) (h : l.length = 7) : ∃ x0 x1 x2 x3 x4 x5 x6 : α, l = [x0, x1, x2, x3, x4, x5, x6] := by
  match l, h with
  | [x0, x1, x2, x3, x4, x5, x6], _ => exact ⟨x0, x1, x2, x3, x4, x5, x6, rfl⟩

/-- The head with another second byte, its sum not yet mended. -/
def headY (S : ByteArray) (n : Nat) (y : UInt8) : ByteArray := S.extract 0 1 ++ ⟨#[y]⟩ ++ S.extract 2 n

theorem free_v (i t p : Int) (s d o x : ByteArray) (y : UInt8) (h : VOk i t p s d o x) :
    (headY (encVB i t p s d o x) (20 + o.size) y).size = 20 + o.size ∧ (filled ⟨#[]⟩ (headY (encVB i t p s d o x) (20 + o.size) y) 10).size = 20 + o.size ∧
    (encVB i t p s d o x).extract (20 + o.size) (encVB i t p s d o x).size = x ∧
    decV (filled ⟨#[]⟩ (headY (encVB i t p s d o x) (20 + o.size) y) 10 ++ x) = (⟨i, t, p, s, d, o, x⟩, 0) := by
  have hz := headL_len i t p s d o x h
  have hl : (⟨(headL i t p s d o x).toArray⟩ : ByteArray).data.toList = tenB i t p o x 0 ++ [0, 0] ++ (s.data.toList ++ d.data.toList ++ o.data.toList) := by
    show headL i t p s d o x = _
    simp [headL, tenB]
  obtain ⟨q, hq⟩ := filled_ten _ _ _ (tenB_len i t p o x 0) rfl _ hl
  have zE := encVB_size i t p s d o x h
  have lS : (encVB i t p s d o x).data.toList = (filled ⟨#[]⟩ ⟨(headL i t p s d o x).toArray⟩ 10).data.toList ++ x.data.toList := by
    unfold encVB; simp [ByteArray.data_append]
  rw [hq] at lS
  have h2 := h
  unfold VOk at h2
  obtain ⟨i0, i1, t0, t1, p0, p1, zs, zd, zo, zo4, zx⟩ := h2
  have ls := vlen s
  have ld := vlen d
  have lo := vlen o
  have lx := vlen x
  obtain ⟨S, hS⟩ : ∃ S, S = encVB i t p s d o x := ⟨_, rfl⟩
  rw [← hS] at lS zE ⊢
  obtain ⟨R, hR⟩ : ∃ R, R = bytesOf (20 + o.size + x.size) 2 ++ bytesOf i.toNat 2 ++ [0, 0] ++ bytesOf t.toNat 1 ++ bytesOf p.toNat 1 ++ bytesOf q 2 ++ (s.data.toList ++ d.data.toList ++ o.data.toList) := ⟨_, rfl⟩
  have lR : R.length = 18 + o.size := by
    rw [hR]; simp only [List.length_append, bytesOf_length, List.length_cons, List.length_nil, ls, ld, lo, zs, zd]; omega
  have eS : S.data.toList = bytesOf (64 + (20 + o.size) / 4) 1 ++ [0] ++ R ++ x.data.toList := by rw [lS, hR]; simp [tenB]
  have x1 : S.extract 0 1 = ⟨(bytesOf (64 + (20 + o.size) / 4) 1).toArray⟩ := ext_mid S [] _ ([0] ++ R ++ x.data.toList) 0 1 (by rw [eS]; simp) rfl (by rw [bytesOf_length])
  have x2 : S.extract 2 (20 + o.size) = ⟨R.toArray⟩ := ext_mid S (bytesOf (64 + (20 + o.size) / 4) 1 ++ [0]) R x.data.toList 2 (20 + o.size) (by rw [eS]) (by simp [bytesOf_length]) (by omega)
  have x3 : S.extract (20 + o.size) S.size = x := by
    rw [ext_mid S (bytesOf (64 + (20 + o.size) / 4) 1 ++ [0] ++ R) x.data.toList [] (20 + o.size) S.size (by rw [eS]; simp) (by rw [List.length_append, List.length_append, bytesOf_length, lR]; simp; omega) (by omega), mk_of]
  have lG : (headY S (20 + o.size) y).data.toList = tenB i t p o x y ++ bytesOf q 2 ++ (s.data.toList ++ d.data.toList ++ o.data.toList) := by
    unfold headY
    rw [x1, x2, hR]
    simp [ByteArray.data_append, tenB]
  have zG : (headY S (20 + o.size) y).size = 20 + o.size := by
    rw [← vlen, lG]; simp only [List.length_append, tenB_len, bytesOf_length, ls, ld, lo, zs, zd]; omega
  obtain ⟨q', hq'⟩ := filled_ten _ _ _ (tenB_len i t p o x y) (bytesOf_length q 2) _ lG
  have zF : (filled ⟨#[]⟩ (headY S (20 + o.size) y) 10).size = 20 + o.size := by rw [filled_size _ _ _ (by omega), zG]
  refine ⟨zG, zF, x3, ?_⟩
  have := dec_of i t p s d o x ⟨#[]⟩ (filled ⟨#[]⟩ (headY S (20 + o.size) y) 10) y (bytesOf q' 2) h (bytesOf_length _ _) (by rw [hq']; simp) (filled_zero _ (by omega))
  rw [show filled ⟨#[]⟩ (headY S (20 + o.size) y) 10 ++ x ++ (⟨#[]⟩ : ByteArray) = filled ⟨#[]⟩ (headY S (20 + o.size) y) 10 ++ x from by apply ByteArray.ext; simp [ByteArray.data_append]] at this
  exact this

theorem conv_one (y : UInt8) (V : World) (B : Nat) (h : V.cell? ⟨B, 0, none⟩ = some (.int .u8 (y.toNat : Int))) :
    (convert 31 9 (.slice (some ⟨B, 0, none⟩) 1 1)).run Try.prog V = .ok (.string ⟨#[y]⟩) V :=
  run_convert_bytes_back V 31 9 5 _ 1 [y] Try.underlying31 Try.underlying5 Try.underlying9 fun j hj => by
    obtain rfl : j = 0 := by simpa using hj
    exact h

set_option maxHeartbeats 1000000 in
set_option maxRecDepth 100000 in
theorem walk_no (a0_0 a0_1 a0_2 : Int) (a0_3 a0_4 a0_5 a0_6 : ByteArray) (a1 : Int) (w : World)
    (H1 : Hid (∀ U, Calls Try.prog 8 #[.agg #[.int .i64 a0_0, .int .i64 a0_1, .int .i64 a0_2, .string a0_3, .string a0_4, .string a0_5, .string a0_6]] U fun e w' => e = .returned (.tuple #[.string ⟨#[]⟩, .int .i64 1]) ∧ Below U.heap.size U w')) :
    Calls Try.prog 5 #[.agg #[.int .i64 a0_0, .int .i64 a0_1, .int .i64 a0_2, .string a0_3, .string a0_4, .string a0_5, .string a0_6], .int .u8 a1] w fun e w' => e = .returned (.bool true) ∧ Below w.heap.size w w' := by
  go_enter Try.func5, Try.ntmps5
  go_wp2_with fail
  refine (H1.out _).mono ?_
  rintro e w1 ⟨rfl, h1⟩
  go_wp2_with fail
  refine (live4_c _).mono ?_
  rintro e w3 ⟨rfl, h3⟩
  go_wp2_with fail
  go_ret
  exact ⟨rfl, below_then (vboxed h1) h3⟩

set_option maxHeartbeats 2000000 in
set_option maxRecDepth 100000 in
theorem walk_yes (a0_0 a0_1 a0_2 : Int) (a0_3 a0_4 a0_5 a0_6 : ByteArray) (y : UInt8) (S F : ByteArray) (w : World)
    (n : Nat) (hn : (20 : Int) + (a0_5.size : Int) = (n : Int)) (n20 : 20 ≤ n) (n60 : n ≤ 60) (zS : n ≤ S.size) (zS2 : S.size ≤ 65535) (zF : F.size ≤ 60) (zX : (S.extract n S.size).size ≤ 65535)
    (H1 : Hid (∀ U, Calls Try.prog 8 #[.agg #[.int .i64 a0_0, .int .i64 a0_1, .int .i64 a0_2, .string a0_3, .string a0_4, .string a0_5, .string a0_6]] U fun e w' => e = .returned (.tuple #[.string S, .int .i64 0]) ∧ Below U.heap.size U w'))
    (H2 : Hid (∀ U, Calls Try.prog 11 #[.string ⟨#[]⟩, .string (S.extract 0 1 ++ ⟨#[y]⟩ ++ S.extract 2 n), .int .i64 10] U fun e w' => e = .returned (.tuple #[.string F, .int .i64 0]) ∧ Below U.heap.size U w'))
    (H3 : Hid (∀ U, Calls Try.prog 10 #[.string (F ++ S.extract n S.size)] U fun e w' => e = .returned (.tuple #[.agg #[.int .i64 a0_0, .int .i64 a0_1, .int .i64 a0_2, .string a0_3, .string a0_4, .string a0_5, .string a0_6], .int .i64 0]) ∧ Below U.heap.size U w')) :
    Calls Try.prog 5 #[.agg #[.int .i64 a0_0, .int .i64 a0_1, .int .i64 a0_2, .string a0_3, .string a0_4, .string a0_5, .string a0_6], .int .u8 (y.toNat : Int)] w fun e w' => e = .returned (.bool true) ∧ Below w.heap.size w w' := by
  have q1 : (20 : Int) ≤ (S.size : Int) := by omega
  have q2 : (n : Int) ≤ (S.size : Int) := by omega
  have q3 : (2 : Int) ≤ (n : Int) := by omega
  have q4 : (1 : Int) ≤ (S.size : Int) := by omega
  have e1 : (S.extract 0 1).size = 1 := by simp; omega
  have e2 : (S.extract 2 n).size = n - 2 := by simp; omega
  have hcv := conv_one y
  go_enter Try.func5, Try.ntmps5
  go_wp2_with fail
  refine (H1.out _).mono ?_
  rintro e w1 ⟨rfl, h1⟩
  obtain ⟨hc1, hf1⟩ := below_cells h1
  have g1 : w.heap.size < w1.heap.size := by have := h1.size; simp at this; omega
  go_upto_region 5 with fail
  go_cut [8, 9] (fun s8 s9 wx => s8 = .string F ∧ s9 = .int .i64 0 ∧ Below w1.heap.size w1 wx)
  case first =>
    go_region_with (go_at_call 11; refine (H2.out _).mono ?_; rintro e w2 ⟨rfl, h2⟩)
    all_goals
      go_wp2_with fail
      go_meet
      refine ⟨rfl, rfl, ?_⟩
      first
        | exact ((Below.refl _ w1).alloc (Nat.le_refl _) _).trans (h2.mono (by simp))
        | exact ((Below.refl _ w1).alloc (Nat.le_refl _) _).drew.trans (h2.mono (by simp))
        | exact ((Below.refl _ w1).alloc (Nat.le_refl _) _).drew.drew.trans (h2.mono (by simp))
  case rest =>
  obtain ⟨rfl, rfl, h2⟩ := hcut
  obtain ⟨hc2, hf2⟩ := below_cells h2
  have g2 : w.heap.size < wc.heap.size := by have := h2.size; omega
  go_wp2_with fail
  refine (H3.out _).mono ?_
  rintro e w3 ⟨rfl, h3⟩
  obtain ⟨hc3, hf3⟩ := below_cells h3
  have g3 : w.heap.size < w3.heap.size := by have := h3.size; omega
  go_wp2_with fail
  refine (live4_c _).mono ?_
  rintro e w4 ⟨rfl, h4⟩
  go_wp2_with fail
  go_ret
  exact ⟨rfl, below_then (below_then (below_then (vboxed h1) h2) h3) (vboxed h4)⟩

theorem walk (a0_0 : Int) (a0_1 : Int) (a0_2 : Int) (a0_3 : ByteArray) (a0_4 : ByteArray) (a0_5 : ByteArray) (a0_6 : ByteArray) (a1 : Int) (w : World) (la0_0 : -9223372036854775808 ≤ a0_0) (ua0_0 : a0_0 ≤ 9223372036854775807) (la0_1 : -9223372036854775808 ≤ a0_1) (ua0_1 : a0_1 ≤ 9223372036854775807) (la0_2 : -9223372036854775808 ≤ a0_2) (ua0_2 : a0_2 ≤ 9223372036854775807) (za0_3 : a0_3.size ≤ 140737488351232) (za0_4 : a0_4.size ≤ 140737488351232) (za0_5 : a0_5.size ≤ 140737488351232) (za0_6 : a0_6.size ≤ 140737488351232) (la1 : 0 ≤ a1) (ua1 : a1 ≤ 255) :
    Calls Try.prog 5 #[.agg #[.int .i64 a0_0, .int .i64 a0_1, .int .i64 a0_2, .string a0_3, .string a0_4, .string a0_5, .string a0_6], .int .u8 a1] w fun e w' => e = .returned (.bool true) ∧ Below w.heap.size w w' := by
  have H1 := Lib.hid fun U => venc_c a0_0 a0_1 a0_2 a0_3 a0_4 a0_5 a0_6 U za0_3 za0_4 za0_5 za0_6
  by_cases h : VOk a0_0 a0_1 a0_2 a0_3 a0_4 a0_5 a0_6
  · have hv : encV a0_0 a0_1 a0_2 a0_3 a0_4 a0_5 a0_6 = (encVB a0_0 a0_1 a0_2 a0_3 a0_4 a0_5 a0_6, 0) := if_pos h
    have hz := encVB_size a0_0 a0_1 a0_2 a0_3 a0_4 a0_5 a0_6 h
    rw [hv] at H1
    have h2 := h
    unfold VOk at h2
    obtain ⟨y, hy⟩ : ∃ y : UInt8, (y.toNat : Int) = a1 := ⟨UInt8.ofNat a1.toNat, by rw [UInt8.toNat_ofNat', Nat.mod_eq_of_lt (by omega)]; omega⟩
    subst hy
    obtain ⟨zG, zF, hx, hd⟩ := free_v a0_0 a0_1 a0_2 a0_3 a0_4 a0_5 a0_6 y h
    have H2 := Lib.hid fun U => rfill_c ⟨#[]⟩ (headY (encVB a0_0 a0_1 a0_2 a0_3 a0_4 a0_5 a0_6) (20 + a0_5.size) y) 10 U (by decide) (by omega)
    have hfb : ¬ fillBad ⟨#[]⟩ (headY (encVB a0_0 a0_1 a0_2 a0_3 a0_4 a0_5 a0_6) (20 + a0_5.size) y) (10 : Int) := by
      unfold fillBad
      have : (⟨#[]⟩ : ByteArray).size = 0 := rfl
      omega
    have hvf : fillSpec ⟨#[]⟩ (headY (encVB a0_0 a0_1 a0_2 a0_3 a0_4 a0_5 a0_6) (20 + a0_5.size) y) 10 = (filled ⟨#[]⟩ (headY (encVB a0_0 a0_1 a0_2 a0_3 a0_4 a0_5 a0_6) (20 + a0_5.size) y) 10, 0) := by unfold fillSpec; rw [if_neg hfb]; rfl
    rw [hvf] at H2
    have H3 := Lib.hid fun U => vdec_c (filled ⟨#[]⟩ (headY (encVB a0_0 a0_1 a0_2 a0_3 a0_4 a0_5 a0_6) (20 + a0_5.size) y) 10 ++ a0_6) U (by rw [ByteArray.size_append]; omega)
    rw [hd, ← hx] at H3
    refine walk_yes a0_0 a0_1 a0_2 a0_3 a0_4 a0_5 a0_6 y _ _ w (20 + a0_5.size) (by omega) (by omega) (by omega) (by rw [hz]; omega) (by rw [hz]; omega) (by rw [zF]; omega) (by rw [hx]; omega) H1 H2 ?_
    rw [hx] at H3 ⊢
    exact H3
  · have hv : encV a0_0 a0_1 a0_2 a0_3 a0_4 a0_5 a0_6 = (⟨#[]⟩, 1) := if_neg h
    rw [hv] at H1
    exact walk_no a0_0 a0_1 a0_2 a0_3 a0_4 a0_5 a0_6 a1 w H1

theorem own : ownKnob Try.prog.godebug = none := by kernel_rfl
theorem laidOut : laidOutB Try.prog = true := by kernel_rfl

set_option maxRecDepth 100000 in
theorem lifted (os : Os) (started : os.Started) (H : Type) (enc : TypeId × Value → H) :
    ReturnsInHanded {} Try.checked os 5 .any (Rows.ipv4FreeSpec.pre6 enc Try.prog Try.f5 Rows.ipv4FreeRow.domain false) (Rows.ipv4FreeSpec.post enc Try.prog Try.f5 false true false false) := by
  refine returnsInHanded_of_change_sized (C := Try.checked) own started (by kernel_rfl) Try.func5
    (ChangeSpec.witness6 (enc := enc) (C := Try.checked) false ⟨#[], #[.agg #[.int .i64 0, .int .i64 0, .int .i64 0, .string ByteArray.empty, .string ByteArray.empty, .string ByteArray.empty, .string ByteArray.empty], .int .u8 0], []⟩ 8 (by kernel_rfl) (by kernel_rfl) (by kernel_rfl) (by kernel_rfl)) ?_
  intro W base args ds gs before hval0 hW hcnd hsz0 hholds
  have hval : ∀ (j : Nat) t v, Try.f5.params[j]? = some t → args[j]? = some v → Value.okWide Try.prog W .any base t v := hval0
  have hsz : (DataW.weightsEach Try.prog (Try.f5.params.toList ++ Rows.ipv4FreeSpec.plain.varTypes Try.prog) (ds ++ gs)).all (· ≤ reachBytes) = true := hsz0
  have hW' := hW
  obtain ⟨p, q, hA0, hV, rfl, hfz, hnd⟩ := hW
  have hA : DataW.TrodAll enc Try.prog W 0 (fun _ => true) true Try.f5.params.toList args.toList ds p := hA0
  rw [Try.params5] at hA hval hsz
  obtain ⟨v0, vs0, d0, ds0, p0, q0, hargs, rfl, rfl, h0, r0⟩ := trodAll_cons hA
  obtain ⟨v1, vs1, d1, ds1, p1, q1, rfl, rfl, rfl, h1, r1⟩ := trodAll_cons r0
  obtain ⟨rfl, rfl, rfl⟩ := trodAll_nil r1
  obtain rfl : args = #[v0, v1] := by cases args; simp_all
  obtain ⟨rfl, rfl⟩ := trodVars_none hV
  have k0 := h0
  have lt0 : ∀ x ∈ p0, x.block < W.heap.size := by obtain ⟨m, hm⟩ := k0; exact DataW.trod_lt m _ _ _ hm
  have k1 := h1
  have lt1 : ∀ x ∈ p1, x.block < W.heap.size := by obtain ⟨m, hm⟩ := k1; exact DataW.trod_lt m _ _ _ hm
  obtain ⟨cs0, rfl, hz0⟩ := okWide_struct Try.underlying35 (hval 0 35 v0 rfl rfl)
  obtain ⟨l0⟩ := cs0
  obtain ⟨c0_0, c0_1, c0_2, c0_3, c0_4, c0_5, c0_6, rfl⟩ := list7 l0 (hz0.trans (by kernel_rfl))
  obtain ⟨fu0, hf0⟩ := h0
  obtain ⟨xs0, m0, -, hx0, -, hn0, hg0⟩ := DataW.trod_struct Try.underlying35 hf0
  obtain ⟨y0_0, y0_1, y0_2, y0_3, y0_4, y0_5, y0_6, rfl⟩ := list7 xs0 hn0
  simp only [Prod.mk.injEq] at hx0
  obtain ⟨rfl, rfl⟩ := hx0
  have g0_0 : DataW.trod enc Try.prog W 0 (fun _ => true) true m0 3 (List.take (Try.prog.cellsOf 3) (List.drop 0 [c0_0, c0_1, c0_2, c0_3, c0_4, c0_5, c0_6])) = some y0_0 := hg0 0 _ rfl
  rw [show Try.prog.cellsOf 3 = 1 from by kernel_rfl] at g0_0
  replace g0_0 : DataW.trod enc Try.prog W 0 (fun _ => true) true m0 3 [c0_0] = some y0_0 := g0_0
  have g0_1 : DataW.trod enc Try.prog W 0 (fun _ => true) true m0 3 (List.take (Try.prog.cellsOf 3) (List.drop 1 [c0_0, c0_1, c0_2, c0_3, c0_4, c0_5, c0_6])) = some y0_1 := hg0 1 _ rfl
  rw [show Try.prog.cellsOf 3 = 1 from by kernel_rfl] at g0_1
  replace g0_1 : DataW.trod enc Try.prog W 0 (fun _ => true) true m0 3 [c0_1] = some y0_1 := g0_1
  have g0_2 : DataW.trod enc Try.prog W 0 (fun _ => true) true m0 3 (List.take (Try.prog.cellsOf 3) (List.drop 2 [c0_0, c0_1, c0_2, c0_3, c0_4, c0_5, c0_6])) = some y0_2 := hg0 2 _ rfl
  rw [show Try.prog.cellsOf 3 = 1 from by kernel_rfl] at g0_2
  replace g0_2 : DataW.trod enc Try.prog W 0 (fun _ => true) true m0 3 [c0_2] = some y0_2 := g0_2
  have g0_3 : DataW.trod enc Try.prog W 0 (fun _ => true) true m0 30 (List.take (Try.prog.cellsOf 30) (List.drop 3 [c0_0, c0_1, c0_2, c0_3, c0_4, c0_5, c0_6])) = some y0_3 := hg0 3 _ rfl
  rw [show Try.prog.cellsOf 30 = 1 from by kernel_rfl] at g0_3
  replace g0_3 : DataW.trod enc Try.prog W 0 (fun _ => true) true m0 30 [c0_3] = some y0_3 := g0_3
  have g0_4 : DataW.trod enc Try.prog W 0 (fun _ => true) true m0 30 (List.take (Try.prog.cellsOf 30) (List.drop 4 [c0_0, c0_1, c0_2, c0_3, c0_4, c0_5, c0_6])) = some y0_4 := hg0 4 _ rfl
  rw [show Try.prog.cellsOf 30 = 1 from by kernel_rfl] at g0_4
  replace g0_4 : DataW.trod enc Try.prog W 0 (fun _ => true) true m0 30 [c0_4] = some y0_4 := g0_4
  have g0_5 : DataW.trod enc Try.prog W 0 (fun _ => true) true m0 9 (List.take (Try.prog.cellsOf 9) (List.drop 5 [c0_0, c0_1, c0_2, c0_3, c0_4, c0_5, c0_6])) = some y0_5 := hg0 5 _ rfl
  rw [show Try.prog.cellsOf 9 = 1 from by kernel_rfl] at g0_5
  replace g0_5 : DataW.trod enc Try.prog W 0 (fun _ => true) true m0 9 [c0_5] = some y0_5 := g0_5
  have g0_6 : DataW.trod enc Try.prog W 0 (fun _ => true) true m0 9 (List.take (Try.prog.cellsOf 9) (List.drop 6 [c0_0, c0_1, c0_2, c0_3, c0_4, c0_5, c0_6])) = some y0_6 := hg0 6 _ rfl
  rw [show Try.prog.cellsOf 9 = 1 from by kernel_rfl] at g0_6
  replace g0_6 : DataW.trod enc Try.prog W 0 (fun _ => true) true m0 9 [c0_6] = some y0_6 := g0_6
  clear hg0
  obtain ⟨a0_0, e0_0, rfl, w0_0⟩ := DataW.trod_int Try.underlying3 g0_0
  simp at e0_0
  subst e0_0
  obtain ⟨a0_1, e0_1, rfl, w0_1⟩ := DataW.trod_int Try.underlying3 g0_1
  simp at e0_1
  subst e0_1
  obtain ⟨a0_2, e0_2, rfl, w0_2⟩ := DataW.trod_int Try.underlying3 g0_2
  simp at e0_2
  subst e0_2
  obtain ⟨a0_3, e0_3, rfl, w0_3⟩ := DataW.trod_string Try.underlying30 g0_3
  simp at e0_3
  subst e0_3
  obtain ⟨a0_4, e0_4, rfl, w0_4⟩ := DataW.trod_string Try.underlying30 g0_4
  simp at e0_4
  subst e0_4
  obtain ⟨a0_5, e0_5, rfl, w0_5⟩ := DataW.trod_string Try.underlying9 g0_5
  simp at e0_5
  subst e0_5
  obtain ⟨a0_6, e0_6, rfl, w0_6⟩ := DataW.trod_string Try.underlying9 g0_6
  simp at e0_6
  subst e0_6
  obtain ⟨a1, rfl, rfl, rfl, w1⟩ := open_int Try.underlying5 (hval 1 5 v1 rfl rfl) h1
  have ba0_0 := bounds_i64 w0_0
  have ba0_1 := bounds_i64 w0_1
  have ba0_2 := bounds_i64 w0_2
  have za0_3 : a0_3.size ≤ 140737488351232 := by
    have h := List.all_eq_true.1 hsz _ (DataW.weights_mem_each (j := 0) (t := 35) rfl rfl a0_3.data.toList.length (by simp [DataW.weights, DataW.weightsEach, Try.underlying35]))
    simpa [reachBytes] using of_decide_eq_true h
  have za0_4 : a0_4.size ≤ 140737488351232 := by
    have h := List.all_eq_true.1 hsz _ (DataW.weights_mem_each (j := 0) (t := 35) rfl rfl a0_4.data.toList.length (by simp [DataW.weights, DataW.weightsEach, Try.underlying35]))
    simpa [reachBytes] using of_decide_eq_true h
  have za0_5 : a0_5.size ≤ 140737488351232 := by
    have h := List.all_eq_true.1 hsz _ (DataW.weights_mem_each (j := 0) (t := 35) rfl rfl a0_5.data.toList.length (by simp [DataW.weights, DataW.weightsEach, Try.underlying35]))
    simpa [reachBytes] using of_decide_eq_true h
  have za0_6 : a0_6.size ≤ 140737488351232 := by
    have h := List.all_eq_true.1 hsz _ (DataW.weights_mem_each (j := 0) (t := 35) rfl rfl a0_6.data.toList.length (by simp [DataW.weights, DataW.weightsEach, Try.underlying35]))
    simpa [reachBytes] using of_decide_eq_true h
  have ba1 := bounds_u8 w1
  clear hA0 hval0
  refine (walk a0_0 a0_1 a0_2 a0_3 a0_4 a0_5 a0_6 a1 W ba0_0.1 ba0_0.2 ba0_1.1 ba0_1.2 ba0_2.1 ba0_2.2 za0_3 za0_4 za0_5 za0_6 ba1.1 ba1.2).mono fun e W' ⟨he, bel⟩ => ?_
  subst he
  exact ⟨_, rfl, _, _, _, [], _, [], hW', trodAll_mk1 (shut_bool Try.underlying4 _), (trodAll_cons_mk (Below.trod laidOut (by kernel_rfl) (of_decide_eq_true (by kernel_rfl)) k0 bel lt0) (trodAll_cons_mk (Below.trod laidOut (by kernel_rfl) (of_decide_eq_true (by kernel_rfl)) k1 bel lt1) trodAll_mk0)), rfl, bel.frame _, fun h => by cases h⟩

theorem over : Rows.ipv4FreeRow.holds Try.pinned (OpenSpec.ofChange Rows.ipv4FreeSpec) :=
  OpenClaim.holds_of_wide 5 Try.f5 rfl rfl rfl rfl rfl rfl rfl ⟨rfl, rfl, rfl, rfl, rfl⟩ rfl rfl rfl rfl rfl (by kernel_rfl) Try.func5 (by kernel_rfl)
    (of_decide_eq_true (by kernel_rfl)) (by unfold Func.isWrapper; first | (rw [if_pos (by decide +kernel)]; kernel_rfl) | (rw [if_neg (by decide +kernel)]; exact ⟨rfl, rfl⟩))
    (fun os started H enc _ => lifted os started H enc)

/-- The statement. -/
theorem proved : Rows.Ipv4FreeSaid := over
#print axioms proved
end Go.Proofs.Ytolgakgimcbkpaa.ipv4FreeLaw
