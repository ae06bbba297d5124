/-
  The frame of any bytes, the document's answer: siphonref03.Decode, as contracts over the translated program.
-/
import Derived.Test.YtocckinnmdgdfaaEthE
import Derived.Test.YtocckinnmdgdfaaRefB
namespace Go.Proofs.Ytocckinnmdgdfaa
open Go.RowKit
set_option linter.unusedVariables false
set_option linter.unusedSimpArgs false

set_option maxHeartbeats 400000 in
theorem rat_c (s : ByteArray) (a width : Int) (w : World) (hs : s.size ≤ 9223372036854775807) (ha : -9223372036854775808 ≤ a) (h2 : a ≤ 9223372036854775807) :
    Calls Try.prog 40 #[.string s, .int .i64 a, .int .i64 width] w fun e w' => e = .returned (.int .i64 (getSpec s a width).1) ∧ w = w' := by
  have H1 := Lib.hid fun U => rget_c s a width U hs ha h2
  go_enter Try.func40, Try.ntmps40
  go_wp2_with fail
  refine (H1.out _).mono ?_
  rintro e w1 ⟨rfl, rfl⟩
  go_wp2_with fail
  go_ret
  exact ⟨rfl, rfl⟩

theorem sub_ext (s : ByteArray) (A N : Nat) (h : A + N ≤ s.size) : sub s A N = s.extract A (A + N) := by
  unfold sub cutSpec
  rw [if_neg (by omega), if_neg (by omega), extract_mk]
  rfl

theorem num2_of (s : ByteArray) (A : Nat) (h : A + 2 ≤ s.size) : num2 s A = (be (subs s A 2) : Int) := by
  unfold num2 getSpec
  rw [if_neg (by omega), if_neg (by omega)]
  rfl

theorem subs_rest (s : ByteArray) (A B n : Nat) : subs (s.extract A s.size) B n = subs s (A + B) n := by
  unfold subs
  rw [Lib.extract_data]
  have : List.take (s.size - A) (List.drop A s.data.toList) = List.drop A s.data.toList := List.take_of_length_le (by simp)
  rw [this, List.drop_drop]

theorem getSpec_rest (s : ByteArray) (A B : Nat) (h : A + B + 2 ≤ s.size) : (getSpec (s.extract A s.size) (B : Int) 2).1 = num2 s ((A + B : Nat) : Int) := by
  rw [num2_of s (A + B) (by omega)]
  unfold getSpec
  have : (s.extract A s.size).size = s.size - A := by simp
  rw [if_neg (by omega), if_neg (by omega)]
  show ((be (subs (s.extract A s.size) B 2) : Nat) : Int) = _
  rw [subs_rest]

theorem two_new (w : World) (o p : Obj) : Below w.heap.size w ((w.alloc o).alloc p).drew := (((Below.refl _ w).alloc (Nat.le_refl _) o).alloc (by simp) p).drew

theorem two_of (l : List UInt8) (h : l.length = 2) : (l == [129, 0]) = ((be l : Int) == 33024) := by
  match l, h with
  | [a, b], _ =>
    have e : be [a, b] = 256 * a.toNat + b.toNat := by simp [be]
    have ha := a.toNat_lt
    have hb := b.toNat_lt
    rw [Bool.eq_iff_iff, beq_iff_eq, beq_iff_eq, e]
    constructor
    · intro h
      obtain ⟨rfl, rfl⟩ : a = 129 ∧ b = 0 := by simpa using h
      rfl
    · intro h
      have h1 : a.toNat = 129 := by omega
      have h2 : b.toNat = 0 := by omega
      rw [show a = 129 from UInt8.toNat_inj.1 h1, show b = 0 from UInt8.toNat_inj.1 h2]

theorem mark_test (s : ByteArray) (h : 14 ≤ s.size) : (((s.extract 12 s.size).extract 0 2).toList == [129, 0]) = (num2 s 12 == 33024) := by
  have n := num2_of s 12 (by omega)
  rw [Lib.toList_data, show ((12 : Nat) : Int) = 12 from rfl] at *
  rw [n]
  have e : ((s.extract 12 s.size).extract 0 2).data.toList = subs s 12 2 := by
    have := subs_extract (s.extract 12 s.size) 0 2
    rw [Nat.zero_add] at this
    rw [this, subs_rest]
  rw [e]
  exact two_of _ (by unfold subs; rw [List.length_take, List.length_drop]; have : s.data.toList.length = s.size := by simp
                     omega)

set_option maxHeartbeats 2000000 in
set_option maxRecDepth 100000 in
theorem rdec_short (s : ByteArray) (w : World) (hs : s.size ≤ 140737488351232) (hz : s.size < 14) :
    Calls Try.prog 18 #[.string s] w fun e w' => e = .returned (.tuple #[.agg #[.string ⟨#[]⟩, .string ⟨#[]⟩, .bool false, .int .i64 0, .int .i64 0, .int .i64 0, .string ⟨#[]⟩], .int .i64 2]) ∧ Below w.heap.size w w' := by
  go_enter Try.func18, Try.ntmps18
  go_wp2_with fail
  refine bodyPost_ret (v := .tuple #[.agg #[.string ⟨#[]⟩, .string ⟨#[]⟩, .bool false, .int .i64 0, .int .i64 0, .int .i64 0, .string ⟨#[]⟩], .int .i64 2]) (by simp [results, Try.results18, go_sem]) rfl ⟨rfl, ?_⟩
  exact (Below.refl _ w).alloc (Nat.le_refl _) _

set_option maxHeartbeats 2000000 in
set_option maxRecDepth 100000 in
theorem rdec_cut (s : ByteArray) (w : World) (hs : s.size ≤ 140737488351232) (hz : 14 ≤ s.size) (hx : s.size < 18) (hm : num2 s 12 = 33024) :
    Calls Try.prog 18 #[.string s] w fun e w' => e = .returned (.tuple #[.agg #[.string ⟨#[]⟩, .string ⟨#[]⟩, .bool false, .int .i64 0, .int .i64 0, .int .i64 0, .string ⟨#[]⟩], .int .i64 2]) ∧ Below w.heap.size w w' := by
  have tm : (((s.extract 12 s.size).extract 0 2).toList == [129, 0]) = true := by rw [mark_test s hz, hm]; rfl
  have u1 : (14 : Int) ≤ (s.size : Int) := by omega
  clear hm
  go_enter Try.func18, Try.ntmps18
  go_wp2_with fail
  go_region
  go_wp2_with fail
  refine bodyPost_ret (v := .tuple #[.agg #[.string ⟨#[]⟩, .string ⟨#[]⟩, .bool false, .int .i64 0, .int .i64 0, .int .i64 0, .string ⟨#[]⟩], .int .i64 2]) (by simp [results, Try.results18, go_sem]) rfl ⟨rfl, ?_⟩
  exact two_new w _ _

theorem ext_ext (s : ByteArray) (a b : Nat) : (s.extract a s.size).extract b (s.size - a) = s.extract (a + b) s.size := by
  apply ByteArray.ext
  simp [ByteArray.data_extract]
  rw [show min (a + (s.size - a)) s.size = s.size from by omega]
theorem sub_tail (s : ByteArray) (A : Nat) (h : A ≤ s.size) : sub s A ((s.size : Int) - A) = s.extract A s.size := by
  have := sub_ext s A (s.size - A) (by omega)
  rw [show ((s.size - A : Nat) : Int) = (s.size : Int) - A from by omega, show A + (s.size - A) = s.size from by omega] at this
  exact this
theorem frame_eq {a b x a' b' x' : ByteArray} {t v p y e : Value} (h1 : a' = a) (h2 : b' = b) (h3 : x' = x) :
    Ending.returned (.tuple #[.agg #[.string a, .string b, t, v, p, y, .string x], e]) = .returned (.tuple #[.agg #[.string a', .string b', t, v, p, y, .string x'], e]) := by rw [h1, h2, h3]

set_option maxHeartbeats 2000000 in
set_option maxRecDepth 100000 in
theorem rdec_tag_bit (s : ByteArray) (w : World) (hs : s.size ≤ 140737488351232) (hx : 18 ≤ s.size) (hm : num2 s 12 = 33024) (hb : num2 s 14 / 4096 % 2 = 1) :
    Calls Try.prog 18 #[.string s] w fun e w' => e = .returned (.tuple #[.agg #[.string ⟨#[]⟩, .string ⟨#[]⟩, .bool false, .int .i64 0, .int .i64 0, .int .i64 0, .string ⟨#[]⟩], .int .i64 3]) ∧ Below w.heap.size w w' := by
  have tm : (((s.extract 12 s.size).extract 0 2).toList == [129, 0]) = true := by rw [mark_test s (by omega), hm]; rfl
  have u1 : (18 : Int) ≤ (s.size : Int) := by omega
  have R1 := Lib.hid fun U => rat_c (s.extract 12 s.size) 2 2 U (by simp; omega) (by omega) (by omega)
  have e1 : (getSpec (s.extract 12 s.size) 2 2).1 = num2 s 14 := getSpec_rest s 12 2 (by omega)
  rw [e1] at R1
  obtain ⟨q0, q1⟩ := num2_le s 14
  obtain ⟨q, hq⟩ : ∃ q, q = num2 s 14 := ⟨_, rfl⟩
  rw [← hq] at q0 q1 R1 hb
  obtain ⟨t1, t2⟩ := eq_t hb
  clear hm e1 hq hb
  go_enter Try.func18, Try.ntmps18
  go_wp2_with fail
  go_region
  go_wp2_with fail
  refine (R1.out _).mono ?_
  rintro e w1 ⟨rfl, rfl⟩
  go_wp2_with fail
  refine bodyPost_ret (v := .tuple #[.agg #[.string ⟨#[]⟩, .string ⟨#[]⟩, .bool false, .int .i64 0, .int .i64 0, .int .i64 0, .string ⟨#[]⟩], .int .i64 3]) (by simp [results, Try.results18, go_sem]) rfl ⟨rfl, ?_⟩
  exact two_new w _ _

set_option maxHeartbeats 2000000 in
set_option maxRecDepth 100000 in
theorem rdec_tag_vid (s : ByteArray) (w : World) (hs : s.size ≤ 140737488351232) (hx : 18 ≤ s.size) (hm : num2 s 12 = 33024) (hb : num2 s 14 / 4096 % 2 = 0) (hv : num2 s 14 % 4096 = 4095) :
    Calls Try.prog 18 #[.string s] w fun e w' => e = .returned (.tuple #[.agg #[.string ⟨#[]⟩, .string ⟨#[]⟩, .bool false, .int .i64 0, .int .i64 0, .int .i64 0, .string ⟨#[]⟩], .int .i64 3]) ∧ Below w.heap.size w w' := by
  have tm : (((s.extract 12 s.size).extract 0 2).toList == [129, 0]) = true := by rw [mark_test s (by omega), hm]; rfl
  have u1 : (18 : Int) ≤ (s.size : Int) := by omega
  have R1 := Lib.hid fun U => rat_c (s.extract 12 s.size) 2 2 U (by simp; omega) (by omega) (by omega)
  have e1 : (getSpec (s.extract 12 s.size) 2 2).1 = num2 s 14 := getSpec_rest s 12 2 (by omega)
  rw [e1] at R1
  obtain ⟨q0, q1⟩ := num2_le s 14
  obtain ⟨q, hq⟩ : ∃ q, q = num2 s 14 := ⟨_, rfl⟩
  rw [← hq] at q0 q1 R1 hb hv
  obtain ⟨t1, t2⟩ := ne_t (show q / 4096 % 2 ≠ 1 by omega)
  obtain ⟨t3, t4⟩ := eq_t hv
  clear hm e1 hq hb hv
  go_enter Try.func18, Try.ntmps18
  go_wp2_with fail
  go_region
  go_wp2_with fail
  refine (R1.out _).mono ?_
  rintro e w1 ⟨rfl, rfl⟩
  go_wp2_with fail
  refine bodyPost_ret (v := .tuple #[.agg #[.string ⟨#[]⟩, .string ⟨#[]⟩, .bool false, .int .i64 0, .int .i64 0, .int .i64 0, .string ⟨#[]⟩], .int .i64 3]) (by simp [results, Try.results18, go_sem]) rfl ⟨rfl, ?_⟩
  exact two_new w _ _

set_option maxHeartbeats 2000000 in
set_option maxRecDepth 100000 in
theorem rdec_tag_long (s : ByteArray) (w : World) (hs : s.size ≤ 140737488351232) (hx : 18 ≤ s.size) (hm : num2 s 12 = 33024) (hb : num2 s 14 / 4096 % 2 = 0) (hv : num2 s 14 % 4096 ≠ 4095) (hl : 2018 < s.size) :
    Calls Try.prog 18 #[.string s] w fun e w' => e = .returned (.tuple #[.agg #[.string ⟨#[]⟩, .string ⟨#[]⟩, .bool false, .int .i64 0, .int .i64 0, .int .i64 0, .string ⟨#[]⟩], .int .i64 3]) ∧ Below w.heap.size w w' := by
  have tm : (((s.extract 12 s.size).extract 0 2).toList == [129, 0]) = true := by rw [mark_test s (by omega), hm]; rfl
  have u1 : (18 : Int) ≤ (s.size : Int) := by omega
  have R1 := Lib.hid fun U => rat_c (s.extract 12 s.size) 2 2 U (by simp; omega) (by omega) (by omega)
  have e1 : (getSpec (s.extract 12 s.size) 2 2).1 = num2 s 14 := getSpec_rest s 12 2 (by omega)
  rw [e1] at R1
  obtain ⟨q0, q1⟩ := num2_le s 14
  obtain ⟨q, hq⟩ : ∃ q, q = num2 s 14 := ⟨_, rfl⟩
  rw [← hq] at q0 q1 R1 hb hv
  obtain ⟨t1, t2⟩ := ne_t (show q / 4096 % 2 ≠ 1 by omega)
  obtain ⟨t3, t4⟩ := ne_t hv
  have R2 := Lib.hid fun U => rat_c ((s.extract 12 s.size).extract 4 (s.size - 12)) 0 2 U (by simp; omega) (by omega) (by omega)
  have e2 : (getSpec ((s.extract 12 s.size).extract 4 (s.size - 12)) 0 2).1 = num2 s 16 := by
    rw [ext_ext s 12 4]
    exact getSpec_rest s 16 0 (by omega)
  rw [e2] at R2
  clear hm e1 hq hb hv e2
  go_enter Try.func18, Try.ntmps18
  go_wp2_with fail
  go_region
  go_wp2_with fail
  refine (R1.out _).mono ?_
  rintro e w1 ⟨rfl, rfl⟩
  go_wp2_with fail
  refine (R2.out _).mono ?_
  rintro e w1 ⟨rfl, rfl⟩
  go_wp2_with fail
  refine bodyPost_ret (v := .tuple #[.agg #[.string ⟨#[]⟩, .string ⟨#[]⟩, .bool false, .int .i64 0, .int .i64 0, .int .i64 0, .string ⟨#[]⟩], .int .i64 3]) (by simp [results, Try.results18, go_sem]) rfl ⟨rfl, ?_⟩
  exact two_new w _ _

set_option maxHeartbeats 2000000 in
set_option maxRecDepth 100000 in
theorem rdec_tag_ok (s : ByteArray) (w : World) (hs : s.size ≤ 140737488351232) (hx : 18 ≤ s.size) (hm : num2 s 12 = 33024) (hb : num2 s 14 / 4096 % 2 = 0) (hv : num2 s 14 % 4096 ≠ 4095) (hl : s.size ≤ 2018) :
    Calls Try.prog 18 #[.string s] w fun e w' => e = .returned (.tuple #[.agg #[.string (sub s 0 6), .string (sub s 6 6), .bool true, .int .i64 (num2 s 14 % 4096), .int .i64 (num2 s 14 / 8192), .int .i64 (num2 s 16), .string (sub s 18 ((s.size : Int) - 18))], .int .i64 0]) ∧ Below w.heap.size w w' := by
  have tm : (((s.extract 12 s.size).extract 0 2).toList == [129, 0]) = true := by rw [mark_test s (by omega), hm]; rfl
  have u1 : (18 : Int) ≤ (s.size : Int) := by omega
  have R1 := Lib.hid fun U => rat_c (s.extract 12 s.size) 2 2 U (by simp; omega) (by omega) (by omega)
  have e1 : (getSpec (s.extract 12 s.size) 2 2).1 = num2 s 14 := getSpec_rest s 12 2 (by omega)
  rw [e1] at R1
  obtain ⟨q0, q1⟩ := num2_le s 14
  obtain ⟨q, hq⟩ : ∃ q, q = num2 s 14 := ⟨_, rfl⟩
  rw [← hq] at q0 q1 R1 hb hv ⊢
  obtain ⟨t1, t2⟩ := ne_t (show q / 4096 % 2 ≠ 1 by omega)
  obtain ⟨t3, t4⟩ := ne_t hv
  have R2 := Lib.hid fun U => rat_c ((s.extract 12 s.size).extract 4 (s.size - 12)) 0 2 U (by simp; omega) (by omega) (by omega)
  have e2 : (getSpec ((s.extract 12 s.size).extract 4 (s.size - 12)) 0 2).1 = num2 s 16 := by
    rw [ext_ext s 12 4]
    exact getSpec_rest s 16 0 (by omega)
  rw [e2] at R2
  obtain ⟨y, hy⟩ : ∃ y, y = num2 s 16 := ⟨_, rfl⟩
  rw [← hy] at R2 ⊢
  have E := Lib.hid (sub_tail s 18 (by omega))
  have E3 := Lib.hid (ext_ext s 12 4)
  have E4 := Lib.hid (ext_ext s 16 2)
  have E1 := Lib.hid (sub_ext s 0 6 (by omega))
  have E2 := Lib.hid (sub_ext s 6 6 (by omega))
  clear hm e1 hq hb hv e2 hy
  go_enter Try.func18, Try.ntmps18
  go_wp2_with fail
  go_region
  go_wp2_with fail
  refine (R1.out _).mono ?_
  rintro e w1 ⟨rfl, rfl⟩
  go_wp2_with fail
  refine (R2.out _).mono ?_
  rintro e w1 ⟨rfl, rfl⟩
  go_wp2_with fail
  refine bodyPost_ret (v := .tuple #[.agg #[.string (s.extract 0 6), .string (s.extract 6 12), .bool true, .int .i64 (q % 4096), .int .i64 (q / 8192), .int .i64 y, .string (((s.extract 12 s.size).extract 4 (s.size - 12)).extract 2 (s.size - 12 - 4))], .int .i64 0]) (by simp [results, Try.results18, go_sem]) rfl ⟨frame_eq (E1.out) (E2.out) (by rw [E3.out, show s.size - 12 - 4 = s.size - 16 from by omega, E4.out]; exact E.out), ?_⟩
  exact two_new w _ _

set_option maxHeartbeats 2000000 in
set_option maxRecDepth 100000 in
theorem rdec_plain_long (s : ByteArray) (w : World) (hs : s.size ≤ 140737488351232) (hx : 14 ≤ s.size) (hm : num2 s 12 ≠ 33024) (hl : 2014 < s.size) :
    Calls Try.prog 18 #[.string s] w fun e w' => e = .returned (.tuple #[.agg #[.string ⟨#[]⟩, .string ⟨#[]⟩, .bool false, .int .i64 0, .int .i64 0, .int .i64 0, .string ⟨#[]⟩], .int .i64 3]) ∧ Below w.heap.size w w' := by
  have tm : (((s.extract 12 s.size).extract 0 2).toList == [129, 0]) = false := by rw [mark_test s (by omega)]; exact (ne_t hm).1
  have u1 : (14 : Int) ≤ (s.size : Int) := by omega
  have R2 := Lib.hid fun U => rat_c (s.extract 12 s.size) 0 2 U (by simp; omega) (by omega) (by omega)
  have e2 : (getSpec (s.extract 12 s.size) 0 2).1 = num2 s 12 := getSpec_rest s 12 0 (by omega)
  rw [e2] at R2
  obtain ⟨y, hy⟩ : ∃ y, y = num2 s 12 := ⟨_, rfl⟩
  rw [← hy] at R2
  clear hm e2 hy
  go_enter Try.func18, Try.ntmps18
  go_wp2_with fail
  go_region
  go_wp2_with fail
  refine (R2.out _).mono ?_
  rintro e w1 ⟨rfl, rfl⟩
  go_wp2_with fail
  refine bodyPost_ret (v := .tuple #[.agg #[.string ⟨#[]⟩, .string ⟨#[]⟩, .bool false, .int .i64 0, .int .i64 0, .int .i64 0, .string ⟨#[]⟩], .int .i64 3]) (by simp [results, Try.results18, go_sem]) rfl ⟨rfl, ?_⟩
  exact two_new w _ _

set_option maxHeartbeats 2000000 in
set_option maxRecDepth 100000 in
theorem rdec_plain_ok (s : ByteArray) (w : World) (hs : s.size ≤ 140737488351232) (hx : 14 ≤ s.size) (hm : num2 s 12 ≠ 33024) (hl : s.size ≤ 2014) :
    Calls Try.prog 18 #[.string s] w fun e w' => e = .returned (.tuple #[.agg #[.string (sub s 0 6), .string (sub s 6 6), .bool false, .int .i64 0, .int .i64 0, .int .i64 (num2 s 12), .string (sub s 14 ((s.size : Int) - 14))], .int .i64 0]) ∧ Below w.heap.size w w' := by
  have tm : (((s.extract 12 s.size).extract 0 2).toList == [129, 0]) = false := by rw [mark_test s (by omega)]; exact (ne_t hm).1
  have u1 : (14 : Int) ≤ (s.size : Int) := by omega
  have R2 := Lib.hid fun U => rat_c (s.extract 12 s.size) 0 2 U (by simp; omega) (by omega) (by omega)
  have e2 : (getSpec (s.extract 12 s.size) 0 2).1 = num2 s 12 := getSpec_rest s 12 0 (by omega)
  rw [e2] at R2
  obtain ⟨y, hy⟩ : ∃ y, y = num2 s 12 := ⟨_, rfl⟩
  rw [← hy] at R2 ⊢
  have E := Lib.hid (sub_tail s 14 (by omega))
  have E3 := Lib.hid (ext_ext s 12 2)
  have E1 := Lib.hid (sub_ext s 0 6 (by omega))
  have E2 := Lib.hid (sub_ext s 6 6 (by omega))
  clear hm e2 hy
  go_enter Try.func18, Try.ntmps18
  go_wp2_with fail
  go_region
  go_wp2_with fail
  refine (R2.out _).mono ?_
  rintro e w1 ⟨rfl, rfl⟩
  go_wp2_with fail
  refine bodyPost_ret (v := .tuple #[.agg #[.string (s.extract 0 6), .string (s.extract 6 12), .bool false, .int .i64 0, .int .i64 0, .int .i64 y, .string ((s.extract 12 s.size).extract 2 (s.size - 12))], .int .i64 0]) (by simp [results, Try.results18, go_sem]) rfl ⟨frame_eq (E1.out) (E2.out) (by rw [E3.out]; exact E.out), ?_⟩
  exact two_new w _ _

theorem num2_short (s : ByteArray) (h : s.size < 14) : num2 s 12 = 0 := by
  unfold num2 getSpec
  rw [if_neg (by omega), if_pos (by omega)]

theorem rdec_c (s : ByteArray) (w : World) (hs : s.size ≤ 140737488351232) :
    Calls Try.prog 18 #[.string s] w fun e w' => e = .returned (.tuple #[(decF s).1.val, .int .i64 (decF s).2]) ∧ Below w.heap.size w w' := by
  unfold decF
  by_cases h : (s.size : Int) < (if num2 s 12 = 33024 then 18 else 14)
  · rw [if_pos h]
    by_cases h14 : s.size < 14
    · exact rdec_short s w hs h14
    · by_cases hm : num2 s 12 = 33024
      · rw [if_pos hm] at h
        exact rdec_cut s w hs (by omega) (by omega) hm
      · rw [if_neg hm] at h
        omega
  · rw [if_neg h]
    by_cases hm : num2 s 12 = 33024
    · rw [if_pos hm] at h
      by_cases hb : num2 s 14 / 4096 % 2 = 1
      · rw [if_pos ⟨hm, hb⟩]
        exact rdec_tag_bit s w hs (by omega) hm hb
      · rw [if_neg (fun g => hb g.2)]
        have hr : readF s = ⟨sub s 0 6, sub s 6 6, true, num2 s 14 % 4096, num2 s 14 / 8192, num2 s 16, sub s 18 ((s.size : Int) - 18)⟩ := if_pos hm
        have z1 := sub_size s 0 6 (by omega) (by omega) (by omega)
        have z2 := sub_size s 6 6 (by omega) (by omega) (by omega)
        have z3 := sub_size s 18 ((s.size : Int) - 18) (by omega) (by omega) (by omega)
        have hy := num2_le s 16
        have hq := num2_le s 14
        rw [hr]
        by_cases hv : num2 s 14 % 4096 = 4095
        · rw [if_neg (by rw [okF_tagged]; dsimp only; intro g; omega)]
          exact rdec_tag_vid s w hs (by omega) hm (by omega) hv
        · by_cases hl : s.size ≤ 2018
          · rw [if_pos (by rw [okF_tagged]; dsimp only; exact ⟨by omega, by omega, by omega, hy.1, hy.2, by omega, by omega, by omega, by omega⟩)]
            exact rdec_tag_ok s w hs (by omega) hm (by omega) hv hl
          · rw [if_neg (by rw [okF_tagged]; dsimp only; intro g; omega)]
            exact rdec_tag_long s w hs (by omega) hm (by omega) hv (by omega)
    · rw [if_neg hm] at h
      rw [if_neg (fun g => hm g.1)]
      have hr : readF s = ⟨sub s 0 6, sub s 6 6, false, 0, 0, num2 s 12, sub s 14 ((s.size : Int) - 14)⟩ := if_neg hm
      have z1 := sub_size s 0 6 (by omega) (by omega) (by omega)
      have z2 := sub_size s 6 6 (by omega) (by omega) (by omega)
      have z3 := sub_size s 14 ((s.size : Int) - 14) (by omega) (by omega) (by omega)
      have hy := num2_le s 12
      rw [hr]
      by_cases hl : s.size ≤ 2014
      · rw [if_pos (by rw [okF_plain]; dsimp only; exact ⟨by omega, by omega, by omega, hy.1, hy.2, rfl, rfl, hm⟩)]
        exact rdec_plain_ok s w hs (by omega) hm hl
      · rw [if_neg (by rw [okF_plain]; dsimp only; intro g; omega)]
        exact rdec_plain_long s w hs (by omega) hm (by omega)

end Go.Proofs.Ytocckinnmdgdfaa
