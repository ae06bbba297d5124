/-
  The bytes of a frame: ether.Encode and the document's answer siphonref03.Encode are the same.
-/
import Derived.Test.YtgoibogpebbkaaaEthA
import Derived.Test.YtgoibogpebbkaaaBld
import Derived.Test.YtgoibogpebbkaaaBits
import Derived.Deep.RegionWith
namespace Go.Proofs.Ytgoibogpebbkaaa
open Go.RowKit
set_option linter.unusedVariables false

/-- The bytes of a frame. -/
def encL (d s : ByteArray) (t : Bool) (v p y : Int) (x : ByteArray) : List UInt8 :=
  d.data.toList ++ s.data.toList ++ (if t = true then [129, 0] ++ bytesOf (p * 8192 + v).toNat 2 else []) ++ bytesOf y.toNat 2 ++ x.data.toList

/-- What Encode answers. -/
def encF (d s : ByteArray) (t : Bool) (v p y : Int) (x : ByteArray) : ByteArray × Int :=
  if FOk d s t v p y x then (⟨(encL d s t v p y x).toArray⟩, 0) else (⟨#[]⟩, 1)

theorem put2 (n : Int) (h0 : 0 ≤ n) (h1 : n ≤ 65535) : putSpec n 2 = (⟨(bytesOf n.toNat 2).toArray⟩, 0) := by
  obtain ⟨N, rfl⟩ := Int.eq_ofNat_of_zero_le h0
  exact put_ok N 2 (by omega) (by omega) (by omega)

set_option maxHeartbeats 1000000 in
set_option maxRecDepth 100000 in
theorem ewrite_c (b : Nat) (l : List UInt8) (n : Int) (w : World) (h : Bld b l w) (hl : l.length ≤ 140737488355000) (h0 : 0 ≤ n) (h1 : n ≤ 65535) :
    Calls Try.prog 38 #[.int .i64 n, .pointer (some ⟨b, 0, none⟩)] w fun e w' => e = .returned (.tuple #[]) ∧ Bld b (l ++ bytesOf n.toNat 2) w' ∧ Below b w w' := by
  have H1 := Lib.hid fun U => put_c n 2 U (by omega) (by omega)
  rw [put2 n h0 h1] at H1
  have HB := Lib.hid h
  clear h
  go_enter Try.func38, Try.ntmps38
  go_wp2_with fail
  refine (H1.out _).mono ?_
  rintro e w1 ⟨rfl, h1⟩
  go_wp2_with fail
  have hb1 := HB.out.below h1
  refine (wstr_c b l _ w1 hb1 (by rw [bytes_size]; omega)).mono ?_
  rintro e w2 ⟨rfl, h2, h3⟩
  go_wp2_with fail
  go_end0
  exact ⟨rfl, h2, (h1.mono (Nat.le_of_lt HB.out.lt)).trans h3⟩

theorem bstr_c (b : Nat) (l : List UInt8) (w : World) (h : Bld b l w) (h0 : l ≠ []) :
    Calls Try.prog 41 #[.pointer (some ⟨b, 0, none⟩)] w fun e w' => e = .returned (.string ⟨l.toArray⟩) ∧ Below b w w' := (bstr_some b l w h h0).mono fun _ _ h => ⟨h.1, h.2.2⟩

theorem len_pos_ne {l : List UInt8} (h : 0 < l.length) : l ≠ [] := by rintro rfl; simp at h
theorem ret_s2 {a b : List UInt8} {v : Value} (h : a = b) : Ending.returned (.tuple #[.string ⟨a.toArray⟩, v]) = .returned (.tuple #[.string ⟨b.toArray⟩, v]) := by rw [h]

/-- A box laid first, calls that make memory, then a second box and what is written from it on. -/
theorem eenc_boxed {w w1 : World} {o : Obj} (h1 : Below (w.alloc o).heap.size (w.alloc o) w1) : Below w.heap.size w w1 :=
  ((Below.refl _ w).alloc (Nat.le_refl _) o).trans (h1.mono (by simp))
theorem eenc_below {w w1 w2 : World} {o p : Obj} (h1 : Below (w.alloc o).heap.size (w.alloc o) w1) (h2 : Below w1.heap.size (w1.alloc p) w2) : Below w.heap.size w w2 := by
  have a := eenc_boxed h1
  have b : Below w1.heap.size w1 w2 := ((Below.refl _ w1).alloc (Nat.le_refl _) p).trans h2
  exact a.trans (b.mono a.size)

set_option maxHeartbeats 1000000 in
set_option maxRecDepth 100000 in
theorem eenc_yes_plain (d s : ByteArray) (v p y : Int) (x : ByteArray) (w : World) (h : FOk d s false v p y x) :
    Calls Try.prog 33 #[.agg #[.string d, .string s, .bool false, .int .i64 v, .int .i64 p, .int .i64 y, .string x]] w fun e w' => e = .returned (.tuple #[.string ⟨(encL d s false v p y x).toArray⟩, .int .i64 0]) ∧ Below w.heap.size w w' := by
  have hok : okF d s false v p y x = true := decide_eq_true h
  obtain ⟨i1, i2, i3, i4, i5, i6⟩ := h
  have HM := Lib.hid fun U => may_c d s false v p y x U (by omega)
  rw [hok] at HM
  have HL := Lib.hid (show encL d s false v p y x = [] ++ d.data.toList ++ s.data.toList ++ bytesOf y.toNat 2 ++ x.data.toList from by simp [encL])
  have k1 : d.data.toList.length = 6 := by simpa using i1
  have k2 : s.data.toList.length = 6 := by simpa using i2
  have k3 : x.data.toList.length ≤ 2000 := by simpa using i3
  have j1 : d.size ≤ 6 := by omega
  have j2 : s.size ≤ 6 := by omega
  have K1 := Lib.hid k1
  have K2 := Lib.hid k2
  clear hok i6 i1 i2 k1 k2 k3
  go_enter Try.func33, Try.ntmps33
  go_wp2_with fail
  refine (HM.out _).mono ?_
  rintro e w1 ⟨rfl, h1⟩
  obtain ⟨hc1, hf1⟩ := below_cells h1
  have g1 : w.heap.size < w1.heap.size := by have := h1.size; simp at this; omega
  go_wp2_with fail
  have B0 := Bld.fresh w1
  refine (wstr_c w1.heap.size [] d _ B0 (by simp; omega)).mono ?_
  rintro e w2 ⟨rfl, B1, h2⟩
  obtain ⟨hc2, hf2⟩ := below_cells h2
  go_wp2_with fail
  refine (wstr_c w1.heap.size _ s _ B1 (by simp; omega)).mono ?_
  rintro e w3 ⟨rfl, B2, h3⟩
  obtain ⟨hc3, hf3⟩ := below_cells h3
  go_wp2_with fail
  refine (ewrite_c w1.heap.size _ y _ B2 (by have := K1.out; have := K2.out; simp; omega) i4 i5).mono ?_
  rintro e w4 ⟨rfl, B3, h4⟩
  obtain ⟨hc4, hf4⟩ := below_cells h4
  go_wp2_with fail
  refine (wstr_c w1.heap.size _ x _ B3 (by have := K1.out; have := K2.out; simp [bytesOf_length]; omega)).mono ?_
  rintro e w5 ⟨rfl, B4, h5⟩
  go_wp2_with fail
  refine (bstr_c w1.heap.size _ _ B4 (len_pos_ne (by simp only [List.length_append, bytesOf_length]; omega))).mono ?_
  rintro e w6 ⟨rfl, h6⟩
  go_wp2_with fail
  go_ret2
  refine ⟨ret_s2 (by rw [HL.out]; simp), ?_⟩
  exact eenc_below h1 (((((h2).trans h3).trans h4).trans h5).trans h6)

set_option maxHeartbeats 2000000 in
set_option maxRecDepth 100000 in
theorem eenc_yes_tagged (d s : ByteArray) (v p y : Int) (x : ByteArray) (w : World) (h : FOk d s true v p y x) :
    Calls Try.prog 33 #[.agg #[.string d, .string s, .bool true, .int .i64 v, .int .i64 p, .int .i64 y, .string x]] w fun e w' => e = .returned (.tuple #[.string ⟨(encL d s true v p y x).toArray⟩, .int .i64 0]) ∧ Below w.heap.size w w' := by
  have hok : okF d s true v p y x = true := decide_eq_true h
  obtain ⟨i1, i2, i3, i4, i5, i6⟩ := h
  rw [if_pos rfl] at i6
  obtain ⟨v0, v1, p0, p1⟩ := i6
  have HM := Lib.hid fun U => may_c d s true v p y x U (by omega)
  rw [hok] at HM
  have HL := Lib.hid (show encL d s true v p y x = [] ++ d.data.toList ++ s.data.toList ++ bytesOf (33024 : Int).toNat 2 ++ bytesOf (p * 8192 + v).toNat 2 ++ bytesOf y.toNat 2 ++ x.data.toList from by
    have e : bytesOf (33024 : Int).toNat 2 = [129, 0] := by decide
    rw [e]; simp [encL])
  have hor : bits .or .i64 (p * 8192) v = p * 8192 + v := i64_join p v 13 p0 v0 (by omega) (by omega) (by omega)
  have k1 : d.data.toList.length = 6 := by simpa using i1
  have k2 : s.data.toList.length = 6 := by simpa using i2
  have k3 : x.data.toList.length ≤ 2000 := by simpa using i3
  have j1 : d.size ≤ 6 := by omega
  have j2 : s.size ≤ 6 := by omega
  have K1 := Lib.hid k1
  have K2 := Lib.hid k2
  clear hok i1 i2 k1 k2 k3
  go_enter Try.func33, Try.ntmps33
  go_wp2_with fail
  refine (HM.out _).mono ?_
  rintro e w1 ⟨rfl, h1⟩
  obtain ⟨hc1, hf1⟩ := below_cells h1
  have g1 : w.heap.size < w1.heap.size := by have := h1.size; simp at this; omega
  go_wp2_with fail
  have B0 := Bld.fresh w1
  refine (wstr_c w1.heap.size [] d _ B0 (by simp; omega)).mono ?_
  rintro e w2 ⟨rfl, B1, h2⟩
  obtain ⟨hc2, hf2⟩ := below_cells h2
  go_wp2_with fail
  refine (wstr_c w1.heap.size _ s _ B1 (by simp; omega)).mono ?_
  rintro e w3 ⟨rfl, B2, h3⟩
  obtain ⟨hc3, hf3⟩ := below_cells h3
  go_wp2_with fail
  refine (ewrite_c w1.heap.size _ 33024 _ B2 (by have := K1.out; have := K2.out; simp; omega) (by omega) (by omega)).mono ?_
  rintro e w3a ⟨rfl, B2a, h3a⟩
  obtain ⟨hc3a, hf3a⟩ := below_cells h3a
  go_wp2_with fail
  refine (ewrite_c w1.heap.size _ (p * 8192 + v) _ B2a (by have := K1.out; have := K2.out; simp [bytesOf_length]; omega) (by omega) (by omega)).mono ?_
  rintro e w3b ⟨rfl, B2b, h3b⟩
  obtain ⟨hc3b, hf3b⟩ := below_cells h3b
  go_wp2_with fail
  refine (ewrite_c w1.heap.size _ y _ B2b (by have := K1.out; have := K2.out; simp [bytesOf_length]; omega) i4 i5).mono ?_
  rintro e w4 ⟨rfl, B3, h4⟩
  obtain ⟨hc4, hf4⟩ := below_cells h4
  go_wp2_with fail
  refine (wstr_c w1.heap.size _ x _ B3 (by have := K1.out; have := K2.out; simp [bytesOf_length]; omega)).mono ?_
  rintro e w5 ⟨rfl, B4, h5⟩
  go_wp2_with fail
  refine (bstr_c w1.heap.size _ _ B4 (len_pos_ne (by simp only [List.length_append, bytesOf_length]; omega))).mono ?_
  rintro e w6 ⟨rfl, h6⟩
  go_wp2_with fail
  go_ret2
  refine ⟨ret_s2 (by rw [HL.out]; simp), ?_⟩
  exact eenc_below h1 (((((((h2).trans h3).trans h3a).trans h3b).trans h4).trans h5).trans h6)

set_option maxHeartbeats 1000000 in
set_option maxRecDepth 100000 in
theorem eenc_no (d s : ByteArray) (t : Bool) (v p y : Int) (x : ByteArray) (w : World) (hx : x.size ≤ 140737488351232) (h : ¬ FOk d s t v p y x) :
    Calls Try.prog 33 #[.agg #[.string d, .string s, .bool t, .int .i64 v, .int .i64 p, .int .i64 y, .string x]] w fun e w' => e = .returned (.tuple #[.string ⟨#[]⟩, .int .i64 1]) ∧ Below w.heap.size w w' := by
  have hok : okF d s t v p y x = false := decide_eq_false h
  have HM := Lib.hid fun U => may_c d s t v p y x U hx
  rw [hok] at HM
  clear hok h
  go_enter Try.func33, Try.ntmps33
  go_wp2_with fail
  refine (HM.out _).mono ?_
  rintro e w1 ⟨rfl, h1⟩
  go_wp2_with fail
  go_ret2
  exact ⟨rfl, eenc_boxed h1⟩

theorem eenc_c (d s : ByteArray) (t : Bool) (v p y : Int) (x : ByteArray) (w : World) (hx : x.size ≤ 140737488351232) :
    Calls Try.prog 33 #[.agg #[.string d, .string s, .bool t, .int .i64 v, .int .i64 p, .int .i64 y, .string x]] w fun e w' => e = .returned (.tuple #[.string (encF d s t v p y x).1, .int .i64 (encF d s t v p y x).2]) ∧ Below w.heap.size w w' := by
  by_cases h : FOk d s t v p y x
  · have hv : encF d s t v p y x = (⟨(encL d s t v p y x).toArray⟩, 0) := if_pos h
    rw [hv]
    cases t
    · exact eenc_yes_plain d s v p y x w h
    · exact eenc_yes_tagged d s v p y x w h
  · have hv : encF d s t v p y x = (⟨#[]⟩, 1) := if_neg h
    rw [hv]
    exact eenc_no d s t v p y x w hx h

end Go.Proofs.Ytgoibogpebbkaaa
