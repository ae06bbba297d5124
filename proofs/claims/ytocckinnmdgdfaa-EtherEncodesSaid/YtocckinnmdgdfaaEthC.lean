/-
  The bytes of a frame, the document's answer: siphonref03.Encode.
-/
import Derived.Test.YtocckinnmdgdfaaEthB
namespace Go.Proofs.Ytocckinnmdgdfaa
open Go.RowKit
set_option linter.unusedVariables false

theorem of2 (n : Int) (w : World) (h0 : 0 ≤ n) (h1 : n ≤ 65535) :
    Calls Try.prog 46 #[.int .i64 n, .int .i64 2] w fun e w' => e = .returned (.string ⟨(bytesOf n.toNat 2).toArray⟩) ∧ Below w.heap.size w w' := by
  have H := of_c n 2 w (by omega) (by omega)
  rw [put2 n h0 h1] at H
  exact H

theorem ret_sb {a : ByteArray} {b : List UInt8} {v : Value} (h : a.data.toList = b) : Ending.returned (.tuple #[.string a, v]) = .returned (.tuple #[.string ⟨b.toArray⟩, v]) := by
  rw [← h]

theorem below_drew_then {w a b : World} (h : Below w.heap.size w a) (k : Below a.drew.heap.size a.drew b) : Below w.heap.size w b := h.trans (((Below.refl _ a).drew.trans k).mono h.size)

set_option maxHeartbeats 1000000 in
theorem renc_no (d s : ByteArray) (t : Bool) (v p y : Int) (x : ByteArray) (w : World) (hx : x.size ≤ 140737488351232) (h : ¬ FOk d s t v p y x) :
    Calls Try.prog 21 #[.agg #[.string d, .string s, .bool t, .int .i64 v, .int .i64 p, .int .i64 y, .string x]] w fun e w' => e = .returned (.tuple #[.string ⟨#[]⟩, .int .i64 1]) ∧ Below w.heap.size w w' := by
  have hok : okF d s t v p y x = false := decide_eq_false h
  have HM := Lib.hid fun U => rmay_c d s t v p y x U hx
  rw [hok] at HM
  clear hok h
  go_enter Try.func21, Try.ntmps21
  go_wp2_with fail
  refine (HM.out _).mono ?_
  rintro e w1 ⟨rfl, h1⟩
  go_wp2_with fail
  go_ret2
  exact ⟨rfl, eenc_boxed h1⟩

set_option maxHeartbeats 2000000 in
set_option maxRecDepth 100000 in
theorem renc_plain (d s : ByteArray) (v p y : Int) (x : ByteArray) (w : World) (h : FOk d s false v p y x) :
    Calls Try.prog 21 #[.agg #[.string d, .string s, .bool false, .int .i64 v, .int .i64 p, .int .i64 y, .string x]] w fun e w' => e = .returned (.tuple #[.string ⟨(encL d s false v p y x).toArray⟩, .int .i64 0]) ∧ Below w.heap.size w w' := by
  have hok : okF d s false v p y x = true := decide_eq_true h
  obtain ⟨i1, i2, i3, i4, i5, i6⟩ := h
  have HM := Lib.hid fun U => rmay_c d s false v p y x U (by omega)
  rw [hok] at HM
  have HP := Lib.hid fun U => of2 y U i4 i5
  have s2 := bytes_size y.toNat 2
  obtain ⟨L, hL⟩ : ∃ L : ByteArray, L = ⟨(bytesOf y.toNat 2).toArray⟩ := ⟨_, rfl⟩
  rw [← hL] at HP s2
  have HE := Lib.hid (show (d ++ s ++ L ++ x).data.toList = encL d s false v p y x from by rw [hL]; simp [encL, ByteArray.data_append])
  have j1 : d.size ≤ 6 := by omega
  have j2 : s.size ≤ 6 := by omega
  have j3 : L.size ≤ 2 := by omega
  clear hok i6 i1 i2 hL s2
  go_enter Try.func21, Try.ntmps21
  go_wp2_with fail
  refine (HM.out _).mono ?_
  rintro e w1 ⟨rfl, h1⟩
  obtain ⟨hc1, hf1⟩ := below_cells h1
  have g1 : w.heap.size < w1.heap.size := by have := h1.size; simp at this; omega
  go_wp2_with fail
  have d5 : w1.cell? ⟨w.heap.size, 5, none⟩ = some (.int .i64 y) := by rw [hc1 _ _ (by simp)]; simp
  have d6 : w1.cell? ⟨w.heap.size, 6, none⟩ = some (.string x) := by rw [hc1 _ _ (by simp)]; simp
  clear hc1 hf1
  go_region_with ((go_at_call 46; refine (HP.out _).mono ?_; rintro e w2 ⟨rfl, h2⟩; have d6' : w2.cell? ⟨w.heap.size, 6, none⟩ = some (.string x) := by
                     rw [h2.cell (p := ⟨w.heap.size, 6, none⟩) (by simpa using g1)]; simpa using d6))
  all_goals
    go_wp2
    go_ret2
    exact ⟨ret_sb (by rw [← HE.out]), below_drew_then (eenc_boxed h1) h2⟩

set_option maxHeartbeats 2000000 in
set_option maxRecDepth 100000 in
theorem renc_tagged (d s : ByteArray) (v p y : Int) (x : ByteArray) (w : World) (h : FOk d s true v p y x) :
    Calls Try.prog 21 #[.agg #[.string d, .string s, .bool true, .int .i64 v, .int .i64 p, .int .i64 y, .string x]] w fun e w' => e = .returned (.tuple #[.string ⟨(encL d s true v p y x).toArray⟩, .int .i64 0]) ∧ Below w.heap.size w w' := by
  have hok : okF d s true v p y x = true := decide_eq_true h
  obtain ⟨i1, i2, i3, i4, i5, i6⟩ := h
  rw [if_pos rfl] at i6
  obtain ⟨v0, v1, p0, p1⟩ := i6
  have HM := Lib.hid fun U => rmay_c d s true v p y x U (by omega)
  rw [hok] at HM
  have HQ := Lib.hid fun U => of2 (p * 8192 + v) U (by omega) (by omega)
  have HP := Lib.hid fun U => of2 y U i4 i5
  have s2 := bytes_size y.toNat 2
  obtain ⟨L, hL⟩ : ∃ L : ByteArray, L = ⟨(bytesOf y.toNat 2).toArray⟩ := ⟨_, rfl⟩
  rw [← hL] at HP s2
  have s3 := bytes_size (p * 8192 + v).toNat 2
  obtain ⟨M, hM⟩ : ∃ M : ByteArray, M = ⟨(bytesOf (p * 8192 + v).toNat 2).toArray⟩ := ⟨_, rfl⟩
  rw [← hM] at HQ s3
  have HE := Lib.hid (show (d ++ s ++ ⟨#[129, 0]⟩ ++ M ++ L ++ x).data.toList = encL d s true v p y x from by rw [hL, hM]; simp [encL, ByteArray.data_append])
  have j1 : d.size ≤ 6 := by omega
  have j2 : s.size ≤ 6 := by omega
  have j3 : L.size ≤ 2 := by omega
  have j4 : M.size ≤ 2 := by omega
  clear hok i1 i2 hL s2 hM s3
  go_enter Try.func21, Try.ntmps21
  go_wp2_with fail
  refine (HM.out _).mono ?_
  rintro e w1 ⟨rfl, h1⟩
  obtain ⟨hc1, hf1⟩ := below_cells h1
  have g1 : w.heap.size < w1.heap.size := by have := h1.size; simp at this; omega
  go_wp2_with fail
  refine (HQ.out _).mono ?_
  rintro e w1b ⟨rfl, h1b⟩
  go_wp2_with fail
  have d5 : w1b.cell? ⟨w.heap.size, 5, none⟩ = some (.int .i64 y) := by rw [h1b.cell (p := ⟨w.heap.size, 5, none⟩) g1, hc1 _ _ (by simp)]; simp
  have d6 : w1b.cell? ⟨w.heap.size, 6, none⟩ = some (.string x) := by rw [h1b.cell (p := ⟨w.heap.size, 6, none⟩) g1, hc1 _ _ (by simp)]; simp
  have g2 : w.heap.size < w1b.heap.size := Nat.lt_of_lt_of_le g1 h1b.size
  clear hc1 hf1
  go_region_with ((go_at_call 46; refine (HP.out _).mono ?_; rintro e w2 ⟨rfl, h2⟩; have d6' : w2.cell? ⟨w.heap.size, 6, none⟩ = some (.string x) := by
                     rw [h2.cell (p := ⟨w.heap.size, 6, none⟩) (by simpa using g2)]; simpa using d6))
  all_goals
    go_wp2
    go_ret2
    exact ⟨ret_sb (by rw [← HE.out]), below_drew_then (below_then (eenc_boxed h1) h1b) h2⟩

theorem renc_c (d s : ByteArray) (t : Bool) (v p y : Int) (x : ByteArray) (w : World) (hx : x.size ≤ 140737488351232) :
    Calls Try.prog 21 #[.agg #[.string d, .string s, .bool t, .int .i64 v, .int .i64 p, .int .i64 y, .string x]] w fun e w' => e = .returned (.tuple #[.string (encF d s t v p y x).1, .int .i64 (encF d s t v p y x).2]) ∧ Below w.heap.size w w' := by
  by_cases h : FOk d s t v p y x
  · have hv : encF d s t v p y x = (⟨(encL d s t v p y x).toArray⟩, 0) := if_pos h
    rw [hv]
    cases t
    · exact renc_plain d s v p y x w h
    · exact renc_tagged d s v p y x w h
  · have hv : encF d s t v p y x = (⟨#[]⟩, 1) := if_neg h
    rw [hv]
    exact renc_no d s t v p y x w hx h

end Go.Proofs.Ytocckinnmdgdfaa
