/-
  Plain lemmas on frames: what was encoded is decoded, what was decoded is encoded to the same bytes.
-/
import Derived.Test.YtocckinnmdgdfaaEthE
namespace Go.Proofs.Ytocckinnmdgdfaa
open Go.RowKit
set_option linter.unusedVariables false

theorem mk_size (l : List UInt8) : (⟨l.toArray⟩ : ByteArray).size = l.length := by rw [ByteArray.size_mk', List.size_toArray]

/-- A part of a text that is known as a list. -/
theorem sub_mid (a m b : List UInt8) (A N : Int) (hA : (a.length : Int) = A) (hN : (m.length : Int) = N) : sub ⟨(a ++ m ++ b).toArray⟩ A N = ⟨m.toArray⟩ := by
  unfold sub cutSpec
  have hz : (⟨(a ++ m ++ b).toArray⟩ : ByteArray).size = a.length + m.length + b.length := by rw [mk_size, List.length_append, List.length_append]
  rw [if_neg (by omega), if_neg (by omega)]
  show (⟨(subs ⟨(a ++ m ++ b).toArray⟩ A.toNat N.toNat).toArray⟩ : ByteArray) = _
  have : subs ⟨(a ++ m ++ b).toArray⟩ A.toNat N.toNat = m := by
    unfold subs
    show List.take N.toNat (List.drop A.toNat (a ++ m ++ b)) = m
    rw [List.append_assoc, List.drop_append_of_le_length (by omega), List.drop_of_length_le (by omega), List.nil_append, List.take_append_of_le_length (by omega), List.take_of_length_le (by omega)]
  rw [this]
theorem num2_mid (a m b : List UInt8) (A : Int) (hA : (a.length : Int) = A) (hN : m.length = 2) : num2 ⟨(a ++ m ++ b).toArray⟩ A = (be m : Int) := by
  unfold num2 getSpec
  have hz : (⟨(a ++ m ++ b).toArray⟩ : ByteArray).size = a.length + m.length + b.length := by rw [mk_size, List.length_append, List.length_append]
  rw [if_neg (by omega), if_neg (by omega)]
  have : subs ⟨(a ++ m ++ b).toArray⟩ A.toNat (2 : Int).toNat = m := by
    unfold subs
    show List.take 2 (List.drop A.toNat (a ++ m ++ b)) = m
    rw [List.append_assoc, List.drop_append_of_le_length (by omega), List.drop_of_length_le (by omega), List.nil_append, List.take_append_of_le_length (by omega), List.take_of_length_le (by omega)]
  rw [this]
theorem be_two (n : Int) (h0 : 0 ≤ n) (h1 : n ≤ 65535) : (be (bytesOf n.toNat 2) : Int) = n := by
  rw [be_bytesOf]
  have : n.toNat % 256 ^ 2 = n.toNat := Nat.mod_eq_of_lt (by omega)
  rw [this]; omega
theorem ba_of (s : ByteArray) : (⟨s.data.toList.toArray⟩ : ByteArray) = s := by apply ByteArray.ext; simp
theorem len_of (s : ByteArray) : s.data.toList.length = s.size := by simp

theorem back_plain (d s : ByteArray) (y : Int) (x : ByteArray) (h : FOk d s false 0 0 y x) : decF ⟨(encL d s false 0 0 y x).toArray⟩ = (⟨d, s, false, 0, 0, y, x⟩, 0) := by
  have hok : okF d s false 0 0 y x = true := decide_eq_true h
  obtain ⟨i1, i2, i3, i4, i5, i6⟩ := h
  rw [if_neg (by decide)] at i6
  have l1 := len_of d
  have l2 := len_of s
  have l3 := len_of x
  have lb := bytesOf_length y.toNat 2
  have e0 : encL d s false 0 0 y x = [] ++ d.data.toList ++ (s.data.toList ++ bytesOf y.toNat 2 ++ x.data.toList) := by simp [encL]
  have e1 : encL d s false 0 0 y x = d.data.toList ++ s.data.toList ++ (bytesOf y.toNat 2 ++ x.data.toList) := by simp [encL]
  have e2 : encL d s false 0 0 y x = (d.data.toList ++ s.data.toList) ++ bytesOf y.toNat 2 ++ x.data.toList := by simp [encL]
  have e3 : encL d s false 0 0 y x = (d.data.toList ++ s.data.toList ++ bytesOf y.toNat 2) ++ x.data.toList ++ [] := by simp [encL]
  have hz : (⟨(encL d s false 0 0 y x).toArray⟩ : ByteArray).size = 14 + x.size := by
    rw [mk_size, e2, List.length_append, List.length_append, List.length_append]; omega
  have hm : num2 ⟨(encL d s false 0 0 y x).toArray⟩ 12 = y := by
    rw [e2, num2_mid _ _ _ 12 (by rw [List.length_append]; omega) lb, be_two y i4 i5]
  have s1 : sub ⟨(encL d s false 0 0 y x).toArray⟩ 0 6 = d := by rw [e0, sub_mid _ _ _ 0 6 rfl (by omega), ba_of]
  have s2 : sub ⟨(encL d s false 0 0 y x).toArray⟩ 6 6 = s := by rw [e1, sub_mid _ _ _ 6 6 (by omega) (by omega), ba_of]
  have s3 : sub ⟨(encL d s false 0 0 y x).toArray⟩ 14 (x.size : Int) = x := by
    rw [e3, sub_mid _ _ _ 14 _ (by rw [List.length_append, List.length_append]; omega) (by omega), ba_of]
  obtain ⟨S, hS⟩ : ∃ S : ByteArray, S = ⟨(encL d s false 0 0 y x).toArray⟩ := ⟨_, rfl⟩
  rw [← hS] at hz hm s1 s2 s3 ⊢
  have hr : readF S = ⟨d, s, false, 0, 0, y, x⟩ := by
    unfold readF
    rw [hm, if_neg i6.2.2, s1, s2, hz, show ((14 + x.size : Nat) : Int) - 14 = (x.size : Int) from by omega, s3]
  unfold decF
  rw [hm, if_neg i6.2.2, if_neg (by omega), if_neg (fun g => i6.2.2 g.1), hr]
  exact if_pos hok

theorem back_tagged (d s : ByteArray) (v p y : Int) (x : ByteArray) (h : FOk d s true v p y x) : decF ⟨(encL d s true v p y x).toArray⟩ = (⟨d, s, true, v, p, y, x⟩, 0) := by
  have hok : okF d s true v p y x = true := decide_eq_true h
  obtain ⟨i1, i2, i3, i4, i5, i6⟩ := h
  rw [if_pos rfl] at i6
  obtain ⟨v0, v1, p0, p1⟩ := i6
  have l1 := len_of d
  have l2 := len_of s
  have l3 := len_of x
  have lb := bytesOf_length y.toNat 2
  have lq := bytesOf_length (p * 8192 + v).toNat 2
  obtain ⟨Q, hQ⟩ : ∃ Q, Q = bytesOf (p * 8192 + v).toNat 2 := ⟨_, rfl⟩
  have bq := be_two (p * 8192 + v) (by omega) (by omega)
  have e : encL d s true v p y x = d.data.toList ++ s.data.toList ++ ([129, 0] ++ Q) ++ bytesOf y.toNat 2 ++ x.data.toList := by simp [encL, hQ]
  rw [← hQ] at lq bq
  have e0 : encL d s true v p y x = [] ++ d.data.toList ++ (s.data.toList ++ [129, 0] ++ Q ++ bytesOf y.toNat 2 ++ x.data.toList) := by rw [e]; simp
  have e1 : encL d s true v p y x = d.data.toList ++ s.data.toList ++ ([129, 0] ++ Q ++ bytesOf y.toNat 2 ++ x.data.toList) := by rw [e]; simp
  have e2 : encL d s true v p y x = (d.data.toList ++ s.data.toList) ++ [129, 0] ++ (Q ++ bytesOf y.toNat 2 ++ x.data.toList) := by rw [e]; simp
  have e2b : encL d s true v p y x = (d.data.toList ++ s.data.toList ++ [129, 0]) ++ Q ++ (bytesOf y.toNat 2 ++ x.data.toList) := by rw [e]; simp
  have e2c : encL d s true v p y x = (d.data.toList ++ s.data.toList ++ [129, 0] ++ Q) ++ bytesOf y.toNat 2 ++ x.data.toList := by rw [e]; simp
  have e3 : encL d s true v p y x = (d.data.toList ++ s.data.toList ++ [129, 0] ++ Q ++ bytesOf y.toNat 2) ++ x.data.toList ++ [] := by rw [e]; simp
  have lm : ([129, 0] : List UInt8).length = 2 := rfl
  have hz : (⟨(encL d s true v p y x).toArray⟩ : ByteArray).size = 18 + x.size := by
    rw [mk_size, e3, List.length_append, List.length_append, List.length_append, List.length_append, List.length_append, List.length_append]; simp; omega
  have hm : num2 ⟨(encL d s true v p y x).toArray⟩ 12 = 33024 := by
    rw [e2, num2_mid _ _ _ 12 (by rw [List.length_append]; omega) rfl]
    rfl
  have hq : num2 ⟨(encL d s true v p y x).toArray⟩ 14 = p * 8192 + v := by
    rw [e2b, num2_mid _ _ _ 14 (by rw [List.length_append, List.length_append]; omega) lq, bq]
  have hy : num2 ⟨(encL d s true v p y x).toArray⟩ 16 = y := by
    rw [e2c, num2_mid _ _ _ 16 (by rw [List.length_append, List.length_append, List.length_append]; omega) lb, be_two y i4 i5]
  have s1 : sub ⟨(encL d s true v p y x).toArray⟩ 0 6 = d := by rw [e0, sub_mid _ _ _ 0 6 rfl (by omega), ba_of]
  have s2 : sub ⟨(encL d s true v p y x).toArray⟩ 6 6 = s := by rw [e1, sub_mid _ _ _ 6 6 (by omega) (by omega), ba_of]
  have s3 : sub ⟨(encL d s true v p y x).toArray⟩ 18 (x.size : Int) = x := by
    rw [e3, sub_mid _ _ _ 18 _ (by rw [List.length_append, List.length_append, List.length_append, List.length_append]; omega) (by omega), ba_of]
  obtain ⟨S, hS⟩ : ∃ S : ByteArray, S = ⟨(encL d s true v p y x).toArray⟩ := ⟨_, rfl⟩
  rw [← hS] at hz hm hq hy s1 s2 s3 ⊢
  have hr : readF S = ⟨d, s, true, v, p, y, x⟩ := by
    unfold readF
    rw [hm, if_pos rfl, s1, s2, hz, show ((18 + x.size : Nat) : Int) - 18 = (x.size : Int) from by omega, s3, hq, hy, show (p * 8192 + v) % 4096 = v from by omega, show (p * 8192 + v) / 8192 = p from by omega]
  unfold decF
  rw [hm, hq, if_pos rfl, if_neg (by omega), if_neg (fun g => by have := g.2; omega), hr]
  exact if_pos hok

theorem back_all (d s : ByteArray) (t : Bool) (v p y : Int) (x : ByteArray) (h : FOk d s t v p y x) : decF ⟨(encL d s t v p y x).toArray⟩ = (⟨d, s, t, v, p, y, x⟩, 0) := by
  cases t
  · obtain ⟨i1, i2, i3, i4, i5, i6⟩ := h
    rw [if_neg (by decide)] at i6
    obtain ⟨rfl, rfl, i7⟩ := i6
    exact back_plain d s y x ⟨i1, i2, i3, i4, i5, by rw [if_neg (by decide)]; exact ⟨rfl, rfl, i7⟩⟩
  · exact back_tagged d s v p y x h

theorem sub_list (s : ByteArray) (A N : Nat) (h : A + N ≤ s.size) : (sub s A N).data.toList = (s.data.toList.drop A).take N := by
  unfold sub cutSpec
  rw [if_neg (by omega), if_neg (by omega)]
  rfl
theorem num2_list (s : ByteArray) (A : Nat) (h : A + 2 ≤ s.size) : bytesOf (num2 s A).toNat 2 = (s.data.toList.drop A).take 2 := by
  unfold num2 getSpec
  rw [if_neg (by omega), if_neg (by omega)]
  show bytesOf ((be (subs s A 2) : Nat) : Int).toNat 2 = _
  have hl : (subs s A 2).length = 2 := by
    unfold subs; rw [List.length_take, List.length_drop]; have := len_of s; omega
  have hb := bytesOf_be (subs s A 2)
  rw [hl] at hb
  rw [Int.toNat_natCast]
  exact hb

/-- A list is its parts, one behind the other. -/
theorem join_parts (l : List UInt8) (a n : Nat) : l.take a ++ (l.drop a).take n = l.take (a + n) := by rw [List.take_add]
theorem cut18 (l : List UInt8) (n : Nat) (h : l.length = n) (h18 : 18 ≤ n) :
    (l.drop 0).take 6 ++ (l.drop 6).take 6 ++ ((l.drop 12).take 2 ++ (l.drop 14).take 2) ++ (l.drop 16).take 2 ++ (l.drop 18).take (n - 18) = l := by
  rw [List.drop_zero, join_parts, ← List.append_assoc, join_parts, join_parts, join_parts, join_parts, List.take_of_length_le (by omega)]
theorem cut14 (l : List UInt8) (n : Nat) (h : l.length = n) (h14 : 14 ≤ n) :
    (l.drop 0).take 6 ++ (l.drop 6).take 6 ++ [] ++ (l.drop 12).take 2 ++ (l.drop 14).take (n - 14) = l := by
  rw [List.drop_zero, List.append_nil, join_parts, join_parts, join_parts, List.take_of_length_le (by omega)]

/-- What was decoded is encoded to the same bytes. -/
theorem forth_all (s : ByteArray) (h : (decF s).2 = 0) : FOk (decF s).1.d (decF s).1.s (decF s).1.t (decF s).1.v (decF s).1.p (decF s).1.y (decF s).1.x ∧
    encL (decF s).1.d (decF s).1.s (decF s).1.t (decF s).1.v (decF s).1.p (decF s).1.y (decF s).1.x = s.data.toList := by
  unfold decF at h ⊢
  by_cases c1 : (s.size : Int) < (if num2 s 12 = 33024 then 18 else 14)
  · rw [if_pos c1] at h; exact absurd h (by decide)
  · rw [if_neg c1] at h ⊢
    by_cases c2 : num2 s 12 = 33024 ∧ num2 s 14 / 4096 % 2 = 1
    · rw [if_pos c2] at h; exact absurd h (by decide)
    · rw [if_neg c2] at h ⊢
      by_cases c3 : okF (readF s).d (readF s).s (readF s).t (readF s).v (readF s).p (readF s).y (readF s).x = true
      · rw [if_pos c3]
        refine ⟨of_decide_eq_true c3, ?_⟩
        have ll := len_of s
        by_cases hm : num2 s 12 = 33024
        · rw [if_pos hm] at c1
          have hr : readF s = ⟨sub s 0 6, sub s 6 6, true, num2 s 14 % 4096, num2 s 14 / 8192, num2 s 16, sub s 18 ((s.size : Int) - 18)⟩ := if_pos hm
          rw [hr]
          have q := num2_le s 14
          have hq : num2 s 14 / 8192 * 8192 + num2 s 14 % 4096 = num2 s 14 := by omega
          have a1 : (sub s 0 6).data.toList = (s.data.toList.drop 0).take 6 := sub_list s 0 6 (by omega)
          have a2 : (sub s 6 6).data.toList = (s.data.toList.drop 6).take 6 := sub_list s 6 6 (by omega)
          have a3 : (sub s 18 ((s.size : Int) - 18)).data.toList = (s.data.toList.drop 18).take (s.size - 18) := by
            have := sub_list s 18 (s.size - 18) (by omega)
            rwa [show ((s.size - 18 : Nat) : Int) = (s.size : Int) - 18 from by omega] at this
          have b0 : ([129, 0] : List UInt8) = (s.data.toList.drop 12).take 2 := by
            rw [← num2_list s 12 (by omega), show num2 s ((12 : Nat) : Int) = 33024 from hm]; decide
          have b1 : bytesOf (num2 s 14).toNat 2 = (s.data.toList.drop 14).take 2 := num2_list s 14 (by omega)
          have b2 : bytesOf (num2 s 16).toNat 2 = (s.data.toList.drop 16).take 2 := num2_list s 16 (by omega)
          show (sub s 0 6).data.toList ++ (sub s 6 6).data.toList ++ ([129, 0] ++ bytesOf (num2 s 14 / 8192 * 8192 + num2 s 14 % 4096).toNat 2) ++ bytesOf (num2 s 16).toNat 2 ++ (sub s 18 ((s.size : Int) - 18)).data.toList = _
          rw [hq, a1, a2, a3, b0, b1, b2]
          exact cut18 s.data.toList s.size ll (by omega)
        · rw [if_neg hm] at c1
          have hr : readF s = ⟨sub s 0 6, sub s 6 6, false, 0, 0, num2 s 12, sub s 14 ((s.size : Int) - 14)⟩ := if_neg hm
          rw [hr]
          have a1 : (sub s 0 6).data.toList = (s.data.toList.drop 0).take 6 := sub_list s 0 6 (by omega)
          have a2 : (sub s 6 6).data.toList = (s.data.toList.drop 6).take 6 := sub_list s 6 6 (by omega)
          have a3 : (sub s 14 ((s.size : Int) - 14)).data.toList = (s.data.toList.drop 14).take (s.size - 14) := by
            have := sub_list s 14 (s.size - 14) (by omega)
            rwa [show ((s.size - 14 : Nat) : Int) = (s.size : Int) - 14 from by omega] at this
          have b1 : bytesOf (num2 s 12).toNat 2 = (s.data.toList.drop 12).take 2 := num2_list s 12 (by omega)
          show (sub s 0 6).data.toList ++ (sub s 6 6).data.toList ++ [] ++ bytesOf (num2 s 12).toNat 2 ++ (sub s 14 ((s.size : Int) - 14)).data.toList = _
          rw [a1, a2, a3, b1]
          exact cut14 s.data.toList s.size ll (by omega)
      · rw [if_neg c3] at h; exact absurd h (by decide)

end Go.Proofs.Ytocckinnmdgdfaa
