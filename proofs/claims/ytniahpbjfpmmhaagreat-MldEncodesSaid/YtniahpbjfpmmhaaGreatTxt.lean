/-
  Texts: numbers and parts that stand in them; small lemmas that the packets' proofs share.
-/
import Derived.Test.YtniahpbjfpmmhaaGreatSub
import Derived.Test.YtniahpbjfpmmhaaGreatBase
import Derived.Test.YtniahpbjfpmmhaaGreatBld
namespace Go.Proofs.YtniahpbjfpmmhaaGreat
open Go.RowKit
set_option linter.unusedVariables false
set_option linter.unusedSimpArgs false

theorem put1 (n : Int) (h0 : 0 ≤ n) (h1 : n ≤ 255) : putSpec n 1 = (⟨(bytesOf n.toNat 1).toArray⟩, 0) := by
  obtain ⟨N, rfl⟩ := Int.eq_ofNat_of_zero_le h0
  exact put_ok N 1 (by omega) (by omega) (by omega)
theorem put2v (n : Int) (h0 : 0 ≤ n) (h1 : n ≤ 65535) : putSpec n 2 = (⟨(bytesOf n.toNat 2).toArray⟩, 0) := by
  obtain ⟨N, rfl⟩ := Int.eq_ofNat_of_zero_le h0
  exact put_ok N 2 (by omega) (by omega) (by omega)
theorem vboxed {w w1 : World} {o : Obj} (h1 : Below (w.alloc o).heap.size (w.alloc o) w1) : Below w.heap.size w w1 :=
  ((Below.refl _ w).alloc (Nat.le_refl _) o).trans (h1.mono (by simp))
theorem vbelow {w w1 w2 : World} {o p : Obj} (h1 : Below (w.alloc o).heap.size (w.alloc o) w1) (h2 : Below w1.heap.size (w1.alloc p) w2) : Below w.heap.size w w2 := by
  have a := vboxed h1
  have b : Below w1.heap.size w1 w2 := ((Below.refl _ w1).alloc (Nat.le_refl _) p).trans h2
  exact a.trans (b.mono a.size)
theorem ret_sv {a b : ByteArray} {v : Value} (h : a = b) : Ending.returned (.tuple #[.string a, v]) = .returned (.tuple #[.string b, v]) := by rw [h]
theorem vbstr_c (b : Nat) (l : List UInt8) (w : World) (h : Bld b l w) (h0 : 0 < l.length) :
    Calls Tryz.prog 10 #[.pointer (some ⟨b, 0, none⟩)] w fun e w' => e = .returned (.string ⟨l.toArray⟩) ∧ Below b w w' :=
  (bstr_some b l w h (by rintro rfl; simp at h0)).mono fun _ _ h => ⟨h.1, h.2.2⟩
/-- The number of w bytes at a; n bytes from a on. Nothing where they don't stand. -/
def numv (s : ByteArray) (a w : Int) : Int := (getSpec s a w).1
theorem numv_of (s : ByteArray) (A W : Nat) (h1 : 1 ≤ W) (h4 : W ≤ 4) (h : A + W ≤ s.size) : numv s A W = (be (subs s A W) : Int) := by
  unfold numv getSpec
  rw [if_neg (by omega), if_neg (by omega)]
  rfl
theorem numv_le1 (s : ByteArray) (a : Int) : 0 ≤ numv s a 1 ∧ numv s a 1 ≤ 255 := by
  unfold numv getSpec
  split
  · decide
  · split
    · decide
    · have := be_lt (subs s a.toNat (1 : Int).toNat)
      have h2 : (subs s a.toNat (1 : Int).toNat).length ≤ 1 := by simp [subs]; omega
      have h5 : 256 ^ (subs s a.toNat (1 : Int).toNat).length ≤ 256 ^ 1 := Nat.pow_le_pow_right (by omega) h2
      show (0 : Int) ≤ ((be (subs s a.toNat (1 : Int).toNat) : Nat) : Int) ∧ ((be (subs s a.toNat (1 : Int).toNat) : Nat) : Int) ≤ 255
      omega
theorem numv_le2 (s : ByteArray) (a : Int) : 0 ≤ numv s a 2 ∧ numv s a 2 ≤ 65535 := by
  unfold numv getSpec
  split
  · decide
  · split
    · decide
    · have := be_lt (subs s a.toNat (2 : Int).toNat)
      have h2 : (subs s a.toNat (2 : Int).toNat).length ≤ 2 := by simp [subs]; omega
      have h5 : 256 ^ (subs s a.toNat (2 : Int).toNat).length ≤ 256 ^ 2 := Nat.pow_le_pow_right (by omega) h2
      show (0 : Int) ≤ ((be (subs s a.toNat (2 : Int).toNat) : Nat) : Int) ∧ ((be (subs s a.toNat (2 : Int).toNat) : Nat) : Int) ≤ 65535
      omega
theorem cut_okv (s : ByteArray) (A N : Nat) (h : A + N ≤ s.size) : cutSpec s A N = (s.extract A (A + N), 0) := by
  unfold cutSpec
  rw [if_neg (by omega), if_neg (by omega), extract_mk]
  rfl
def subv (s : ByteArray) (a n : Int) : ByteArray := (cutSpec s a n).1
theorem subv_of (s : ByteArray) (A N : Nat) (h : A + N ≤ s.size) : subv s A N = s.extract A (A + N) := by
  unfold subv cutSpec
  rw [if_neg (by omega), if_neg (by omega), extract_mk]
  rfl
theorem ext_size (s : ByteArray) (A N : Nat) (h : A + N ≤ s.size) : (s.extract A (A + N)).size = N := by simp; omega
theorem subs_head (s : ByteArray) (K A n : Nat) (h : A + n ≤ K) (hK : K ≤ s.size) : subs (s.extract 0 K) A n = subs s A n := by
  unfold subs
  rw [Lib.extract_data, List.drop_zero, Nat.sub_zero, List.drop_take, List.take_take, Nat.min_eq_left (by omega)]
theorem numv_head (s : ByteArray) (K A W : Nat) (h1 : 1 ≤ W) (h4 : W ≤ 4) (h : A + W ≤ K) (hK : K ≤ s.size) : numv (s.extract 0 K) A W = numv s A W := by
  have hz := ext_size s 0 K (by omega)
  rw [Nat.zero_add] at hz
  rw [numv_of _ A W h1 h4 (by omega), numv_of s A W h1 h4 (by omega), subs_head s K A W h hK]
theorem subv_head (s : ByteArray) (K A N : Nat) (h : A + N ≤ K) (hK : K ≤ s.size) : subv (s.extract 0 K) A N = s.extract A (A + N) := by
  have hz := ext_size s 0 K (by omega)
  rw [Nat.zero_add] at hz
  rw [subv_of _ A N (by omega), extract_mk, extract_mk, subs_head s K A N h hK]
/-- One byte; two bytes. -/
def o1 (n : Int) : ByteArray := ⟨(bytesOf n.toNat 1).toArray⟩
def o2 (n : Int) : ByteArray := ⟨(bytesOf n.toNat 2).toArray⟩
theorem o1_size (n : Int) : (o1 n).size = 1 := bytes_size _ _
theorem o2_size (n : Int) : (o2 n).size = 2 := bytes_size _ _
theorem wrap_b (b : UInt8) : wrap64 (b.toNat : Int) = (b.toNat : Int) := by
  unfold wrap64
  have := b.toNat_lt
  omega
theorem numv_byte (s : ByteArray) (A : Nat) (h : A < s.size) : numv s A 1 = (s[A].toNat : Int) := by
  have n1 := numv_of s A 1 (by omega) (by omega) (by omega)
  rw [show ((1 : Nat) : Int) = 1 from rfl] at n1
  rw [n1, subs_succ s A 0 (by omega)]
  have e : subs s A 0 = [] := by unfold subs; rw [List.take_zero]
  rw [e, List.nil_append]
  simp [be]
/-- Byte j of s, or 0. -/
def byt (s : ByteArray) (j : Nat) : Nat := (s.data.toList.getD j 0).toNat
theorem byt_get (s : ByteArray) (j : Nat) (h : j < s.size) : s[j].toNat = byt s j := by
  unfold byt
  rw [getD_at _ _ _ (by simpa using h)]
  simp; rfl
theorem get_byte (s : ByteArray) (a : Nat) (h : a < s.size) : getSpec s a 1 = ((byt s a : Int), 0) := by
  unfold getSpec
  rw [if_neg (by omega), if_neg (by omega)]
  show (((be (subs s a 1) : Nat) : Int), (0 : Int)) = _
  rw [subs_succ s a 0 (by omega)]
  have e : subs s a 0 = [] := by unfold subs; rw [List.take_zero]
  have hb := byt_get s a h
  rw [e, List.nil_append, ← hb]
  simp [be]
theorem cut_okh (s : ByteArray) (A N : Nat) (h : A + N ≤ s.size) : cutSpec s A N = (s.extract A (A + N), 0) := by
  unfold cutSpec
  rw [if_neg (by omega), if_neg (by omega), extract_mk]
  rfl
theorem vlen (s : ByteArray) : s.data.toList.length = s.size := by simp
theorem numv_mid (T : ByteArray) (a m b : List UInt8) (A W : Nat) (h : T.data.toList = a ++ m ++ b) (hA : a.length = A) (hW : m.length = W) (h1 : 1 ≤ W) (h4 : W ≤ 4) : numv T A W = (be m : Int) := by
  have hz := vlen T
  rw [h, List.length_append, List.length_append] at hz
  rw [numv_of T A W h1 h4 (by omega)]
  have : subs T A W = m := by
    unfold subs
    rw [h, List.append_assoc, List.drop_append_of_le_length (by omega), List.drop_of_length_le (by omega), List.nil_append, List.take_append_of_le_length (by omega), List.take_of_length_le (by omega)]
  rw [this]
theorem ext_mid (T : ByteArray) (a m b : List UInt8) (A B : Nat) (h : T.data.toList = a ++ m ++ b) (hA : a.length = A) (hB : A + m.length = B) : T.extract A B = ⟨m.toArray⟩ := by
  subst hB
  rw [extract_mk]
  have : subs T A m.length = m := by
    unfold subs
    rw [h, List.append_assoc, List.drop_append_of_le_length (by omega), List.drop_of_length_le (by omega), List.nil_append, List.take_append_of_le_length (by omega), List.take_of_length_le (by omega)]
  rw [this]
theorem mk_of (s : ByteArray) : (⟨s.data.toList.toArray⟩ : ByteArray) = s := by apply ByteArray.ext; simp
theorem be_nat (n W : Nat) (h : n < 256 ^ W) : be (bytesOf n W) = n := by rw [be_bytesOf, Nat.mod_eq_of_lt h]

end Go.Proofs.YtniahpbjfpmmhaaGreat
