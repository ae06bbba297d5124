/-
  The tree's messages: what the document says of their bytes (plain definitions and lemmas).
-/
import Derived.Test.YtcahhkmbigjhlaaTxt
namespace Go.Proofs.Ytcahhkmbigjhlaa
open Go.RowKit
set_option linter.unusedVariables false
set_option linter.unusedSimpArgs false

/-- The number of eight bytes at a. -/
def widv (s : ByteArray) (a : Int) : Int := (wideSpec s a).1
theorem widv_of (s : ByteArray) (A : Nat) (h : A + 8 ≤ s.size) : widv s A = (be (subs s A 8) : Int) := by
  unfold widv wideSpec
  rw [if_neg (by omega), if_neg (by omega)]
  rfl
theorem widv_le (s : ByteArray) (a : Int) : 0 ≤ widv s a ∧ widv s a ≤ 18446744073709551615 := by
  unfold widv wideSpec
  split
  · decide
  · split
    · decide
    · have := be_lt (subs s a.toNat 8)
      have h2 : (subs s a.toNat 8).length ≤ 8 := by simp [subs]; omega
      have h5 : 256 ^ (subs s a.toNat 8).length ≤ 256 ^ 8 := Nat.pow_le_pow_right (by omega) h2
      show (0 : Int) ≤ ((be (subs s a.toNat 8) : Nat) : Int) ∧ ((be (subs s a.toNat 8) : Nat) : Int) ≤ 18446744073709551615
      omega
theorem numv_le4 (s : ByteArray) (a : Int) : 0 ≤ numv s a 4 ∧ numv s a 4 ≤ 4294967295 := by
  unfold numv getSpec
  split
  · decide
  · split
    · decide
    · have := be_lt (subs s a.toNat (4 : Int).toNat)
      have h2 : (subs s a.toNat (4 : Int).toNat).length ≤ 4 := by simp [subs]; omega
      have h5 : 256 ^ (subs s a.toNat (4 : Int).toNat).length ≤ 256 ^ 4 := Nat.pow_le_pow_right (by omega) h2
      show (0 : Int) ≤ ((be (subs s a.toNat (4 : Int).toNat) : Nat) : Int) ∧ ((be (subs s a.toNat (4 : Int).toNat) : Nat) : Int) ≤ 4294967295
      omega
theorem subs_mid (T : ByteArray) (a m b : List UInt8) (A W : Nat) (h : T.data.toList = a ++ m ++ b) (hA : a.length = A) (hW : m.length = W) : subs T A W = m := by
  unfold subs
  rw [h, List.append_assoc, List.drop_append_of_le_length (by omega), List.drop_of_length_le (by omega), List.nil_append, List.take_append_of_le_length (by omega), List.take_of_length_le (by omega)]
theorem widv_mid (T : ByteArray) (a m b : List UInt8) (A : Nat) (h : T.data.toList = a ++ m ++ b) (hA : a.length = A) (hW : m.length = 8) : widv T A = (be m : Int) := by
  have hz := vlen T
  rw [h, List.length_append, List.length_append] at hz
  rw [widv_of T A (by omega), subs_mid T a m b A 8 h hA hW]

/-- A message. -/
structure BpV where
  (r c b p a : Int) (ch le fw : Bool)
def BpV.zero : BpV := ⟨0, 0, 0, 0, 0, false, false, false⟩
def BpV.val (k : BpV) : Value := .agg #[.int .u64 k.r, .int .i64 k.c, .int .u64 k.b, .int .i64 k.p, .int .i64 k.a, .bool k.ch, .bool k.le, .bool k.fw]

/-- A message that may be. -/
def OkB (c p a : Int) : Prop := 0 ≤ c ∧ c ≤ 4294967295 ∧ 0 ≤ p ∧ p ≤ 65535 ∧ 0 ≤ a ∧ a ≤ 255
instance (c p a : Int) : Decidable (OkB c p a) := by unfold OkB; infer_instance
def okB (c p a : Int) : Bool := decide (OkB c p a)
theorem okB_iff (c p a : Int) : okB c p a = true ↔ 0 ≤ c ∧ c ≤ 4294967295 ∧ 0 ≤ p ∧ p ≤ 65535 ∧ 0 ≤ a ∧ a ≤ 255 := by unfold okB; rw [decide_eq_true_iff]; rfl

def frontB : List UInt8 := [66, 66, 3, 0, 0, 2, 2]
def b2n (b : Bool) (n : Nat) : Nat := if b then n else 0
/-- The flags, as a number. -/
def flagB (ch le fw : Bool) : Nat := 12 + b2n ch 1 + b2n le 16 + b2n fw 32
theorem flagB_lt (ch le fw : Bool) : flagB ch le fw < 256 := by cases ch <;> cases le <;> cases fw <;> decide

/-- The bytes behind the flags. -/
def backB (r c b p a : Int) : List UInt8 := bytesOf r.toNat 8 ++ bytesOf c.toNat 4 ++ bytesOf b.toNat 8 ++ bytesOf p.toNat 2 ++ bytesOf a.toNat 1 ++ [0]
def encBL (r c b p a : Int) (ch le fw : Bool) : List UInt8 := frontB ++ bytesOf (flagB ch le fw) 1 ++ backB r c b p a ++ [20, 0, 2, 0, 15, 0] ++ [0]
def encBB (r c b p a : Int) (ch le fw : Bool) : ByteArray := ⟨(encBL r c b p a ch le fw).toArray⟩
def encB (r c b p a : Int) (ch le fw : Bool) : ByteArray × Int := if OkB c p a then (encBB r c b p a ch le fw, 0) else (⟨#[]⟩, 1)
theorem backB_len (r c b p a : Int) : (backB r c b p a).length = 24 := by simp [backB, bytesOf_length]
theorem encBB_size (r c b p a : Int) (ch le fw : Bool) : (encBB r c b p a ch le fw).size = 39 := by
  unfold encBB encBL
  rw [ByteArray.size_mk', List.size_toArray]
  simp [backB_len, bytesOf_length, frontB]

/-- The message of any bytes, or why there is none. -/
def decB (t : ByteArray) : BpV × Int :=
  if t.size < 39 then (.zero, 2)
  else if (t.extract 0 7).toList ≠ frontB ∨ numv t 31 1 ≠ 0 ∨ numv t 38 1 ≠ 0 then (.zero, 3)
  else (⟨widv t 8, numv t 16 4, widv t 20, numv t 28 2, numv t 30 1, numv t 7 1 % 2 == 1, numv t 7 1 / 16 % 2 == 1, numv t 7 1 / 32 % 2 == 1⟩, 0)

theorem toList_mk (l : List UInt8) : (⟨l.toArray⟩ : ByteArray).toList = l := by
  rw [ByteArray.toList_eq]

set_option maxHeartbeats 1000000 in
/-- Whatever stands in the first seven bytes. -/
theorem decB_at (r c b p a : Int) (f z : UInt8) (fr six behind : List UInt8) (T : ByteArray) (r0 : 0 ≤ r) (r1 : r ≤ 18446744073709551615) (b0 : 0 ≤ b) (b1 : b ≤ 18446744073709551615) (ok : OkB c p a)
    (h7 : fr.length = 7) (h6 : six.length = 6) (hT : T.data.toList = fr ++ [f] ++ backB r c b p a ++ six ++ [z] ++ behind) :
    decB T = if fr = frontB ∧ z = 0 then (⟨r, c, b, p, a, f.toNat % 2 == 1, f.toNat / 16 % 2 == 1, f.toNat / 32 % 2 == 1⟩, 0) else (.zero, 3) := by
  unfold OkB at ok
  obtain ⟨c0, c1, p0, p1, a0, a1⟩ := ok
  have lk := backB_len r c b p a
  have zT : T.size = 39 + behind.length := by
    rw [← vlen T, hT]; simp only [List.length_append, lk, h6, h7, List.length_cons, List.length_nil]
  have e8 : widv T 8 = r := by
    have := widv_mid T (fr ++ [f]) (bytesOf r.toNat 8) (bytesOf c.toNat 4 ++ bytesOf b.toNat 8 ++ bytesOf p.toNat 2 ++ bytesOf a.toNat 1 ++ [0] ++ six ++ [z] ++ behind) 8 (by rw [hT]; simp [backB]) (by simp [h7]) (bytesOf_length _ _)
    rw [be_nat _ 8 (by omega), Int.toNat_of_nonneg r0] at this
    exact this
  have e16 : numv T 16 4 = c := by
    have := numv_mid T (fr ++ [f] ++ bytesOf r.toNat 8) (bytesOf c.toNat 4) (bytesOf b.toNat 8 ++ bytesOf p.toNat 2 ++ bytesOf a.toNat 1 ++ [0] ++ six ++ [z] ++ behind) 16 4 (by rw [hT]; simp [backB]) (by simp [h7, bytesOf_length]) (bytesOf_length _ _) (by omega) (by omega)
    rw [be_nat _ 4 (by omega), Int.toNat_of_nonneg c0] at this
    exact this
  have e20 : widv T 20 = b := by
    have := widv_mid T (fr ++ [f] ++ bytesOf r.toNat 8 ++ bytesOf c.toNat 4) (bytesOf b.toNat 8) (bytesOf p.toNat 2 ++ bytesOf a.toNat 1 ++ [0] ++ six ++ [z] ++ behind) 20 (by rw [hT]; simp [backB]) (by simp [h7, bytesOf_length]) (bytesOf_length _ _)
    rw [be_nat _ 8 (by omega), Int.toNat_of_nonneg b0] at this
    exact this
  have e28 : numv T 28 2 = p := by
    have := numv_mid T (fr ++ [f] ++ bytesOf r.toNat 8 ++ bytesOf c.toNat 4 ++ bytesOf b.toNat 8) (bytesOf p.toNat 2) (bytesOf a.toNat 1 ++ [0] ++ six ++ [z] ++ behind) 28 2 (by rw [hT]; simp [backB]) (by simp [h7, bytesOf_length]) (bytesOf_length _ _) (by omega) (by omega)
    rw [be_nat _ 2 (by omega), Int.toNat_of_nonneg p0] at this
    exact this
  have e30 : numv T 30 1 = a := by
    have := numv_mid T (fr ++ [f] ++ bytesOf r.toNat 8 ++ bytesOf c.toNat 4 ++ bytesOf b.toNat 8 ++ bytesOf p.toNat 2) (bytesOf a.toNat 1) ([0] ++ six ++ [z] ++ behind) 30 1 (by rw [hT]; simp [backB]) (by simp [h7, bytesOf_length]) (bytesOf_length _ _) (by omega) (by omega)
    rw [be_nat _ 1 (by omega), Int.toNat_of_nonneg a0] at this
    exact this
  have one : ∀ y : UInt8, be [y] = y.toNat := fun y => by simp [be]
  have e31 : numv T 31 1 = 0 := by
    have := numv_mid T (fr ++ [f] ++ bytesOf r.toNat 8 ++ bytesOf c.toNat 4 ++ bytesOf b.toNat 8 ++ bytesOf p.toNat 2 ++ bytesOf a.toNat 1) [0] (six ++ [z] ++ behind) 31 1 (by rw [hT]; simp [backB]) (by simp [h7, bytesOf_length]) rfl (by omega) (by omega)
    exact this
  have e38 : numv T 38 1 = (z.toNat : Int) := by
    have := numv_mid T (fr ++ [f] ++ backB r c b p a ++ six) [z] behind 38 1 (by rw [hT]) (by simp [h7, h6, lk]) rfl (by omega) (by omega)
    rw [one] at this
    exact this
  have e7 : numv T 7 1 = (f.toNat : Int) := by
    have := numv_mid T fr [f] (backB r c b p a ++ six ++ [z] ++ behind) 7 1 (by rw [hT]; simp) h7 rfl (by omega) (by omega)
    rw [one] at this
    exact this
  have s0 : T.extract 0 7 = ⟨fr.toArray⟩ := ext_mid T [] fr ([f] ++ backB r c b p a ++ six ++ [z] ++ behind) 0 7 (by rw [hT]; simp) rfl (by omega)
  have hz : z = 0 ↔ (z.toNat : Int) = 0 := ⟨fun h => by rw [h]; rfl, fun h => by
    have h2 : z.toNat = 0 := by omega
    exact UInt8.toNat_inj.1 h2⟩
  unfold decB
  rw [if_neg (by omega), s0, toList_mk, e31, e38, e8, e16, e20, e28, e30, e7]
  by_cases g : fr = frontB ∧ z = 0
  · rw [if_pos g, if_neg (by rw [hz] at g; intro h; rcases h with h | h | h; exact h g.1; exact h rfl; exact h g.2)]
    have d1 : (((f.toNat : Nat) : Int) % 2 == 1) = (f.toNat % 2 == 1) := by rw [Bool.eq_iff_iff, beq_iff_eq, beq_iff_eq]; omega
    have d2 : (((f.toNat : Nat) : Int) / 16 % 2 == 1) = (f.toNat / 16 % 2 == 1) := by rw [Bool.eq_iff_iff, beq_iff_eq, beq_iff_eq]; omega
    have d3 : (((f.toNat : Nat) : Int) / 32 % 2 == 1) = (f.toNat / 32 % 2 == 1) := by rw [Bool.eq_iff_iff, beq_iff_eq, beq_iff_eq]; omega
    rw [d1, d2, d3]
  · rw [if_neg g, if_pos]
    by_cases g1 : fr = frontB
    · exact .inr (.inr fun h => g ⟨g1, hz.2 h⟩)
    · exact .inl g1

theorem flag_bits (ch le fw : Bool) : (flagB ch le fw % 2 == 1) = ch ∧ (flagB ch le fw / 16 % 2 == 1) = le ∧ (flagB ch le fw / 32 % 2 == 1) = fw := by
  cases ch <;> cases le <;> cases fw <;> decide
theorem bytes_one (n : Nat) (h : n < 256) : bytesOf n 1 = [UInt8.ofNat n] := by
  have := bytesOf_succ n 0
  rw [this, bytesOf_zero]; rfl

theorem back_B (r c b p a : Int) (ch le fw : Bool) (behind : ByteArray) (r0 : 0 ≤ r) (r1 : r ≤ 18446744073709551615) (b0 : 0 ≤ b) (b1 : b ≤ 18446744073709551615) (ok : OkB c p a) :
    decB (encBB r c b p a ch le fw ++ behind) = (⟨r, c, b, p, a, ch, le, fw⟩, 0) := by
  have hl := flagB_lt ch le fw
  obtain ⟨g1, g2, g3⟩ := flag_bits ch le fw
  have := decB_at r c b p a (UInt8.ofNat (flagB ch le fw)) 0 frontB [20, 0, 2, 0, 15, 0] behind.data.toList (encBB r c b p a ch le fw ++ behind) r0 r1 b0 b1 ok rfl rfl (by
    rw [← bytes_one _ hl]
    simp [encBB, encBL, ByteArray.data_append])
  rw [this, if_pos ⟨rfl, rfl⟩, UInt8.toNat_ofNat', Nat.mod_eq_of_lt hl, g1, g2, g3]

theorem short_B (S : ByteArray) (n : Nat) (hS : S.size = 39) (hn : n < 39) : decB (S.extract 0 n) = (.zero, 2) := by
  unfold decB
  rw [if_pos]
  have := ext_size S 0 n (by omega)
  rw [Nat.zero_add] at this
  omega

/-- What was decoded may be. -/
theorem decB_may (t : ByteArray) (h : (decB t).2 = 0) : OkB (decB t).1.c (decB t).1.p (decB t).1.a ∧ 0 ≤ (decB t).1.r ∧ (decB t).1.r ≤ 18446744073709551615 ∧ 0 ≤ (decB t).1.b ∧ (decB t).1.b ≤ 18446744073709551615 := by
  unfold decB at h ⊢
  split at h
  · exact absurd h (by decide)
  · split at h
    · exact absurd h (by decide)
    · rename_i c1 c2
      rw [if_neg c1, if_neg c2]
      have n4 := numv_le4 t 16
      have n2 := numv_le2 t 28
      have n1 := numv_le1 t 30
      have w1 := widv_le t 8
      have w2 := widv_le t 20
      exact ⟨⟨n4.1, n4.2, n2.1, n2.2, n1.1, n1.2⟩, w1.1, w1.2, w2.1, w2.2⟩

end Go.Proofs.Ytcahhkmbigjhlaa
