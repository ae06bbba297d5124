/-
  Plain lemmas on packets: what was encoded is decoded, whatever stands behind it.
-/
import Derived.Test.YtolgakgimcbkpaaV4F
import Derived.Test.YtolgakgimcbkpaaFillMath
namespace Go.Proofs.Ytolgakgimcbkpaa
open Go.RowKit
set_option linter.unusedVariables false
set_option linter.unusedSimpArgs false

/-- The first ten bytes of a head, the second of them being whatever it is. -/
def tenB (i t p : Int) (o x : ByteArray) (c : UInt8) : List UInt8 :=
  bytesOf (64 + (20 + o.size) / 4) 1 ++ [c] ++ bytesOf (20 + o.size + x.size) 2 ++ bytesOf i.toNat 2 ++ [0, 0] ++ bytesOf t.toNat 1 ++ bytesOf p.toNat 1
theorem tenB_len (i t p : Int) (o x : ByteArray) (c : UInt8) : (tenB i t p o x c).length = 10 := by
  unfold tenB
  simp only [List.length_append, bytesOf_length, List.length_cons, List.length_nil]

set_option maxHeartbeats 1000000 in
theorem dec_of (i t p : Int) (s d o x behind F : ByteArray) (c : UInt8) (m : List UInt8) (h : VOk i t p s d o x) (hm : m.length = 2) (hF : F.data.toList = tenB i t p o x c ++ m ++ s.data.toList ++ d.data.toList ++ o.data.toList) (h0 : sumN F.data.toList = 0) :
    decV (F ++ x ++ behind) = (⟨i, t, p, s, d, o, x⟩, 0) := by
  unfold VOk at h
  obtain ⟨i0, i1, t0, t1, p0, p1, zs, zd, zo, zo4, zx⟩ := h
  obtain ⟨T, hT⟩ : ∃ T, T = F ++ x ++ behind := ⟨_, rfl⟩
  rw [← hT]
  have lT : T.data.toList = F.data.toList ++ x.data.toList ++ behind.data.toList := by rw [hT]; simp [ByteArray.data_append]
  have ls := vlen s
  have ld := vlen d
  have lo := vlen o
  have lx := vlen x
  have lten := tenB_len i t p o x c
  have lF : F.data.toList.length = 20 + o.size := by rw [hF]; simp only [List.length_append]; omega
  have zT : T.size = 20 + o.size + x.size + behind.size := by rw [← vlen T, lT, List.length_append, List.length_append, lF, lx, vlen behind]
  obtain ⟨R, hR⟩ : ∃ R, R = m ++ s.data.toList ++ d.data.toList ++ o.data.toList ++ x.data.toList ++ behind.data.toList := ⟨_, rfl⟩
  have eT : T.data.toList = tenB i t p o x c ++ R := by rw [lT, hF, hR]; simp
  have b0 : numv T 0 1 = ((64 + (20 + o.size) / 4 : Nat) : Int) := by
    have := numv_mid T [] (bytesOf (64 + (20 + o.size) / 4) 1) ([c] ++ bytesOf (20 + o.size + x.size) 2 ++ bytesOf i.toNat 2 ++ [0, 0] ++ bytesOf t.toNat 1 ++ bytesOf p.toNat 1 ++ R) 0 1 (by rw [eT]; simp [tenB]) rfl (bytesOf_length _ _) (by omega) (by omega)
    rw [be_nat _ 1 (by omega)] at this
    exact this
  have b2 : numv T 2 2 = ((20 + o.size + x.size : Nat) : Int) := by
    have := numv_mid T (bytesOf (64 + (20 + o.size) / 4) 1 ++ [c]) (bytesOf (20 + o.size + x.size) 2) (bytesOf i.toNat 2 ++ [0, 0] ++ bytesOf t.toNat 1 ++ bytesOf p.toNat 1 ++ R) 2 2 (by rw [eT]; simp [tenB]) (by simp [bytesOf_length]) (bytesOf_length _ _) (by omega) (by omega)
    rw [be_nat _ 2 (by omega)] at this
    exact this
  have b4 : numv T 4 2 = i := by
    have := numv_mid T (bytesOf (64 + (20 + o.size) / 4) 1 ++ [c] ++ bytesOf (20 + o.size + x.size) 2) (bytesOf i.toNat 2) ([0, 0] ++ bytesOf t.toNat 1 ++ bytesOf p.toNat 1 ++ R) 4 2 (by rw [eT]; simp [tenB]) (by simp [bytesOf_length]) (bytesOf_length _ _) (by omega) (by omega)
    rw [be_nat _ 2 (by omega), Int.toNat_of_nonneg i0] at this
    exact this
  have b6 : numv T 6 2 = 0 := by
    have := numv_mid T (bytesOf (64 + (20 + o.size) / 4) 1 ++ [c] ++ bytesOf (20 + o.size + x.size) 2 ++ bytesOf i.toNat 2) [0, 0] (bytesOf t.toNat 1 ++ bytesOf p.toNat 1 ++ R) 6 2 (by rw [eT]; simp [tenB]) (by simp [bytesOf_length]) rfl (by omega) (by omega)
    exact this
  have b8 : numv T 8 1 = t := by
    have := numv_mid T (bytesOf (64 + (20 + o.size) / 4) 1 ++ [c] ++ bytesOf (20 + o.size + x.size) 2 ++ bytesOf i.toNat 2 ++ [0, 0]) (bytesOf t.toNat 1) (bytesOf p.toNat 1 ++ R) 8 1 (by rw [eT]; simp [tenB]) (by simp [bytesOf_length]) (bytesOf_length _ _) (by omega) (by omega)
    rw [be_nat _ 1 (by omega), Int.toNat_of_nonneg t0] at this
    exact this
  have b9 : numv T 9 1 = p := by
    have := numv_mid T (bytesOf (64 + (20 + o.size) / 4) 1 ++ [c] ++ bytesOf (20 + o.size + x.size) 2 ++ bytesOf i.toNat 2 ++ [0, 0] ++ bytesOf t.toNat 1) (bytesOf p.toNat 1) R 9 1 (by rw [eT]; simp [tenB]) (by simp [bytesOf_length]) (bytesOf_length _ _) (by omega) (by omega)
    rw [be_nat _ 1 (by omega), Int.toNat_of_nonneg p0] at this
    exact this
  have s12 : T.extract 12 16 = s := by
    rw [ext_mid T (tenB i t p o x c ++ m) s.data.toList (d.data.toList ++ o.data.toList ++ x.data.toList ++ behind.data.toList) 12 16 (by rw [eT, hR]; simp) (by rw [List.length_append]; omega) (by omega), mk_of]
  have s16 : T.extract 16 20 = d := by
    rw [ext_mid T (tenB i t p o x c ++ m ++ s.data.toList) d.data.toList (o.data.toList ++ x.data.toList ++ behind.data.toList) 16 20 (by rw [eT, hR]; simp) (by rw [List.length_append, List.length_append]; omega) (by omega), mk_of]
  have hk : hsz T = 20 + o.size := by unfold hsz; rw [b0, Int.toNat_natCast]; omega
  have s20 : T.extract 20 (20 + o.size) = o := by
    rw [ext_mid T (tenB i t p o x c ++ m ++ s.data.toList ++ d.data.toList) o.data.toList (x.data.toList ++ behind.data.toList) 20 (20 + o.size) (by rw [eT, hR]; simp) (by rw [List.length_append, List.length_append, List.length_append]; omega) (by omega), mk_of]
  have sK : T.extract (20 + o.size) (20 + o.size + x.size) = x := by
    rw [ext_mid T F.data.toList x.data.toList behind.data.toList (20 + o.size) (20 + o.size + x.size) lT lF (by omega), mk_of]
  have sF : T.extract 0 (20 + o.size) = F := by
    rw [ext_mid T [] F.data.toList (x.data.toList ++ behind.data.toList) 0 (20 + o.size) (by rw [lT]; simp) rfl (by omega), mk_of]
  have hh : headV T = (F, 0) := by
    unfold headV
    rw [hk, b0, sF, if_neg (by omega), if_neg (by omega), if_neg (by omega), if_neg (by omega)]
  unfold decV
  rw [hh, hk, b2, b6, if_neg (fun g => g rfl), if_neg (by omega), if_neg (by omega), if_neg (fun g => g.1 rfl)]
  unfold readV
  rw [b4, b8, b9, s12, s16, hk, s20, b2, Int.toNat_natCast, sK]

/-- The bytes of a text with its sum put in at 10. -/
theorem filled_ten (a m b : List UInt8) (ha : a.length = 10) (hm : m.length = 2) (s : ByteArray) (hs : s.data.toList = a ++ m ++ b) :
    ∃ q, (filled ⟨#[]⟩ s 10).data.toList = a ++ bytesOf q 2 ++ b := by
  have e1 : hd s 10 = ⟨a.toArray⟩ := ext_mid s [] a (m ++ b) 0 10 (by rw [hs]; simp) rfl (by omega)
  have hz := vlen s
  rw [hs, List.length_append, List.length_append] at hz
  have e2 : tl s 10 = ⟨b.toArray⟩ := ext_mid s (a ++ m) b [] 12 s.size (by rw [hs]; simp) (by rw [List.length_append]; omega) (by omega)
  refine ⟨sumN (⟨#[]⟩ ++ hd s 10 ++ ⟨#[0, 0]⟩ ++ tl s 10).data.toList, ?_⟩
  show (hd s 10 ++ ⟨(bytesOf (sumN (⟨#[]⟩ ++ hd s 10 ++ ⟨#[0, 0]⟩ ++ tl s 10).data.toList) 2).toArray⟩ ++ tl s 10).data.toList = _
  rw [e1, e2]
  simp [ByteArray.data_append]

theorem filled_zero (s : ByteArray) (h : 12 ≤ s.size) : sumN (filled ⟨#[]⟩ s 10).data.toList = 0 := by
  have := filled_right ⟨#[]⟩ s 10 (by omega) rfl rfl
  rw [show (⟨#[]⟩ : ByteArray) ++ filled ⟨#[]⟩ s 10 = filled ⟨#[]⟩ s 10 from by apply ByteArray.ext; simp [ByteArray.data_append]] at this
  exact this

theorem back_v (i t p : Int) (s d o x behind : ByteArray) (h : VOk i t p s d o x) : decV (encVB i t p s d o x ++ behind) = (⟨i, t, p, s, d, o, x⟩, 0) := by
  have hz := headL_len i t p s d o x h
  have hl : (⟨(headL i t p s d o x).toArray⟩ : ByteArray).data.toList = tenB i t p o x 0 ++ [0, 0] ++ (s.data.toList ++ d.data.toList ++ o.data.toList) := by
    show headL i t p s d o x = _
    simp [headL, tenB]
  obtain ⟨q, hq⟩ := filled_ten _ _ _ (tenB_len i t p o x 0) rfl _ hl
  unfold encVB
  refine dec_of i t p s d o x behind _ 0 (bytesOf q 2) h (bytesOf_length _ _) (by rw [hq]; simp) (filled_zero _ ?_)
  rw [ByteArray.size_mk', List.size_toArray]
  omega

theorem encVB_size (i t p : Int) (s d o x : ByteArray) (h : VOk i t p s d o x) : (encVB i t p s d o x).size = 20 + o.size + x.size := by
  have hz := headL_len i t p s d o x h
  unfold encVB
  rw [ByteArray.size_append, filled_size _ _ _ (by rw [ByteArray.size_mk', List.size_toArray]; omega), ByteArray.size_mk', List.size_toArray, hz]

end Go.Proofs.Ytolgakgimcbkpaa
