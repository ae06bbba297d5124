/-
  Group messages of IPv6 there and back, plain: the bytes that Encode writes hold the message.
-/
import Derived.Test.YtniahpbjfpmmhaaGreatMdRd
import Derived.Test.YtniahpbjfpmmhaaGreatIgUV
import Derived.Test.YtniahpbjfpmmhaaGreatFillMath
namespace Go.Proofs.YtniahpbjfpmmhaaGreat
set_option linter.unusedVariables false

theorem ahead_ok {src dst : ByteArray} {n : Int} (h : (aheadI src dst n).2 = 0) : src.size = 16 ∧ dst.size = 16 ∧ 0 ≤ n ∧ n ≤ 65535 := by
  unfold aheadI at h
  split at h
  · simp at h
  · next h1 =>
    unfold pseudoSpec at h
    split at h
    · simp at h
    · next h2 => omega
theorem ahead_is {src dst : ByteArray} {n : Int} (h1 : src.size = 16) (h2 : dst.size = 16) (n0 : 0 ≤ n) (n1 : n ≤ 65535) : aheadI src dst n = (src ++ dst ++ ⟨(bytesOf n.toNat 4).toArray⟩ ++ ⟨#[0, 0, 0]⟩ ++ ⟨(bytesOf 58 1).toArray⟩, 0) := by
  unfold aheadI
  rw [if_neg (by omega)]
  unfold pseudoSpec
  rw [if_neg (by omega), if_neg (by omega)]
  rfl
theorem ahead_yes {src dst : ByteArray} {n : Int} (h1 : src.size = 16) (h2 : dst.size = 16) (n0 : 0 ≤ n) (n1 : n ≤ 65535) : (aheadI src dst n).2 = 0 := by rw [ahead_is h1 h2 n0 n1]
theorem ahead_40 {src dst : ByteArray} {n : Int} (h1 : src.size = 16) (h2 : dst.size = 16) (n0 : 0 ≤ n) (n1 : n ≤ 65535) : (aheadI src dst n).1.size = 40 := by
  rw [ahead_is h1 h2 n0 n1]
  simp only [ByteArray.size_append, ByteArray.size_mk', List.size_toArray, bytesOf_length]
  have e : (⟨#[0, 0, 0]⟩ : ByteArray).size = 3 := rfl
  simp only [List.length_cons, List.length_nil]
  omega

theorem filledG (A : ByteArray) (a m b : List UInt8) (ha : a.length = 2) (hm : m.length = 2) (s : ByteArray) (hs : s.data.toList = a ++ m ++ b) :
    ∃ q, (filled A s 2).data.toList = a ++ bytesOf q 2 ++ b := by
  have e1 : hd s 2 = ⟨a.toArray⟩ := ext_mid s [] a (m ++ b) 0 2 (by rw [hs]; simp) rfl (by omega)
  have hz := vlen s
  rw [hs, List.length_append, List.length_append] at hz
  have e2 : tl s 2 = ⟨b.toArray⟩ := ext_mid s (a ++ m) b [] 4 s.size (by rw [hs]; simp) (by rw [List.length_append]; omega) (by omega)
  refine ⟨sumN (A ++ hd s 2 ++ ⟨#[0, 0]⟩ ++ tl s 2).data.toList, ?_⟩
  show (hd s 2 ++ ⟨(bytesOf (sumN (A ++ hd s 2 ++ ⟨#[0, 0]⟩ ++ tl s 2).data.toList) 2).toArray⟩ ++ tl s 2).data.toList = _
  rw [e1, e2]
  simp [ByteArray.data_append]

theorem head_byte (T : ByteArray) (c : Nat) (R : List UInt8) (h : T.data.toList = bytesOf c 1 ++ R) (hc : c < 256) : byt T 0 = c := by
  have e1 : bytesOf c 1 = [UInt8.ofNat c] := by simp [bytesOf]
  unfold byt
  rw [h, e1]
  show (UInt8.ofNat c).toNat = c
  rw [UInt8.toNat_ofNat']; omega
theorem byte_at (T : ByteArray) (a b : List UInt8) (i M : Nat) (h : T.data.toList = a ++ bytesOf M 1 ++ b) (ha : a.length = i) (hM : M < 256) : byt T i = M := by
  have e1 : bytesOf M 1 = [UInt8.ofNat M] := by simp [bytesOf]
  unfold byt
  rw [h, e1, List.append_assoc, List.getD, List.getElem?_append_right (by omega), ha, Nat.sub_self]
  show (UInt8.ofNat M).toNat = M
  rw [UInt8.toNat_ofNat']; omega

/-- What stands behind a message's first four bytes. -/
def restD (m : Msg) : List UInt8 :=
  if m.kind = 1 then
    (if m.version = 2 then codeL 12 2 m.max ++ bytesOf 0 2 ++ (grp6 m.group).data.toList ++ detL m.quiet m.robust m.every m.srcs
     else (putSpec m.max 2).1.data.toList ++ bytesOf 0 2 ++ (grp6 m.group).data.toList)
  else if m.kind = 2 ∧ m.version = 2 then bytesOf 0 2 ++ bytesOf m.recs.length 2 ++ (bodyI m.recs 16).2.data.toList
  else bytesOf 0 4 ++ m.group.data.toList
def headD (m : Msg) : Nat := if m.kind = 1 then 130 else if m.kind = 2 ∧ m.version = 2 then 143 else if m.kind = 2 then 131 else 132
theorem msgD_parts (m : Msg) : msgD m = bytesOf (headD m) 1 ++ bytesOf 0 1 ++ bytesOf 0 2 ++ restD m := by
  have e3 : bytesOf 0 3 = bytesOf 0 1 ++ bytesOf 0 2 := by decide
  unfold msgD headD restD tellL
  split
  · split
    · unfold q2L; rw [e3]; simp only [List.append_assoc]
    · unfold q1L; rw [e3]; simp only [List.append_assoc]
  · split
    · unfold rec6L; rw [e3]; simp only [List.append_assoc]
    · split
      · unfold one6L; rw [e3]; simp only [List.append_assoc]
      · unfold one6L; rw [e3]; simp only [List.append_assoc]

theorem grpQ_at (T : ByteArray) (a b : List UInt8) (g : ByteArray) (n : Nat) (h : T.data.toList = a ++ (grp6 g).data.toList ++ b) (ha : a.length = 8) (hg : qGrp6 g n = true) : grpQ T = g := by
  have hz := (grp6_all hg).2
  have hl := vlen (grp6 g)
  have e : T.extract 8 24 = grp6 g := by rw [ext_mid T a (grp6 g).data.toList b 8 24 h ha (by omega), mk_of]
  unfold grpQ
  rw [e]
  unfold grp6
  by_cases hz : g.size = 0
  · rw [if_pos hz, if_pos (by rfl)]
    exact (bytes_empty hz).symm
  · rw [if_neg hz, if_neg]
    rintro rfl
    exact absurd hg (by unfold qGrp6; rw [if_neg hz]; decide)

theorem flagM_at : ∀ (q : Bool) (R : Fin 8), flagM q R.val < 256 ∧ decide (flagM q R.val / 8 % 2 = 1) = q ∧ flagM q R.val % 8 = R.val := by decide +kernel

theorem coded_nat {bt : Nat} {n : Int} (h : codedW bt n = true) : ∃ C : Nat, C < 16 * 2 ^ bt ∧ encI bt n = ((C : Int), 0) ∧ (decI bt (C : Int)).1 = n := by
  unfold codedW at h
  rw [Bool.and_eq_true, decide_eq_true_iff, decide_eq_true_iff] at h
  obtain ⟨C, c1, c2⟩ := enc_nat bt n
  refine ⟨C, c2, ?_, by rw [← c1]; exact h.2⟩
  rw [← c1, ← h.1]

theorem mdet_parts {q : Bool} {rob ev : Int} {ns : Nat} (h : detB6 q rob ev ns = false) : q = false ∧ rob = 0 ∧ ev = 0 ∧ ns = 0 := by
  unfold detB6 at h
  simp only [Bool.or_eq_false_iff, decide_eq_false_iff_not, Decidable.not_not] at h
  exact ⟨h.1.1.1, h.1.1.2, h.1.2, h.2⟩

/-- The bytes of a message that may be, any sum in them, hold it. -/
theorem rd_back (m : Msg) (h : mayD m = true) (S : ByteArray) (q : Nat) (hS : S.data.toList = bytesOf (headD m) 1 ++ bytesOf 0 1 ++ bytesOf q 2 ++ restD m) : rdM S = (0, m) := by
  have hb := head_byte S (headD m) (bytesOf 0 1 ++ bytesOf q 2 ++ restD m) (by rw [hS]; simp only [List.append_assoc]) (by unfold headD; split <;> (try split) <;> (try split) <;> omega)
  obtain ⟨k, v, g, mx, qt, rob, ev, ss, L⟩ := m
  unfold mayD at h
  unfold headD at hb
  unfold headD restD at hS
  simp only at h hS hb
  by_cases h1 : k = 1
  · rw [if_pos h1] at h
    rw [if_pos h1, if_pos h1] at hS
    rw [if_pos h1] at hb
    have b0 := hb
    rw [Bool.and_eq_true, decide_eq_true_iff] at h
    obtain ⟨hL, h2⟩ := h
    obtain rfl : L = [] := List.eq_nil_of_length_eq_zero hL
    subst h1
    unfold rdM
    rw [if_pos b0]
    by_cases hv : v = 2
    · rw [if_pos hv] at h2 hS
      subst hv
      unfold q2OK detOK at h2
      simp only [Bool.and_eq_true, decide_eq_true_iff] at h2
      obtain ⟨⟨w1, w2⟩, ⟨⟨⟨w3, w4⟩, w5⟩, w6⟩, w7⟩ := h2
      obtain ⟨M, m1, m2, m3⟩ := coded_nat w1
      obtain ⟨C, c1, c2, c3⟩ := coded_nat w5
      obtain ⟨R, rfl⟩ := Int.eq_ofNat_of_zero_le w3
      obtain ⟨r1, r2, r3⟩ := flagM_at qt ⟨R, by omega⟩
      simp only at r1 r2 r3
      have gz := (grp6_all w2).2
      have gl := vlen (grp6 g)
      have fl := all16_len ss w7
      unfold detL codeL at hS
      rw [m2, c2, Int.toNat_natCast] at hS
      simp only [Int.toNat_natCast] at hS
      have hz : S.size = 28 + 16 * ss.length := by rw [← vlen, hS]; simp only [List.length_append, bytesOf_length]; omega
      have hg := grpQ_at S (bytesOf 130 1 ++ bytesOf 0 1 ++ bytesOf q 2 ++ bytesOf M 2 ++ bytesOf 0 2) (bytesOf (flagM qt R) 1 ++ bytesOf C 1 ++ bytesOf ss.length 2 ++ flatL ss) g ss.length (by rw [hS]; simp only [List.append_assoc]) (by simp only [List.length_append, bytesOf_length]) w2
      have n4 : numv S 4 2 = (M : Int) := by
        have := numv_mid S (bytesOf 130 1 ++ bytesOf 0 1 ++ bytesOf q 2) (bytesOf M 2) (bytesOf 0 2 ++ (grp6 g).data.toList ++ (bytesOf (flagM qt R) 1 ++ bytesOf C 1 ++ bytesOf ss.length 2 ++ flatL ss)) 4 2 (by rw [hS]; simp only [List.append_assoc]) (by simp only [List.length_append, bytesOf_length]) (bytesOf_length _ _) (by omega) (by omega)
        rw [be_nat _ 2 (by omega)] at this
        exact this
      have b24 := byte_at S (bytesOf 130 1 ++ bytesOf 0 1 ++ bytesOf q 2 ++ bytesOf M 2 ++ bytesOf 0 2 ++ (grp6 g).data.toList) (bytesOf C 1 ++ bytesOf ss.length 2 ++ flatL ss) 24 (flagM qt R) (by rw [hS]; simp only [List.append_assoc]) (by simp only [List.length_append, bytesOf_length]; omega) r1
      have b25 := byte_at S (bytesOf 130 1 ++ bytesOf 0 1 ++ bytesOf q 2 ++ bytesOf M 2 ++ bytesOf 0 2 ++ (grp6 g).data.toList ++ bytesOf (flagM qt R) 1) (bytesOf ss.length 2 ++ flatL ss) 25 C (by rw [hS]; simp only [List.append_assoc]) (by simp only [List.length_append, bytesOf_length]; omega) (by omega)
      have n26 : numv S 26 2 = (ss.length : Int) := by
        have := numv_mid S (bytesOf 130 1 ++ bytesOf 0 1 ++ bytesOf q 2 ++ bytesOf M 2 ++ bytesOf 0 2 ++ (grp6 g).data.toList ++ bytesOf (flagM qt R) 1 ++ bytesOf C 1) (bytesOf ss.length 2) (flatL ss) 26 2 (by rw [hS]; simp only [List.append_assoc]) (by simp only [List.length_append, bytesOf_length]; omega) (bytesOf_length _ _) (by omega) (by omega)
        rw [be_nat _ 2 (by omega)] at this
        exact this
      have hal : ∀ x ∈ ss, x.size = 16 := by
        unfold all16 at w7
        rw [List.all_eq_true] at w7
        intro x hx
        have := w7 x hx
        rw [decide_eq_true_iff] at this
        omega
      have ha := addrs_mid S (bytesOf 130 1 ++ bytesOf 0 1 ++ bytesOf q 2 ++ bytesOf M 2 ++ bytesOf 0 2 ++ (grp6 g).data.toList ++ bytesOf (flagM qt R) 1 ++ bytesOf C 1 ++ bytesOf ss.length 2) [] ss 28 16 (by rw [hS]; simp only [List.append_assoc, List.append_nil]) (by simp only [List.length_append, bytesOf_length]; omega) hal
      have hd : dtE S = 0 := by
        unfold dtE
        rw [n26, Int.toNat_natCast, if_neg (by omega), if_neg (by omega), if_neg (by omega)]
      unfold qryD
      rw [if_neg (by omega), if_neg (by omega), if_neg (by rw [hd]; simp), n26, Int.toNat_natCast, hg, if_pos w2, n4, b24, b25, m3, c3, r2, r3, ha]
    · rw [if_neg hv] at h2 hS
      unfold q1OK at h2
      simp only [Bool.and_eq_true, decide_eq_true_iff, Bool.not_eq_true'] at h2
      obtain ⟨⟨⟨w1, w2⟩, w3⟩, w4⟩ := h2
      obtain ⟨rfl, rfl, rfl, hn⟩ := mdet_parts w2
      obtain rfl : ss = [] := List.eq_nil_of_length_eq_zero hn
      subst w1
      obtain ⟨M, rfl, hM⟩ : ∃ M : Nat, mx = M ∧ M < 65536 := by
        unfold putB putSpec at w3
        rw [decide_eq_true_iff] at w3
        split at w3
        · simp at w3
        · next hh =>
          refine ⟨mx.toNat, by omega, ?_⟩
          have : ((256 ^ ((2 : Int)).toNat : Nat) : Int) = 65536 := by decide
          omega
      rw [show ((2 : Int)) = ((2 : Nat) : Int) from rfl, (put_yes M 2 (by omega) (by omega) (by omega)).2] at hS
      have gz := (grp6_all w4).2
      have gl := vlen (grp6 g)
      have hz : S.size = 24 := by rw [← vlen, hS]; simp only [List.length_append, bytesOf_length]; omega
      have hg := grpQ_at S (bytesOf 130 1 ++ bytesOf 0 1 ++ bytesOf q 2 ++ bytesOf M 2 ++ bytesOf 0 2) [] g 0 (by rw [hS]; simp only [List.append_assoc, List.append_nil]) (by simp only [List.length_append, bytesOf_length]) w4
      have n4 : numv S 4 2 = (M : Int) := by
        have := numv_mid S (bytesOf 130 1 ++ bytesOf 0 1 ++ bytesOf q 2) (bytesOf M 2) (bytesOf 0 2 ++ (grp6 g).data.toList) 4 2 (by rw [hS]; simp only [List.append_assoc]) (by simp only [List.length_append, bytesOf_length]) (bytesOf_length _ _) (by omega) (by omega)
        rw [be_nat _ 2 (by omega)] at this
        exact this
      unfold qryD
      have w4' : qGrp6 g 0 = true := w4
      rw [if_neg (by omega), if_pos hz, hg, if_pos w4', n4]
  · rw [if_neg h1] at h
    rw [if_neg h1, if_neg h1] at hS
    rw [if_neg h1] at hb
    by_cases h2 : k = 2 ∨ k = 3
    · rw [if_pos h2, Bool.and_eq_true, Bool.and_eq_true, decide_eq_true_iff, Bool.not_eq_true'] at h
      obtain ⟨⟨rfl, w2⟩, w3⟩ := h
      obtain ⟨rfl, rfl, rfl, hn⟩ := mdet_parts w2
      obtain rfl : ss = [] := List.eq_nil_of_length_eq_zero hn
      unfold tellOK at w3
      by_cases h3 : k = 2 ∧ v = 2
      · rw [if_pos h3] at w3
        rw [if_pos h3, if_pos h3] at hS
        rw [if_pos h3] at hb
        obtain ⟨rfl, rfl⟩ := h3
        unfold rec6OK at w3
        rw [Bool.and_eq_true, decide_eq_true_iff, decide_eq_true_iff] at w3
        obtain rfl := bytes_empty w3.1
        obtain ⟨e1, e2, e3, e4⟩ := body_size L w3.2
        rw [e1] at hS
        have b0 := hb
        have n6 : numv S 6 2 = (L.length : Int) := by
          have := numv_mid S (bytesOf 143 1 ++ bytesOf 0 1 ++ bytesOf q 2 ++ bytesOf 0 2) (bytesOf L.length 2) (L.flatMap recL) 6 2 (by rw [hS]; simp only [List.append_assoc]) (by simp only [List.length_append, bytesOf_length]) (bytesOf_length _ _) (by omega) (by omega)
          rw [be_nat _ 2 (by omega)] at this
          exact this
        have hz : S.size = 8 + (L.flatMap recL).length := by rw [← vlen, hS]; simp only [List.length_append, bytesOf_length]; omega
        have x8 : S.extract 8 S.size = ⟨(L.flatMap recL).toArray⟩ := ext_mid S (bytesOf 143 1 ++ bytesOf 0 1 ++ bytesOf q 2 ++ (bytesOf 0 2 ++ bytesOf L.length 2)) (L.flatMap recL) [] 8 S.size (by rw [hS]; simp only [List.append_assoc, List.append_nil]) (by simp only [List.length_append, bytesOf_length]) (by omega)
        have e : recsI (⟨(L.flatMap recL).toArray⟩ : ByteArray) (L.length : Int) 16 = (0, L) := by
          unfold recsI
          rw [if_neg (by omega), if_neg (by omega), show ((16 : Int)).toNat = 16 from rfl, Int.toNat_natCast]
          have g := recs_run (⟨(L.flatMap recL).toArray⟩ : ByteArray) 16 0 L [] [] (by simp) e3
          rw [List.length_nil, Nat.add_zero] at g
          rw [g]
          simp [recsGo, comb]
        unfold rdM
        rw [b0, if_neg (by omega), if_neg (by omega), if_neg (by omega), if_pos rfl]
        unfold repD
        rw [n6, x8, e]
        rfl
      · rw [if_neg h3] at w3
        rw [if_neg h3, if_neg h3] at hS
        rw [if_neg h3] at hb
        unfold oneOK at w3
        simp only [Bool.and_eq_true, decide_eq_true_iff] at w3
        obtain ⟨⟨rfl, w5⟩, w6⟩ := w3
        obtain rfl : L = [] := List.eq_nil_of_length_eq_zero w6
        have gz := (grp16 w5).2
        have gl := vlen g
        have x8 : S.extract 8 24 = g := by
          rw [ext_mid S (bytesOf (if k = 2 then 131 else 132) 1 ++ bytesOf 0 1 ++ bytesOf q 2 ++ bytesOf 0 4) g.data.toList [] 8 24 (by rw [hS]; simp only [List.append_assoc, List.append_nil]) (by simp only [List.length_append, bytesOf_length]) (by omega), mk_of]
        have hz : S.size = 24 := by rw [← vlen, hS]; simp only [List.length_append, bytesOf_length]; omega
        have ho : ∀ kk, oneD S kk = (0, ⟨kk, 1, g, 0, false, 0, 0, [], []⟩) := fun kk => by
          unfold oneD
          rw [if_neg (by omega), x8, if_pos w5]
        rcases h2 with rfl | rfl
        · have b0 : byt S 0 = 131 := hb
          unfold rdM
          rw [b0, if_neg (by omega), if_pos rfl, ho]
        · have b0 : byt S 0 = 132 := hb
          unfold rdM
          rw [b0, if_neg (by omega), if_neg (by omega), if_pos rfl, ho]
    · rw [if_neg h2] at h
      simp at h

/-- What was encoded is decoded, and its sum is right. -/
theorem back_D (src dst : ByteArray) (m : Msg) (h : mayD m = true) (ha : (aheadI src dst (msgD m).length).2 = 0) :
    ∃ S, encD src dst m = (S, 0) ∧ S.size = (msgD m).length ∧ 8 ≤ S.size ∧ S.size ≤ 40000 ∧ sumN ((aheadI src dst S.size).1 ++ S).data.toList = 0 ∧ decD src dst S = (0, m) := by
  obtain ⟨z1, z2⟩ := msgD_len m h
  obtain ⟨s1, s2, -, -⟩ := ahead_ok ha
  have hA := ahead_40 s1 s2 (show (0 : Int) ≤ (msgD m).length by omega) (by omega)
  obtain ⟨A, hAe⟩ : ∃ A, A = (aheadI src dst (msgD m).length).1 := ⟨_, rfl⟩
  rw [← hAe] at hA
  have hX : (⟨(msgD m).toArray⟩ : ByteArray).size = (msgD m).length := by rw [ByteArray.size_mk', List.size_toArray]
  obtain ⟨X, hXe⟩ : ∃ X : ByteArray, X = ⟨(msgD m).toArray⟩ := ⟨_, rfl⟩
  have hXl : X.data.toList = bytesOf (headD m) 1 ++ bytesOf 0 1 ++ bytesOf 0 2 ++ restD m := by rw [hXe]; exact msgD_parts m
  rw [← hXe] at hX
  obtain ⟨q, hq⟩ := filledG A (bytesOf (headD m) 1 ++ bytesOf 0 1) (bytesOf 0 2) (restD m) (by simp only [List.length_append, bytesOf_length]) (bytesOf_length _ _) X hXl
  have hf : encD src dst m = (filled A X 2, 0) := by
    have hfb : ¬ fillBad A X 2 := by unfold fillBad; omega
    unfold encD
    rw [if_pos ⟨h, ha⟩, ← hAe, ← hXe]
    unfold fillSpec
    rw [if_neg hfb]
    rfl
  have hz : (filled A X 2).size = (msgD m).length := by rw [filled_size _ _ _ (by omega), hX]
  have hs : sumN (A ++ filled A X 2).data.toList = 0 := filled_right A X 2 (by omega) (by omega) rfl
  have hrd := rd_back m h (filled A X 2) q hq
  obtain ⟨S, hS⟩ : ∃ S, S = filled A X 2 := ⟨_, rfl⟩
  rw [← hS] at hf hz hs hrd
  refine ⟨S, hf, hz, by omega, by omega, by rw [hz, ← hAe]; exact hs, ?_⟩
  unfold decD
  rw [hz, if_neg (by rw [ha]; simp), if_neg (by omega), ← hAe, if_neg (by rw [hs]; simp), hrd]
  rfl

theorem encD_no (src dst : ByteArray) (m : Msg) (h : ¬ (mayD m = true ∧ (aheadI src dst (msgD m).length).2 = 0)) : encD src dst m = (⟨#[]⟩, 1) := if_neg h

end Go.Proofs.YtniahpbjfpmmhaaGreat
