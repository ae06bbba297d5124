/-
  The bytes of what is no query, with any second byte and the sum mended, plain: which message they hold.
-/
import Derived.Test.YtgbjfdjjokjhcaaIgU
import Derived.Test.YtgbjfdjjokjhcaaFillMath
import Derived.Test.YtgbjfdjjokjhcaaIgCa
namespace Go.Proofs.Ytgbjfdjjokjhcaa
set_option linter.unusedVariables false

theorem filled2 (a m b : List UInt8) (ha : a.length = 2) (hm : m.length = 2) (s : ByteArray) (hs : s.data.toList = a ++ m ++ b) :
    ∃ q, (filled ⟨#[]⟩ s 2).data.toList = a ++ bytesOf q 2 ++ b := by
  have e1 : hd s 2 = ⟨a.toArray⟩ := ext_mid s [] a (m ++ b) 0 2 (by rw [hs]; simp) rfl (by omega)
  have hz := vlen s
  rw [hs, List.length_append, List.length_append] at hz
  have e2 : tl s 2 = ⟨b.toArray⟩ := ext_mid s (a ++ m) b [] 4 s.size (by rw [hs]; simp) (by rw [List.length_append]; omega) (by omega)
  refine ⟨sumN (⟨#[]⟩ ++ hd s 2 ++ ⟨#[0, 0]⟩ ++ tl s 2).data.toList, ?_⟩
  show (hd s 2 ++ ⟨(bytesOf (sumN (⟨#[]⟩ ++ hd s 2 ++ ⟨#[0, 0]⟩ ++ tl s 2).data.toList) 2).toArray⟩ ++ tl s 2).data.toList = _
  rw [e1, e2]
  simp [ByteArray.data_append]

theorem filled2_zero (s : ByteArray) (h : 4 ≤ s.size) : sumN (filled ⟨#[]⟩ s 2).data.toList = 0 := by
  have := filled_right ⟨#[]⟩ s 2 (by omega) rfl rfl
  rw [show (⟨#[]⟩ : ByteArray) ++ filled ⟨#[]⟩ s 2 = filled ⟨#[]⟩ s 2 from by apply ByteArray.ext; simp [ByteArray.data_append]] at this
  exact this

theorem fill2_spec (s : ByteArray) (h : 4 ≤ s.size) : fillSpec ⟨#[]⟩ s 2 = (filled ⟨#[]⟩ s 2, 0) := by
  have hfb : ¬ fillBad ⟨#[]⟩ s 2 := by
    unfold fillBad
    have : (⟨#[]⟩ : ByteArray).size = 0 := rfl
    omega
  unfold fillSpec; rw [if_neg hfb]; rfl

theorem mended (c : Nat) (R : List UInt8) (X : ByteArray) (y : UInt8) (hX : X.data.toList = bytesOf c 1 ++ bytesOf 0 1 ++ bytesOf 0 2 ++ R) :
    ∃ S F, (fillSpec ⟨#[]⟩ X 2).1 = S ∧ S.size = 4 + R.length ∧ fillSpec ⟨#[]⟩ (S.extract 0 1 ++ ⟨#[y]⟩ ++ S.extract 2 S.size) 2 = (F, 0) ∧
      (∃ q, F.data.toList = bytesOf c 1 ++ [y] ++ bytesOf q 2 ++ R) ∧ sumN F.data.toList = 0 ∧ F.size = 4 + R.length := by
  have zX : X.size = 4 + R.length := by rw [← vlen, hX]; simp only [List.length_append, bytesOf_length]
  obtain ⟨q, hq⟩ := filled2 (bytesOf c 1 ++ bytesOf 0 1) (bytesOf 0 2) R (by simp only [List.length_append, bytesOf_length]) (bytesOf_length _ _) X hX
  obtain ⟨S, hS⟩ : ∃ S, S = filled ⟨#[]⟩ X 2 := ⟨_, rfl⟩
  rw [← hS] at hq
  have zS : S.size = 4 + R.length := by rw [hS, filled_size _ _ _ (by omega), zX]
  have x1 : S.extract 0 1 = ⟨(bytesOf c 1).toArray⟩ := ext_mid S [] (bytesOf c 1) (bytesOf 0 1 ++ bytesOf q 2 ++ R) 0 1 (by rw [hq]; simp) rfl (by rw [bytesOf_length])
  have x2 : S.extract 2 S.size = ⟨(bytesOf q 2 ++ R).toArray⟩ := ext_mid S (bytesOf c 1 ++ bytesOf 0 1) (bytesOf q 2 ++ R) [] 2 S.size (by rw [hq]; simp) (by simp only [List.length_append, bytesOf_length]) (by simp only [List.length_append, bytesOf_length]; omega)
  obtain ⟨Y, hY⟩ : ∃ Y, Y = S.extract 0 1 ++ ⟨#[y]⟩ ++ S.extract 2 S.size := ⟨_, rfl⟩
  have lY : Y.data.toList = bytesOf c 1 ++ [y] ++ bytesOf q 2 ++ R := by rw [hY, x1, x2]; simp [ByteArray.data_append]
  have zY : Y.size = 4 + R.length := by rw [← vlen, lY]; simp only [List.length_append, bytesOf_length, List.length_cons, List.length_nil]
  obtain ⟨q', hq'⟩ := filled2 (bytesOf c 1 ++ [y]) (bytesOf q 2) R (by simp only [List.length_append, bytesOf_length, List.length_cons, List.length_nil]) (bytesOf_length _ _) Y lY
  refine ⟨S, filled ⟨#[]⟩ Y 2, by rw [fill2_spec X (by omega), hS], zS, by rw [← hY]; exact fill2_spec Y (by omega), ⟨q', hq'⟩, filled2_zero Y (by omega), by rw [filled_size _ _ _ (by omega), zY]⟩

theorem byt0 (T : ByteArray) (c : Nat) (R : List UInt8) (h : T.data.toList = bytesOf c 1 ++ R) (hc : c < 256) : byt T 0 = c := by
  have e1 : bytesOf c 1 = [UInt8.ofNat c] := by simp [bytesOf]
  unfold byt
  rw [h, e1]
  show (UInt8.ofNat c).toNat = c
  rw [UInt8.toNat_ofNat']; omega

/-- What is no query nor a report of version 3, its second byte whatever it is. -/
theorem dec_one (T : ByteArray) (k v : Int) (c : Nat) (y : UInt8) (q : Nat) (g : ByteArray) (h : T.data.toList = bytesOf c 1 ++ [y] ++ bytesOf q 2 ++ g.data.toList) (h0 : sumN T.data.toList = 0) (hc : oneB k v = ((c : Int), true)) (hg : grpB g 4 = true) :
    decM T = (0, ⟨k, v, g, 0, false, 0, 0, [], []⟩) := by
  have hgz : g.size = 4 := by
    unfold grpB at hg
    rw [Bool.and_eq_true, decide_eq_true_iff] at hg
    omega
  have lg := vlen g
  have zT : T.size = 8 := by rw [← vlen, h]; simp only [List.length_append, bytesOf_length, List.length_cons, List.length_nil]; omega
  have x4 : T.extract 4 8 = g := by
    rw [ext_mid T (bytesOf c 1 ++ [y] ++ bytesOf q 2) g.data.toList [] 4 8 (by rw [h]; simp) (by simp only [List.length_append, bytesOf_length, List.length_cons, List.length_nil]) (by omega), mk_of]
  have hb := fun hc2 => byt0 T c ([y] ++ bytesOf q 2 ++ g.data.toList) (by rw [h]; simp) hc2
  unfold decM
  rw [if_neg (by omega), if_neg (by rw [h0]; simp)]
  unfold oneB at hc
  split at hc
  · next hk =>
    obtain ⟨rfl, rfl⟩ := hk
    obtain rfl : c = 18 := by have := congrArg Prod.fst hc; simp only at this; omega
    rw [hb (by omega), if_neg (by omega), if_pos rfl]
    unfold oneI
    rw [x4, if_pos hg]
  · split at hc
    · next hk =>
      obtain ⟨rfl, rfl⟩ := hk
      obtain rfl : c = 22 := by have := congrArg Prod.fst hc; simp only at this; omega
      rw [hb (by omega), if_neg (by omega), if_neg (by omega), if_pos rfl]
      unfold oneI
      rw [x4, if_pos hg]
    · split at hc
      · next hk =>
        obtain ⟨rfl, rfl⟩ := hk
        obtain rfl : c = 23 := by have := congrArg Prod.fst hc; simp only at this; omega
        rw [hb (by omega), if_neg (by omega), if_neg (by omega), if_neg (by omega), if_pos rfl]
        unfold oneI
        rw [x4, if_pos hg]
      · have := congrArg Prod.snd hc
        simp at this

/-- A report of version 3, its second byte whatever it is. -/
theorem dec_rep (T : ByteArray) (y : UInt8) (q : Nat) (L : List Rec) (h : T.data.toList = bytesOf 34 1 ++ [y] ++ bytesOf q 2 ++ (bytesOf 0 2 ++ bytesOf L.length 2 ++ L.flatMap recL)) (h0 : sumN T.data.toList = 0) (hL : L.length ≤ 30) (hr : ∀ r ∈ L, recB r 4 = true) :
    decM T = (0, ⟨2, 3, ⟨#[]⟩, 0, false, 0, 0, [], L⟩) := by
  have zT : T.size = 8 + (L.flatMap recL).length := by rw [← vlen, h]; simp only [List.length_append, bytesOf_length, List.length_cons, List.length_nil]; omega
  have hb := byt0 T 34 ([y] ++ bytesOf q 2 ++ (bytesOf 0 2 ++ bytesOf L.length 2 ++ L.flatMap recL)) (by rw [h]; simp) (by omega)
  have n6 : numv T 6 2 = (L.length : Int) := by
    have := numv_mid T (bytesOf 34 1 ++ [y] ++ bytesOf q 2 ++ bytesOf 0 2) (bytesOf L.length 2) (L.flatMap recL) 6 2 (by rw [h]; simp) (by simp only [List.length_append, bytesOf_length, List.length_cons, List.length_nil]) (bytesOf_length _ _) (by omega) (by omega)
    rw [be_nat _ 2 (by omega)] at this
    exact this
  have x8 : T.extract 8 T.size = ⟨(L.flatMap recL).toArray⟩ := ext_mid T (bytesOf 34 1 ++ [y] ++ bytesOf q 2 ++ (bytesOf 0 2 ++ bytesOf L.length 2)) (L.flatMap recL) [] 8 T.size (by rw [h]; simp) (by simp only [List.length_append, bytesOf_length, List.length_cons, List.length_nil]) (by omega)
  unfold decM
  rw [if_neg (by omega), if_neg (by rw [h0]; simp), hb, if_neg (by omega), if_neg (by omega), if_neg (by omega), if_neg (by omega), if_pos rfl]
  unfold repI
  rw [n6, x8]
  have e : recsI (⟨(L.flatMap recL).toArray⟩ : ByteArray) (L.length : Int) 4 = (0, L) := by
    unfold recsI
    rw [if_neg (by omega), if_neg (by omega), show ((4 : Int)).toNat = 4 from rfl, Int.toNat_natCast]
    have g := recs_run (⟨(L.flatMap recL).toArray⟩ : ByteArray) 4 0 L [] [] (by simp) hr
    rw [List.length_nil, Nat.add_zero] at g
    rw [g]
    simp [recsGo, comb]
  rw [e]
  rfl

end Go.Proofs.Ytgbjfdjjokjhcaa
