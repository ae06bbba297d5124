/-
  Records' bytes, read again, plain: recsGo at the bytes of records that may be.
  The bytes of what is no query, with any second byte and the sum mended, plain: which message they hold.
-/
import Derived.Test.YtniahpbjfpmmhaaGreatIgBde
import Derived.Test.YtniahpbjfpmmhaaGreatFillMath
import Derived.Test.YtniahpbjfpmmhaaGreatIgCa
namespace Go.Proofs.YtniahpbjfpmmhaaGreat
open Go.RowKit
set_option linter.unusedVariables false

theorem flat_split (L : List ByteArray) (i : Nat) (h : i < L.length) : flatL L = flatL (L.take i) ++ L[i].data.toList ++ flatL (L.drop (i + 1)) := by
  rw [← flatL_take L i h]
  unfold flatL
  rw [← List.flatMap_append, List.take_append_drop]
theorem flat_len (L : List ByteArray) (Z : Nat) (h : ∀ a ∈ L, a.size = Z) : (flatL L).length = L.length * Z := by
  induction L with
  | nil => simp [flatL]
  | cons a L ih =>
    have h1 := ih fun x hx => h x (List.mem_cons_of_mem _ hx)
    have h2 := h a (List.mem_cons_self ..)
    have h3 := vlen a
    unfold flatL at h1 ⊢
    rw [List.flatMap_cons, List.length_append, List.length_cons, h1, h3, h2, Nat.add_mul]
    omega

/-- A list of addresses that stands in a text. -/
theorem addrs_mid (T : ByteArray) (a b : List UInt8) (L : List ByteArray) (A Z : Nat) (h : T.data.toList = a ++ flatL L ++ b) (hA : a.length = A) (hz : ∀ x ∈ L, x.size = Z) : addrsL T A L.length Z = L := by
  apply List.ext_getElem
  · rw [addrsL_length]
  · intro i h1 h2
    have hi : i < L.length := h2
    have hx : (addrsL T A L.length Z)[i] = T.extract (A + i * Z) (A + i * Z + Z) := by simp [addrsL]
    rw [hx]
    have hl : (flatL (L.take i)).length = i * Z := by
      rw [flat_len (L.take i) Z fun x hx => hz x (List.mem_of_mem_take hx), List.length_take, Nat.min_eq_left (by omega)]
    have hs := hz L[i] (List.getElem_mem hi)
    have e := ext_mid T (a ++ flatL (L.take i)) L[i].data.toList (flatL (L.drop (i + 1)) ++ b) (A + i * Z) (A + i * Z + Z) (by rw [h, flat_split L i hi]; simp only [List.append_assoc]) (by rw [List.length_append, hl, hA]) (by rw [vlen, hs])
    rw [e, mk_of]

/-- One record that stands in a text, with any byte w and 4 w bytes behind it. -/
theorem rec_mid (T : ByteArray) (a b : List UInt8) (K W : Nat) (g : ByteArray) (L : List ByteArray) (pad : List UInt8) (A Z : Nat)
    (h : T.data.toList = a ++ (bytesOf K 1 ++ bytesOf W 1 ++ bytesOf L.length 2 ++ g.data.toList ++ flatL L ++ pad) ++ b) (hA : a.length = A) (hK : K < 256) (hW : W < 256) (hL : L.length ≤ 60) (hg : grpB g Z = true) (hz : ∀ x ∈ L, x.size = Z) (hp : pad.length = 4 * W) :
    recOf T A Z = (0, ⟨K, g, L⟩, 4 + Z + L.length * Z + 4 * W) := by
  have hgz : g.size = Z := by
    unfold grpB at hg
    rw [Bool.and_eq_true, decide_eq_true_iff] at hg
    omega
  have l1 := bytesOf_length K 1
  have l2 := bytesOf_length W 1
  have l3 := bytesOf_length L.length 2
  have l4 := vlen g
  have l5 := flat_len L Z hz
  have hT : T.size = A + (1 + 1 + 2 + Z + L.length * Z + 4 * W) + b.length := by
    rw [← vlen, h]
    simp only [List.length_append]
    omega
  have e2 : numv T (A + 2 : Nat) 2 = (L.length : Int) := by
    have := numv_mid T (a ++ (bytesOf K 1 ++ bytesOf W 1)) (bytesOf L.length 2) (g.data.toList ++ flatL L ++ pad ++ b) (A + 2) 2 (by rw [h]; simp only [List.append_assoc]) (by simp only [List.length_append]; omega) l3 (by omega) (by omega)
    rw [show ((2 : Nat) : Int) = 2 from rfl] at this
    rw [this, be_nat _ _ (by omega)]
  have e1 : numv T (A + 1 : Nat) 1 = (W : Int) := by
    have := numv_mid T (a ++ bytesOf K 1) (bytesOf W 1) (bytesOf L.length 2 ++ g.data.toList ++ flatL L ++ pad ++ b) (A + 1) 1 (by rw [h]; simp only [List.append_assoc]) (by simp only [List.length_append]; omega) l2 (by omega) (by omega)
    rw [show ((1 : Nat) : Int) = 1 from rfl] at this
    rw [this, be_nat _ _ (by omega)]
  have e0 : numv T (A : Nat) 1 = (K : Int) := by
    have := numv_mid T a (bytesOf K 1) (bytesOf W 1 ++ bytesOf L.length 2 ++ g.data.toList ++ flatL L ++ pad ++ b) A 1 (by rw [h]; simp only [List.append_assoc]) hA l1 (by omega) (by omega)
    rw [show ((1 : Nat) : Int) = 1 from rfl] at this
    rw [this, be_nat _ _ (by omega)]
  have eg : T.extract (A + 4) (A + 4 + Z) = g := by
    have := ext_mid T (a ++ (bytesOf K 1 ++ bytesOf W 1 ++ bytesOf L.length 2)) g.data.toList (flatL L ++ pad ++ b) (A + 4) (A + 4 + Z) (by rw [h]; simp only [List.append_assoc]) (by simp only [List.length_append]; omega) (by omega)
    rw [this, mk_of]
  have ea : addrsL T (A + 4 + Z) L.length Z = L := addrs_mid T (a ++ (bytesOf K 1 ++ bytesOf W 1 ++ bytesOf L.length 2 ++ g.data.toList)) (pad ++ b) L (A + 4 + Z) Z (by rw [h]; simp only [List.append_assoc]) (by simp only [List.length_append]; omega) hz
  unfold recOf
  rw [if_neg (by omega)]
  simp only [e2, e1, Int.toNat_natCast]
  rw [if_neg (by omega), if_neg (by rw [eg, hg]; simp; omega), e0, eg, ea]

theorem recB_parts (r : Rec) (Z : Nat) (h : recB r Z = true) : ∃ K : Nat, r.kind = K ∧ K < 256 ∧ kindB r.kind = true ∧ grpB r.group Z = true ∧ (∀ x ∈ r.srcs, x.size = Z) ∧ r.srcs.length ≤ 60 := by
  unfold recB at h
  rw [Bool.and_eq_true, Bool.and_eq_true] at h
  obtain ⟨⟨h1, h2⟩, h3⟩ := h
  have k := of_decide_eq_true h1
  unfold srcsB at h3
  rw [Bool.and_eq_true, decide_eq_true_iff, List.all_eq_true] at h3
  obtain ⟨K, hK⟩ := Int.eq_ofNat_of_zero_le (show 0 ≤ r.kind by omega)
  exact ⟨K, hK, by omega, h1, h2, fun x hx => by have := of_decide_eq_true (h3.1 x hx); omega, h3.2⟩

/-- Records that may be, and what stands behind them. -/
theorem recs_run (T : ByteArray) (Z k : Nat) : ∀ (L : List Rec) (a b : List UInt8), T.data.toList = a ++ L.flatMap recL ++ b → (∀ r ∈ L, recB r Z = true) →
    recsGo T Z (L.length + k) a.length = comb L (recsGo T Z k (a ++ L.flatMap recL).length)
  | [], a, b, h, hr => by
    rw [List.flatMap_nil, List.append_nil, List.length_nil, Nat.zero_add]
    exact (comb_nil _ (recsGo_err T Z k a.length)).symm
  | r :: L, a, b, h, hr => by
    obtain ⟨K, hK, hK2, hkb, hg, hz, hn⟩ := recB_parts r Z (hr r (List.mem_cons_self ..))
    have hrl : recL r = bytesOf K 1 ++ bytesOf 0 1 ++ bytesOf r.srcs.length 2 ++ r.group.data.toList ++ flatL r.srcs := by
      unfold recL; rw [hK, Int.toNat_natCast]
    have h' : T.data.toList = a ++ (bytesOf K 1 ++ bytesOf 0 1 ++ bytesOf r.srcs.length 2 ++ r.group.data.toList ++ flatL r.srcs ++ []) ++ (L.flatMap recL ++ b) := by
      rw [h, List.flatMap_cons, hrl]; simp only [List.append_assoc, List.append_nil]
    have e := rec_mid T a (L.flatMap recL ++ b) K 0 r.group r.srcs [] a.length Z h' rfl hK2 (by omega) hn hg hz rfl
    have hlen : (recL r).length = 4 + Z + r.srcs.length * Z + 4 * 0 := by
      have hgz : r.group.size = Z := by
        unfold grpB at hg
        rw [Bool.and_eq_true, decide_eq_true_iff] at hg
        omega
      have := vlen r.group
      have := flat_len r.srcs Z hz
      rw [hrl]
      simp only [List.length_append, bytesOf_length]
      omega
    have er : (⟨(K : Int), r.group, r.srcs⟩ : Rec) = r := by cases r; simp only at hK; subst hK; rfl
    rw [er] at e
    have e1 : (recOf T a.length Z).1 = 0 := by rw [e]
    have e2 : (recOf T a.length Z).2.1 = r := by rw [e]
    have e3 : (recOf T a.length Z).2.2 = (recL r).length := by rw [e, hlen]
    have ih := recs_run T Z k L (a ++ recL r) b (by rw [h, List.flatMap_cons]; simp only [List.append_assoc]) fun x hx => hr x (List.mem_cons_of_mem _ hx)
    have g := recsGo_good T Z (L.length + k) a.length [] e1
    rw [comb_nil _ (recsGo_err T Z _ _)] at g
    rw [List.length_cons, show L.length + 1 + k = L.length + k + 1 from by omega, g, e2, e3, hkb]
    simp only [if_true, List.nil_append]
    rw [List.length_append] at ih
    rw [ih, List.flatMap_cons, ← List.append_assoc]
    generalize recsGo T Z k (a ++ recL r ++ L.flatMap recL).length = t
    unfold comb
    by_cases ht : t.1 = 0
    · simp [ht]
    · simp [ht]

def oddL (K : Nat) : List UInt8 := bytesOf K 1 ++ bytesOf 1 1 ++ bytesOf 1 2 ++ [224, 1, 2, 3] ++ [97, 98, 99, 100] ++ [119, 120, 121, 122]
theorem odd_rec (T : ByteArray) (a b : List UInt8) (K : Nat) (h : T.data.toList = a ++ oddL K ++ b) (hK : K < 256) (hk : kindB (K : Int) = false) :
    ∃ r, recOf T a.length 4 = (0, r, 16) ∧ kindB r.kind = false := by
  have e := rec_mid T a b K 1 ⟨#[224, 1, 2, 3]⟩ [⟨#[97, 98, 99, 100]⟩] [119, 120, 121, 122] a.length 4 (by rw [h]; rfl) rfl hK (by omega) (by decide) (by decide +kernel) (fun x hx => by rw [List.mem_singleton.1 hx]; rfl) rfl
  exact ⟨_, e, hk⟩
theorem unknown_run (T : ByteArray) (L : List Rec) (K : Nat) (h : T.data.toList = oddL K ++ L.flatMap recL ++ oddL K) (hK : K < 256) (hk : kindB (K : Int) = false) (hr : ∀ r ∈ L, recB r 4 = true) :
    recsGo T 4 (L.length + 2) 0 = (0, L) := by
  have hl : (oddL K).length = 16 := by unfold oddL; simp only [List.length_append, bytesOf_length]; rfl
  obtain ⟨r, e, hkr⟩ := odd_rec T [] (L.flatMap recL ++ oddL K) K (by rw [h]; simp only [List.nil_append, List.append_assoc]) hK hk
  rw [List.length_nil] at e
  have g := recsGo_good T 4 (L.length + 1) 0 [] (by rw [e])
  rw [comb_nil _ (recsGo_err T 4 _ _), e] at g
  simp only [hkr] at g
  have g' : recsGo T 4 (L.length + 1 + 1) 0 = recsGo T 4 (L.length + 1) 16 := by
    rw [g]
    simp only [Bool.false_eq_true, if_false, Nat.zero_add]
    exact comb_nil _ (recsGo_err T 4 _ _)
  rw [g', ← hl, recs_run T 4 1 L (oddL K) (oddL K) h hr]
  obtain ⟨r2, e2, hkr2⟩ := odd_rec T (oddL K ++ L.flatMap recL) [] K (by rw [h, List.append_nil]) hK hk
  have g2 := recsGo_good T 4 0 (oddL K ++ L.flatMap recL).length [] (by rw [e2])
  rw [comb_nil _ (recsGo_err T 4 _ _), e2] at g2
  simp only [hkr2] at g2
  rw [show (1 : Nat) = 0 + 1 from rfl, g2]
  simp [recsGo, comb]

theorem filled2 (a m b : List UInt8) (ha : a.length = 2) (hm : m.length = 2) (s : ByteArray) (hs : s.data.toList = a ++ m ++ b) :
    ∃ q, (filled ⟨#[]⟩ s 2).data.toList = a ++ bytesOf q 2 ++ b := by
  have e1 : hd s 2 = ⟨a.toArray⟩ := ext_mid s [] a (m ++ b) 0 2 (by rw [hs]; simp) rfl (by omega)
  have hz := vlen s
  rw [hs, List.length_append, List.length_append] at hz
  have e2 : tl s 2 = ⟨b.toArray⟩ := ext_mid s (a ++ m) b [] 4 s.size (by rw [hs]; simp) (by rw [List.length_append]; omega) (by omega)
  refine ⟨sumN (⟨#[]⟩ ++ hd s 2 ++ ⟨#[0, 0]⟩ ++ tl s 2).data.toList, ?_⟩
  show (hd s 2 ++ ⟨(bytesOf (sumN (⟨#[]⟩ ++ hd s 2 ++ ⟨#[0, 0]⟩ ++ tl s 2).data.toList) 2).toArray⟩ ++ tl s 2).data.toList = _
  rw [e1, e2]
  simp [ByteArray.data_append]

theorem filled2_zero (s : ByteArray) (h : 4 ≤ s.size) : sumN (filled ⟨#[]⟩ s 2).data.toList = 0 := by
  have := filled_right ⟨#[]⟩ s 2 (by omega) rfl rfl
  rw [show (⟨#[]⟩ : ByteArray) ++ filled ⟨#[]⟩ s 2 = filled ⟨#[]⟩ s 2 from by apply ByteArray.ext; simp [ByteArray.data_append]] at this
  exact this

theorem fill2_spec (s : ByteArray) (h : 4 ≤ s.size) : fillSpec ⟨#[]⟩ s 2 = (filled ⟨#[]⟩ s 2, 0) := by
  have hfb : ¬ fillBad ⟨#[]⟩ s 2 := by
    unfold fillBad
    have : (⟨#[]⟩ : ByteArray).size = 0 := rfl
    omega
  unfold fillSpec; rw [if_neg hfb]; rfl

theorem mended (c : Nat) (R : List UInt8) (X : ByteArray) (y : UInt8) (hX : X.data.toList = bytesOf c 1 ++ bytesOf 0 1 ++ bytesOf 0 2 ++ R) :
    ∃ S F, (fillSpec ⟨#[]⟩ X 2).1 = S ∧ S.size = 4 + R.length ∧ fillSpec ⟨#[]⟩ (S.extract 0 1 ++ ⟨#[y]⟩ ++ S.extract 2 S.size) 2 = (F, 0) ∧
      (∃ q, F.data.toList = bytesOf c 1 ++ [y] ++ bytesOf q 2 ++ R) ∧ sumN F.data.toList = 0 ∧ F.size = 4 + R.length := by
  have zX : X.size = 4 + R.length := by rw [← vlen, hX]; simp only [List.length_append, bytesOf_length]
  obtain ⟨q, hq⟩ := filled2 (bytesOf c 1 ++ bytesOf 0 1) (bytesOf 0 2) R (by simp only [List.length_append, bytesOf_length]) (bytesOf_length _ _) X hX
  obtain ⟨S, hS⟩ : ∃ S, S = filled ⟨#[]⟩ X 2 := ⟨_, rfl⟩
  rw [← hS] at hq
  have zS : S.size = 4 + R.length := by rw [hS, filled_size _ _ _ (by omega), zX]
  have x1 : S.extract 0 1 = ⟨(bytesOf c 1).toArray⟩ := ext_mid S [] (bytesOf c 1) (bytesOf 0 1 ++ bytesOf q 2 ++ R) 0 1 (by rw [hq]; simp) rfl (by rw [bytesOf_length])
  have x2 : S.extract 2 S.size = ⟨(bytesOf q 2 ++ R).toArray⟩ := ext_mid S (bytesOf c 1 ++ bytesOf 0 1) (bytesOf q 2 ++ R) [] 2 S.size (by rw [hq]; simp) (by simp only [List.length_append, bytesOf_length]) (by simp only [List.length_append, bytesOf_length]; omega)
  obtain ⟨Y, hY⟩ : ∃ Y, Y = S.extract 0 1 ++ ⟨#[y]⟩ ++ S.extract 2 S.size := ⟨_, rfl⟩
  have lY : Y.data.toList = bytesOf c 1 ++ [y] ++ bytesOf q 2 ++ R := by rw [hY, x1, x2]; simp [ByteArray.data_append]
  have zY : Y.size = 4 + R.length := by rw [← vlen, lY]; simp only [List.length_append, bytesOf_length, List.length_cons, List.length_nil]
  obtain ⟨q', hq'⟩ := filled2 (bytesOf c 1 ++ [y]) (bytesOf q 2) R (by simp only [List.length_append, bytesOf_length, List.length_cons, List.length_nil]) (bytesOf_length _ _) Y lY
  refine ⟨S, filled ⟨#[]⟩ Y 2, by rw [fill2_spec X (by omega), hS], zS, by rw [← hY]; exact fill2_spec Y (by omega), ⟨q', hq'⟩, filled2_zero Y (by omega), by rw [filled_size _ _ _ (by omega), zY]⟩

theorem byt0 (T : ByteArray) (c : Nat) (R : List UInt8) (h : T.data.toList = bytesOf c 1 ++ R) (hc : c < 256) : byt T 0 = c := by
  have e1 : bytesOf c 1 = [UInt8.ofNat c] := by simp [bytesOf]
  unfold byt
  rw [h, e1]
  show (UInt8.ofNat c).toNat = c
  rw [UInt8.toNat_ofNat']; omega

/-- What is no query nor a report of version 3, its second byte whatever it is. -/
theorem dec_one (T : ByteArray) (k v : Int) (c : Nat) (y : UInt8) (q : Nat) (g : ByteArray) (h : T.data.toList = bytesOf c 1 ++ [y] ++ bytesOf q 2 ++ g.data.toList) (h0 : sumN T.data.toList = 0) (hc : oneB k v = ((c : Int), true)) (hg : grpB g 4 = true) :
    decM T = (0, ⟨k, v, g, 0, false, 0, 0, [], []⟩) := by
  have hgz : g.size = 4 := by
    unfold grpB at hg
    rw [Bool.and_eq_true, decide_eq_true_iff] at hg
    omega
  have lg := vlen g
  have zT : T.size = 8 := by rw [← vlen, h]; simp only [List.length_append, bytesOf_length, List.length_cons, List.length_nil]; omega
  have x4 : T.extract 4 8 = g := by
    rw [ext_mid T (bytesOf c 1 ++ [y] ++ bytesOf q 2) g.data.toList [] 4 8 (by rw [h]; simp) (by simp only [List.length_append, bytesOf_length, List.length_cons, List.length_nil]) (by omega), mk_of]
  have hb := fun hc2 => byt0 T c ([y] ++ bytesOf q 2 ++ g.data.toList) (by rw [h]; simp) hc2
  unfold decM
  rw [if_neg (by omega), if_neg (by rw [h0]; simp)]
  unfold oneB at hc
  split at hc
  · next hk =>
    obtain ⟨rfl, rfl⟩ := hk
    obtain rfl : c = 18 := by have := congrArg Prod.fst hc; simp only at this; omega
    rw [hb (by omega), if_neg (by omega), if_pos rfl]
    unfold oneI
    rw [x4, if_pos hg]
  · split at hc
    · next hk =>
      obtain ⟨rfl, rfl⟩ := hk
      obtain rfl : c = 22 := by have := congrArg Prod.fst hc; simp only at this; omega
      rw [hb (by omega), if_neg (by omega), if_neg (by omega), if_pos rfl]
      unfold oneI
      rw [x4, if_pos hg]
    · split at hc
      · next hk =>
        obtain ⟨rfl, rfl⟩ := hk
        obtain rfl : c = 23 := by have := congrArg Prod.fst hc; simp only at this; omega
        rw [hb (by omega), if_neg (by omega), if_neg (by omega), if_neg (by omega), if_pos rfl]
        unfold oneI
        rw [x4, if_pos hg]
      · have := congrArg Prod.snd hc
        simp at this

/-- A report of version 3, its second byte whatever it is. -/
theorem dec_rep (T : ByteArray) (y : UInt8) (q : Nat) (L : List Rec) (h : T.data.toList = bytesOf 34 1 ++ [y] ++ bytesOf q 2 ++ (bytesOf 0 2 ++ bytesOf L.length 2 ++ L.flatMap recL)) (h0 : sumN T.data.toList = 0) (hL : L.length ≤ 30) (hr : ∀ r ∈ L, recB r 4 = true) :
    decM T = (0, ⟨2, 3, ⟨#[]⟩, 0, false, 0, 0, [], L⟩) := by
  have zT : T.size = 8 + (L.flatMap recL).length := by rw [← vlen, h]; simp only [List.length_append, bytesOf_length, List.length_cons, List.length_nil]; omega
  have hb := byt0 T 34 ([y] ++ bytesOf q 2 ++ (bytesOf 0 2 ++ bytesOf L.length 2 ++ L.flatMap recL)) (by rw [h]; simp) (by omega)
  have n6 : numv T 6 2 = (L.length : Int) := by
    have := numv_mid T (bytesOf 34 1 ++ [y] ++ bytesOf q 2 ++ bytesOf 0 2) (bytesOf L.length 2) (L.flatMap recL) 6 2 (by rw [h]; simp) (by simp only [List.length_append, bytesOf_length, List.length_cons, List.length_nil]) (bytesOf_length _ _) (by omega) (by omega)
    rw [be_nat _ 2 (by omega)] at this
    exact this
  have x8 : T.extract 8 T.size = ⟨(L.flatMap recL).toArray⟩ := ext_mid T (bytesOf 34 1 ++ [y] ++ bytesOf q 2 ++ (bytesOf 0 2 ++ bytesOf L.length 2)) (L.flatMap recL) [] 8 T.size (by rw [h]; simp) (by simp only [List.length_append, bytesOf_length, List.length_cons, List.length_nil]) (by omega)
  unfold decM
  rw [if_neg (by omega), if_neg (by rw [h0]; simp), hb, if_neg (by omega), if_neg (by omega), if_neg (by omega), if_neg (by omega), if_pos rfl]
  unfold repI
  rw [n6, x8]
  have e : recsI (⟨(L.flatMap recL).toArray⟩ : ByteArray) (L.length : Int) 4 = (0, L) := by
    unfold recsI
    rw [if_neg (by omega), if_neg (by omega), show ((4 : Int)).toNat = 4 from rfl, Int.toNat_natCast]
    have g := recs_run (⟨(L.flatMap recL).toArray⟩ : ByteArray) 4 0 L [] [] (by simp) hr
    rw [List.length_nil, Nat.add_zero] at g
    rw [g]
    simp [recsGo, comb]
  rw [e]
  rfl

end Go.Proofs.YtniahpbjfpmmhaaGreat
