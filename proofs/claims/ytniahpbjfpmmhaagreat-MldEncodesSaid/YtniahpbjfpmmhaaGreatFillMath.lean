/-
  A text with its sum put in is right, is as long as it was, and has its sum put in again: the same.
-/
import Derived.Test.YtniahpbjfpmmhaaGreatFill
namespace Go.Proofs.YtniahpbjfpmmhaaGreat

/-- Ones' addition is addition modulo 65535, where nothing is 0 only if all is. -/
theorem addc_mod (a b : Nat) : addc a b % 65535 = (a + b) % 65535 := by unfold addc; split <;> omega
theorem addc_zero (a b : Nat) : addc a b = 0 ↔ a = 0 ∧ b = 0 := by unfold addc; split <;> omega

/-- The plain sum of a list of words. -/
def plain (ws : List Nat) : Nat := ws.foldl (· + ·) 0
theorem plain_snoc (ws : List Nat) (x : Nat) : plain (ws ++ [x]) = plain ws + x := by simp [plain]
theorem plain_nil : plain [] = 0 := rfl

theorem tot_mod (ws : List Nat) : tot ws % 65535 = plain ws % 65535 := by
  refine snoc_ind (P := fun ws => tot ws % 65535 = plain ws % 65535) rfl ?_ ws
  intro l a ih
  rw [tot_snoc, addc_mod, plain_snoc]
  omega

theorem tot_zero (ws : List Nat) : tot ws = 0 ↔ plain ws = 0 := by
  refine snoc_ind (P := fun ws => tot ws = 0 ↔ plain ws = 0) (by simp [tot, plain]) ?_ ws
  intro l a ih
  rw [tot_snoc, addc_zero, plain_snoc, ih]
  omega

/-- Ones' addition is told by the plain sum. -/
theorem tot_plain (ws : List Nat) (h : ∀ x ∈ ws, x ≤ 65535) : tot ws = if plain ws = 0 then 0 else if plain ws % 65535 = 0 then 65535 else plain ws % 65535 := by
  have h1 := tot_le ws h
  have h2 := tot_mod ws
  have h3 := tot_zero ws
  split
  · rename_i e; exact h3.2 e
  · rename_i e
    have h4 : tot ws ≠ 0 := fun k => e (h3.1 k)
    split <;> omega

theorem plain_append (a b : List Nat) : plain (a ++ b) = plain a + plain b := by
  refine snoc_ind (P := fun b => plain (a ++ b) = plain a + plain b) (by simp [plain]) ?_ b
  intro l x ih
  rw [← List.append_assoc, plain_snoc, plain_snoc, ih]
  omega

/-- The plain sum of a text's words. -/
def psum (l : List UInt8) : Nat := plain (wordsL l)

theorem sumN_psum (l : List UInt8) : sumN l = 65535 - (if psum l = 0 then 0 else if psum l % 65535 = 0 then 65535 else psum l % 65535) := by
  unfold sumN psum
  rw [tot_plain _ (wordsL_le l)]

theorem getD_append_left (a b : List UInt8) (i : Nat) (h : i < a.length) : (a ++ b).getD i 0 = a.getD i 0 := by simp [List.getD, List.getElem?_append_left h]
theorem getD_append_right (a b : List UInt8) (i : Nat) (h : a.length ≤ i) : (a ++ b).getD i 0 = b.getD (i - a.length) 0 := by simp [List.getD, List.getElem?_append_right h]

theorem wordsL_append (a b : List UInt8) (h : a.length % 2 = 0) : wordsL (a ++ b) = wordsL a ++ wordsL b := by
  unfold wordsL
  have hc : cntW (a ++ b) = cntW a + cntW b := by unfold cntW; rw [List.length_append]; omega
  have ha : 2 * cntW a = a.length := by unfold cntW; omega
  rw [hc, List.range_add, List.map_append, List.map_map]
  congr 1
  · apply List.map_congr_left
    intro j hj
    have hj' := List.mem_range.1 hj
    unfold wordN
    rw [getD_append_left _ _ _ (by omega), getD_append_left _ _ _ (by omega)]
  · apply List.map_congr_left
    intro j _
    show wordN (a ++ b) (2 * (cntW a + j)) = wordN b (2 * j)
    unfold wordN
    rw [getD_append_right _ _ _ (by omega), getD_append_right _ _ _ (by omega)]
    congr 3 <;> congr 1 <;> omega

theorem psum_append (a b : List UInt8) (h : a.length % 2 = 0) : psum (a ++ b) = psum a + psum b := by
  unfold psum; rw [wordsL_append a b h, plain_append]

theorem psum_two (x y : UInt8) : psum [x, y] = 256 * x.toNat + y.toNat := by
  simp [psum, wordsL, cntW, wordN, plain, List.range_succ]

theorem bytes_two (q : Nat) (h : q ≤ 65535) : psum (bytesOf q 2) = q := by
  have e : bytesOf q 2 = [UInt8.ofNat (q / 256), UInt8.ofNat q] := by simp [bytesOf, List.range_succ]
  rw [e, psum_two, UInt8.toNat_ofNat', UInt8.toNat_ofNat']
  omega

theorem fsize (s : ByteArray) : s.data.toList.length = s.size := by simp
theorem apl (a b : ByteArray) : (a ++ b).data.toList = a.data.toList ++ b.data.toList := by simp [ByteArray.data_append]

theorem filled_size (ahead s : ByteArray) (A : Nat) (h : A + 2 ≤ s.size) : (filled ahead s A).size = s.size := by
  unfold filled
  rw [ByteArray.size_append, ByteArray.size_append, hd_size s A (by omega), tl_size, bytes_size]
  omega

/-- The plain sum of a text with two bytes put in. -/
theorem psum_put (ahead x y : ByteArray) (m : List UInt8) (hm : m.length = 2) (h1 : ahead.size % 2 = 0) (h2 : x.size % 2 = 0) :
    psum (ahead ++ (x ++ ⟨m.toArray⟩ ++ y)).data.toList = psum ahead.data.toList + (psum x.data.toList + (psum m + psum y.data.toList)) := by
  rw [apl, apl, apl, List.append_assoc, psum_append _ _ (by rw [fsize]; exact h1), psum_append _ _ (by rw [fsize]; exact h2), psum_append _ _ (by simp [hm])]

theorem assoc4 (a x z y : ByteArray) : a ++ x ++ z ++ y = a ++ (x ++ z ++ y) := by
  apply ByteArray.ext
  simp [ByteArray.data_append]

theorem filled_right (ahead s : ByteArray) (A : Nat) (h : A + 2 ≤ s.size) (h1 : ahead.size % 2 = 0) (h2 : A % 2 = 0) : sumN (ahead ++ filled ahead s A).data.toList = 0 := by
  have hx := hd_size s A (by omega)
  unfold filled
  rw [sumN_psum, psum_put ahead (hd s A) (tl s A) _ (bytesOf_length _ 2) h1 (by omega), bytes_two _ (by unfold sumN; omega), assoc4, sumN_psum,
    psum_put ahead (hd s A) (tl s A) [0, 0] rfl h1 (by omega)]
  have z : psum [0, 0] = 0 := by rw [psum_two]; rfl
  rw [z]
  generalize psum ahead.data.toList = a
  generalize psum (hd s A).data.toList = b
  generalize psum (tl s A).data.toList = c
  split <;> split <;> (try split) <;> (try split) <;> omega

theorem hd_filled (ahead s : ByteArray) (A : Nat) (h : A + 2 ≤ s.size) : hd (filled ahead s A) A = hd s A := by
  have hx := hd_size s A (by omega)
  apply ByteArray.ext
  apply Array.toList_inj.1
  have e : (filled ahead s A).data.toList = (hd s A).data.toList ++ (bytesOf (sumN (ahead ++ hd s A ++ ⟨#[0, 0]⟩ ++ tl s A).data.toList) 2 ++ (tl s A).data.toList) := by
    unfold filled; rw [apl, apl, List.append_assoc]
  have e2 : (hd (filled ahead s A) A).data.toList = ((filled ahead s A).data.toList).take A := by
    have := Lib.extract_data (filled ahead s A) 0 A
    unfold hd
    rw [this]
    simp
  rw [e2, e, List.take_append_of_le_length (by rw [fsize]; omega), List.take_of_length_le (by rw [fsize]; omega)]

theorem tl_filled (ahead s : ByteArray) (A : Nat) (h : A + 2 ≤ s.size) : tl (filled ahead s A) A = tl s A := by
  have hx := hd_size s A (by omega)
  have ht := tl_size s A
  have hf := filled_size ahead s A h
  apply ByteArray.ext
  apply Array.toList_inj.1
  have e : (filled ahead s A).data.toList = ((hd s A).data.toList ++ bytesOf (sumN (ahead ++ hd s A ++ ⟨#[0, 0]⟩ ++ tl s A).data.toList) 2) ++ (tl s A).data.toList := by
    unfold filled; rw [apl, apl]
  have hl : ((hd s A).data.toList ++ bytesOf (sumN (ahead ++ hd s A ++ ⟨#[0, 0]⟩ ++ tl s A).data.toList) 2).length = A + 2 := by rw [List.length_append, bytesOf_length, fsize, hx]
  have e2 : (tl (filled ahead s A) A).data.toList = ((filled ahead s A).data.toList).drop (A + 2) := by
    have := Lib.extract_data (filled ahead s A) (A + 2) (filled ahead s A).size
    show ((filled ahead s A).extract (A + 2) (filled ahead s A).size).data.toList = _
    rw [this, List.take_of_length_le (by rw [List.length_drop, fsize]; omega)]
  rw [e2, e, List.drop_append_of_le_length (by rw [hl]; exact Nat.le_refl _), List.drop_of_length_le (by rw [hl]; exact Nat.le_refl _), List.nil_append]

theorem filled_again (ahead s : ByteArray) (A : Nat) (h : A + 2 ≤ s.size) : filled ahead (filled ahead s A) A = filled ahead s A := by
  have e1 := hd_filled ahead s A h
  have e2 := tl_filled ahead s A h
  show hd (filled ahead s A) A ++ ⟨(bytesOf (sumN (ahead ++ hd (filled ahead s A) A ++ ⟨#[0, 0]⟩ ++ tl (filled ahead s A) A).data.toList) 2).toArray⟩ ++ tl (filled ahead s A) A = _
  rw [e1, e2]
  rfl

end Go.Proofs.YtniahpbjfpmmhaaGreat
