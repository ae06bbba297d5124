/-
  Plain lemmas on numbers written as bytes, highest byte first. No program is imported.
-/
namespace Go.Proofs.Ythpafojeadbjlaa

theorem snoc_ind {α : Type} {P : List α → Prop} (h0 : P []) (h1 : ∀ l a, P l → P (l ++ [a])) : ∀ l, P l := by
  intro l
  have h : ∀ r : List α, P r.reverse := by
    intro r
    induction r with
    | nil => exact h0
    | cons a r ih => rw [List.reverse_cons]; exact h1 _ _ ih
  have := h l.reverse
  rwa [List.reverse_reverse] at this

/-- The number of a list of bytes, highest first. -/
def be (l : List UInt8) : Nat := l.foldl (fun n b => 256 * n + b.toNat) 0

/-- The lowest w bytes of n, highest first. -/
def bytesOf (n w : Nat) : List UInt8 := (List.range w).map fun j => UInt8.ofNat (n / 256 ^ (w - 1 - j))

theorem bytesOf_length (n w : Nat) : (bytesOf n w).length = w := by simp [bytesOf]

theorem bytesOf_zero (n : Nat) : bytesOf n 0 = [] := rfl

theorem bytesOf_succ (n w : Nat) : bytesOf n (w + 1) = bytesOf (n / 256) w ++ [UInt8.ofNat n] := by
  unfold bytesOf
  rw [List.range_succ, List.map_append]
  congr 1
  · apply List.map_congr_left
    intro j hj
    have hj' := List.mem_range.1 hj
    rw [Nat.div_div_eq_div_mul, show w + 1 - 1 - j = (w - 1 - j) + 1 from by omega, Nat.pow_succ, Nat.mul_comm 256]
  · simp

theorem ofNat_mod_dvd (n k : Nat) : UInt8.ofNat (n % (256 * k)) = UInt8.ofNat n := by
  apply UInt8.toNat_inj.1
  rw [UInt8.toNat_ofNat', UInt8.toNat_ofNat']
  exact Nat.mod_mul_right_mod n 256 k

theorem bytesOf_mod (n w : Nat) : bytesOf (n % 256 ^ w) w = bytesOf n w := by
  induction w generalizing n with
  | zero => rfl
  | succ w ih =>
    rw [bytesOf_succ, bytesOf_succ]
    have h1 : n % 256 ^ (w + 1) / 256 = n / 256 % 256 ^ w := by
      rw [Nat.pow_succ, Nat.mul_comm, Nat.mod_mul_right_div_self]
    rw [h1, ih, Nat.pow_succ, Nat.mul_comm, ofNat_mod_dvd]

theorem be_snoc (l : List UInt8) (b : UInt8) : be (l ++ [b]) = 256 * be l + b.toNat := by
  unfold be
  rw [List.foldl_append]; rfl

theorem be_nil : be [] = 0 := rfl

theorem be_lt (l : List UInt8) : be l < 256 ^ l.length := by
  refine snoc_ind (P := fun l => be l < 256 ^ l.length) ?_ ?_ l
  · simp [be]
  · intro l b ih
    rw [be_snoc, List.length_append, List.length_singleton, Nat.pow_succ]
    have := b.toNat_lt
    omega

theorem be_bytesOf (n w : Nat) : be (bytesOf n w) = n % 256 ^ w := by
  induction w generalizing n with
  | zero => simp [bytesOf_zero, be_nil, Nat.mod_one]
  | succ w ih =>
    rw [bytesOf_succ, be_snoc, ih, Nat.pow_succ, Nat.mul_comm (256 ^ w), Nat.mod_mul, UInt8.toNat_ofNat']
    show 256 * _ + n % 256 = _
    omega

theorem bytesOf_be (l : List UInt8) : bytesOf (be l) l.length = l := by
  refine snoc_ind (P := fun l => bytesOf (be l) l.length = l) ?_ ?_ l
  · rfl
  · intro l b ih
    rw [List.length_append, List.length_singleton, bytesOf_succ, be_snoc]
    have hb := b.toNat_lt
    have h1 : (256 * be l + b.toNat) / 256 = be l := by omega
    rw [h1, ih]
    congr 2
    apply UInt8.toNat_inj.1
    rw [UInt8.toNat_ofNat']
    show _ % 256 = _
    omega

/-- One number behind another. -/
theorem be_append (l m : List UInt8) : be (l ++ m) = be l * 256 ^ m.length + be m := by
  refine snoc_ind (P := fun m => be (l ++ m) = be l * 256 ^ m.length + be m) ?_ ?_ m
  · simp [be_nil]
  · intro m b ih
    rw [← List.append_assoc, be_snoc, be_snoc, ih, List.length_append, List.length_singleton, Nat.pow_succ]
    have : 256 * (be l * 256 ^ m.length) = be l * (256 ^ m.length * 256) := by rw [Nat.mul_comm 256, Nat.mul_assoc]
    omega

theorem bytesOf_add (n v w : Nat) : bytesOf n (v + w) = bytesOf (n / 256 ^ w) v ++ bytesOf n w := by
  induction w generalizing n with
  | zero => simp [bytesOf_zero]
  | succ w ih =>
    rw [← Nat.add_assoc, bytesOf_succ, ih, bytesOf_succ, ← List.append_assoc, Nat.div_div_eq_div_mul, Nat.pow_succ, Nat.mul_comm 256]

theorem getD_at {α : Type} (l : List α) (k : Nat) (d : α) (h : k < l.length) : l.getD k d = l[k] := by simp [List.getD, h]

/-- Byte i, so many bytes higher; the number of the first k bytes, as high as it stands. -/
def worthAt (l : List UInt8) (i : Nat) : Nat := (l.getD i 0).toNat * 256 ^ (l.length - 1 - i)
def upTo (l : List UInt8) (k : Nat) : Nat := be (l.take k) * 256 ^ (l.length - k)

theorem upTo_zero (l : List UInt8) : upTo l 0 = 0 := by simp [upTo, be_nil]
theorem upTo_all (l : List UInt8) : upTo l l.length = be l := by simp [upTo]

theorem upTo_lt (l : List UInt8) (k : Nat) (h : k ≤ l.length) : upTo l k < 256 ^ l.length := by
  have h1 := be_lt (l.take k)
  rw [List.length_take, Nat.min_eq_left h] at h1
  unfold upTo
  rw [show 256 ^ l.length = 256 ^ k * 256 ^ (l.length - k) from by rw [← Nat.pow_add]; congr 1; omega]
  exact Nat.mul_lt_mul_of_pos_right h1 (Nat.pow_pos (by omega))

theorem worthAt_lt (l : List UInt8) (k : Nat) (h : k < l.length) : worthAt l k < 256 ^ (l.length - k) := by
  unfold worthAt
  rw [show l.length - k = (l.length - 1 - k) + 1 from by omega, Nat.pow_succ, Nat.mul_comm (256 ^ _)]
  exact Nat.mul_lt_mul_of_pos_right (UInt8.toNat_lt _) (Nat.pow_pos (by omega))

theorem upTo_succ (l : List UInt8) (k : Nat) (h : k < l.length) : upTo l (k + 1) = upTo l k + worthAt l k := by
  unfold upTo worthAt
  rw [List.take_succ_eq_append_getElem h, be_snoc, Nat.add_mul, getD_at _ _ _ h, show l.length - k = (l.length - (k + 1)) + 1 from by omega, Nat.pow_succ,
    show l.length - 1 - k = l.length - (k + 1) from by omega]
  congr 1
  rw [Nat.mul_comm 256, Nat.mul_assoc, Nat.mul_comm 256]

theorem upTo_or (l : List UInt8) (k : Nat) (h : k < l.length) : upTo l k ||| worthAt l k = upTo l (k + 1) := by
  rw [upTo_succ l k h]
  have h1 := worthAt_lt l k h
  have p : 256 ^ (l.length - k) = 2 ^ (8 * (l.length - k)) := by rw [Nat.pow_mul]
  rw [p] at h1
  have h2 := Nat.two_pow_add_eq_or_of_lt h1 (be (l.take k))
  unfold upTo
  rw [p, Nat.mul_comm (be _)]
  exact h2.symm

theorem pow_le_64 (k : Nat) (h : k ≤ 8) : 256 ^ k ≤ 18446744073709551616 :=
  Nat.le_trans (Nat.pow_le_pow_right (by omega) h) (Nat.le_of_eq (by decide))

end Go.Proofs.Ythpafojeadbjlaa
