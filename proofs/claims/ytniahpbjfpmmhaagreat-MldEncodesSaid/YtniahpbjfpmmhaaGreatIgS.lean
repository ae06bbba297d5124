/-
  Group messages of IPv4, plain: which records and which message some bytes hold. They speak of no program's function.
-/
import Derived.Test.YtniahpbjfpmmhaaGreatTxt
import Derived.Test.YtniahpbjfpmmhaaGreatMemL
import Derived.Test.YtniahpbjfpmmhaaGreatEthD
import Derived.Test.YtniahpbjfpmmhaaGreatCodeA
import Derived.Test.YtniahpbjfpmmhaaGreatSumAB
namespace Go.Proofs.YtniahpbjfpmmhaaGreat
set_option linter.unusedVariables false

/-- Is it a group? -/
def isGrp (a : ByteArray) : Bool := decide ((a.size = 4 ∧ 224 ≤ (byteAt a 0).toNat ∧ (byteAt a 0).toNat ≤ 239) ∨ (a.size = 16 ∧ (byteAt a 0).toNat = 255))
def grpB (a : ByteArray) (size : Int) : Bool := decide ((a.size : Int) = size) && isGrp a

/-- n addresses of a size from a place on. -/
def addrsL (s : ByteArray) (a n size : Nat) : List ByteArray := (List.range n).map fun i => s.extract (a + i * size) (a + i * size + size)
theorem addrsL_length (s : ByteArray) (a n size : Nat) : (addrsL s a n size).length = n := by simp [addrsL]
theorem addrsL_succ (s : ByteArray) (a n size : Nat) : addrsL s a (n + 1) size = addrsL s a n size ++ [s.extract (a + n * size) (a + n * size + size)] := by simp [addrsL, List.range_succ]

/-- The record at a place: the error, or itself and how many bytes it has. -/
def recOf (s : ByteArray) (a size : Nat) : Int × Rec × Nat :=
  if s.size < a + 4 + size then (2, ⟨0, ⟨#[]⟩, []⟩, 0)
  else
    let count := (numv s (a + 2 : Nat) 2).toNat
    let whole := 4 + size + count * size + 4 * (numv s (a + 1 : Nat) 1).toNat
    if s.size < a + whole then (2, ⟨0, ⟨#[]⟩, []⟩, 0)
    else if 60 < count ∨ grpB (s.extract (a + 4) (a + 4 + size)) size = false then (3, ⟨0, ⟨#[]⟩, []⟩, 0)
    else (0, ⟨numv s a 1, s.extract (a + 4) (a + 4 + size), addrsL s (a + 4 + size) count size⟩, whole)

/-- Is it a known kind? -/
def kindB (k : Int) : Bool := decide (1 ≤ k ∧ k ≤ 6)

/-- n records from a place on. -/
def recsGo (s : ByteArray) (size : Nat) : Nat → Nat → Int × List Rec
  | 0, _ => (0, [])
  | n + 1, a =>
    if (recOf s a size).1 ≠ 0 then ((recOf s a size).1, [])
    else
      let t := recsGo s size n (a + (recOf s a size).2.2)
      if t.1 ≠ 0 then (t.1, []) else (0, if kindB (recOf s a size).2.1.kind then (recOf s a size).2.1 :: t.2 else t.2)
/-- Records that were read, and those to come. -/
def comb (acc : List Rec) (t : Int × List Rec) : Int × List Rec := if t.1 ≠ 0 then (t.1, []) else (0, acc ++ t.2)
theorem comb_nil (t : Int × List Rec) (h : t.1 ≠ 0 → t.2 = []) : comb [] t = t := by
  obtain ⟨e, l⟩ := t
  unfold comb
  by_cases he : e = 0
  · subst he; simp
  · simp only at h ⊢; rw [if_pos he, h he]

theorem recsGo_err (s : ByteArray) (size n a : Nat) : (recsGo s size n a).1 ≠ 0 → (recsGo s size n a).2 = [] := by
  cases n with
  | zero => intro h; rfl
  | succ n =>
    intro h
    unfold recsGo at h ⊢
    split
    · rfl
    · next h1 =>
      rw [if_neg h1] at h
      simp only at h ⊢
      split
      · rfl
      · next h2 => rw [if_neg h2] at h; exact absurd rfl h

theorem recsGo_bad (s : ByteArray) (size n a : Nat) (acc : List Rec) (h : (recOf s a size).1 ≠ 0) : comb acc (recsGo s size (n + 1) a) = ((recOf s a size).1, []) := by
  unfold recsGo
  rw [if_pos h]
  unfold comb
  rw [if_pos h]
theorem recsGo_good (s : ByteArray) (size n a : Nat) (acc : List Rec) (h : (recOf s a size).1 = 0) :
    comb acc (recsGo s size (n + 1) a) = comb (if kindB (recOf s a size).2.1.kind then acc ++ [(recOf s a size).2.1] else acc) (recsGo s size n (a + (recOf s a size).2.2)) := by
  conv => lhs; unfold recsGo
  rw [if_neg (by rw [h]; simp)]
  simp only
  generalize recsGo s size n (a + (recOf s a size).2.2) = t
  obtain ⟨e, l⟩ := t
  unfold comb
  by_cases he : e = 0
  · subst he
    by_cases hk : kindB (recOf s a size).2.1.kind = true
    · simp [hk]
    · simp [hk]
  · simp [he]

/-- What Records answers. -/
def recsI (s : ByteArray) (n size : Int) : Int × List Rec :=
  if n < 0 ∨ (size ≠ 4 ∧ size ≠ 16) then (1, []) else if 30 < n then (3, []) else recsGo s size.toNat n.toNat 0

/-- A message of nothing. -/
def zeroM : Msg := ⟨0, 0, ⟨#[]⟩, 0, false, 0, 0, [], []⟩
def noGrp : ByteArray := ⟨#[0, 0, 0, 0]⟩

/-- Group of a query. -/
def qGrp (s : ByteArray) : ByteArray := if s.extract 4 8 = noGrp then ⟨#[]⟩ else s.extract 4 8
/-- Is the group of a query right beside so many sources? -/
def qGrpB (g : ByteArray) (n : Nat) : Bool := if g.size = 0 then decide (n = 0) else grpB g 4

def queryI (s : ByteArray) : Int × Msg :=
  if s.size ≤ 8 then
    (if qGrpB (qGrp s) 0 then (0, ⟨1, if byt s 1 = 0 then 1 else 2, qGrp s, byt s 1, false, 0, 0, [], []⟩) else (3, zeroM))
  else if s.size < 12 then (3, zeroM)
  else if 60 < (numv s 10 2).toNat then (3, zeroM)
  else if s.size < 12 + (numv s 10 2).toNat * 4 then (2, zeroM)
  else if qGrpB (qGrp s) (numv s 10 2).toNat then
    (0, ⟨1, 3, qGrp s, (decI 4 (byt s 1)).1, decide (byt s 8 / 8 % 2 = 1), ((byt s 8 % 8 : Nat) : Int), (decI 4 (byt s 9)).1, addrsL s 12 (numv s 10 2).toNat 4, []⟩)
  else (3, zeroM)

def oneI (s : ByteArray) (kind version : Int) : Int × Msg :=
  if grpB (s.extract 4 8) 4 then (0, ⟨kind, version, s.extract 4 8, 0, false, 0, 0, [], []⟩) else (3, zeroM)

def repJ (t : Int × List Rec) : Int × Msg :=
  if t.1 ≠ 0 then (t.1, zeroM) else (0, ⟨2, 3, ⟨#[]⟩, 0, false, 0, 0, [], t.2⟩)
def repI (s : ByteArray) : Int × Msg := repJ (recsI (s.extract 8 s.size) (numv s 6 2) 4)

/-- What Decode answers. -/
def decM (s : ByteArray) : Int × Msg :=
  if s.size < 8 then (2, zeroM)
  else if sumN s.data.toList ≠ 0 then (4, zeroM)
  else if byt s 0 = 17 then queryI s
  else if byt s 0 = 18 then oneI s 2 1
  else if byt s 0 = 22 then oneI s 2 2
  else if byt s 0 = 23 then oneI s 3 2
  else if byt s 0 = 34 then repI s
  else (3, zeroM)

end Go.Proofs.YtniahpbjfpmmhaaGreat
