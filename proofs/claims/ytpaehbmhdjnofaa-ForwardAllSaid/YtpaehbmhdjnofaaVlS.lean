/-
  VLANs: what ports are, and what vlan's functions answer, on plain data. It speaks of no function.
-/
import Derived.Test.YtpaehbmhdjnofaaEthA
namespace Go.Proofs.Ytpaehbmhdjnofaa
open Go.RowKit
set_option linter.unusedVariables false

structure Pt where
  dft : Int
  tag : List Int
  pln : List Int
structure Fr where
  d : ByteArray
  s : ByteArray
  t : Bool
  v : Int
  p : Int
  y : Int
  x : ByteArray
def Fr.zero : Fr := ⟨⟨#[]⟩, ⟨#[]⟩, false, 0, 0, 0, ⟨#[]⟩⟩
def Fr.val (f : Fr) : Value := .agg #[.string f.d, .string f.s, .bool f.t, .int .i64 f.v, .int .i64 f.p, .int .i64 f.y, .string f.x]
def Fr.ok (f : Fr) : Bool := okF f.d f.s f.t f.v f.p f.y f.x

/-- Rises, from a number on, with numbers up to 4094. -/
def risGo : Int → List Int → Bool
  | _, [] => true
  | a, v :: l => decide (a < v) && decide (v ≤ 4094) && risGo v l
def risB (l : List Int) : Bool := risGo 0 l
def hasB (l : List Int) (v : Int) : Bool := match l with
  | [] => false
  | x :: t => decide (x = v) || hasB t v
def anyB (l m : List Int) : Bool := match l with
  | [] => false
  | x :: t => hasB m x || anyB t m
def memB (p : Pt) (v : Int) : Bool := hasB p.tag v || hasB p.pln v
def dftB (p : Pt) : Bool := decide (p.dft = 0) || memB p p.dft
def ptB (p : Pt) : Bool := risB p.tag && risB p.pln && !anyB p.pln p.tag && dftB p
def allB : List Pt → Bool
  | [] => true
  | p :: t => ptB p && allB t
def chkB (L : List Pt) : Bool := decide (1 ≤ L.length) && decide (L.length ≤ 16) && allB L
def chkI (L : List Pt) : Int := if chkB L then 0 else 3
def membGo (v : Int) : Nat → List Pt → List Int
  | _, [] => []
  | k, p :: t => (if memB p v then [(k : Int)] else []) ++ membGo v (k + 1) t
def membI (L : List Pt) (v : Int) : List Int := membGo v 0 L
def ptAt (L : List Pt) (i : Int) : Pt := L.getD i.toNat ⟨0, [], []⟩
/-- What In and Out refuse alike: 0: nothing. -/
def faultI (L : List Pt) (i : Int) (f : Fr) : Int :=
  if chkB L = false then 3 else if i < 0 ∨ (L.length : Int) ≤ i ∨ f.ok = false then 1 else 0
def inV (L : List Pt) (i : Int) (f : Fr) : Int := if f.v = 0 then (ptAt L i).dft else f.v
def inI (L : List Pt) (i : Int) (f : Fr) : Fr × Int :=
  if faultI L i f ≠ 0 then (.zero, faultI L i f)
  else if inV L i f = 0 ∨ memB (ptAt L i) (inV L i f) = false then (.zero, 6)
  else (⟨f.d, f.s, true, inV L i f, f.p, f.y, f.x⟩, 0)
def strip (P : Pt) (f : Fr) : Fr := if hasB P.tag f.v then f else ⟨f.d, f.s, false, 0, 0, f.y, f.x⟩
def outI (L : List Pt) (i : Int) (f : Fr) : Fr × Int :=
  if faultI L i f ≠ 0 then (.zero, faultI L i f)
  else if f.v = 0 then (.zero, 1)
  else if memB (ptAt L i) f.v = false then (.zero, 6)
  else if (strip (ptAt L i) f).ok = false then (.zero, 6)
  else (strip (ptAt L i) f, 0)

theorem hasB_iff (l : List Int) (v : Int) : hasB l v = true ↔ v ∈ l := by
  induction l with
  | nil => simp [hasB]
  | cons x t ih => simp only [hasB, Bool.or_eq_true, decide_eq_true_iff, ih, List.mem_cons]; constructor <;> (rintro (h | h) <;> first | exact .inl h.symm | exact .inr h)
theorem hasB_no (l : List Int) (v : Int) : hasB l v = false ↔ ∀ x ∈ l, x ≠ v := by
  rw [Bool.eq_false_iff, ne_eq, hasB_iff]
  exact ⟨fun h x hx e => h (e ▸ hx), fun h hv => h v hv rfl⟩
theorem hasB_snoc (l : List Int) (x v : Int) : hasB (l ++ [x]) v = (hasB l v || decide (x = v)) := by
  induction l with
  | nil => simp [hasB]
  | cons y t ih => simp only [List.cons_append, hasB, ih, Bool.or_assoc]
theorem anyB_iff (l m : List Int) : anyB l m = true ↔ ∃ x ∈ l, x ∈ m := by
  induction l with
  | nil => simp [anyB]
  | cons x t ih => simp [anyB, ih, hasB_iff]
theorem anyB_snoc (l m : List Int) (x : Int) : anyB (l ++ [x]) m = (anyB l m || hasB m x) := by
  induction l with
  | nil => simp [anyB]
  | cons y t ih => simp only [List.cons_append, anyB, ih, Bool.or_assoc]
theorem anyB_comm (l m : List Int) : anyB l m = anyB m l := by
  rw [Bool.eq_iff_iff, anyB_iff, anyB_iff]
  exact ⟨fun ⟨x, a, b⟩ => ⟨x, b, a⟩, fun ⟨x, a, b⟩ => ⟨x, b, a⟩⟩
/-- The last number, or the one ahead of all. -/
def lastGo : Int → List Int → Int
  | a, [] => a
  | _, x :: t => lastGo x t
theorem lastGo_snoc (l : List Int) : ∀ (a x : Int), lastGo a (l ++ [x]) = x := by
  induction l with
  | nil => intro a x; rfl
  | cons y t ih => intro a x; exact ih y x
theorem lastGo_ge (l : List Int) : ∀ a, risGo a l = true → a ≤ lastGo a l := by
  induction l with
  | nil => intro a _; exact Int.le_refl a
  | cons y t ih =>
    intro a h
    simp only [risGo, Bool.and_eq_true, decide_eq_true_iff] at h
    have := ih y h.2
    show a ≤ lastGo y t
    omega
theorem risGo_snoc (l : List Int) : ∀ (a x : Int), risGo a (l ++ [x]) = (risGo a l && decide (lastGo a l < x) && decide (x ≤ 4094)) := by
  induction l with
  | nil => intro a x; show (decide (a < x) && decide (x ≤ 4094) && true) = (true && decide (a < x) && decide (x ≤ 4094)); rw [Bool.and_true, Bool.true_and]
  | cons y t ih =>
    intro a x
    simp only [List.cons_append, risGo, ih, Bool.and_assoc]
    rfl
theorem risGo_false (l : List Int) : ∀ (a x : Int) (m : List Int), risGo a (l ++ [x]) = false → risGo a (l ++ x :: m) = false := by
  induction l with
  | nil =>
    intro a x m h
    simp only [List.nil_append, risGo, Bool.and_true] at h ⊢
    rw [h, Bool.false_and]
  | cons y t ih =>
    intro a x m h
    simp only [List.cons_append, risGo] at h ⊢
    rcases hb : (decide (a < y) && decide (y ≤ 4094)) with _ | _
    · simp
    · rw [hb, Bool.true_and] at h
      rw [Bool.true_and]
      exact ih y x m h
theorem risGo_range (l : List Int) : ∀ a, 0 ≤ a → risGo a l = true → ∀ x ∈ l, a < x ∧ x ≤ 4094 := by
  induction l with
  | nil => intro a _ _ x hx; simp at hx
  | cons y t ih =>
    intro a ha h x hx
    simp only [risGo, Bool.and_eq_true, decide_eq_true_iff] at h
    rcases List.mem_cons.1 hx with rfl | hx
    · exact h.1
    · have := ih y (by omega) h.2 x hx
      omega
theorem risB_range (l : List Int) (h : risB l = true) : ∀ x ∈ l, 1 ≤ x ∧ x ≤ 4094 := fun x hx => by
  have := risGo_range l 0 (by omega) h x hx
  omega
theorem risGo_sorted (l : List Int) : ∀ a, risGo a l = true → l.Pairwise (· < ·) ∧ ∀ x ∈ l, a < x := by
  induction l with
  | nil => intro a _; exact ⟨List.Pairwise.nil, fun x hx => by simp at hx⟩
  | cons y t ih =>
    intro a h
    simp only [risGo, Bool.and_eq_true, decide_eq_true_iff] at h
    obtain ⟨h1, h2⟩ := ih y h.2
    refine ⟨List.pairwise_cons.2 ⟨h2, h1⟩, fun x hx => ?_⟩
    rcases List.mem_cons.1 hx with rfl | hx
    · exact h.1.1
    · have := h2 x hx
      omega
theorem allB_snoc (L : List Pt) (p : Pt) : allB (L ++ [p]) = (allB L && ptB p) := by
  induction L with
  | nil => simp [allB]
  | cons y t ih => simp only [List.cons_append, allB, ih, Bool.and_assoc]
theorem allB_no (L : List Pt) (p : Pt) (M : List Pt) (h : ptB p = false) : allB (L ++ p :: M) = false := by
  induction L with
  | nil => simp [allB, h]
  | cons y t ih => simp only [List.cons_append, allB, ih, Bool.and_false]
theorem allB_at (L : List Pt) (h : allB L = true) : ∀ p ∈ L, ptB p = true := by
  induction L with
  | nil => intro p hp; simp at hp
  | cons y t ih =>
    intro p hp
    simp only [allB, Bool.and_eq_true] at h
    rcases List.mem_cons.1 hp with rfl | hp
    · exact h.1
    · exact ih h.2 p hp
theorem membGo_snoc (v : Int) (L : List Pt) (p : Pt) : ∀ k, membGo v k (L ++ [p]) = membGo v k L ++ (if memB p v then [((k + L.length : Nat) : Int)] else []) := by
  induction L with
  | nil => intro k; simp [membGo]
  | cons y t ih =>
    intro k
    simp only [List.cons_append, membGo, ih (k + 1), List.append_assoc, List.length_cons]
    rw [show k + 1 + t.length = k + (t.length + 1) from by omega]
theorem membGo_length (v : Int) (L : List Pt) : ∀ k, (membGo v k L).length ≤ L.length := by
  induction L with
  | nil => intro k; simp [membGo]
  | cons y t ih =>
    intro k
    have := ih (k + 1)
    simp only [membGo, List.length_append, List.length_cons]
    split <;> simp <;> omega
theorem membGo_mem (v : Int) (L : List Pt) : ∀ k (i : Int), hasB (membGo v k L) i = (decide ((k : Int) ≤ i) && decide (i < k + L.length) && memB (L.getD (i - k).toNat ⟨0, [], []⟩) v) := by
  induction L with
  | nil =>
    intro k i
    simp only [membGo, hasB, List.length_nil]
    rw [Bool.eq_iff_iff]
    simp
    omega
  | cons y t ih =>
    intro k i
    have hap : ∀ (l m : List Int) (u : Int), hasB (l ++ m) u = (hasB l u || hasB m u) := by
      intro l m u
      induction l with
      | nil => simp [hasB]
      | cons z r ih2 => simp only [List.cons_append, hasB, ih2, Bool.or_assoc]
    simp only [membGo, hap, ih (k + 1), List.length_cons]
    by_cases he : i = k
    · subst he
      have h1 : decide (((k + 1 : Nat) : Int) ≤ (k : Int)) = false := decide_eq_false (by omega)
      have h2 : decide ((k : Int) < (k : Int) + ((t.length + 1 : Nat) : Int)) = true := decide_eq_true (by omega)
      simp only [h1, h2, Bool.false_and, Bool.or_false, Int.sub_self, Int.toNat_zero, List.getD_cons_zero, Int.le_refl, decide_true, Bool.true_and]
      cases memB y v <;> simp [hasB]
    · have h0 : hasB (if memB y v then [(k : Int)] else []) i = false := by
        cases memB y v
        · rfl
        · simp only [if_true, hasB, Bool.or_false, decide_eq_false_iff_not]; omega
      rw [h0, Bool.false_or]
      by_cases hk : (k : Int) < i
      · have e : (i - (k : Int)).toNat = (i - ((k + 1 : Nat) : Int)).toNat + 1 := by omega
        rw [e, List.getD_cons_succ]
        congr 1
        rw [Bool.eq_iff_iff]
        simp only [Bool.and_eq_true, decide_eq_true_iff]
        omega
      · have h1 : decide (((k + 1 : Nat) : Int) ≤ i) = false := decide_eq_false (by omega)
        have h2 : decide ((k : Int) ≤ i) = false := decide_eq_false (by omega)
        rw [h1, h2]
        simp
theorem has_memb (L : List Pt) (v i : Int) : hasB (membI L v) i = (decide (0 ≤ i) && decide (i < L.length) && memB (ptAt L i) v) := by
  unfold membI ptAt
  rw [membGo_mem]
  simp

end Go.Proofs.Ytpaehbmhdjnofaa
