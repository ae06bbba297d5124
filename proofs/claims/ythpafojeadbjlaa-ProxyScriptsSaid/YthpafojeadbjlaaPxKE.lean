/-
  Places as keys of a map: what they read as.
  What a proxy remembers, plainly: rows by VLAN and group. It speaks of no function.
  A proxy in memory: its map. 'proxy.New', 'isAny', 'mayTell', 'copied', 'keep'. Contracts over the translated program.
  'Proxy.keep'. A contract over the translated program.
-/
import Derived.Test.YthpafojeadbjlaaProg
import Derived.Test.YthpafojeadbjlaaMV
import Derived.DeepKeys4
import Derived.ChangeKeysEq
import Derived.Laws.StructEq
import Derived.Test.YthpafojeadbjlaaPxAB
import Derived.Test.YthpafojeadbjlaaEthD
import Derived.Test.YthpafojeadbjlaaTwM
import Derived.Test.YthpafojeadbjlaaFlD
import Derived.Test.YthpafojeadbjlaaStrC
import Derived.Test.YthpafojeadbjlaaTst
import Derived.RegionTactic
import Derived.Deep.QuietTactic
import Derived.BigQuiet
import Derived.StillTailTactics
import Derived.Deep.RegionHeld3
import Derived.LoopTactic
import Derived.Test.YthpafojeadbjlaaPxN
namespace Go.Proofs.Ythpafojeadbjlaa
open Go Go.Maps Go.WideMaps Go.RowKit
set_option linter.unusedVariables false
set_option linter.unusedSimpArgs false

theorem laid_F : laidOutB Try.prog = true := by kernel_rfl
theorem und_ST : Try.prog.underlying 77 = some (.struct (Try.prog.fieldsOf 77)) := by kernel_rfl
theorem row_ST : (77 : TypeId) < Try.prog.types.size := of_decide_eq_true (by kernel_rfl)
theorem wide_ST : (match Try.prog.underlying 77 with | some (.array _ _) | some (.struct _) => true | _ => false) = true := by kernel_rfl
set_option maxRecDepth 100000 in
theorem law_ST : Keyed Try.prog 77 := Keyed.of_law (deep_law_laid laid_F (m := 2) (by omega) row_ST (by kernel_rfl) wide_ST)
theorem ktype_ST : Try.prog.keyType 77 = true := by kernel_rfl
theorem cells_ST : Try.prog.cellsOf 77 = 2 := by kernel_rfl
theorem cells_In : Try.prog.cellsOf 3 = 1 := by kernel_rfl
theorem cells_Mc : Try.prog.cellsOf 35 = 1 := by kernel_rfl
theorem und_In : Try.prog.underlying 3 = some (.int .i64) := by kernel_rfl
theorem und_Mc : Try.prog.underlying 35 = some .string := by kernel_rfl
theorem fields_ST : (Try.prog.fieldsOf 77).toList.map (fun f => (f.name != "_", f.type, f.offset)) = [(true, 3, 0), (true, 35, 1)] := by kernel_rfl
theorem fields2 : ∃ f0 f1 : Field, Try.prog.fieldsOf 77 = #[f0, f1] ∧ (f0.name != "_") = true ∧ f0.type = 3 ∧ f0.offset = 0 ∧ (f1.name != "_") = true ∧ f1.type = 35 ∧ f1.offset = 1 := by
  have h := fields_ST
  generalize Try.prog.fieldsOf 77 = fs at h ⊢
  obtain ⟨fs⟩ := fs
  rcases fs with _ | ⟨f0, _ | ⟨f1, _ | ⟨f2, r⟩⟩⟩
  · simp at h
  · simp at h
  · simp only [List.map_cons, List.map_nil, List.cons.injEq, Prod.mk.injEq, and_true] at h
    obtain ⟨⟨a0, b0, c0⟩, a1, b1, c1⟩ := h
    exact ⟨f0, f1, rfl, a0, b0, c0, a1, b1, c1⟩
  · simp at h

/-- A place as a value, and what it reads as. -/
def staV (v : Int) (m : ByteArray) : Value := .agg #[.int .i64 v, .string m]
def litE (v : Int) (m : ByteArray) : Lit := .string (keyBytes [.int .i64 v, .string m.data.toList])
/-- A number of 64 bits, a text that is not too long. -/
def WfK (v : Int) (m : ByteArray) : Prop := (Lit.int .i64 v).wf = true ∧ m.size ≤ maxLen

theorem lits_ST (v : Int) (m : ByteArray) (h : WfK v m) (d : Nat) : Try.prog.keyLits (d + 2) 77 [.int .i64 v, .string m] = some [.int .i64 v, .string m.data.toList] := by
  obtain ⟨f0, f1, hf, a0, b0, c0, a1, b1, c1⟩ := fields2
  have hu := und_ST
  rw [hf] at hu
  unfold Program.keyLits
  rw [hu]
  simp only
  rw [if_pos (by rw [cells_ST]; simp [a0, a1])]
  have k0 : Try.prog.keyLits (d + 1) f0.type (List.take (Try.prog.cellsOf f0.type) (List.drop f0.offset [.int .i64 v, .string m])) = some [.int .i64 v] := by
    rw [b0, c0, cells_In]
    unfold Program.keyLits
    rw [und_In]
    simp [h.1]
  have k1 : Try.prog.keyLits (d + 1) f1.type (List.take (Try.prog.cellsOf f1.type) (List.drop f1.offset [.int .i64 v, .string m])) = some [.string m.data.toList] := by
    rw [b1, c1, cells_Mc]
    unfold Program.keyLits
    rw [und_Mc]
    simp [h.2]
  simp [List.mapM_cons, k0, k1]

set_option maxRecDepth 100000 in
theorem keyE (v : Int) (m : ByteArray) (h : WfK v m) : keyOf Try.prog 77 (.agg #[.int .i64 v, .string m]) = some (litE v m) := by
  obtain ⟨d, hd⟩ : ∃ d, Try.prog.types.size = d + 1 := Nat.exists_eq_succ_of_ne_zero (fun e => absurd row_ST (by rw [e]; exact Nat.not_lt_zero _))
  have hl := lits_ST v m h d
  have hform : (Value.agg #[.int .i64 v, .string m]).formed Try.prog 77 = true := by
    have hu := und_ST
    simp [Value.formed, hu, cells_ST]
  unfold keyOf
  rw [und_ST]
  simp only
  rw [ktype_ST, hform, hd]
  have e : (Value.agg #[.int .i64 v, .string m]).cells.toList = [.int .i64 v, .string m] := rfl
  rw [e, hl]
  rfl

set_option maxRecDepth 100000 in
theorem keyE_inv (key : Value) (kl : Lit) (h : keyOf Try.prog 77 key = some kl) : ∃ v m, WfK v m ∧ key = .agg #[.int .i64 v, .string m] ∧ kl = litE v m := by
  obtain ⟨f0, f1, hf, a0, b0, c0, a1, b1, c1⟩ := fields2
  have hu := und_ST
  rw [hf] at hu
  obtain ⟨xs, L, rfl, h1, h2⟩ := keyOf_top wide_ST h
  have h1' := h1
  unfold Program.keyLits at h1'
  rw [hu] at h1'
  simp only at h1'
  split at h1'
  · next hc =>
    rw [cells_ST] at hc
    obtain ⟨l⟩ := xs
    have hl : l.length = 2 := hc.1
    rcases l with _ | ⟨x0, _ | ⟨x1, _ | ⟨x2, r⟩⟩⟩
    · simp at hl
    · simp at hl
    · simp only [List.mapM_cons, List.mapM_nil] at h1'
      rw [b0, b1, c0, c1, cells_In, cells_Mc] at h1'
      simp only [List.drop_zero, List.take_succ_cons, List.take_zero, List.drop_succ_cons] at h1'
      cases q0 : Try.prog.keyLits Try.prog.types.size 3 [x0] with
      | none => rw [q0] at h1'; simp at h1'
      | some l0 =>
        cases q1 : Try.prog.keyLits Try.prog.types.size 35 [x1] with
        | none => rw [q0, q1] at h1'; simp at h1'
        | some l1 =>
          obtain ⟨n, e0, e0'⟩ := keyLits_int' und_In q0
          obtain ⟨s, e1, e1'⟩ := keyLits_string' und_Mc q1
          simp only [List.cons.injEq, and_true] at e0 e1
          subst e0 e1
          obtain ⟨d, hd⟩ : ∃ d, Try.prog.types.size = d + 1 := Nat.exists_eq_succ_of_ne_zero (fun e => absurd row_ST (by rw [e]; exact Nat.not_lt_zero _))
          have w0 : (Lit.int .i64 n).wf = true := by
            rw [hd] at q0
            unfold Program.keyLits at q0
            rw [und_In] at q0
            simp only at q0
            split at q0
            · next hh => exact hh.2
            · cases q0
          have w1 : s.size ≤ maxLen := by
            rw [hd] at q1
            unfold Program.keyLits at q1
            rw [und_Mc] at q1
            simp only at q1
            split at q1
            · next hh => exact hh
            · cases q1
          have hk := keyE n s ⟨w0, w1⟩
          exact ⟨n, s, ⟨w0, w1⟩, rfl, Option.some.inj (h.symm.trans hk)⟩
    · simp at hl
  · cases h1'

set_option maxRecDepth 100000 in
theorem litE_inj {v v' : Int} {m m' : ByteArray} (h : WfK v m) (h' : WfK v' m') (e : litE v m = litE v' m') : v = v' ∧ m = m' := by
  have := law_ST.inj (keyE v m h) (e ▸ keyE v' m' h')
  simp at this
  exact this

/-- A row: a VLAN, a group, what is told of it, where its sources lie. -/
structure Pr where
  vl : Int
  gr : ByteArray
  f : Fl
  v : Value
def ltK (v1 : Int) (g1 : ByteArray) (v2 : Int) (g2 : ByteArray) : Bool := decide (v1 < v2) || (decide (v1 = v2) && sl g1 g2)
theorem ltK_irrefl (v : Int) (g : ByteArray) : ltK v g v g = false := by unfold ltK; rw [sl_irrefl]; simp
theorem ltK_iff (v1 : Int) (g1 : ByteArray) (v2 : Int) (g2 : ByteArray) : ltK v1 g1 v2 g2 = true ↔ v1 < v2 ∨ (v1 = v2 ∧ sl g1 g2 = true) := by unfold ltK; simp
theorem ltK_trans {v1 v2 v3 : Int} {g1 g2 g3 : ByteArray} (h : ltK v1 g1 v2 g2 = true) (k : ltK v2 g2 v3 g3 = true) : ltK v1 g1 v3 g3 = true := by
  rw [ltK_iff] at h k ⊢
  rcases h with h | ⟨h1, h2⟩ <;> rcases k with k | ⟨k1, k2⟩
  · exact Or.inl (by omega)
  · exact Or.inl (by omega)
  · exact Or.inl (by omega)
  · exact Or.inr ⟨by omega, sl_trans h2 k2⟩
theorem ltK_tri {v1 v2 : Int} {g1 g2 : ByteArray} (h : ltK v1 g1 v2 g2 = false) (k : ltK v2 g2 v1 g1 = false) : v1 = v2 ∧ g1 = g2 := by
  have h' : ¬ (v1 < v2 ∨ (v1 = v2 ∧ sl g1 g2 = true)) := fun e => by rw [(ltK_iff _ _ _ _).2 e] at h; cases h
  have k' : ¬ (v2 < v1 ∨ (v2 = v1 ∧ sl g2 g1 = true)) := fun e => by rw [(ltK_iff _ _ _ _).2 e] at k; cases k
  have e : v1 = v2 := by
    by_cases a : v1 < v2
    · exact absurd (Or.inl a) h'
    · by_cases b : v2 < v1
      · exact absurd (Or.inl b) k'
      · omega
  refine ⟨e, sl_tri ?_ ?_⟩
  · rcases hs : sl g1 g2 with _ | _
    · rfl
    · exact absurd (Or.inr ⟨e, hs⟩) h'
  · rcases hs : sl g2 g1 with _ | _
    · rfl
    · exact absurd (Or.inr ⟨e.symm, hs⟩) k'
theorem ltK_asym {v1 v2 : Int} {g1 g2 : ByteArray} (h : ltK v1 g1 v2 g2 = true) : ltK v2 g2 v1 g1 = false := by
  rcases k : ltK v2 g2 v1 g1 with _ | _
  · rfl
  · have := ltK_trans h k
    rw [ltK_irrefl] at this
    cases this
def sameK (x : Pr) (v : Int) (g : ByteArray) : Bool := decide (x.vl = v) && decide (x.gr = g)
theorem sameK_iff (x : Pr) (v : Int) (g : ByteArray) : sameK x v g = true ↔ x.vl = v ∧ x.gr = g := by unfold sameK; simp
/-- Rows rise. -/
def UpR (R : List Pr) : Prop := R.Pairwise (fun a b => ltK a.vl a.gr b.vl b.gr = true)
def hasR (R : List Pr) (v : Int) (g : ByteArray) : Bool := R.any (fun x => sameK x v g)
def getR (R : List Pr) (v : Int) (g : ByteArray) : Option Pr := R.find? (fun x => sameK x v g)
def oldR (R : List Pr) (v : Int) (g : ByteArray) : Fl := ((getR R v g).map (·.f)).getD noF
def delR (R : List Pr) (v : Int) (g : ByteArray) : List Pr := R.filter (fun x => !sameK x v g)
def loR (R : List Pr) (v : Int) (g : ByteArray) : List Pr := R.filter (fun x => ltK x.vl x.gr v g)
def hiR (R : List Pr) (v : Int) (g : ByteArray) : List Pr := R.filter (fun x => ltK v g x.vl x.gr)
def putR (R : List Pr) (x : Pr) : List Pr := loR R x.vl x.gr ++ x :: hiR R x.vl x.gr
theorem not_same {x : Pr} {v : Int} {g : ByteArray} : (!sameK x v g) = (ltK x.vl x.gr v g || ltK v g x.vl x.gr) := by
  rcases h : sameK x v g with _ | _
  · rcases h1 : ltK x.vl x.gr v g with _ | _
    · rcases h2 : ltK v g x.vl x.gr with _ | _
      · have := (sameK_iff x v g).2 (ltK_tri h1 h2)
        rw [h] at this
        cases this
      · rfl
    · rfl
  · obtain ⟨rfl, rfl⟩ := (sameK_iff _ _ _).1 h
    rw [ltK_irrefl]
    rfl
/-- All rows but one: those ahead of it, and those behind it. -/
theorem del_split : ∀ {R : List Pr}, UpR R → ∀ (v : Int) (g : ByteArray), delR R v g = loR R v g ++ hiR R v g
  | [], _, v, g => rfl
  | x :: r, h, v, g => by
    obtain ⟨h1, h2⟩ := List.pairwise_cons.1 h
    have ih := del_split (R := r) h2 v g
    unfold delR loR hiR at ih ⊢
    rw [List.filter_cons, List.filter_cons, List.filter_cons, not_same]
    rcases a : ltK x.vl x.gr v g with _ | _
    · have hlo : r.filter (fun y => ltK y.vl y.gr v g) = [] := by
        rw [List.filter_eq_nil_iff]
        intro y hy
        rcases b : ltK y.vl y.gr v g with _ | _
        · simp
        · have := ltK_trans (h1 y hy) b
          rw [a] at this
          cases this
      rcases c : ltK v g x.vl x.gr with _ | _
      · simp only [Bool.or_self, Bool.false_eq_true, if_false]
        exact ih
      · simp only [Bool.or_true, if_true, Bool.false_eq_true, if_false]
        rw [ih, hlo]
        rfl
    · rw [ltK_asym a]
      simp only [Bool.or_false, if_true, Bool.false_eq_true, if_false]
      rw [ih]
      rfl
theorem put_perm {R : List Pr} (h : UpR R) (x : Pr) : (putR R x).Perm (x :: delR R x.vl x.gr) := by
  rw [del_split h]
  unfold putR
  exact List.perm_middle
theorem UpR.sub {R S : List Pr} (h : UpR R) (k : S.Sublist R) : UpR S := List.Pairwise.sublist k h
theorem put_up {R : List Pr} (h : UpR R) (x : Pr) : UpR (putR R x) := by
  unfold putR UpR
  rw [List.pairwise_append]
  refine ⟨h.sub List.filter_sublist, List.pairwise_cons.2 ⟨fun y hy => (List.mem_filter.1 hy).2, h.sub List.filter_sublist⟩, fun a ha b hb => ?_⟩
  have h1 := (List.mem_filter.1 ha).2
  rcases List.mem_cons.1 hb with rfl | hb
  · exact h1
  · exact ltK_trans h1 (List.mem_filter.1 hb).2
theorem del_up {R : List Pr} (h : UpR R) (v : Int) (g : ByteArray) : UpR (delR R v g) := h.sub List.filter_sublist
theorem up_apart {R : List Pr} (h : UpR R) : R.Pairwise (fun a b => ¬ (a.vl = b.vl ∧ a.gr = b.gr)) := by
  refine List.Pairwise.imp ?_ h
  intro a b hab ⟨e1, e2⟩
  rw [e1, e2, ltK_irrefl] at hab
  cases hab
theorem put_len {R : List Pr} (h : UpR R) (x : Pr) : (putR R x).length = (delR R x.vl x.gr).length + 1 := by
  have := (put_perm h x).length_eq
  rw [this, List.length_cons]
theorem del_len (R : List Pr) (v : Int) (g : ByteArray) : (delR R v g).length ≤ R.length := List.length_filter_le _ _
theorem del_lt {R : List Pr} {v : Int} {g : ByteArray} (h : hasR R v g = true) : (delR R v g).length < R.length := by
  obtain ⟨x, hx, hs⟩ := List.any_eq_true.1 h
  unfold delR
  exact List.length_filter_lt_length_iff_exists.2 ⟨x, hx, by simp [hs]⟩
theorem del_no {R : List Pr} {v : Int} {g : ByteArray} (h : hasR R v g = false) : delR R v g = R := by
  unfold delR
  rw [List.filter_eq_self]
  intro x hx
  have := (List.any_eq_false.1 h) x hx
  simp at this
  simp [this]
theorem get_has {R : List Pr} {v : Int} {g : ByteArray} (h : hasR R v g = true) : ∃ x, getR R v g = some x ∧ x ∈ R ∧ x.vl = v ∧ x.gr = g := by
  rcases hf : getR R v g with _ | x
  · unfold getR at hf
    rw [List.find?_eq_none] at hf
    obtain ⟨x, hx, hs⟩ := List.any_eq_true.1 h
    exact absurd hs (hf x hx)
  · have h1 := List.mem_of_find?_eq_some hf
    have h2 := List.find?_some hf
    exact ⟨x, rfl, h1, (sameK_iff _ _ _).1 h2⟩
theorem get_none {R : List Pr} {v : Int} {g : ByteArray} (h : hasR R v g = false) : getR R v g = none := by
  unfold getR
  rw [List.find?_eq_none]
  intro x hx
  exact (List.any_eq_false.1 h) x hx
theorem old_no {R : List Pr} {v : Int} {g : ByteArray} (h : hasR R v g = false) : oldR R v g = noF := by unfold oldR; rw [get_none h]; rfl

/-- Does a filter admit anything? -/
def anyF (f : Fl) : Bool := f.ex || decide (0 < f.src.length)
theorem ris_nil {l : List ByteArray} : (ris l).length = 0 ↔ l.length = 0 := by
  constructor
  · intro h
    rcases l with _ | ⟨x, t⟩
    · rfl
    · have := (ris_mem (x :: t) x).2 (by simp)
      rw [List.eq_nil_of_length_eq_zero h] at this
      cases this
  · intro h
    have := ris_len l
    omega
theorem any_norm (f : Fl) : anyF (normF f) = anyF f := by
  unfold anyF normF
  have h := ris_nil (l := f.src)
  congr 1
  apply decide_eq_decide.2
  show 0 < (ris f.src).length ↔ _
  omega
/-- May something be told of a VLAN and a group? -/
def mayP (v : Int) (g : ByteArray) : Bool := decide ((grpSpec g).2 = 0) && (decide (1 ≤ v) && decide (v ≤ 4094))
/-- What Tell answers: records, an error; what is remembered then. -/
def tellR (room : Int) (R : List Pr) (v : Int) (g : ByteArray) (f : Fl) (u : Value) : List Rec × Int × List Pr :=
  if mayP v g = false then ([], 1, R)
  else if hasR R v g = false ∧ anyF f = true ∧ room ≤ R.length then ([], 5, R)
  else (diffF g (oldR R v g) f, 0, if anyF f then putR R ⟨v, g, normF f, u⟩ else delR R v g)
/-- Rows may be so. -/
structure GoodR (R : List Pr) (room : Int) : Prop where
  up : UpR R
  len : (R.length : Int) ≤ room
  ok : ∀ x ∈ R, x.gr.size ≤ 16 ∧ 1 ≤ x.vl ∧ x.vl ≤ 4094 ∧ Up x.f.src ∧ anyF x.f = true ∧ x.f.src.length ≤ 1000
theorem goodR_nil {room : Int} (h : 0 ≤ room) : GoodR [] room := ⟨List.Pairwise.nil, by simpa using h, fun x hx => by cases hx⟩
theorem grp_size {g : ByteArray} (h : (grpSpec g).2 = 0) : g.size ≤ 16 := by
  unfold grpSpec at h
  split at h
  · next h1 => omega
  · split at h
    · next h1 => omega
    · simp at h
theorem GoodR.del {R : List Pr} {room : Int} (h : GoodR R room) (v : Int) (g : ByteArray) : GoodR (delR R v g) room :=
  ⟨del_up h.up v g, by have := h.len; have := del_len R v g; omega, fun x hx => h.ok x (List.mem_filter.1 hx).1⟩
theorem GoodR.put {R : List Pr} {room : Int} (h : GoodR R room) {v : Int} {g : ByteArray} {f : Fl} (u : Value) (hm : mayP v g = true) (ha : anyF f = true) (hl : f.src.length ≤ 1000) (hr : hasR R v g = true ∨ (R.length : Int) < room) : GoodR (putR R ⟨v, g, normF f, u⟩) room := by
  have hl2 := put_len h.up ⟨v, g, normF f, u⟩
  simp only at hl2
  refine ⟨put_up h.up _, ?_, fun x hx => ?_⟩
  · rcases hr with hr | hr
    · have := del_lt hr
      have := h.len
      omega
    · have := del_len R v g
      omega
  · rcases List.mem_cons.1 ((put_perm h.up ⟨v, g, normF f, u⟩).mem_iff.1 hx) with rfl | hx
    · unfold mayP at hm
      simp only [Bool.and_eq_true, decide_eq_true_iff] at hm
      refine ⟨grp_size hm.1, hm.2.1, hm.2.2, ris_up _, ?_, Nat.le_trans (ris_len _) hl⟩
      have := any_norm f
      rw [ha] at this
      exact this
    · exact h.ok x (List.mem_filter.1 hx).1
theorem GoodR.sub {R S : List Pr} {room : Int} (h : GoodR R room) (k : S.Sublist R) : GoodR S room :=
  ⟨h.up.sub k, by have := h.len; have := k.length_le; omega, fun x hx => h.ok x (k.subset hx)⟩
/-- The rows of a VLAN, and the others. -/
def ofR (R : List Pr) (v : Int) : List Pr := R.filter (fun x => decide (x.vl = v))
def offR (R : List Pr) (v : Int) : List Pr := R.filter (fun x => !decide (x.vl = v))
/-- A row as a record. -/
def recR (x : Pr) : Rec := ⟨if x.f.ex then 2 else 1, x.gr, x.f.src⟩
theorem old_len {R : List Pr} {room : Int} (h : GoodR R room) (v : Int) (g : ByteArray) : (oldR R v g).src.length ≤ 1000 := by
  rcases hh : hasR R v g with _ | _
  · rw [old_no hh]; exact Nat.zero_le _
  · obtain ⟨x, hx, hm, -⟩ := get_has hh
    unfold oldR
    rw [hx]
    exact (h.ok x hm).2.2.2.2.2

theorem und_MP : Try.prog.underlying 72 = some (.map 77 28) := by kernel_rfl
abbrev noV : Value := .agg #[.bool false, .slice none 0 0]
theorem zero_MP (w : World) : (zeroValue 28).run Try.prog w = .ok (MV.tmV noV) w := by kernel_rfl
/-- A row as the map holds it. -/
def entP (x : Pr) : MV.T3 := (litE x.vl x.gr, .agg #[.bool x.f.ex, x.v])
def mP (R : List Pr) : List MV.T3 := R.map entP
theorem len_mP (R : List Pr) : (mP R).length = R.length := by unfold mP; rw [List.length_map]
/-- All keys are ones that a map may hold. -/
def WfR (R : List Pr) : Prop := ∀ x ∈ R, WfK x.vl x.gr
theorem wf_int {v : Int} (h1 : -9223372036854775808 ≤ v) (h2 : v ≤ 9223372036854775807) : (Lit.int .i64 v).wf = true := by
  simp [Lit.wf, IntKind.min, IntKind.max, IntKind.bits, IntKind.signed]
  omega
theorem wfk_of {v : Int} {g : ByteArray} (h1 : 1 ≤ v) (h2 : v ≤ 4094) (h3 : g.size ≤ 16) : WfK v g := ⟨wf_int (by omega) (by omega), by unfold maxLen; omega⟩
theorem GoodR.wf {R : List Pr} {room : Int} (h : GoodR R room) : WfR R := fun x hx => wfk_of (h.ok x hx).2.1 (h.ok x hx).2.2.1 (h.ok x hx).1
theorem same_litE {v v' : Int} {g g' : ByteArray} (h : WfK v g) (h' : WfK v' g') : (litE v g).sameKey (litE v' g') = (decide (v = v') && decide (g = g')) := by
  by_cases e : v = v' ∧ g = g'
  · obtain ⟨rfl, rfl⟩ := e
    rw [WideAt.sameKey_self (law_ST.key (keyE v g h))]
    simp
  · rw [Maps.sameKey_ne (fun k => e (litE_inj h h' k))]
    rcases Decidable.not_and_iff_or_not.1 e with e | e <;> simp [e]
theorem has_mP {R : List Pr} (hR : WfR R) {v : Int} {g : ByteArray} (h : WfK v g) : MV.hasT (mP R) (litE v g) = hasR R v g := by
  unfold MV.hasT mP hasR
  rw [List.any_map, Bool.eq_iff_iff, List.any_eq_true, List.any_eq_true]
  constructor
  · rintro ⟨x, hx, h1⟩
    exact ⟨x, hx, (same_litE (hR x hx) h).symm.trans h1⟩
  · rintro ⟨x, hx, h1⟩
    exact ⟨x, hx, (same_litE (hR x hx) h).trans h1⟩
theorem del_mP {R : List Pr} (hR : WfR R) {v : Int} {g : ByteArray} (h : WfK v g) : MV.delT (mP R) (litE v g) = mP (delR R v g) := by
  unfold MV.delT mP delR
  rw [List.filter_map]
  congr 1
  refine List.filter_congr fun x hx => ?_
  show (!(litE x.vl x.gr).sameKey (litE v g)) = _
  rw [same_litE (hR x hx) h]
  rfl
/-- What the map answers. -/
def getV (R : List Pr) (v : Int) (g : ByteArray) : Value := ((getR R v g).map fun x => Value.agg #[.bool x.f.ex, x.v]).getD noV
theorem get_mP : ∀ {R : List Pr}, WfR R → ∀ {v : Int} {g : ByteArray}, WfK v g → MV.getT noV (mP R) (litE v g) = getV R v g
  | [], _, v, g, _ => rfl
  | x :: r, hR, v, g, h => by
    have ih := get_mP (R := r) (fun y hy => hR y (by simp [hy])) (v := v) (g := g) h
    have e := same_litE (hR x (by simp)) h
    unfold MV.getT mP getV getR at ih ⊢
    rw [List.map_cons, List.find?_cons, List.find?_cons]
    have e1 : (entP x).1.sameKey (litE v g) = sameK x v g := e
    simp only [e1]
    rcases hs : sameK x v g with _ | _
    · exact ih
    · rfl

/-- A PROXY AT BLOCK p: its room, what it remembers (its map lies at block mb). -/
structure HasP (w : World) (p mb : Nat) (room : Int) (R : List Pr) : Prop where
  blk : w.heap[p]? = some (.cells #[.int .i64 room, .map (some mb)] 74 (0, 0))
  map : MV.Mp w Try.prog 77 mb (mP R)
  row : ∀ x ∈ R, AddrsAt w x.v x.f.src
variable {w w' : World} {p mb : Nat} {room : Int} {R : List Pr}
theorem HasP.c0 (h : HasP w p mb room R) : w.cell? ⟨p, 0, none⟩ = some (.int .i64 room) := cell_of_block h.blk rfl
theorem HasP.c1 (h : HasP w p mb room R) : w.cell? ⟨p, 1, none⟩ = some (.map (some mb)) := cell_of_block h.blk rfl
theorem HasP.lt (h : HasP w p mb room R) : p < w.heap.size := lt_of_block h.blk
theorem HasP.ne (h : HasP w p mb room R) : mb ≠ p := by
  obtain ⟨l, _, es, clock, h2, _⟩ := h.map
  rintro rfl
  rw [h.blk] at h2
  cases h2
theorem HasP.below (h : HasP w p mb room R) (k : Below w.heap.size w w') : HasP w' p mb room R :=
  ⟨below_block k (lt_of_block h.blk) h.blk, h.map.ofHeap (k.block mb h.map.lt), fun x hx => (h.row x hx).below k⟩
theorem HasP.noStr (h : HasP w p mb room R) : NoStr w mb := by
  obtain ⟨l, _, es, clock, h2, _⟩ := h.map
  exact NoStr.map h2
theorem HasP.noStrP (h : HasP w p mb room R) : NoStr w p := NoStr.of h.blk (by
  intro j s hj
  rcases j with _ | _ | j <;> simp at hj)
/-- Other blocks turn. -/
theorem HasP.tws {S : Nat → Prop} (h : HasP w p mb room R) (k : TwS S w w') (hS : ∀ b, S b → NoStr w b) (h1 : ¬ S p) (h2 : ¬ S mb) : HasP w' p mb room R :=
  ⟨k.blk h.blk h1, h.map.ofHeap (k.block mb h.map.lt h2), fun x hx => (h.row x hx).tws k hS⟩
theorem HasP.drew (h : HasP w p mb room R) : HasP w.drew p mb room R := ⟨h.blk, h.map.ofHeap rfl, h.row⟩
/-- The map turns. -/
theorem HasP.turn {R' : List Pr} (h : HasP w p mb room R) (hm : MV.Mp w' Try.prog 77 mb (mP R')) (ht : w.mapTurned w' mb) (hr : ∀ x ∈ R', AddrsAt w x.v x.f.src) : HasP w' p mb room R' := by
  have k : TwS (fun b => b = mb) w w' := TwS.turned ht rfl
  exact ⟨k.blk h.blk (fun e => h.ne e.symm), hm, fun x hx => (hr x hx).tws k (fun b hb => by subst hb; exact h.noStr)⟩
theorem HasP.perm {R' : List Pr} (h : HasP w p mb room R) (hp : R.Perm R') : HasP w p mb room R' :=
  ⟨h.blk, h.map.perm (hp.map _), fun x hx => h.row x (hp.mem_iff.2 hx)⟩

theorem pnew_no (r : Int) (hr : r < 1 ∨ 4096 < r) (w : World) :
    Calls Try.prog 18 #[.int .i64 r] w fun e w' => e = .returned (.tuple #[.pointer none, .int .i64 1]) ∧ w' = w := by
  by_cases h1 : r < 1
  · have k1 : decide (r < 1) = true := decide_eq_true h1
    clear hr h1
    go_enter Try.func18, Try.ntmps18
    go_wp2
    go_ret2
    exact ⟨rfl, rfl⟩
  · have k1 : decide (r < 1) = false := decide_eq_false h1
    have k2 : decide (4096 < r) = true := decide_eq_true (by omega)
    clear hr h1
    go_enter Try.func18, Try.ntmps18
    go_wp2
    go_ret2
    exact ⟨rfl, rfl⟩
theorem pnew_ok (r : Int) (h1 : 1 ≤ r) (h2 : r ≤ 4096) (w : World) :
    Calls Try.prog 18 #[.int .i64 r] w fun e w' => e = .returned (.tuple #[.pointer (some ⟨w.heap.size + 1, 0, none⟩), .int .i64 0]) ∧ HasP w' (w.heap.size + 1) w.heap.size r [] ∧ Below w.heap.size w w' := by
  have k1 : decide (r < 1) = false := decide_eq_false (by omega)
  have k2 : decide (4096 < r) = false := decide_eq_false (by omega)
  have hmm := @run_makeMap Try.prog
  have hH : HasP ((w.alloc (.map #[] 0)).alloc (.cells #[.int .i64 r, .map (some w.heap.size)] 74)) (w.heap.size + 1) w.heap.size r [] :=
    ⟨by simpa using heap_new (w.alloc (.map #[] 0)) (.cells #[.int .i64 r, .map (some w.heap.size)] 74), (MV.Mp.made w _ _).kept (World.grownBy_alloc _ _ none) (by simp), fun x hx => by cases hx⟩
  have hB := ((Below.refl w.heap.size w).alloc (Nat.le_refl _) (.map #[] 0)).alloc (by simp) (.cells #[.int .i64 r, .map (some w.heap.size)] 74)
  have HH := Lib.hid (And.intro hH hB)
  clear hH hB
  go_enter Try.func18, Try.ntmps18
  go_wp2
  go_ret2
  exact ⟨by simp, HH.out⟩

theorem pany_c (ex : Bool) (q : Option Addr) (n c : Nat) (hn : n ≤ 9223372036854775807) (w : World) :
    Calls Try.prog 36 #[.agg #[.bool ex, .slice q n c]] w fun e w' => e = .returned (.bool (ex || decide (0 < n))) ∧ w' = w.alloc (.cells #[.bool ex, .slice q n c] 28) := by
  cases ex
  · by_cases h : 0 < n
    · have d1 : decide (0 < n) = true := decide_eq_true h
      have d2 : decide ((0 : Int) < (n : Int)) = true := decide_eq_true (by omega)
      rw [d1]
      clear h
      go_enter Try.func36, Try.ntmps36
      go_wp2
      go_ret
      exact ⟨rfl, rfl⟩
    · obtain rfl : n = 0 := by omega
      go_enter Try.func36, Try.ntmps36
      go_wp2
      go_ret
      exact ⟨rfl, rfl⟩
  · go_enter Try.func36, Try.ntmps36
    go_wp2
    go_ret
    exact ⟨by simp, rfl⟩

theorem pmay_c (v : Int) (g : ByteArray) (w : World) :
    Calls Try.prog 35 #[.int .i64 v, .string g] w fun e w' => e = .returned (.bool (mayP v g)) ∧ Below w.heap.size w w' := by
  have G := Lib.hid (grp_c g w)
  unfold mayP
  generalize grpSpec g = s at G ⊢
  obtain ⟨m, er⟩ := s
  simp only at G ⊢
  by_cases h0 : er = 0
  · subst h0
    by_cases h1 : 1 ≤ v
    · have d1 : decide (1 ≤ v) = true := decide_eq_true h1
      by_cases h2 : v ≤ 4094
      · have d2 : decide (v ≤ 4094) = true := decide_eq_true h2
        clear h1 h2
        go_enter Try.func35, Try.ntmps35
        go_wp2_with fail
        ((with_reducible refine G.out.mono ?_); rintro e w1 ⟨rfl, k1⟩)
        go_wp2_with fail
        go_ret
        exact ⟨by simp [d1, d2], k1⟩
      · have d2 : decide (v ≤ 4094) = false := decide_eq_false h2
        clear h1 h2
        go_enter Try.func35, Try.ntmps35
        go_wp2_with fail
        ((with_reducible refine G.out.mono ?_); rintro e w1 ⟨rfl, k1⟩)
        go_wp2_with fail
        go_ret
        exact ⟨by simp [d1, d2], k1⟩
    · have d1 : decide (1 ≤ v) = false := decide_eq_false h1
      clear h1
      go_enter Try.func35, Try.ntmps35
      go_wp2_with fail
      ((with_reducible refine G.out.mono ?_); rintro e w1 ⟨rfl, k1⟩)
      go_wp2_with fail
      go_ret
      exact ⟨by simp [d1], k1⟩
  · obtain ⟨z1, z2⟩ := ne_t h0
    have z3 : decide (er = 0) = false := decide_eq_false h0
    clear h0
    go_enter Try.func35, Try.ntmps35
    go_wp2_with fail
    ((with_reducible refine G.out.mono ?_); rintro e w1 ⟨rfl, k1⟩)
    go_wp2_with fail
    go_ret
    exact ⟨by simp [z3], k1⟩

theorem pcop_c (s : ByteArray) (w : World) (hs : s.size ≤ 281474976710656) :
    Calls Try.prog 58 #[.string s] w fun e w' => e = .returned (.string s) ∧ Below w.heap.size w w' := by
  have C := Lib.hid (strc_c s w hs)
  go_enter Try.func58, Try.ntmps58
  go_wp2_with fail
  ((with_reducible refine C.out.mono ?_); rintro e w1 ⟨rfl, k1⟩)
  go_wp2_with fail
  go_ret
  exact ⟨rfl, k1⟩

/-- What is stored anew as it was turns nothing. -/
theorem set_same {b j : Nat} {u : Value} {xs : Array Value} {t : TypeId} {f : Nat × Nat} (h : w.heap[b]? = some (.cells xs t f)) (hj : xs[j]? = some u) : w.setCell ⟨b, j, none⟩ u = w := by
  have hlt := lt_of_block h
  have hb : w.heap[b] = .cells xs t f := by simpa [Array.getElem?_eq_getElem hlt] using h
  have e : w.heap.modify b (fun o => match o with
      | .cells c elem frozen => .cells (if (none : Option Nat).isSome then c else c.setIfInBounds j u) elem frozen
      | o => o) = w.heap := by
    apply Array.ext (by simp)
    intro i h1 h2
    rw [Array.getElem_modify]
    split
    · next hi =>
      subst hi
      rw [hb]
      simp only [Option.isSome_none, Bool.false_eq_true, if_false]
      congr 1
      apply Array.ext (by simp)
      intro k k1 k2
      rw [Array.getElem_setIfInBounds]
      split
      · next hk =>
        subst hk
        exact (by simpa [Array.getElem?_eq_getElem k2] using hj : xs[j] = u).symm
      · rfl
    · rfl
  exact congrArg (fun h => ({ w with heap := h } : World)) e

theorem PxSlot (l : List ByteArray) (g : Nat) (U : World) (v : Value) (h : AddrsG g true U v l) : ∃ q c, v = .slice q l.length c := h.slice

set_option maxHeartbeats 8000000 in
set_option maxRecDepth 100000 in
theorem pkeep_c (h : HasP w p mb room R) (hg : GoodR R room) (hr : room ≤ 4096) (v : Int) (g : ByteArray) (hm : mayP v g = true) (ex : Bool) (vs : Value) (l : List ByteArray) (hl : l.length ≤ 1000) (hz : ∀ s ∈ l, s.size ≤ 140737488351232) (ha : AddrsAt w vs l) :
    Calls Try.prog 37 #[.pointer (some ⟨p, 0, none⟩), .agg #[.int .i64 v, .string g], .agg #[.bool ex, vs]] w fun e w' => e = .returned (.tuple #[]) ∧ (∃ u, HasP w' p mb room (putR R ⟨v, g, normF ⟨ex, l⟩, u⟩)) ∧ TwS (fun b => b = mb) w w' := by
  have hmm := hm
  unfold mayP at hmm
  simp only [Bool.and_eq_true, decide_eq_true_iff] at hmm
  have hgs : g.size ≤ 16 := grp_size hmm.1
  have hk : WfK v g := wfk_of hmm.2.1 hmm.2.2 hgs
  have hkey := Lib.hid (keyE v g hk)
  have H := Lib.hid h
  have HG := Lib.hid hg
  have NC := Lib.hid (fun U (k : Below w.heap.size w U) => norm2_c ex vs l U (by omega) (ha.below k))
  have CP := Lib.hid (fun U => pcop_c g U (by omega))
  obtain ⟨q, n, c, rfl⟩ := addrs_slice ha
  have HSZ := Lib.hid (show ∀ s ∈ (normF ⟨ex, l⟩).src, s.size ≤ 140737488351232 from fun s hs => hz s ((ris_mem l s).1 hs))
  have HLN := Lib.hid (show (normF ⟨ex, l⟩).src.length ≤ 1000 from Nat.le_trans (ris_len l) hl)
  have EX : (normF ⟨ex, l⟩).ex = ex := rfl
  generalize normF ⟨ex, l⟩ = F at NC HSZ HLN EX ⊢
  obtain ⟨fe, fl⟩ := F
  simp only at EX HSZ HLN
  subst EX
  unfold FPost2 at NC
  simp only at NC
  have HQ := Lib.hid (show ∀ U qv u, HasP U p mb room R → AddrsAt U u fl → MV.Mp qv Try.prog 77 mb (MV.putT (mP R) (litE v g) (.agg #[.bool fe, u])) → U.mapTurned qv mb → HasP qv p mb room (putR R ⟨v, g, ⟨fe, fl⟩, u⟩) from fun U qv u h1 h2 h3 h4 => by
    have hp := put_perm HG.out.up (⟨v, g, ⟨fe, fl⟩, u⟩ : Pr)
    have e : MV.putT (mP R) (litE v g) (.agg #[.bool fe, u]) = mP (delR R v g ++ [(⟨v, g, ⟨fe, fl⟩, u⟩ : Pr)]) := by
      unfold MV.putT
      rw [del_mP HG.out.wf hk]
      unfold mP
      rw [List.map_append]
      rfl
    rw [e] at h3
    have hp2 : (delR R v g ++ [(⟨v, g, ⟨fe, fl⟩, u⟩ : Pr)]).Perm (putR R ⟨v, g, ⟨fe, fl⟩, u⟩) := (List.perm_append_singleton _ _).trans hp.symm
    exact HasP.turn h1 (h3.perm (hp2.map _)) h4 (fun x hx => by
      rcases List.mem_append.1 (hp2.mem_iff.2 hx) with hx | hx
      · exact h1.row x (List.mem_filter.1 hx).1
      · simp at hx; subst hx; exact h2))
  have K0 := Lib.hid (show Below w.heap.size w ((w.alloc (.cells #[.int .i64 v, .string g] 77)).alloc (.cells #[.bool fe, .slice q n c] 28)) from ((Below.refl _ w).alloc (Nat.le_refl _) _).alloc (by simp) _)
  have PB := Lib.hid (heap_old (p := .cells #[.bool fe, .slice q n c] 28) (heap_new w (.cells #[.int .i64 v, .string g] 77)))
  have FB := Lib.hid (show ((w.alloc (.cells #[.int .i64 v, .string g] 77)).alloc (.cells #[.bool fe, .slice q n c] 28)).heap[w.heap.size + 1]? = some (.cells #[.bool fe, .slice q n c] 28 (0, 0)) from by simpa using heap_new (w.alloc (.cells #[.int .i64 v, .string g] 77)) (.cells #[.bool fe, .slice q n c] 28))
  have hmx := Lib.hid (show (mP R).length < maxLen by rw [len_mP]; have := hg.len; unfold maxLen; omega)
  clear h hg hm hmm hk hz ha hl hr hgs
  go_enter Try.func37, Try.ntmps37
  go_upto_region 1 with fail
  generalize (w.alloc (.cells #[.int .i64 v, .string g] 77)).alloc (.cells #[.bool fe, .slice q n c] 28) = W at K0 PB FB ⊢
  have y0 := cell_of_block (j := 0) FB.out rfl
  have y1 := cell_of_block (j := 1) FB.out rfl
  go_wp2_with fail
  ((with_reducible refine (NC.out _ K0.out).mono ?_); rintro e w1 ⟨u, rfl, a1, k1, f1⟩)
  obtain ⟨p1, c1, rfl⟩ := a1.slice
  have AU := Lib.hid a1
  have FU := Lib.hid f1
  have PB1 := Lib.hid (below_block k1 (lt_of_block PB.out) PB.out)
  have FB1 := Lib.hid (below_block k1 (lt_of_block FB.out) FB.out)
  have K1 := Lib.hid (K0.out.trans (k1.mono K0.out.size))
  have hW := Lib.hid (show w.heap.size + 1 < W.heap.size from lt_of_block FB.out)
  clear a1 k1 f1 y0 y1 PB FB K0 NC
  have y0 := cell_of_block (j := 0) FB1.out rfl
  have y1 := cell_of_block (j := 1) FB1.out rfl
  have fr := (fun j : Nat => free_of_block (j := j) FB1.out)
  go_upto_region 2 with fail
  have FU2 := Lib.hid (show FreeR ((w1.setCell ⟨w.heap.size + 1, 0, none⟩ (.bool fe)).setCell ⟨w.heap.size + 1, 1, none⟩ (.slice p1 fl.length c1)) (.slice p1 fl.length c1) fl from fun hne => by
    obtain ⟨b, o, c', cs, hv, hb⟩ := FU.out hne
    obtain ⟨q9, cap9, b9, o9, hv9, hp9, -⟩ := AU.out
    obtain ⟨e1, e2, -⟩ := hp9 hne
    simp only [Value.slice.injEq] at hv9 hv
    rw [← hv9.1, hv.1] at e1
    simp only [Option.some.injEq, Addr.mk.injEq, and_true] at e1
    have := hW.out
    exact ⟨b, o, c', cs, by rw [hv.1, hv.2.2], heap_store_other (heap_store_other hb (by omega)) (by omega)⟩)
  have AU2 := Lib.hid ((AU.out.store (c := w.heap.size + 1) (j := 0) (u := .bool fe) hW.out).store (c := w.heap.size + 1) (j := 1) (u := .slice p1 fl.length c1) hW.out)
  have PB2 := Lib.hid (heap_store_other (c := w.heap.size + 1) (j := 1) (v := .slice p1 fl.length c1) (heap_store_other (c := w.heap.size + 1) (j := 0) (v := .bool fe) PB1.out (by omega)) (by omega))
  have FB2 := Lib.hid (heap_store (j := 1) (v := .slice p1 fl.length c1) (heap_store (j := 0) (v := .bool fe) FB1.out))
  have K2 := Lib.hid ((K1.out.setCell (p := ⟨w.heap.size + 1, 0, none⟩) (by show _ ≤ w.heap.size + 1; omega) (.bool fe)).setCell (p := ⟨w.heap.size + 1, 1, none⟩) (by show _ ≤ w.heap.size + 1; omega) (.slice p1 fl.length c1))
  clear y0 y1 fr AU FU PB1 FB1 K1
  generalize (w1.setCell ⟨w.heap.size + 1, 0, none⟩ (.bool fe)).setCell ⟨w.heap.size + 1, 1, none⟩ (.slice p1 fl.length c1) = w2 at AU2 FU2 PB2 FB2 K2 ⊢
  have y1 : w2.cell? ⟨w.heap.size + 1, 1, none⟩ = some (.slice p1 fl.length c1) := cell_of_block FB2.out rfl
  obtain ⟨m, hm⟩ : ∃ m, m = fl.length := ⟨_, rfl⟩
  have HM := Lib.hid hm
  rw [← hm] at AU2 FU2 FB2 y1 HLN ⊢
  clear hm
  go_wp2_with fail
  go_loopw [6, 7, 13] (fun _ _ i wr => ∃ k : Nat, k ≤ m ∧ i = .int .i64 k ∧ Hid (Below w2.heap.size w2 wr)) (fun _ _ i _ => m - (intOf i).toNat)
  case atStart => exact ⟨0, Nat.zero_le _, rfl, Lib.hid (Below.refl _ _)⟩
  case round =>
    clear y1
    obtain ⟨k, hk, rfl, KB⟩ := hrel
    have hmb : m ≤ 1000 := HLN.out
    have FBr := Lib.hid (below_block KB.out (lt_of_block FB2.out) FB2.out)
    by_cases hlt : k < m
    · obtain ⟨x, hx⟩ : ∃ x, fl[k]? = some x := ⟨_, List.getElem?_eq_getElem (by rw [← HM.out]; exact hlt)⟩
      have hne : fl ≠ [] := by rintro rfl; simp at hx
      obtain ⟨b, o, c', cs, hv, hb⟩ := FU2.out hne
      simp only [Value.slice.injEq] at hv
      obtain ⟨rfl, -, -⟩ := hv
      obtain ⟨q9, cap9, b9, o9, hv9, hp9, hc9⟩ := AU2.out
      obtain ⟨e1, -, -⟩ := hp9 hne
      simp only [Value.slice.injEq] at hv9
      rw [← hv9.1] at e1
      simp only [Option.some.injEq, Addr.mk.injEq, and_true] at e1
      obtain ⟨rfl, rfl⟩ := e1
      have hcx := hc9 k x hx
      have hbr := below_block KB.out (lt_of_block hb) hb
      have hcs : cs[o + k]? = some (.string x) := by
        have h9 := hcx
        simp only [World.cell?, hb] at h9
        simpa using h9
      have BR := Lib.hid hbr
      have CS := Lib.hid hcs
      have x0 : wr.cell? ⟨b, o + k, none⟩ = some (.string x) := cell_of_block hbr hcs
      have CX := Lib.hid (fun U => pcop_c x U (by have := HSZ.out x (List.mem_of_getElem? hx); omega))
      have d1 : decide (k < m) = true := decide_eq_true hlt
      have d2 : decide ((k : Int) < (m : Int)) = true := decide_eq_true (by omega)
      have d4 : decide (0 ≤ (k : Int)) = true := decide_eq_true (by omega)
      clear hx hne hb hv9 hp9 hc9 hcx hbr hcs
      go_upto_region 5 with fail
      clear x0
      have y1 : wr.drew.cell? ⟨w.heap.size + 1, 1, none⟩ = some (.slice (some ⟨b, o, none⟩) m c1) := cell_of_block FBr.out rfl
      have FB0 : wr.drew.heap[w.heap.size + 1]? = some (.cells #[.bool fe, .slice (some ⟨b, o, none⟩) m c1] 28 (0, 0)) := FBr.out
      have BR0 : wr.drew.heap[b]? = some (.cells cs 35 (0, 0)) := BR.out
      go_region_held3 (fun U => U.cell? ⟨w.heap.size + 1, 1, none⟩ = some (.slice (some ⟨b, o, none⟩) m c1))
        (first | with_reducible exact y1 | with_reducible exact y2 | exact (e9.symm ▸ y2))
        ((go_at_call 58; (with_reducible refine (CX.out _).mono ?_); rintro e wc ⟨rfl, kc⟩; have FB3 := below_block kc (lt_of_block FB0) FB0; have BR3 := below_block kc (lt_of_block BR0) BR0; have y2 : wc.cell? ⟨w.heap.size + 1, 1, none⟩ = some (.slice (some ⟨b, o, none⟩) m c1) := cell_of_block FB3 rfl; have z0 : wc.cell? ⟨b, o + k, none⟩ = some (.string x) := cell_of_block BR3 CS.out; have fz : wc.frozen? ⟨b, o + k, none⟩ = false := free_of_block BR3; have e9 : wc.setCell ⟨b, o + k, none⟩ (.string x) = wc := set_same BR3 CS.out))
      all_goals
        have KB3 := Lib.hid (KB.out.trans ((show Below wr.heap.size wr wc from (show Below wr.heap.size wr wr.drew from (Below.refl _ _).drew).trans kc).mono KB.out.size))
        clear y1 FB0 BR0 kc FB3 BR3 y2 z0 fz e9
        go_wp2_with fail
        go_roundw
        case rel => exact ⟨k + 1, by omega, by go_num, KB3⟩
        case measure => simp [intOf]; omega
    · obtain rfl : k = m := by omega
      have HR := Lib.hid ((H.out.below K2.out).below KB.out)
      have PBr := Lib.hid (below_block KB.out (lt_of_block PB2.out) PB2.out)
      have AUr := Lib.hid (AU2.out.below KB.out).at
      have KW := Lib.hid (K2.out.trans (KB.out.mono K2.out.size))
      have d1 : decide (k < k) = false := by simp
      have d2 : decide ((k : Int) < (k : Int)) = false := by simp
      have g1 : wr.cell? ⟨w.heap.size, 1, none⟩ = some (.string g) := cell_of_block PBr.out rfl
      clear hlt PB2 FB2 K2 AU2 FU2 KB
      go_wp2_with fail
      ((with_reducible refine (CP.out _).mono ?_); rintro e w3 ⟨rfl, k3⟩)
      have HR3 := Lib.hid (HR.out.below k3)
      have PB3 := Lib.hid (below_block k3 (lt_of_block PBr.out) PBr.out)
      have FB3 := Lib.hid (below_block k3 (lt_of_block FBr.out) FBr.out)
      have AU3 := Lib.hid (AUr.out.below k3)
      have KW3 := Lib.hid (KW.out.trans (k3.mono KW.out.size))
      clear g1 k3 HR PBr FBr AUr KW
      have g1 : w3.cell? ⟨w.heap.size, 1, none⟩ = some (.string g) := cell_of_block PB3.out rfl
      have gf : w3.frozen? ⟨w.heap.size, 1, none⟩ = false := free_of_block PB3.out
      have e9 : w3.setCell ⟨w.heap.size, 1, none⟩ (.string g) = w3 := set_same PB3.out rfl
      go_upto_region 8 with fail
      have g0 : w3.cell? ⟨w.heap.size, 0, none⟩ = some (.int .i64 v) := cell_of_block PB3.out rfl
      have f0 : w3.cell? ⟨w.heap.size + 1, 0, none⟩ = some (.bool fe) := cell_of_block FB3.out rfl
      have f1 : w3.cell? ⟨w.heap.size + 1, 1, none⟩ = some (.slice p1 k c1) := cell_of_block FB3.out rfl
      have c1' := HR3.out.c1
      go_still_tail 6, (by kernel_rfl)
      change wpList _ _ _ _ _ w3.drew
      have hmp := Lib.hid (show MV.Mp w3.drew Try.prog 77 mb (mP R) from HR3.out.drew.map)
      clear g0 g1 gf e9 f0 f1 c1'
      go_wp2_with (first | (at_mapUpdate; refine MV.wpList_store_mp _ rfl _ _ _ 72 rfl 77 28 law_ST und_MP mb (mP R) rfl hmp.out hmx.out _ _ _ rfl rfl hkey.out ?_; intro w7 hm7 ht7) | go_in)
      have HF := Lib.hid (HQ.out w3.drew w7 (.slice p1 k c1) HR3.out.drew (show AddrsAt w3.drew (.slice p1 k c1) fl from AU3.out) hm7 ht7)
      have TF := Lib.hid ((TwS.ofBelow (S := fun b => b = mb) KW3.out.drew).trans (TwS.turned (S := fun b => b = mb) ht7 rfl) (fun b _ h => h))
      clear hm7 ht7
      go_wp2_with fail
      exact bodyPost_end (v := .tuple #[]) (by simp [results, Try.results37, go_sem]) rfl ⟨rfl, ⟨_, HF.out⟩, TF.out⟩

end Go.Proofs.Ythpafojeadbjlaa
