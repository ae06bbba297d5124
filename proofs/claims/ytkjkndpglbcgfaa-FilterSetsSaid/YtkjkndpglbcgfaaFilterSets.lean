/-
  'siphonlaw11.FilterSets' returns true, whatever the input, and each argument reads behind the call as it read before. Conditions: none beyond those that the row itself states.
-/
import Derived.Test.YtkjkndpglbcgfaaRows
import Derived.Test.YtkjkndpglbcgfaaFlI
import Derived.Test.YtkjkndpglbcgfaaFlE
import Derived.Test.YtkjkndpglbcgfaaTrod
import Derived.WalkKit
import Derived.ProofKit
import Derived.OpenShut
import Derived.ShutString
import Derived.ChangeOld
import Derived.Below
import Derived.Carry
import Derived.SizedLaws
import Derived.Lib.SmallJoins
import Derived.ChangeArms
import Derived.WideShapes
namespace Go.Proofs.Ytkjkndpglbcgfaa.filterSetsLaw
open Go.ChangeShapes Go.WideShapes Go.ChangeAt Go.RowKit Go.Joins
open Go.ChangeMaps (open_string shut_string)
set_option linter.unusedVariables false
set_option linter.unusedSimpArgs false

theorem list2 {α : Type} (l : List α) (h : l.length = 2) : ∃ x0 x1 : α, l = [x0, x1] := by
  match l, h with
  | [x0, x1], _ => exact ⟨x0, x1, rfl⟩

theorem join_len (h : Bool → Bool → Bool) (f g : Fl) : (joinF h f g).src.length ≤ f.src.length + g.src.length := by
  have h1 := List.length_filter_le (fun s => h (admB f s) (admB g s) != h f.ex g.ex) (ris (f.src ++ g.src))
  have h2 := ris_len (f.src ++ g.src)
  rw [List.length_append] at h2
  show ((ris (f.src ++ g.src)).filter _).length ≤ _
  omega
theorem or_adm (f g : Fl) (s : ByteArray) : admB (orF f g) s = (admB f s || admB g s) := adm_join (· || ·) f g s
theorem and_adm (f g : Fl) (s : ByteArray) : admB (andF f g) s = (admB f s && admB g s) := adm_join (· && ·) f g s
theorem or_up (f g : Fl) : Up (orF f g).src := up_join _ f g
theorem and_up (f g : Fl) : Up (andF f g).src := up_join _ f g
theorem or_ex (f g : Fl) : (orF f g).ex = (f.ex || g.ex) := rfl
theorem and_ex (f g : Fl) : (andF f g).ex = (f.ex && g.ex) := rfl
theorem not_ex (f : Fl) : (notF f).ex = !f.ex := rfl
theorem norm_ex (f : Fl) : (normF f).ex = f.ex := rfl
theorem s_or (f g : Fl) : orF g f = orF f g := fl_ext _ _ (or_up _ _) (or_up _ _) (by simp only [or_ex]; exact Bool.or_comm _ _) fun s => by simp only [or_adm]; exact Bool.or_comm _ _
theorem s_and (f g : Fl) : andF g f = andF f g := fl_ext _ _ (and_up _ _) (and_up _ _) (by simp only [and_ex]; exact Bool.and_comm _ _) fun s => by simp only [and_adm]; exact Bool.and_comm _ _
theorem s_or3 (f g h : Fl) : orF f (orF g h) = orF (orF f g) h := fl_ext _ _ (or_up _ _) (or_up _ _) (by simp only [or_ex, Bool.or_assoc]) fun s => by simp only [or_adm, Bool.or_assoc]
theorem s_not2 (f : Fl) : notF (notF f) = normF f := fl_ext _ _ (up_not _) (up_norm _) (by simp only [not_ex, norm_ex, Bool.not_not]) fun s => by rw [adm_not, adm_not, adm_norm, Bool.not_not]
theorem s_dist (f g h : Fl) : orF (andF f g) (andF f h) = andF f (orF g h) := fl_ext _ _ (or_up _ _) (and_up _ _) (by simp only [or_ex, and_ex, Bool.and_or_distrib_left]) fun s => by simp only [or_adm, and_adm, Bool.and_or_distrib_left]
theorem s_morgan (f g : Fl) : andF (notF f) (notF g) = notF (orF f g) := fl_ext _ _ (and_up _ _) (up_not _) (by simp only [or_ex, and_ex, not_ex, Bool.not_or]) fun s => by simp only [and_adm, adm_not, or_adm, Bool.not_or]

/-- Three boxes behind w0's end. -/
def K3 (w0 w : World) (xf xg xh : Array Value) : Prop := w.heap[w0.heap.size]? = some (.cells xf 24 (0, 0)) ∧ w.heap[w0.heap.size + 1]? = some (.cells xg 24 (0, 0)) ∧ w.heap[w0.heap.size + 1 + 1]? = some (.cells xh 24 (0, 0)) ∧ Below w0.heap.size w0 w
theorem K3.start (w0 : World) (xf xg xh : Array Value) : K3 w0 (((w0.alloc (.cells xf 24)).alloc (.cells xg 24)).alloc (.cells xh 24)) xf xg xh :=
  ⟨heap_old (heap_old (heap_new _ _)), heap_old (hn _ _ (by simp) _), hn _ _ (by simp) _, (((Below.refl _ w0).alloc (Nat.le_refl _) _).alloc (by simp) _).alloc (by simp; omega) _⟩
theorem K3.below {w0 w w' : World} {xf xg xh : Array Value} (h : K3 w0 w xf xg xh) (k : Below w.heap.size w w') : K3 w0 w' xf xg xh := ⟨below_block k (lt_of_block h.1) h.1, below_block k (lt_of_block h.2.1) h.2.1, below_block k (lt_of_block h.2.2.1) h.2.2.1, h.2.2.2.trans (k.mono h.2.2.2.size)⟩
theorem K3.drew {w0 w : World} {xf xg xh : Array Value} (h : K3 w0 w xf xg xh) : K3 w0 w.drew xf xg xh := ⟨h.1, h.2.1, h.2.2.1, h.2.2.2.drew⟩
theorem K3.bel {w0 w : World} {xf xg xh : Array Value} (h : K3 w0 w xf xg xh) : Below w0.heap.size w0 w := h.2.2.2

set_option maxHeartbeats 16000000 in
set_option maxRecDepth 100000 in
theorem walk (a0_0 : Bool) (a0_1 : Value) (la0_1 : List ByteArray) (a1_0 : Bool) (a1_1 : Value) (la1_1 : List ByteArray) (a2_0 : Bool) (a2_1 : Value) (la2_1 : List ByteArray) (w : World) (ha0_1 : AddrsAt w a0_1 la0_1) (qa0_1 : la0_1.length ≤ maxLen) (ha1_1 : AddrsAt w a1_1 la1_1) (qa1_1 : la1_1.length ≤ maxLen) (ha2_1 : AddrsAt w a2_1 la2_1) (qa2_1 : la2_1.length ≤ maxLen) :
    Calls Try.prog 6 #[.agg #[.bool a0_0, a0_1], .agg #[.bool a1_0, a1_1], .agg #[.bool a2_0, a2_1]] w fun e w' => e = .returned (.bool true) ∧ Below w.heap.size w w' := by
  unfold maxLen at qa0_1 qa1_1 qa2_1
  obtain ⟨p0, c0, rfl⟩ := ha0_1.slice
  obtain ⟨p1, c1, rfl⟩ := ha1_1.slice
  obtain ⟨p2, c2, rfl⟩ := ha2_1.slice
  have HL := Lib.hid fun U => live11_c U
  have HF := Lib.hid fun U => fewf_c a0_0 a1_0 p0 la0_1.length c0 p1 la1_1.length c1 U
  have B := Lib.hid (K3.start w #[.bool a0_0, .slice p0 la0_1.length c0] #[.bool a1_0, .slice p1 la1_1.length c1] #[.bool a2_0, .slice p2 la2_1.length c2])
  by_cases hfw : la0_1.length ≤ 100 ∧ la1_1.length ≤ 100 ∧ la2_1.length ≤ 60
  · obtain ⟨l0, l1, l2⟩ := hfw
    rw [decide_eq_true l0, decide_eq_true l1] at HF
    have d60 : decide ((60 : Int) < (la2_1.length : Int)) = false := decide_eq_false (by omega)
    have d60n : decide (60 < la2_1.length) = false := decide_eq_false (by omega)
    have i1 := join_len (· || ·) ⟨a0_0, la0_1⟩ ⟨a1_0, la1_1⟩
    have i2 := join_len (· && ·) ⟨a0_0, la0_1⟩ ⟨a1_0, la1_1⟩
    have i3 := join_len (· || ·) ⟨a1_0, la1_1⟩ ⟨a2_0, la2_1⟩
    have i4 := join_len (· || ·) (orF ⟨a0_0, la0_1⟩ ⟨a1_0, la1_1⟩) ⟨a2_0, la2_1⟩
    have i5 := join_len (· && ·) ⟨a0_0, la0_1⟩ ⟨a2_0, la2_1⟩
    have i6 := join_len (· && ·) ⟨a0_0, la0_1⟩ (orF ⟨a1_0, la1_1⟩ ⟨a2_0, la2_1⟩)
    have i7 := ris_len la0_1
    have i8 := ris_len la1_1
    have i9 := ris_len (orF ⟨a0_0, la0_1⟩ ⟨a1_0, la1_1⟩).src
    simp only at i1 i2 i3 i5 i6
    have LO1b : (orF ⟨a0_0, la0_1⟩ ⟨a1_0, la1_1⟩).src.length ≤ 200 := Nat.le_trans (join_len (· || ·) ⟨a0_0, la0_1⟩ ⟨a1_0, la1_1⟩) (by show la0_1.length + la1_1.length ≤ 200; omega)
    have LO1 : (orF ⟨a0_0, la0_1⟩ ⟨a1_0, la1_1⟩).src.length ≤ 1000 := by
      show _ ≤ 1000
      first | (have h := i1; have h1 := i1; have h3 := i3; show (joinF _ _ _).src.length ≤ 1000; unfold orF at *; omega) | (show (ris _).length ≤ 1000; unfold orF at *; omega)
    have LA1 : (andF ⟨a0_0, la0_1⟩ ⟨a1_0, la1_1⟩).src.length ≤ 1000 := by
      show _ ≤ 1000
      first | (have h := i2; have h1 := i1; have h3 := i3; show (joinF _ _ _).src.length ≤ 1000; unfold orF at *; omega) | (show (ris _).length ≤ 1000; unfold orF at *; omega)
    have LO3 : (orF ⟨a1_0, la1_1⟩ ⟨a2_0, la2_1⟩).src.length ≤ 1000 := by
      show _ ≤ 1000
      first | (have h := i3; have h1 := i1; have h3 := i3; show (joinF _ _ _).src.length ≤ 1000; unfold orF at *; omega) | (show (ris _).length ≤ 1000; unfold orF at *; omega)
    have LO2 : (orF (orF ⟨a0_0, la0_1⟩ ⟨a1_0, la1_1⟩) ⟨a2_0, la2_1⟩).src.length ≤ 1000 := Nat.le_trans (join_len (· || ·) (orF ⟨a0_0, la0_1⟩ ⟨a1_0, la1_1⟩) ⟨a2_0, la2_1⟩) (Nat.le_trans (Nat.add_le_add LO1b (l2 : (⟨a2_0, la2_1⟩ : Fl).src.length ≤ 60)) (by decide))
    have LN1 : (notF ⟨a0_0, la0_1⟩).src.length ≤ 1000 := Nat.le_trans (ris_len la0_1) (by omega)
    have LN2 : (notF ⟨a1_0, la1_1⟩).src.length ≤ 1000 := Nat.le_trans (ris_len la1_1) (by omega)
    have LM1 : (normF ⟨a0_0, la0_1⟩).src.length ≤ 1000 := Nat.le_trans (ris_len la0_1) (by omega)
    have LA2 : (andF ⟨a0_0, la0_1⟩ ⟨a2_0, la2_1⟩).src.length ≤ 1000 := by
      show _ ≤ 1000
      first | (have h := i5; have h1 := i1; have h3 := i3; show (joinF _ _ _).src.length ≤ 1000; unfold orF at *; omega) | (show (ris _).length ≤ 1000; unfold orF at *; omega)
    have LP1 : (andF ⟨a0_0, la0_1⟩ (orF ⟨a1_0, la1_1⟩ ⟨a2_0, la2_1⟩)).src.length ≤ 1000 := by
      show _ ≤ 1000
      first | (have h := i6; have h1 := i1; have h3 := i3; show (joinF _ _ _).src.length ≤ 1000; unfold orF at *; omega) | (show (ris _).length ≤ 1000; unfold orF at *; omega)
    have LQ1 : (notF (orF ⟨a0_0, la0_1⟩ ⟨a1_0, la1_1⟩)).src.length ≤ 1000 := Nat.le_trans (ris_len _) LO1
    have HCfg := Lib.hid fun (U : World) (hU : Below w.heap.size w U) => (or_c a0_0 a1_0 _ _ la0_1 la1_1 U (by omega) (by omega) (ha0_1.below hU) (ha1_1.below hU)).mono fun e w' k => FPost.eq (b := orF ⟨a0_0, la0_1⟩ ⟨a1_0, la1_1⟩) rfl k
    have HCgf := Lib.hid fun (U : World) (hU : Below w.heap.size w U) => (or_c a1_0 a0_0 _ _ la1_1 la0_1 U (by omega) (by omega) (ha1_1.below hU) (ha0_1.below hU)).mono fun e w' k => FPost.eq (b := orF ⟨a0_0, la0_1⟩ ⟨a1_0, la1_1⟩) (s_or _ _) k
    have HDfg := Lib.hid fun (U : World) (hU : Below w.heap.size w U) => (and_c a0_0 a1_0 _ _ la0_1 la1_1 U (by omega) (by omega) (ha0_1.below hU) (ha1_1.below hU)).mono fun e w' k => FPost.eq (b := andF ⟨a0_0, la0_1⟩ ⟨a1_0, la1_1⟩) rfl k
    have HDgf := Lib.hid fun (U : World) (hU : Below w.heap.size w U) => (and_c a1_0 a0_0 _ _ la1_1 la0_1 U (by omega) (by omega) (ha1_1.below hU) (ha0_1.below hU)).mono fun e w' k => FPost.eq (b := andF ⟨a0_0, la0_1⟩ ⟨a1_0, la1_1⟩) (s_and _ _) k
    have HCO1h := Lib.hid fun (vO1 : Value) (U : World) (hU : Below w.heap.size w U) (gO1 : AddrsAt U vO1 (orF ⟨a0_0, la0_1⟩ ⟨a1_0, la1_1⟩).src) => (or_c (orF ⟨a0_0, la0_1⟩ ⟨a1_0, la1_1⟩).ex a2_0 vO1 _ (orF ⟨a0_0, la0_1⟩ ⟨a1_0, la1_1⟩).src la2_1 U (by omega) (by omega) gO1 (ha2_1.below hU)).mono fun e w' k => FPost.eq (b := orF (orF ⟨a0_0, la0_1⟩ ⟨a1_0, la1_1⟩) ⟨a2_0, la2_1⟩) rfl k
    have HCgh := Lib.hid fun (U : World) (hU : Below w.heap.size w U) => (or_c a1_0 a2_0 _ _ la1_1 la2_1 U (by omega) (by omega) (ha1_1.below hU) (ha2_1.below hU)).mono fun e w' k => FPost.eq (b := orF ⟨a1_0, la1_1⟩ ⟨a2_0, la2_1⟩) rfl k
    have HCfO3 := Lib.hid fun (vO3 : Value) (U : World) (hU : Below w.heap.size w U) (gO3 : AddrsAt U vO3 (orF ⟨a1_0, la1_1⟩ ⟨a2_0, la2_1⟩).src) => (or_c a0_0 (orF ⟨a1_0, la1_1⟩ ⟨a2_0, la2_1⟩).ex _ vO3 la0_1 (orF ⟨a1_0, la1_1⟩ ⟨a2_0, la2_1⟩).src U (by omega) (by omega) (ha0_1.below hU) gO3).mono fun e w' k => FPost.eq (b := orF (orF ⟨a0_0, la0_1⟩ ⟨a1_0, la1_1⟩) ⟨a2_0, la2_1⟩) (s_or3 _ _ _) k
    have HNf := Lib.hid fun (U : World) (hU : Below w.heap.size w U) => (not_c a0_0 _ la0_1 U (by omega) (ha0_1.below hU)).mono fun e w' k => FPost.eq (b := notF ⟨a0_0, la0_1⟩) rfl k
    have HNN1 := Lib.hid fun (vN1 : Value) (U : World) (hU : Below w.heap.size w U) (gN1 : AddrsAt U vN1 (notF ⟨a0_0, la0_1⟩).src) => (not_c (notF ⟨a0_0, la0_1⟩).ex vN1 (notF ⟨a0_0, la0_1⟩).src U (by omega) gN1).mono fun e w' k => FPost.eq (b := normF ⟨a0_0, la0_1⟩) (s_not2 _) k
    have HMf := Lib.hid fun (U : World) (hU : Below w.heap.size w U) => (norm_c a0_0 _ la0_1 U (by omega) (ha0_1.below hU)).mono fun e w' k => FPost.eq (b := normF ⟨a0_0, la0_1⟩) rfl k
    have HDfO3 := Lib.hid fun (vO3 : Value) (U : World) (hU : Below w.heap.size w U) (gO3 : AddrsAt U vO3 (orF ⟨a1_0, la1_1⟩ ⟨a2_0, la2_1⟩).src) => (and_c a0_0 (orF ⟨a1_0, la1_1⟩ ⟨a2_0, la2_1⟩).ex _ vO3 la0_1 (orF ⟨a1_0, la1_1⟩ ⟨a2_0, la2_1⟩).src U (by omega) (by omega) (ha0_1.below hU) gO3).mono fun e w' k => FPost.eq (b := andF ⟨a0_0, la0_1⟩ (orF ⟨a1_0, la1_1⟩ ⟨a2_0, la2_1⟩)) rfl k
    have HDfh := Lib.hid fun (U : World) (hU : Below w.heap.size w U) => (and_c a0_0 a2_0 _ _ la0_1 la2_1 U (by omega) (by omega) (ha0_1.below hU) (ha2_1.below hU)).mono fun e w' k => FPost.eq (b := andF ⟨a0_0, la0_1⟩ ⟨a2_0, la2_1⟩) rfl k
    have HCA1A2 := Lib.hid fun (vA1 : Value) (vA2 : Value) (U : World) (hU : Below w.heap.size w U) (gA1 : AddrsAt U vA1 (andF ⟨a0_0, la0_1⟩ ⟨a1_0, la1_1⟩).src) (gA2 : AddrsAt U vA2 (andF ⟨a0_0, la0_1⟩ ⟨a2_0, la2_1⟩).src) => (or_c (andF ⟨a0_0, la0_1⟩ ⟨a1_0, la1_1⟩).ex (andF ⟨a0_0, la0_1⟩ ⟨a2_0, la2_1⟩).ex vA1 vA2 (andF ⟨a0_0, la0_1⟩ ⟨a1_0, la1_1⟩).src (andF ⟨a0_0, la0_1⟩ ⟨a2_0, la2_1⟩).src U (by omega) (by omega) gA1 gA2).mono fun e w' k => FPost.eq (b := andF ⟨a0_0, la0_1⟩ (orF ⟨a1_0, la1_1⟩ ⟨a2_0, la2_1⟩)) (s_dist _ _ _) k
    have HNO1 := Lib.hid fun (vO1 : Value) (U : World) (hU : Below w.heap.size w U) (gO1 : AddrsAt U vO1 (orF ⟨a0_0, la0_1⟩ ⟨a1_0, la1_1⟩).src) => (not_c (orF ⟨a0_0, la0_1⟩ ⟨a1_0, la1_1⟩).ex vO1 (orF ⟨a0_0, la0_1⟩ ⟨a1_0, la1_1⟩).src U (by omega) gO1).mono fun e w' k => FPost.eq (b := notF (orF ⟨a0_0, la0_1⟩ ⟨a1_0, la1_1⟩)) rfl k
    have HNg := Lib.hid fun (U : World) (hU : Below w.heap.size w U) => (not_c a1_0 _ la1_1 U (by omega) (ha1_1.below hU)).mono fun e w' k => FPost.eq (b := notF ⟨a1_0, la1_1⟩) rfl k
    have HDN1N2 := Lib.hid fun (vN1 : Value) (vN2 : Value) (U : World) (hU : Below w.heap.size w U) (gN1 : AddrsAt U vN1 (notF ⟨a0_0, la0_1⟩).src) (gN2 : AddrsAt U vN2 (notF ⟨a1_0, la1_1⟩).src) => (and_c (notF ⟨a0_0, la0_1⟩).ex (notF ⟨a1_0, la1_1⟩).ex vN1 vN2 (notF ⟨a0_0, la0_1⟩).src (notF ⟨a1_0, la1_1⟩).src U (by omega) (by omega) gN1 gN2).mono fun e w' k => FPost.eq (b := notF (orF ⟨a0_0, la0_1⟩ ⟨a1_0, la1_1⟩)) (s_morgan _ _) k
    have SO1 := Lib.hid fun v1 v2 U h1 h2 => samef_c (orF ⟨a0_0, la0_1⟩ ⟨a1_0, la1_1⟩).ex v1 v2 (orF ⟨a0_0, la0_1⟩ ⟨a1_0, la1_1⟩).src U (by omega) h1 h2
    have SA1 := Lib.hid fun v1 v2 U h1 h2 => samef_c (andF ⟨a0_0, la0_1⟩ ⟨a1_0, la1_1⟩).ex v1 v2 (andF ⟨a0_0, la0_1⟩ ⟨a1_0, la1_1⟩).src U (by omega) h1 h2
    have SO2 := Lib.hid fun v1 v2 U h1 h2 => samef_c (orF (orF ⟨a0_0, la0_1⟩ ⟨a1_0, la1_1⟩) ⟨a2_0, la2_1⟩).ex v1 v2 (orF (orF ⟨a0_0, la0_1⟩ ⟨a1_0, la1_1⟩) ⟨a2_0, la2_1⟩).src U (by omega) h1 h2
    have SM1 := Lib.hid fun v1 v2 U h1 h2 => samef_c (normF ⟨a0_0, la0_1⟩).ex v1 v2 (normF ⟨a0_0, la0_1⟩).src U (by omega) h1 h2
    have SP1 := Lib.hid fun v1 v2 U h1 h2 => samef_c (andF ⟨a0_0, la0_1⟩ (orF ⟨a1_0, la1_1⟩ ⟨a2_0, la2_1⟩)).ex v1 v2 (andF ⟨a0_0, la0_1⟩ (orF ⟨a1_0, la1_1⟩ ⟨a2_0, la2_1⟩)).src U (by omega) h1 h2
    have SQ1 := Lib.hid fun v1 v2 U h1 h2 => samef_c (notF (orF ⟨a0_0, la0_1⟩ ⟨a1_0, la1_1⟩)).ex v1 v2 (notF (orF ⟨a0_0, la0_1⟩ ⟨a1_0, la1_1⟩)).src U (by omega) h1 h2
    clear LO1b i1 i2 i3 i4 i5 i6 i7 i8 i9 LO1 LA1 LO3 LO2 LN1 LN2 LM1 LA2 LP1 LQ1
    generalize andF ⟨a0_0, la0_1⟩ (orF ⟨a1_0, la1_1⟩ ⟨a2_0, la2_1⟩) = XP1 at *
    generalize orF (orF ⟨a0_0, la0_1⟩ ⟨a1_0, la1_1⟩) ⟨a2_0, la2_1⟩ = XO2 at *
    generalize notF (orF ⟨a0_0, la0_1⟩ ⟨a1_0, la1_1⟩) = XQ1 at *
    generalize andF ⟨a0_0, la0_1⟩ ⟨a1_0, la1_1⟩ = XA1 at *
    generalize andF ⟨a0_0, la0_1⟩ ⟨a2_0, la2_1⟩ = XA2 at *
    generalize orF ⟨a0_0, la0_1⟩ ⟨a1_0, la1_1⟩ = XO1 at *
    generalize orF ⟨a1_0, la1_1⟩ ⟨a2_0, la2_1⟩ = XO3 at *
    generalize normF ⟨a0_0, la0_1⟩ = XM1 at *
    generalize notF ⟨a0_0, la0_1⟩ = XN1 at *
    generalize notF ⟨a1_0, la1_1⟩ = XN2 at *
    obtain ⟨eO1, sO1⟩ := XO1
    obtain ⟨eA1, sA1⟩ := XA1
    obtain ⟨eO3, sO3⟩ := XO3
    obtain ⟨eO2, sO2⟩ := XO2
    obtain ⟨eN1, sN1⟩ := XN1
    obtain ⟨eN2, sN2⟩ := XN2
    obtain ⟨eM1, sM1⟩ := XM1
    obtain ⟨eA2, sA2⟩ := XA2
    obtain ⟨eP1, sP1⟩ := XP1
    obtain ⟨eQ1, sQ1⟩ := XQ1
    simp only at HCfg HCgf HDfg HDgf HCO1h HCgh HCfO3 HNf HNN1 HMf HDfO3 HDfh HCA1A2 HNO1 HNg HDN1N2 SO1 SA1 SO2 SM1 SP1 SQ1
    generalize la0_1.length = n0 at *
    generalize la1_1.length = n1 at *
    generalize la2_1.length = n2 at *
    clear ha0_1 ha1_1 ha2_1 l0 l1 l2
    have KF := Lib.hid fun (U : World) (k : K3 w U #[.bool a0_0, .slice p0 n0 c0] #[.bool a1_0, .slice p1 n1 c1] #[.bool a2_0, .slice p2 n2 c2]) => (⟨cell_of_block k.1 rfl, cell_of_block k.1 rfl, cell_of_block k.2.1 rfl, cell_of_block k.2.1 rfl, cell_of_block k.2.2.1 rfl, cell_of_block k.2.2.1 rfl⟩ : U.cell? ⟨w.heap.size, 0, none⟩ = some (.bool a0_0) ∧ U.cell? ⟨w.heap.size, 1, none⟩ = some (.slice p0 n0 c0) ∧ U.cell? ⟨w.heap.size + 1, 0, none⟩ = some (.bool a1_0) ∧ U.cell? ⟨w.heap.size + 1, 1, none⟩ = some (.slice p1 n1 c1) ∧ U.cell? ⟨w.heap.size + 1 + 1, 0, none⟩ = some (.bool a2_0) ∧ U.cell? ⟨w.heap.size + 1 + 1, 1, none⟩ = some (.slice p2 n2 c2))
    go_enter Try.func6, Try.ntmps6
    go_wp2_with fail
    ((with_reducible refine (HF.out _).mono ?_); rintro e u0 ⟨rfl, h1⟩)
    replace B := Lib.hid (B.out.below h1)
    clear h1
    obtain ⟨x0, x1, y0, y1, z0, z1⟩ := KF.out _ B.out
    go_wp2_with fail
    have kz := B.out
    clear x0 x1 y0 y1 z0 z1
    obtain ⟨x0, x1, y0, y1, z0, z1⟩ := KF.out _ kz
    go_region_held3 (fun U => U.cell? ⟨w.heap.size, 0, none⟩ = some (.bool a0_0) ∧ U.cell? ⟨w.heap.size, 1, none⟩ = some (.slice p0 n0 c0) ∧ U.cell? ⟨w.heap.size + 1, 0, none⟩ = some (.bool a1_0) ∧ U.cell? ⟨w.heap.size + 1, 1, none⟩ = some (.slice p1 n1 c1) ∧ U.cell? ⟨w.heap.size + 1 + 1, 0, none⟩ = some (.bool a2_0) ∧ U.cell? ⟨w.heap.size + 1 + 1, 1, none⟩ = some (.slice p2 n2 c2))
      (first
        | with_reducible exact KF.out _ kr6
        | with_reducible exact KF.out _ kr5
        | with_reducible exact KF.out _ kr4
        | with_reducible exact KF.out _ kr3
        | with_reducible exact KF.out _ kr2
        | with_reducible exact KF.out _ kr1
        | with_reducible exact KF.out _ kz
        | with_reducible exact KF.out _ kz.drew)
      (first
        | (go_at_call 19; (with_reducible refine (HCfg.out _ kz.drew.bel).mono ?_); rintro e r1 ⟨vr1, rfl, ar1, hr1⟩; have kr1 := (K3.below kz.drew hr1); have Fr1 := Lib.hid ar1.at; obtain ⟨qr1, dr1, rfl⟩ := ar1.slice; clear ar1; clear hr1)
        | (go_at_call 19; (with_reducible refine (HCgf.out _ kr1.bel).mono ?_); rintro e r2 ⟨vr2, rfl, ar2, hr2⟩; have kr2 := (K3.below kr1 hr2); replace Fr1 := Lib.hid (Fr1.out.below hr2); have Fr2 := Lib.hid ar2.at; obtain ⟨qr2, dr2, rfl⟩ := ar2.slice; clear ar2; clear hr2)
        | (go_at_call 15; (with_reducible refine (SO1.out _ _ _ Fr1.out Fr2.out).mono ?_); rintro e r3 ⟨rfl, hr3⟩; have kr3 := (K3.below kr2 hr3); replace Fr1 := Lib.hid (Fr1.out.below hr3); replace Fr2 := Lib.hid (Fr2.out.below hr3); clear hr3)
        | (go_at_call 20; (with_reducible refine (HDfg.out _ kr3.bel).mono ?_); rintro e r4 ⟨vr4, rfl, ar4, hr4⟩; have kr4 := (K3.below kr3 hr4); replace Fr1 := Lib.hid (Fr1.out.below hr4); replace Fr2 := Lib.hid (Fr2.out.below hr4); have Fr4 := Lib.hid ar4.at; obtain ⟨qr4, dr4, rfl⟩ := ar4.slice; clear ar4; clear hr4)
        | (go_at_call 20; (with_reducible refine (HDgf.out _ kr4.bel).mono ?_); rintro e r5 ⟨vr5, rfl, ar5, hr5⟩; have kr5 := (K3.below kr4 hr5); replace Fr1 := Lib.hid (Fr1.out.below hr5); replace Fr2 := Lib.hid (Fr2.out.below hr5); replace Fr4 := Lib.hid (Fr4.out.below hr5); have Fr5 := Lib.hid ar5.at; obtain ⟨qr5, dr5, rfl⟩ := ar5.slice; clear ar5; clear hr5)
        | (go_at_call 15; (with_reducible refine (SA1.out _ _ _ Fr4.out Fr5.out).mono ?_); rintro e r6 ⟨rfl, hr6⟩; have kr6 := (K3.below kr5 hr6); replace Fr1 := Lib.hid (Fr1.out.below hr6); replace Fr2 := Lib.hid (Fr2.out.below hr6); replace Fr4 := Lib.hid (Fr4.out.below hr6); replace Fr5 := Lib.hid (Fr5.out.below hr6); clear hr6))
    replace B := Lib.hid kr6
    clear kz
    go_wp2_with fail
    have kz := B.out
    clear x0 x1 y0 y1 z0 z1
    obtain ⟨x0, x1, y0, y1, z0, z1⟩ := KF.out _ kz
    go_region_held3 (fun U => U.cell? ⟨w.heap.size, 0, none⟩ = some (.bool a0_0) ∧ U.cell? ⟨w.heap.size, 1, none⟩ = some (.slice p0 n0 c0) ∧ U.cell? ⟨w.heap.size + 1, 0, none⟩ = some (.bool a1_0) ∧ U.cell? ⟨w.heap.size + 1, 1, none⟩ = some (.slice p1 n1 c1) ∧ U.cell? ⟨w.heap.size + 1 + 1, 0, none⟩ = some (.bool a2_0) ∧ U.cell? ⟨w.heap.size + 1 + 1, 1, none⟩ = some (.slice p2 n2 c2))
      (first
        | with_reducible exact KF.out _ ks9
        | with_reducible exact KF.out _ ks8
        | with_reducible exact KF.out _ ks7
        | with_reducible exact KF.out _ ks6
        | with_reducible exact KF.out _ ks5
        | with_reducible exact KF.out _ ks4
        | with_reducible exact KF.out _ ks3
        | with_reducible exact KF.out _ ks2
        | with_reducible exact KF.out _ ks1
        | with_reducible exact KF.out _ kz
        | with_reducible exact KF.out _ kz.drew)
      (first
        | (go_at_call 19; (with_reducible refine (HCfg.out _ kz.drew.bel).mono ?_); rintro e s1 ⟨vs1, rfl, as1, hs1⟩; have ks1 := (K3.below kz.drew hs1); have Fs1 := Lib.hid as1.at; obtain ⟨qs1, ds1, rfl⟩ := as1.slice; clear as1; clear hs1)
        | (go_at_call 19; (with_reducible refine (HCO1h.out _ _ ks1.bel Fs1.out).mono ?_); rintro e s2 ⟨vs2, rfl, as2, hs2⟩; have ks2 := (K3.below ks1 hs2); replace Fs1 := Lib.hid (Fs1.out.below hs2); have Fs2 := Lib.hid as2.at; obtain ⟨qs2, ds2, rfl⟩ := as2.slice; clear as2; clear hs2)
        | (go_at_call 19; (with_reducible refine (HCgh.out _ ks2.bel).mono ?_); rintro e s3 ⟨vs3, rfl, as3, hs3⟩; have ks3 := (K3.below ks2 hs3); replace Fs1 := Lib.hid (Fs1.out.below hs3); replace Fs2 := Lib.hid (Fs2.out.below hs3); have Fs3 := Lib.hid as3.at; obtain ⟨qs3, ds3, rfl⟩ := as3.slice; clear as3; clear hs3)
        | (go_at_call 19; (with_reducible refine (HCfO3.out _ _ ks3.bel Fs3.out).mono ?_); rintro e s4 ⟨vs4, rfl, as4, hs4⟩; have ks4 := (K3.below ks3 hs4); replace Fs1 := Lib.hid (Fs1.out.below hs4); replace Fs2 := Lib.hid (Fs2.out.below hs4); replace Fs3 := Lib.hid (Fs3.out.below hs4); have Fs4 := Lib.hid as4.at; obtain ⟨qs4, ds4, rfl⟩ := as4.slice; clear as4; clear hs4)
        | (go_at_call 15; (with_reducible refine (SO2.out _ _ _ Fs2.out Fs4.out).mono ?_); rintro e s5 ⟨rfl, hs5⟩; have ks5 := (K3.below ks4 hs5); replace Fs1 := Lib.hid (Fs1.out.below hs5); replace Fs2 := Lib.hid (Fs2.out.below hs5); replace Fs3 := Lib.hid (Fs3.out.below hs5); replace Fs4 := Lib.hid (Fs4.out.below hs5); clear hs5)
        | (go_at_call 21; (with_reducible refine (HNf.out _ ks5.bel).mono ?_); rintro e s6 ⟨vs6, rfl, as6, hs6⟩; have ks6 := (K3.below ks5 hs6); replace Fs1 := Lib.hid (Fs1.out.below hs6); replace Fs2 := Lib.hid (Fs2.out.below hs6); replace Fs3 := Lib.hid (Fs3.out.below hs6); replace Fs4 := Lib.hid (Fs4.out.below hs6); have Fs6 := Lib.hid as6.at; obtain ⟨qs6, ds6, rfl⟩ := as6.slice; clear as6; clear hs6)
        | (go_at_call 21; (with_reducible refine (HNN1.out _ _ ks6.bel Fs6.out).mono ?_); rintro e s7 ⟨vs7, rfl, as7, hs7⟩; have ks7 := (K3.below ks6 hs7); replace Fs1 := Lib.hid (Fs1.out.below hs7); replace Fs2 := Lib.hid (Fs2.out.below hs7); replace Fs3 := Lib.hid (Fs3.out.below hs7); replace Fs4 := Lib.hid (Fs4.out.below hs7); replace Fs6 := Lib.hid (Fs6.out.below hs7); have Fs7 := Lib.hid as7.at; obtain ⟨qs7, ds7, rfl⟩ := as7.slice; clear as7; clear hs7)
        | (go_at_call 12; (with_reducible refine (HMf.out _ ks7.bel).mono ?_); rintro e s8 ⟨vs8, rfl, as8, hs8⟩; have ks8 := (K3.below ks7 hs8); replace Fs1 := Lib.hid (Fs1.out.below hs8); replace Fs2 := Lib.hid (Fs2.out.below hs8); replace Fs3 := Lib.hid (Fs3.out.below hs8); replace Fs4 := Lib.hid (Fs4.out.below hs8); replace Fs6 := Lib.hid (Fs6.out.below hs8); replace Fs7 := Lib.hid (Fs7.out.below hs8); have Fs8 := Lib.hid as8.at; obtain ⟨qs8, ds8, rfl⟩ := as8.slice; clear as8; clear hs8)
        | (go_at_call 15; (with_reducible refine (SM1.out _ _ _ Fs7.out Fs8.out).mono ?_); rintro e s9 ⟨rfl, hs9⟩; have ks9 := (K3.below ks8 hs9); replace Fs1 := Lib.hid (Fs1.out.below hs9); replace Fs2 := Lib.hid (Fs2.out.below hs9); replace Fs3 := Lib.hid (Fs3.out.below hs9); replace Fs4 := Lib.hid (Fs4.out.below hs9); replace Fs6 := Lib.hid (Fs6.out.below hs9); replace Fs7 := Lib.hid (Fs7.out.below hs9); replace Fs8 := Lib.hid (Fs8.out.below hs9); clear hs9))
    replace B := Lib.hid ks9
    clear kz
    go_wp2_with fail
    have kz := B.out
    clear x0 x1 y0 y1 z0 z1
    obtain ⟨x0, x1, y0, y1, z0, z1⟩ := KF.out _ kz
    go_region_held3 (fun U => U.cell? ⟨w.heap.size, 0, none⟩ = some (.bool a0_0) ∧ U.cell? ⟨w.heap.size, 1, none⟩ = some (.slice p0 n0 c0) ∧ U.cell? ⟨w.heap.size + 1, 0, none⟩ = some (.bool a1_0) ∧ U.cell? ⟨w.heap.size + 1, 1, none⟩ = some (.slice p1 n1 c1) ∧ U.cell? ⟨w.heap.size + 1 + 1, 0, none⟩ = some (.bool a2_0) ∧ U.cell? ⟨w.heap.size + 1 + 1, 1, none⟩ = some (.slice p2 n2 c2))
      (first
        | with_reducible exact KF.out _ kl
        | with_reducible exact KF.out _ kt12
        | with_reducible exact KF.out _ kt11
        | with_reducible exact KF.out _ kt10
        | with_reducible exact KF.out _ kt9
        | with_reducible exact KF.out _ kt8
        | with_reducible exact KF.out _ kt7
        | with_reducible exact KF.out _ kt6
        | with_reducible exact KF.out _ kt5
        | with_reducible exact KF.out _ kt4
        | with_reducible exact KF.out _ kt3
        | with_reducible exact KF.out _ kt2
        | with_reducible exact KF.out _ kt1
        | with_reducible exact KF.out _ kz
        | with_reducible exact KF.out _ kz.drew)
      (first
        | (go_at_call 19; (with_reducible refine (HCgh.out _ kz.drew.bel).mono ?_); rintro e t1 ⟨vt1, rfl, at1, ht1⟩; have kt1 := (K3.below kz.drew ht1); have Ft1 := Lib.hid at1.at; obtain ⟨qt1, dt1, rfl⟩ := at1.slice; clear at1; clear ht1)
        | (go_at_call 20; (with_reducible refine (HDfO3.out _ _ kt1.bel Ft1.out).mono ?_); rintro e t2 ⟨vt2, rfl, at2, ht2⟩; have kt2 := (K3.below kt1 ht2); replace Ft1 := Lib.hid (Ft1.out.below ht2); have Ft2 := Lib.hid at2.at; obtain ⟨qt2, dt2, rfl⟩ := at2.slice; clear at2; clear ht2)
        | (go_at_call 20; (with_reducible refine (HDfg.out _ kt2.bel).mono ?_); rintro e t3 ⟨vt3, rfl, at3, ht3⟩; have kt3 := (K3.below kt2 ht3); replace Ft1 := Lib.hid (Ft1.out.below ht3); replace Ft2 := Lib.hid (Ft2.out.below ht3); have Ft3 := Lib.hid at3.at; obtain ⟨qt3, dt3, rfl⟩ := at3.slice; clear at3; clear ht3)
        | (go_at_call 20; (with_reducible refine (HDfh.out _ kt3.bel).mono ?_); rintro e t4 ⟨vt4, rfl, at4, ht4⟩; have kt4 := (K3.below kt3 ht4); replace Ft1 := Lib.hid (Ft1.out.below ht4); replace Ft2 := Lib.hid (Ft2.out.below ht4); replace Ft3 := Lib.hid (Ft3.out.below ht4); have Ft4 := Lib.hid at4.at; obtain ⟨qt4, dt4, rfl⟩ := at4.slice; clear at4; clear ht4)
        | (go_at_call 19; (with_reducible refine (HCA1A2.out _ _ _ kt4.bel Ft3.out Ft4.out).mono ?_); rintro e t5 ⟨vt5, rfl, at5, ht5⟩; have kt5 := (K3.below kt4 ht5); replace Ft1 := Lib.hid (Ft1.out.below ht5); replace Ft2 := Lib.hid (Ft2.out.below ht5); replace Ft3 := Lib.hid (Ft3.out.below ht5); replace Ft4 := Lib.hid (Ft4.out.below ht5); have Ft5 := Lib.hid at5.at; obtain ⟨qt5, dt5, rfl⟩ := at5.slice; clear at5; clear ht5)
        | (go_at_call 15; (with_reducible refine (SP1.out _ _ _ Ft2.out Ft5.out).mono ?_); rintro e t6 ⟨rfl, ht6⟩; have kt6 := (K3.below kt5 ht6); replace Ft1 := Lib.hid (Ft1.out.below ht6); replace Ft2 := Lib.hid (Ft2.out.below ht6); replace Ft3 := Lib.hid (Ft3.out.below ht6); replace Ft4 := Lib.hid (Ft4.out.below ht6); replace Ft5 := Lib.hid (Ft5.out.below ht6); clear ht6)
        | (go_at_call 19; (with_reducible refine (HCfg.out _ kt6.bel).mono ?_); rintro e t7 ⟨vt7, rfl, at7, ht7⟩; have kt7 := (K3.below kt6 ht7); replace Ft1 := Lib.hid (Ft1.out.below ht7); replace Ft2 := Lib.hid (Ft2.out.below ht7); replace Ft3 := Lib.hid (Ft3.out.below ht7); replace Ft4 := Lib.hid (Ft4.out.below ht7); replace Ft5 := Lib.hid (Ft5.out.below ht7); have Ft7 := Lib.hid at7.at; obtain ⟨qt7, dt7, rfl⟩ := at7.slice; clear at7; clear ht7)
        | (go_at_call 21; (with_reducible refine (HNO1.out _ _ kt7.bel Ft7.out).mono ?_); rintro e t8 ⟨vt8, rfl, at8, ht8⟩; have kt8 := (K3.below kt7 ht8); replace Ft1 := Lib.hid (Ft1.out.below ht8); replace Ft2 := Lib.hid (Ft2.out.below ht8); replace Ft3 := Lib.hid (Ft3.out.below ht8); replace Ft4 := Lib.hid (Ft4.out.below ht8); replace Ft5 := Lib.hid (Ft5.out.below ht8); replace Ft7 := Lib.hid (Ft7.out.below ht8); have Ft8 := Lib.hid at8.at; obtain ⟨qt8, dt8, rfl⟩ := at8.slice; clear at8; clear ht8)
        | (go_at_call 21; (with_reducible refine (HNf.out _ kt8.bel).mono ?_); rintro e t9 ⟨vt9, rfl, at9, ht9⟩; have kt9 := (K3.below kt8 ht9); replace Ft1 := Lib.hid (Ft1.out.below ht9); replace Ft2 := Lib.hid (Ft2.out.below ht9); replace Ft3 := Lib.hid (Ft3.out.below ht9); replace Ft4 := Lib.hid (Ft4.out.below ht9); replace Ft5 := Lib.hid (Ft5.out.below ht9); replace Ft7 := Lib.hid (Ft7.out.below ht9); replace Ft8 := Lib.hid (Ft8.out.below ht9); have Ft9 := Lib.hid at9.at; obtain ⟨qt9, dt9, rfl⟩ := at9.slice; clear at9; clear ht9)
        | (go_at_call 21; (with_reducible refine (HNg.out _ kt9.bel).mono ?_); rintro e t10 ⟨vt10, rfl, at10, ht10⟩; have kt10 := (K3.below kt9 ht10); replace Ft1 := Lib.hid (Ft1.out.below ht10); replace Ft2 := Lib.hid (Ft2.out.below ht10); replace Ft3 := Lib.hid (Ft3.out.below ht10); replace Ft4 := Lib.hid (Ft4.out.below ht10); replace Ft5 := Lib.hid (Ft5.out.below ht10); replace Ft7 := Lib.hid (Ft7.out.below ht10); replace Ft8 := Lib.hid (Ft8.out.below ht10); replace Ft9 := Lib.hid (Ft9.out.below ht10); have Ft10 := Lib.hid at10.at; obtain ⟨qt10, dt10, rfl⟩ := at10.slice; clear at10; clear ht10)
        | (go_at_call 20; (with_reducible refine (HDN1N2.out _ _ _ kt10.bel Ft9.out Ft10.out).mono ?_); rintro e t11 ⟨vt11, rfl, at11, ht11⟩; have kt11 := (K3.below kt10 ht11); replace Ft1 := Lib.hid (Ft1.out.below ht11); replace Ft2 := Lib.hid (Ft2.out.below ht11); replace Ft3 := Lib.hid (Ft3.out.below ht11); replace Ft4 := Lib.hid (Ft4.out.below ht11); replace Ft5 := Lib.hid (Ft5.out.below ht11); replace Ft7 := Lib.hid (Ft7.out.below ht11); replace Ft8 := Lib.hid (Ft8.out.below ht11); replace Ft9 := Lib.hid (Ft9.out.below ht11); replace Ft10 := Lib.hid (Ft10.out.below ht11); have Ft11 := Lib.hid at11.at; obtain ⟨qt11, dt11, rfl⟩ := at11.slice; clear at11; clear ht11)
        | (go_at_call 15; (with_reducible refine (SQ1.out _ _ _ Ft8.out Ft11.out).mono ?_); rintro e t12 ⟨rfl, ht12⟩; have kt12 := (K3.below kt11 ht12); replace Ft1 := Lib.hid (Ft1.out.below ht12); replace Ft2 := Lib.hid (Ft2.out.below ht12); replace Ft3 := Lib.hid (Ft3.out.below ht12); replace Ft4 := Lib.hid (Ft4.out.below ht12); replace Ft5 := Lib.hid (Ft5.out.below ht12); replace Ft7 := Lib.hid (Ft7.out.below ht12); replace Ft8 := Lib.hid (Ft8.out.below ht12); replace Ft9 := Lib.hid (Ft9.out.below ht12); replace Ft10 := Lib.hid (Ft10.out.below ht12); replace Ft11 := Lib.hid (Ft11.out.below ht12); clear ht12)
        | (go_at_call 10; (with_reducible refine (HL.out _).mono ?_); rintro e wl ⟨rfl, hl⟩; have kl := (K3.below kt12 hl); clear hl))
    go_wp2_with fail
    go_ret
    exact ⟨rfl, kl.bel⟩
  · have hfw2 : (decide (la0_1.length ≤ 100) && decide (la1_1.length ≤ 100)) = false ∨ ((decide (la0_1.length ≤ 100) && decide (la1_1.length ≤ 100)) = true ∧ 60 < la2_1.length) := by
      rcases h : (decide (la0_1.length ≤ 100) && decide (la1_1.length ≤ 100)) with _ | _
      · exact .inl rfl
      · simp only [Bool.and_eq_true, decide_eq_true_iff] at h
        exact .inr ⟨rfl, by omega⟩
    rcases hfw2 with h | ⟨h, h60⟩
    · rw [h] at HF
      generalize la0_1.length = n0 at *
      generalize la1_1.length = n1 at *
      generalize la2_1.length = n2 at *
      clear ha0_1 ha1_1 ha2_1 hfw h
      go_enter Try.func6, Try.ntmps6
      go_wp2_with fail
      ((with_reducible refine (HF.out _).mono ?_); rintro e w1 ⟨rfl, h1⟩)
      replace B := Lib.hid (B.out.below h1)
      clear h1
      go_wp2_with fail
      ((with_reducible refine (HL.out _).mono ?_); rintro e w2 ⟨rfl, h2⟩)
      go_wp2_with fail
      go_ret
      exact ⟨rfl, (B.out.below h2).bel⟩
    · rw [h] at HF
      have d60 : decide ((60 : Int) < (la2_1.length : Int)) = true := decide_eq_true (by omega)
      have d60n : decide (60 < la2_1.length) = true := decide_eq_true h60
      generalize la0_1.length = n0 at *
      generalize la1_1.length = n1 at *
      generalize la2_1.length = n2 at *
      clear ha0_1 ha1_1 ha2_1 hfw h h60
      go_enter Try.func6, Try.ntmps6
      go_wp2_with fail
      ((with_reducible refine (HF.out _).mono ?_); rintro e w1 ⟨rfl, h1⟩)
      replace B := Lib.hid (B.out.below h1)
      clear h1
      have z1 := cell_of_block (j := 1) B.out.2.2.1 rfl
      go_wp2_with fail
      ((with_reducible refine (HL.out _).mono ?_); rintro e w2 ⟨rfl, h2⟩)
      go_wp2_with fail
      go_ret
      exact ⟨rfl, (B.out.below h2).bel⟩

theorem own : ownKnob Try.prog.godebug = none := by kernel_rfl
theorem laidOut : laidOutB Try.prog = true := by kernel_rfl

set_option maxHeartbeats 1000000 in
set_option maxRecDepth 100000 in
theorem lifted (os : Os) (started : os.Started) (H : Type) (enc : TypeId × Value → H) :
    ReturnsInHanded {} Try.checked os 6 .any (Rows.filterSetsSpec.pre6 enc Try.prog Try.f6 Rows.filterSetsRow.domain false) (Rows.filterSetsSpec.post enc Try.prog Try.f6 false true false false) := by
  refine returnsInHanded_of_change_sized (C := Try.checked) own started (by kernel_rfl) Try.func6
    (ChangeSpec.witness6 (enc := enc) (C := Try.checked) false ⟨#[], #[.agg #[.bool false, .slice none 0 0], .agg #[.bool false, .slice none 0 0], .agg #[.bool false, .slice none 0 0]], []⟩ 8 (by kernel_rfl) (by kernel_rfl) (by kernel_rfl) (by kernel_rfl)) ?_
  intro W base args ds gs before hval0 hW hcnd hsz0 hholds
  have hval : ∀ (j : Nat) t v, Try.f6.params[j]? = some t → args[j]? = some v → Value.okWide Try.prog W .any base t v := hval0
  have hsz : (DataW.weightsEach Try.prog (Try.f6.params.toList ++ Rows.filterSetsSpec.plain.varTypes Try.prog) (ds ++ gs)).all (· ≤ reachBytes) = true := hsz0
  have hW' := hW
  obtain ⟨p, q, hA0, hV, rfl, hfz, hnd⟩ := hW
  have hA : DataW.TrodAll enc Try.prog W 0 (fun _ => true) true Try.f6.params.toList args.toList ds p := hA0
  rw [Try.params6] at hA hval hsz
  obtain ⟨v0, vs0, d0, ds0, p0, q0, hargs, rfl, rfl, h0, r0⟩ := trodAll_cons hA
  obtain ⟨v1, vs1, d1, ds1, p1, q1, rfl, rfl, rfl, h1, r1⟩ := trodAll_cons r0
  obtain ⟨v2, vs2, d2, ds2, p2, q2, rfl, rfl, rfl, h2, r2⟩ := trodAll_cons r1
  obtain ⟨rfl, rfl, rfl⟩ := trodAll_nil r2
  obtain rfl : args = #[v0, v1, v2] := by cases args; simp_all
  obtain ⟨rfl, rfl⟩ := trodVars_none hV
  have k0 := h0
  have lt0 : ∀ x ∈ p0, x.block < W.heap.size := by obtain ⟨m, hm⟩ := k0; exact DataW.trod_lt m _ _ _ hm
  have k1 := h1
  have lt1 : ∀ x ∈ p1, x.block < W.heap.size := by obtain ⟨m, hm⟩ := k1; exact DataW.trod_lt m _ _ _ hm
  have k2 := h2
  have lt2 : ∀ x ∈ p2, x.block < W.heap.size := by obtain ⟨m, hm⟩ := k2; exact DataW.trod_lt m _ _ _ hm
  obtain ⟨cs0, rfl, hz0⟩ := okWide_struct Try.underlying24 (hval 0 24 v0 rfl rfl)
  obtain ⟨l0⟩ := cs0
  obtain ⟨c0_0, c0_1, rfl⟩ := list2 l0 (hz0.trans (by kernel_rfl))
  obtain ⟨fu0, hf0⟩ := h0
  obtain ⟨xs0, m0, -, hx0, -, hn0, hg0⟩ := DataW.trod_struct Try.underlying24 hf0
  obtain ⟨y0_0, y0_1, rfl⟩ := list2 xs0 hn0
  simp only [Prod.mk.injEq] at hx0
  obtain ⟨rfl, rfl⟩ := hx0
  have g0_0 : DataW.trod enc Try.prog W 0 (fun _ => true) true m0 4 (List.take (Try.prog.cellsOf 4) (List.drop 0 [c0_0, c0_1])) = some y0_0 := hg0 0 _ rfl
  rw [show Try.prog.cellsOf 4 = 1 from by kernel_rfl] at g0_0
  replace g0_0 : DataW.trod enc Try.prog W 0 (fun _ => true) true m0 4 [c0_0] = some y0_0 := g0_0
  have g0_1 : DataW.trod enc Try.prog W 0 (fun _ => true) true m0 22 (List.take (Try.prog.cellsOf 22) (List.drop 1 [c0_0, c0_1])) = some y0_1 := hg0 1 _ rfl
  rw [show Try.prog.cellsOf 22 = 1 from by kernel_rfl] at g0_1
  replace g0_1 : DataW.trod enc Try.prog W 0 (fun _ => true) true m0 22 [c0_1] = some y0_1 := g0_1
  clear hg0
  obtain ⟨a0_0, e0_0, rfl⟩ := DataW.trod_bool Try.underlying4 g0_0
  simp at e0_0
  subst e0_0
  obtain ⟨v0_1, L0_1, e0_1, hh0_1, qq0_1⟩ := addrs_open g0_1
  simp at e0_1
  subst e0_1
  obtain ⟨cs1, rfl, hz1⟩ := okWide_struct Try.underlying24 (hval 1 24 v1 rfl rfl)
  obtain ⟨l1⟩ := cs1
  obtain ⟨c1_0, c1_1, rfl⟩ := list2 l1 (hz1.trans (by kernel_rfl))
  obtain ⟨fu1, hf1⟩ := h1
  obtain ⟨xs1, m1, -, hx1, -, hn1, hg1⟩ := DataW.trod_struct Try.underlying24 hf1
  obtain ⟨y1_0, y1_1, rfl⟩ := list2 xs1 hn1
  simp only [Prod.mk.injEq] at hx1
  obtain ⟨rfl, rfl⟩ := hx1
  have g1_0 : DataW.trod enc Try.prog W 0 (fun _ => true) true m1 4 (List.take (Try.prog.cellsOf 4) (List.drop 0 [c1_0, c1_1])) = some y1_0 := hg1 0 _ rfl
  rw [show Try.prog.cellsOf 4 = 1 from by kernel_rfl] at g1_0
  replace g1_0 : DataW.trod enc Try.prog W 0 (fun _ => true) true m1 4 [c1_0] = some y1_0 := g1_0
  have g1_1 : DataW.trod enc Try.prog W 0 (fun _ => true) true m1 22 (List.take (Try.prog.cellsOf 22) (List.drop 1 [c1_0, c1_1])) = some y1_1 := hg1 1 _ rfl
  rw [show Try.prog.cellsOf 22 = 1 from by kernel_rfl] at g1_1
  replace g1_1 : DataW.trod enc Try.prog W 0 (fun _ => true) true m1 22 [c1_1] = some y1_1 := g1_1
  clear hg1
  obtain ⟨a1_0, e1_0, rfl⟩ := DataW.trod_bool Try.underlying4 g1_0
  simp at e1_0
  subst e1_0
  obtain ⟨v1_1, L1_1, e1_1, hh1_1, qq1_1⟩ := addrs_open g1_1
  simp at e1_1
  subst e1_1
  obtain ⟨cs2, rfl, hz2⟩ := okWide_struct Try.underlying24 (hval 2 24 v2 rfl rfl)
  obtain ⟨l2⟩ := cs2
  obtain ⟨c2_0, c2_1, rfl⟩ := list2 l2 (hz2.trans (by kernel_rfl))
  obtain ⟨fu2, hf2⟩ := h2
  obtain ⟨xs2, m2, -, hx2, -, hn2, hg2⟩ := DataW.trod_struct Try.underlying24 hf2
  obtain ⟨y2_0, y2_1, rfl⟩ := list2 xs2 hn2
  simp only [Prod.mk.injEq] at hx2
  obtain ⟨rfl, rfl⟩ := hx2
  have g2_0 : DataW.trod enc Try.prog W 0 (fun _ => true) true m2 4 (List.take (Try.prog.cellsOf 4) (List.drop 0 [c2_0, c2_1])) = some y2_0 := hg2 0 _ rfl
  rw [show Try.prog.cellsOf 4 = 1 from by kernel_rfl] at g2_0
  replace g2_0 : DataW.trod enc Try.prog W 0 (fun _ => true) true m2 4 [c2_0] = some y2_0 := g2_0
  have g2_1 : DataW.trod enc Try.prog W 0 (fun _ => true) true m2 22 (List.take (Try.prog.cellsOf 22) (List.drop 1 [c2_0, c2_1])) = some y2_1 := hg2 1 _ rfl
  rw [show Try.prog.cellsOf 22 = 1 from by kernel_rfl] at g2_1
  replace g2_1 : DataW.trod enc Try.prog W 0 (fun _ => true) true m2 22 [c2_1] = some y2_1 := g2_1
  clear hg2
  obtain ⟨a2_0, e2_0, rfl⟩ := DataW.trod_bool Try.underlying4 g2_0
  simp at e2_0
  subst e2_0
  obtain ⟨v2_1, L2_1, e2_1, hh2_1, qq2_1⟩ := addrs_open g2_1
  simp at e2_1
  subst e2_1
  clear hA0 hval0
  refine (walk a0_0 c0_1 L0_1 a1_0 c1_1 L1_1 a2_0 c2_1 L2_1 W hh0_1 qq0_1 hh1_1 qq1_1 hh2_1 qq2_1).mono fun e W' ⟨he, bel⟩ => ?_
  subst he
  exact ⟨_, rfl, _, _, _, [], _, [], hW', trodAll_mk1 (shut_bool Try.underlying4 _), (trodAll_cons_mk (Below.trod laidOut (by kernel_rfl) (of_decide_eq_true (by kernel_rfl)) k0 bel lt0) (trodAll_cons_mk (Below.trod laidOut (by kernel_rfl) (of_decide_eq_true (by kernel_rfl)) k1 bel lt1) (trodAll_cons_mk (Below.trod laidOut (by kernel_rfl) (of_decide_eq_true (by kernel_rfl)) k2 bel lt2) trodAll_mk0))), rfl, bel.frame _, fun h => by cases h⟩

theorem over : Rows.filterSetsRow.holds Try.pinned (OpenSpec.ofChange Rows.filterSetsSpec) :=
  OpenClaim.holds_of_wide 6 Try.f6 rfl rfl rfl rfl rfl rfl rfl ⟨rfl, rfl, rfl, rfl, rfl⟩ rfl rfl rfl rfl rfl (by kernel_rfl) Try.func6 (by kernel_rfl)
    (of_decide_eq_true (by kernel_rfl)) (by unfold Func.isWrapper; first | (rw [if_pos (by decide +kernel)]; kernel_rfl) | (rw [if_neg (by decide +kernel)]; exact ⟨rfl, rfl⟩))
    (fun os started H enc _ => lifted os started H enc)

/-- The statement. -/
theorem proved : Rows.FilterSetsSaid := over
#print axioms proved
end Go.Proofs.Ytkjkndpglbcgfaa.filterSetsLaw
