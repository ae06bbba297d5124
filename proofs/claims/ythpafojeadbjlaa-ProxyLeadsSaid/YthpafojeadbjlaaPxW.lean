/-
  What a proxy with one row remembers, plainly; records in a world that has turned.
-/
import Derived.Test.YthpafojeadbjlaaPxT
import Derived.Test.YthpafojeadbjlaaPxV
namespace Go.Proofs.Ythpafojeadbjlaa
open Go Go.Maps Go.WideMaps
open Go.RowKit
set_option linter.unusedVariables false
set_option linter.unusedSimpArgs false

def oneG : ByteArray := ⟨#[224, 1, 2, 3]⟩
/-- What is remembered of one filter. -/
def rowL (o : Fl) (v : Value) : List Pr := if anyF o then [⟨7, oneG, o, v⟩] else []
theorem any_no {o : Fl} (h : anyF o = false) : o = noF := by
  obtain ⟨e, l⟩ := o
  unfold anyF at h
  simp only [Bool.or_eq_false_iff, decide_eq_false_iff_not] at h
  obtain ⟨rfl, h2⟩ := h
  obtain rfl : l = [] := List.eq_nil_of_length_eq_zero (by omega)
  rfl
theorem norm_up {o : Fl} (h : Up o.src) : normF o = o := by
  obtain ⟨e, l⟩ := o
  unfold normF
  congr 1
  exact up_unique _ _ (ris_up _) h (fun x => ris_mem l x)
theorem old_rowL (o : Fl) (v : Value) : oldR (rowL o v) 7 oneG = o := by
  unfold rowL
  rcases h : anyF o with _ | _
  · exact (any_no h).symm
  · simp [oldR, getR, sameK]
theorem has_rowL (o : Fl) (v : Value) : hasR (rowL o v) 7 oneG = anyF o := by
  unfold rowL
  rcases h : anyF o with _ | _
  · rfl
  · simp [hasR, sameK]
theorem tell_rowL (o : Fl) (v : Value) (f : Fl) (u : Value) : tellR 1 (rowL o v) 7 oneG f u = (diffF oneG o f, 0, rowL (normF f) u) := by
  unfold tellR
  rw [if_neg (by rw [show mayP 7 oneG = true from by kernel_rfl]; simp), if_neg (by
    rintro ⟨h1, -, h3⟩
    rw [has_rowL] at h1
    unfold rowL at h3
    rw [h1] at h3
    simp at h3), old_rowL]
  refine Prod.ext rfl (Prod.ext rfl ?_)
  show (if anyF f then putR (rowL o v) ⟨7, oneG, normF f, u⟩ else delR (rowL o v) 7 oneG) = rowL (normF f) u
  have e1 : delR (rowL o v) 7 oneG = [] := by
    unfold rowL
    split
    · simp [delR, sameK]
    · rfl
  rw [e1]
  unfold rowL
  rw [any_norm]
  rcases h : anyF f with _ | _
  · rfl
  · have e2 : ∀ x : Pr, x.vl = 7 → x.gr = oneG → ltK x.vl x.gr 7 oneG = false ∧ ltK 7 oneG x.vl x.gr = false := by
      rintro x h1 h2
      rw [h1, h2, ltK_irrefl]
      simp
    simp only [if_true]
    unfold putR loR hiR
    split
    · simp [ltK_irrefl]
    · rfl
theorem good_rowL {o : Fl} (v : Value) (h : Up o.src) (hl : o.src.length ≤ 1000) : GoodR (rowL o v) 1 := by
  unfold rowL
  rcases ha : anyF o with _ | _
  · exact goodR_nil (by decide)
  · refine ⟨List.pairwise_singleton _ _, by simp, fun x hx => ?_⟩
    simp at hx
    subst hx
    exact ⟨(by decide : oneG.size ≤ 16), (by decide : (1 : Int) ≤ 7), (by decide : (7 : Int) ≤ 4094), h, ha, hl⟩
theorem all_rowL (o : Fl) (v : Value) : (ofR (rowL o v) 7).map recR = if anyF o then [⟨if o.ex then 2 else 1, oneG, o.src⟩] else [] := by
  unfold rowL
  split
  · simp [ofR, recR]
  · rfl
theorem RecsG.tws {S : Nat → Prop} {w w' : World} {v : Value} {L : List Rec} (h : RecsAt w v L) (k : TwS S w w') (hS : ∀ b, S b → NoStr w b) : RecsAt w' v L := by
  obtain ⟨p, cap, b, off, hv, hp, hc⟩ := h
  refine ⟨p, cap, b, off, hv, hp, fun j r hj => ?_⟩
  obtain ⟨h1, h2, vs, h3, h4⟩ := hc j r hj
  have hb : ¬ S b := fun e => str_ne h2 (hS b e) rfl
  exact ⟨k.cell h1 hb, k.cell h2 hb, vs, k.cell h3 hb, AddrsG.tws h4 k hS⟩
theorem after_fold (L : List Rec) (f : Fl) (k : Nat) (r : Rec) (h : L[k]? = some r) : (L.take (k + 1)).foldl afterF f = afterF ((L.take k).foldl afterF f) r := by
  obtain ⟨hk, rfl⟩ := List.getElem?_eq_some_iff.1 h
  rw [List.take_succ_eq_append_getElem hk, List.foldl_append]
  rfl
/-- A box of a filter: block b. -/
def HB (b : Nat) (w : World) (x : Array Value) : Prop := w.heap[b]? = some (.cells x 28 (0, 0))
theorem HB.below {b : Nat} {w w' : World} {x : Array Value} (h : HB b w x) (k : Below w.heap.size w w') : HB b w' x := below_block k (lt_of_block h) h
theorem HB.noStr {b : Nat} {w : World} {e : Bool} {p : Option Addr} {n c : Nat} (h : HB b w #[.bool e, .slice p n c]) : NoStr w b := NoStr.of h no_str_bs
/-- One record at most. -/
theorem recs_one {w : World} {v : Value} {r : Rec} (h : RecsAt w v [r]) : ∃ b o c vs, v = .slice (some ⟨b, o, none⟩) 1 c ∧ w.cell? ⟨b, o, none⟩ = some (.int .i64 r.kind) ∧ w.cell? ⟨b, o + 2, none⟩ = some vs ∧ AddrsAt w vs r.srcs := by
  obtain ⟨p, cap, b, off, hv, hp, hc⟩ := h
  obtain ⟨rfl, -⟩ := hp (by simp)
  obtain ⟨h1, h2, vs, h3, h4⟩ := hc 0 r rfl
  exact ⟨b, off, cap, vs, hv, by simpa using h1, by simpa using h3, h4⟩
end Go.Proofs.Ythpafojeadbjlaa
