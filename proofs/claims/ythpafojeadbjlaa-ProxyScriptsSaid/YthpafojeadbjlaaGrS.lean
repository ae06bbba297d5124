/-
  States of groups, plainly: whether one may be, what it is by a time, what it admits. It speaks of no program.
-/
import Derived.Test.YthpafojeadbjlaaRowG
import Derived.Test.YthpafojeadbjlaaFlS
namespace Go.Proofs.Ythpafojeadbjlaa
open Go.RowKit
set_option linter.unusedVariables false
set_option linter.unusedSimpArgs false

/-- A source and when it goes. -/
abbrev Tm := ByteArray × Int
def cellsTm (x : Tm) : List Value := [.string x.1, .int .i64 x.2]
theorem tm_len (x : Tm) : (cellsTm x).length = 2 := rfl
structure St where
  ex : Bool
  tm : Int
  src : List Tm
def nmS (l : List Tm) : List ByteArray := l.map fun x => x.1
theorem nm_len (l : List Tm) : (nmS l).length = l.length := by simp [nmS]
/-- May a source stand so? -/
def okX (ex : Bool) (x : Tm) : Bool := decide (0 ≤ x.2) && (ex || decide (x.2 ≠ 0))
def okS (s : St) : Bool := decide (s.src.length ≤ 60) && decide (0 ≤ s.tm) && (s.ex == decide (0 < s.tm)) && s.src.all (okX s.ex) && upB (nmS s.src)
def chkS (s : St) : Int := if okS s then 0 else 3
theorem ok_iff (s : St) : okS s = true ↔ s.src.length ≤ 60 ∧ 0 ≤ s.tm ∧ s.ex = decide (0 < s.tm) ∧ (∀ x ∈ s.src, okX s.ex x = true) ∧ upB (nmS s.src) = true := by
  unfold okS
  simp only [Bool.and_eq_true, decide_eq_true_eq, beq_iff_eq, List.all_eq_true]
  constructor
  · rintro ⟨⟨⟨⟨h1, h2⟩, h3⟩, h4⟩, h5⟩; exact ⟨h1, h2, h3, h4, h5⟩
  · rintro ⟨h1, h2, h3, h4, h5⟩; exact ⟨⟨⟨⟨h1, h2⟩, h3⟩, h4⟩, h5⟩
theorem chk_no {s : St} (h : ¬ (s.src.length ≤ 60 ∧ 0 ≤ s.tm ∧ s.ex = decide (0 < s.tm) ∧ (∀ x ∈ s.src, okX s.ex x = true) ∧ upB (nmS s.src) = true)) : chkS s = 3 := by
  unfold chkS
  rw [if_neg fun k => h ((ok_iff s).1 k)]
theorem chk_last {s : St} (h1 : s.src.length ≤ 60) (h2 : 0 ≤ s.tm) (h3 : s.ex = decide (0 < s.tm)) (h4 : ∀ x ∈ s.src, okX s.ex x = true) : chkS s = chkF ⟨false, nmS s.src⟩ := by
  unfold chkS chkF
  by_cases h5 : upB (nmS s.src) = true
  · rw [if_pos ((ok_iff s).2 ⟨h1, h2, h3, h4, h5⟩), if_pos h5]
  · rw [if_neg (fun k => h5 ((ok_iff s).1 k).2.2.2.2), if_neg h5]

/-- What a state is by a time. -/
def exE (s : St) (now : Int) : Bool := s.ex && decide (now < s.tm)
def keepX (ex : Bool) (now : Int) (x : Tm) : List Tm := if now < x.2 then [x] else if ex then [(x.1, 0)] else []
def srcE (s : St) (now : Int) : List Tm := s.src.flatMap (keepX (exE s now) now)
def anyS (s : St) : Bool := s.ex || decide (0 < s.src.length)
def stE (s : St) (now : Int) : St := ⟨exE s now, if exE s now then s.tm else 0, srcE s now⟩
def noS : St := ⟨false, 0, []⟩
/-- Expire's answer. -/
def expS (s : St) (now : Int) : St × Bool := if okS s then (stE s now, anyS (stE s now)) else (noS, false)
theorem keep_take {ex : Bool} {now : Int} {l : List Tm} {k : Nat} {x : Tm} (h : l[k]? = some x) : (l.take (k + 1)).flatMap (keepX ex now) = (l.take k).flatMap (keepX ex now) ++ keepX ex now x := by
  rw [List.take_succ_eq_append_getElem (List.getElem?_eq_some_iff.1 h).1, (List.getElem?_eq_some_iff.1 h).2, List.flatMap_append]
  simp
theorem keep_len (ex : Bool) (now : Int) (x : Tm) : (keepX ex now x).length ≤ 1 := by
  unfold keepX
  repeat' split
  all_goals simp
theorem keeps_len (ex : Bool) (now : Int) : ∀ l : List Tm, (l.flatMap (keepX ex now)).length ≤ l.length
  | [] => by simp
  | x :: r => by
    rw [List.flatMap_cons, List.length_append, List.length_cons]
    have h1 := keep_len ex now x
    have h2 := keeps_len ex now r
    omega
/-- The filter of a state. -/
def filS (s : St) : Fl := ⟨s.ex, nmS (s.src.filter fun x => !s.ex || decide (x.2 = 0))⟩
def admS (s : St) (a : ByteArray) (now : Int) : Bool := (expS s now).2 && admB (filS (expS s now).1) a

end Go.Proofs.Ythpafojeadbjlaa
