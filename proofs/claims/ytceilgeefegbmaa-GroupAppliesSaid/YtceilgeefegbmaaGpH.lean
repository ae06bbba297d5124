/-
  What the document's Apply answers, plainly; some, but at any kind, May. Contracts over the translated program.
-/
import Derived.Test.YtceilgeefegbmaaGpE
import Derived.Test.YtceilgeefegbmaaGpF
import Derived.Test.YtceilgeefegbmaaGpBB
import Derived.Test.YtceilgeefegbmaaGrQ
import Derived.Test.YtceilgeefegbmaaGrY
namespace Go.Proofs.Ytceilgeefegbmaa
open Go Go.Maps Go.WideMaps
open Go.RowKit
set_option linter.unusedVariables false
set_option linter.unusedSimpArgs false

def fol17 (s : St) (kd : Int) (r : List ByteArray) (m : Int) : Cg := if s.ex then butP s.tm s.src kd r m else somP s.src kd r m
def end17 (C : Cg) (e : Int) : Ap := if 60 < C.src.length then noA 1 else if (C.ex || decide (0 < (askS C.src C.al e).length)) = true then ⟨⟨C.ex, if C.ag then min C.tm e else C.tm, askS C.src C.al e⟩, true, C.ag, C.al, 0⟩ else noA 0
def ap17 (s : St) (is : Bool) (kd : Int) (rs : List ByteArray) (now m l : Int) : Ap :=
  if (is && !okS s) = true then noA 3 else if (mayT m l now && recT kd rs) = false then noA 1
  else end17 (fol17 (if is then s else noS) kd (ris rs) (now + m)) (now + l)
theorem som_al {l : List Tm} {r : List ByteArray} (hl : l.length ≤ 100) (hr : r.length ≤ 100) (kd m : Int) : (somP l kd r m).al.length ≤ 100 := by
  have h1 := (names_len l).1
  have h2 := less_len2 (namesR l) r
  have h3 := both_len (namesR l) r
  unfold somP
  split
  · exact Nat.zero_le _
  · split
    · show (lessF (namesR l) r).length ≤ 100; omega
    · split
      · show (bothF (namesR l) r).length ≤ 100; omega
      · split
        · show (bothF (namesR l) r).length ≤ 100; omega
        · exact Nat.zero_le _
theorem but_al {l : List Tm} {r : List ByteArray} (hl : l.length ≤ 100) (hr : r.length ≤ 100) (tm kd m : Int) : (butP tm l kd r m).al.length ≤ 100 := by
  have h1 := (names_len l).1
  have h2 := less_len2 (namesR l) r
  have h3 := less_len2 r (namesB l)
  unfold butP
  split
  · exact Nat.zero_le _
  · split
    · show (lessF (namesR l) r).length ≤ 100; omega
    · split
      · show (lessF r (namesB l)).length ≤ 100; omega
      · split
        · show (lessF r (namesB l)).length ≤ 100; omega
        · exact Nat.zero_le _
theorem some17_c (ex : Bool) (tm : Int) (q : Option Addr) (n c : Nat) (l : List Tm) (kd : Int) (vr : Value) (r : List ByteArray) (m : Int) (w : World) (h1 : 1 ≤ kd) (h6 : kd ≤ 6) (hl0 : l.length ≤ 100) (hr0 : r.length ≤ 100) (hR : RowsAt 2 cellsTm w (.slice q n c) l) (hRR : AddrsAt w vr r) :
    Calls Try.prog 36 #[.agg #[.bool ex, .int .i64 tm, .slice q n c], .int .i64 kd, vr, .int .i64 m] w (CgPost (somP l kd r m) w) := by
  have : kd = 1 ∨ kd = 2 ∨ kd = 3 ∨ kd = 4 ∨ kd = 5 ∨ kd = 6 := by omega
  rcases this with rfl | rfl | rfl | rfl | rfl | rfl
  · exact some17_1 ex tm q n c l vr r m w hl0 hr0 hR hRR
  · exact some17_2 ex tm q n c l vr r m w hl0 hr0 hR hRR
  · exact some17_3 ex tm q n c l vr r m w hl0 hr0 hR hRR
  · exact some17_4 ex tm q n c l vr r m w hl0 hr0 hR hRR
  · exact some17_5 ex tm q n c l vr r m w hl0 hr0 hR hRR
  · exact some17_6 ex tm q n c l vr r m w hl0 hr0 hR hRR
theorem but17_c (ex : Bool) (tm : Int) (q : Option Addr) (n c : Nat) (l : List Tm) (kd : Int) (vr : Value) (r : List ByteArray) (m : Int) (w : World) (h1 : 1 ≤ kd) (h6 : kd ≤ 6) (hl0 : l.length ≤ 100) (hr0 : r.length ≤ 100) (hR : RowsAt 2 cellsTm w (.slice q n c) l) (hRR : AddrsAt w vr r) :
    Calls Try.prog 37 #[.agg #[.bool ex, .int .i64 tm, .slice q n c], .int .i64 kd, vr, .int .i64 m] w (CgPost (butP tm l kd r m) w) := by
  have : kd = 1 ∨ kd = 2 ∨ kd = 3 ∨ kd = 4 ∨ kd = 5 ∨ kd = 6 := by omega
  rcases this with rfl | rfl | rfl | rfl | rfl | rfl
  · exact but17_1 ex tm q n c l vr r m w hl0 hr0 hR hRR
  · exact but17_2 ex tm q n c l vr r m w hl0 hr0 hR hRR
  · exact but17_3 ex tm q n c l vr r m w hl0 hr0 hR hRR
  · exact but17_4 ex tm q n c l vr r m w hl0 hr0 hR hRR
  · exact but17_5 ex tm q n c l vr r m w hl0 hr0 hR hRR
  · exact but17_6 ex tm q n c l vr r m w hl0 hr0 hR hRR
theorem may17_c (now m l : Int) (w : World) : Calls Try.prog 34 #[.int .i64 now, .int .i64 m, .int .i64 l] w fun e w' => e = .returned (.bool (mayT m l now)) ∧ Below w.heap.size w w' := by
  have k0 := Below.refl w.heap.size w
  have E : mayT m l now = (decide (1 ≤ now) && decide (now ≤ 1099511627776) && decide (1 ≤ m) && decide (m ≤ 1000000) && decide (1 ≤ l) && decide (l ≤ 1000000)) := by
    unfold mayT
    cases decide (1 ≤ m) <;> cases decide (m ≤ 1000000) <;> cases decide (1 ≤ l) <;> cases decide (l ≤ 1000000) <;> cases decide (1 ≤ now) <;> cases decide (now ≤ 1099511627776) <;> rfl
  rw [E]
  clear E
  rcases Bool.eq_false_or_eq_true (decide (1 ≤ now)) with a1 | a1 <;> rcases Bool.eq_false_or_eq_true (decide (now ≤ 1099511627776)) with a2 | a2 <;> rcases Bool.eq_false_or_eq_true (decide (1 ≤ m)) with a3 | a3 <;> rcases Bool.eq_false_or_eq_true (decide (m ≤ 1000000)) with a4 | a4 <;> rcases Bool.eq_false_or_eq_true (decide (1 ≤ l)) with a5 | a5 <;> rcases Bool.eq_false_or_eq_true (decide (l ≤ 1000000)) with a6 | a6 <;>
    (rw [a1, a2, a3, a4, a5, a6]
     simp only [decide_eq_true_eq, decide_eq_false_iff_not] at a1 a2 a3 a4 a5 a6
     go_enter Try.func34, Try.ntmps34
     go_wp2_with fail
     go_ret
     exact ⟨rfl, k0⟩)
end Go.Proofs.Ytceilgeefegbmaa
