/-
  Lists of addresses and of records that came in as data: what lies in memory.
-/
import Derived.Test.YthpafojeadbjlaaProg
import Derived.Test.YthpafojeadbjlaaMemL
import Derived.SliceStrings
import Derived.Deep.Slices
import Derived.ChangeArms
import Derived.ChangeSame
namespace Go.Proofs.Ythpafojeadbjlaa
open Go.RowKit Go.ChangeShapes Go.WideShapes Go.Deep
set_option linter.unusedVariables false

section
variable {H : Type} {enc : TypeId × Value → H} {w : World} {base : Nat} {spare : Nat → Bool} {held : Bool}

theorem at_plain {b off k : Nat} {spot : Option Nat} {v : Value} (h : w.cell? ((⟨b, off, spot⟩ : Addr).add k) = some v) : w.cell? ⟨b, off + k, none⟩ = some v := by
  have hs := World.cell?_spot h
  unfold Addr.add at h hs
  split at h
  · next h0 =>
    subst h0
    simp at hs
    subst hs
    simpa using h
  · exact h

theorem addrs_open {fuel : Nat} {cs : List Value} {x : DataW H × List MemPlace} (h : DataW.trod enc Try.prog w base spare held fuel 26 cs = some x) :
    ∃ v l, cs = [v] ∧ AddrsAt w v l ∧ l.length ≤ maxLen := by
  rcases open_strings Try.underlying26 Try.underlying35 (by kernel_rfl) h with ⟨rfl, -⟩ | ⟨a, len, cap, ss, rfl, -, hl, hm, hz, -, hc, -⟩
  · exact ⟨_, [], rfl, AddrsG.nil _ _ _, Nat.zero_le _⟩
  · obtain ⟨b, off, spot⟩ := a
    have hss : len ≤ ss.length := by rw [hz]; split <;> omega
    have hL : (ss.take len).length = len := by rw [List.length_take]; omega
    have cell : ∀ j s, (ss.take len)[j]? = some s → w.cell? ((⟨b, off, spot⟩ : Addr).add j) = some (.string s) := by
      intro j s hj
      have hjl : j < len := by
        have := (List.getElem?_eq_some_iff.1 hj).1
        omega
      have := hc j (by omega)
      rw [List.getElem?_take_of_lt hjl] at hj
      rw [this]
      simp [List.getD, hj]
    refine ⟨_, ss.take len, rfl, ⟨some ⟨b, off, spot⟩, cap, b, off, by rw [hL], fun hne => ⟨?_, Nat.zero_le _, fun h => by cases h⟩, fun j s hj => at_plain (cell j s hj)⟩, by omega⟩
    have h0 : 0 < (ss.take len).length := by
      rcases hh : ss.take len with _ | ⟨y, ys⟩
      · exact absurd hh hne
      · simp
    have := World.cell?_spot (cell 0 _ (List.getElem?_eq_getElem h0))
    have hsp : spot = none := by simpa [Addr.add] using this
    rw [hsp]

theorem list3' {α : Type} (l : List α) (h : l.length = 3) : ∃ x0 x1 x2 : α, l = [x0, x1, x2] := by
  match l, h with
  | [x0, x1, x2], _ => exact ⟨x0, x1, x2, rfl⟩

theorem rec_open {fuel : Nat} {cs : List Value} {x : DataW H × List MemPlace} (hcs : cs.length = 3) (h : DataW.trod enc Try.prog w base spare held fuel 57 cs = some x) :
    ∃ (kd : Int) (g : ByteArray) (vs : Value) (l : List ByteArray), cs = [.int .i64 kd, .string g, vs] ∧ AddrsAt w vs l ∧ l.length ≤ maxLen := by
  obtain ⟨c0, c1, c2, rfl⟩ := list3' cs hcs
  obtain ⟨ys, m, -, -, -, hn, hg⟩ := DataW.trod_struct Try.underlying57 h
  obtain ⟨y0, y1, y2, rfl⟩ := list3' ys hn
  have g0 : DataW.trod enc Try.prog w base spare held m 3 (List.take (Try.prog.cellsOf 3) (List.drop 0 [c0, c1, c2])) = some y0 := hg 0 _ rfl
  rw [show Try.prog.cellsOf 3 = 1 from by kernel_rfl] at g0
  have g1 : DataW.trod enc Try.prog w base spare held m 35 (List.take (Try.prog.cellsOf 35) (List.drop 1 [c0, c1, c2])) = some y1 := hg 1 _ rfl
  rw [show Try.prog.cellsOf 35 = 1 from by kernel_rfl] at g1
  have g2 : DataW.trod enc Try.prog w base spare held m 26 (List.take (Try.prog.cellsOf 26) (List.drop 2 [c0, c1, c2])) = some y2 := hg 2 _ rfl
  rw [show Try.prog.cellsOf 26 = 1 from by kernel_rfl] at g2
  obtain ⟨kd, e0, -, -⟩ := DataW.trod_int Try.underlying3 g0
  obtain ⟨g, e1, -, -⟩ := DataW.trod_string Try.underlying35 g1
  obtain ⟨vs, l, e2, ha, hl⟩ := addrs_open g2
  simp at e0 e1 e2
  subst e0 e1 e2
  exact ⟨_, _, _, l, rfl, ha, hl⟩

theorem recs_open {fuel : Nat} {cs : List Value} {x : DataW H × List MemPlace} (h : DataW.trod enc Try.prog w base spare held fuel 50 cs = some x) :
    ∃ v L, cs = [v] ∧ RecsAt w v L ∧ L.length ≤ maxLen ∧ ∀ r ∈ L, r.srcs.length ≤ maxLen := by
  rcases open_slice Try.underlying50 h with ⟨rfl, -⟩ | ⟨a, len, cap, m, n, D, Pl, rfl, -, hl, hm, hmm, -, hi⟩
  · exact ⟨_, [], rfl, RecsG.nil _ _ _, Nat.zero_le _, fun r h => by simp at h⟩
  · obtain ⟨b, off, spot⟩ := a
    have hml : len ≤ m := by rw [hmm]; split <;> omega
    have each : ∀ i, i < len → ∃ r : Rec, r.srcs.length ≤ maxLen ∧ RecAt w b (off + i * 3) r ∧ ∃ v, w.cell? ((⟨b, off, spot⟩ : Addr).add (i * 3)) = some v := by
      intro i hil
      obtain ⟨cs', hc, ht⟩ := hi i (by omega)
      rw [show Try.prog.cellsOf 57 = 3 from by kernel_rfl] at hc
      obtain ⟨-, hcl, hat⟩ := World.cells?_some hc
      obtain ⟨kd, g, vs, l, rfl, ha, hll⟩ := rec_open hcl ht
      have c0 := hat 0 (by omega)
      have c1 := hat 1 (by omega)
      have c2 := hat 2 (by omega)
      rw [Go.Deep.add_add] at c0 c1 c2
      have d0 := at_plain c0
      have d1 := at_plain c1
      have d2 := at_plain c2
      refine ⟨⟨kd, g, l⟩, hll, ⟨?_, ?_, vs, ?_, ha⟩, _, c0⟩
      · simpa using d0
      · rw [Nat.add_assoc]; simpa using d1
      · rw [Nat.add_assoc]; simpa using d2
    have build : ∀ k, k ≤ len → ∃ L : List Rec, L.length = k ∧ (∀ r ∈ L, r.srcs.length ≤ maxLen) ∧ ∀ j r, L[j]? = some r → RecAt w b (off + j * 3) r := by
      intro k
      induction k with
      | zero => intro _; exact ⟨[], rfl, fun r h => by simp at h, fun j r h => by simp at h⟩
      | succ k ih =>
        intro hk
        obtain ⟨L, h1, h2, h3⟩ := ih (by omega)
        obtain ⟨r, r1, r2, -⟩ := each k (by omega)
        refine ⟨L ++ [r], by simp [h1], fun x hx => ?_, fun j x hj => ?_⟩
        · rcases List.mem_append.1 hx with h | h
          · exact h2 x h
          · rw [List.mem_singleton.1 h]; exact r1
        · by_cases hjk : j < L.length
          · rw [List.getElem?_append_left hjk] at hj
            exact h3 j x hj
          · have hj' := (List.getElem?_eq_some_iff.1 hj).1
            simp only [List.length_append, List.length_singleton] at hj'
            obtain rfl : j = k := by omega
            rw [List.getElem?_append_right (by omega), h1, Nat.sub_self] at hj
            obtain rfl : r = x := by simpa using hj
            exact r2
    obtain ⟨L, h1, h2, h3⟩ := build len (Nat.le_refl _)
    refine ⟨_, L, rfl, ⟨some ⟨b, off, spot⟩, cap, b, off, by rw [h1], fun hne => ⟨?_, Nat.zero_le _⟩, h3⟩, by omega, h2⟩
    have hl0 : 0 < len := by
      rw [← h1]
      cases L with
      | nil => exact absurd rfl hne
      | cons r L => simp
    obtain ⟨-, -, -, v, hv⟩ := each 0 hl0
    have := World.cell?_spot hv
    have hsp : spot = none := by simpa [Addr.add] using this
    rw [hsp]
end

end Go.Proofs.Ythpafojeadbjlaa
