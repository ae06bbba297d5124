/-
  Lists of structs that came in as data, with what each weighs: whatever the struct.
-/
import Derived.Test.YthpafojeadbjlaaRowG
import Derived.Test.YthpafojeadbjlaaMemL
import Derived.SizedLaws
namespace Go.Proofs.Ythpafojeadbjlaa
open Go.RowKit Go.ChangeShapes Go.WideShapes Go.Deep
set_option linter.unusedVariables false

/-- A datum all of whose parts are within reach. -/
def Wt {H : Type} (P : Program) (t : TypeId) (d : DataW H) : Prop := ∀ n ∈ d.weights P t, n ≤ 140737488351232

section
variable {H : Type} {P : Program} {t e : TypeId}
theorem Wt.top {ts : List TypeId} {ds : List (DataW H)} (h : (DataW.weightsEach P ts ds).all (· ≤ reachBytes) = true) {j : Nat} {d : DataW H} (ht : ts[j]? = some t) (hd : ds[j]? = some d) : Wt P t d := fun n hn => by
  have := List.all_eq_true.1 h _ (DataW.weights_mem_each ht hd n hn)
  simpa [reachBytes] using of_decide_eq_true this
theorem Wt.str {bs : List UInt8} (h : Wt (H := H) P t (.lit (.string bs))) : bs.length ≤ 140737488351232 := h _ (by simp [DataW.weights])
theorem weights_mem_all : ∀ {l : List (DataW H)} {d : DataW H}, d ∈ l → ∀ n ∈ d.weights P e, n ∈ DataW.weightsAll P e l
  | a :: r, d, hd, n, hn => by
    simp only [DataW.weightsAll, List.mem_append]
    rcases List.mem_cons.1 hd with rfl | hd
    · exact Or.inl hn
    · exact Or.inr (weights_mem_all hd n hn)
theorem Wt.slice {l sp : List (DataW H)} (hu : P.underlying t = some (.slice e)) (h : Wt P t (.slice l sp)) : ∀ d ∈ l, Wt P e d := fun d hd n hn => h n (by
  simp only [DataW.weights, hu, List.mem_cons, List.mem_append]
  exact Or.inr (Or.inl (weights_mem_all hd n hn)))
theorem Wt.struct {fs : Array Field} {l : List (DataW H)} (hu : P.underlying t = some (.struct fs)) (h : Wt P t (.agg l)) (i : Nat) (f : Field) (hf : fs[i]? = some f) (d : DataW H) (hd : l[i]? = some d) : Wt P f.type d := fun n hn => h n (by
  simp only [DataW.weights, hu]
  exact DataW.weights_mem_each (j := i) (t := f.type) (by rw [List.getElem?_map, Array.getElem?_toList, hf]; rfl) hd n hn)
end

section
variable {α : Type} {size : Nat} {cells : α → List Value}
variable {H : Type} {enc : TypeId × Value → H} {P : Program} {w : World} {base : Nat} {spare : Nat → Bool} {held : Bool}
theorem rows_openW {good : α → Prop} {st et : TypeId} (hu : P.underlying st = some (.slice et)) (hz : P.cellsOf et = size) (h0 : 0 < size) (hcl : ∀ a : α, (cells a).length = size)
    (elem : ∀ (fuel : Nat) (cs : List Value) (x : DataW H × List MemPlace), cs.length = size → DataW.trod enc P w base spare held fuel et cs = some x → Wt P et x.1 → ∃ a : α, cs = cells a ∧ good a)
    {fuel : Nat} {cs : List Value} {x : DataW H × List MemPlace} (h : DataW.trod enc P w base spare held fuel st cs = some x) (hw : Wt P st x.1) :
    ∃ (v : Value) (L : List α), cs = [v] ∧ RowsAt size cells w v L ∧ (L.length ≤ maxLen ∧ ∀ p n c, v = .slice p n c → n ≤ c) ∧ ∀ r ∈ L, good r := by
  rcases DataW.trod_slice hu h with ⟨rfl, -⟩ | ⟨a, len, cap, elems, rest, n, -, rfl, rfl, -, hl, hm, hel, hi, -, -⟩
  · exact ⟨_, [], rfl, RowsAt.nil _, ⟨Nat.zero_le _, fun p n c e => by simp only [Value.slice.injEq] at e; omega⟩, fun r h => by simp at h⟩
  · obtain ⟨b, off, spot⟩ := a
    have hwe := Wt.slice hu hw
    have each : ∀ i, i < len → ∃ r : α, good r ∧ (∀ k u, (cells r)[k]? = some u → w.cell? ⟨b, off + i * size + k, none⟩ = some u) ∧ ∃ v, w.cell? ((⟨b, off, spot⟩ : Addr).add (i * size)) = some v := by
      intro i hil
      have hb := hi i hil
      rw [List.getElem?_eq_getElem (by omega), Option.bind_eq_some_iff] at hb
      obtain ⟨cs', hc, ht⟩ := hb
      rw [hz] at hc
      obtain ⟨-, hcl', hat⟩ := World.cells?_some hc
      obtain ⟨r, rfl, hg⟩ := elem _ _ _ hcl' ht (hwe _ (List.mem_map.2 ⟨_, List.getElem_mem _, rfl⟩))
      refine ⟨r, hg, fun k u hk => ?_, ?_⟩
      · have hk' : k < (cells r).length := (List.getElem?_eq_some_iff.1 hk).1
        have c0 := hat k (by rw [← hcl r]; exact hk')
        rw [Go.Deep.add_add] at c0
        rw [hk] at c0
        rw [Nat.add_assoc]
        exact gat_plain c0
      · have c0 := hat 0 h0
        rw [Go.Deep.add_add] at c0
        rw [Nat.add_zero] at c0
        exact ⟨_, c0.trans (List.getElem?_eq_getElem (by rw [hcl]; exact h0))⟩
    have build : ∀ k, k ≤ len → ∃ L : List α, L.length = k ∧ (∀ r ∈ L, good r) ∧ ∀ j r, L[j]? = some r → ∀ i u, (cells r)[i]? = some u → w.cell? ⟨b, off + j * size + i, none⟩ = some u := by
      intro k
      induction k with
      | zero => intro _; exact ⟨[], rfl, fun r h => by simp at h, fun j r h => by simp at h⟩
      | succ k ih =>
        intro hk
        obtain ⟨L, h1, h2, h3⟩ := ih (by omega)
        obtain ⟨r, r1, r2, -⟩ := each k (by omega)
        refine ⟨L ++ [r], by simp [h1], fun x hx => ?_, fun j x hj => ?_⟩
        · rcases List.mem_append.1 hx with h | h
          · exact h2 x h
          · rw [List.mem_singleton.1 h]; exact r1
        · by_cases hjk : j < L.length
          · rw [List.getElem?_append_left hjk] at hj
            exact h3 j x hj
          · have hj' := (List.getElem?_eq_some_iff.1 hj).1
            simp only [List.length_append, List.length_singleton] at hj'
            obtain rfl : j = k := by omega
            rw [List.getElem?_append_right (by omega), h1, Nat.sub_self] at hj
            obtain rfl : r = x := by simpa using hj
            exact r2
    obtain ⟨L, h1, h2, h3⟩ := build len (Nat.le_refl _)
    refine ⟨_, L, rfl, ⟨some ⟨b, off, spot⟩, cap, b, off, by rw [h1], fun hne => ?_, h3⟩, ⟨by omega, fun p n c e => by simp only [Value.slice.injEq] at e; omega⟩, h2⟩
    have hl0 : 0 < len := by
      rw [← h1]
      cases L with
      | nil => exact absurd rfl hne
      | cons r L => simp
    obtain ⟨-, -, -, v, hv⟩ := each 0 hl0
    have := World.cell?_spot hv
    have hsp : spot = none := by simpa [Addr.add] using this
    rw [hsp]

/-- A list of texts. -/
def cellsTx (s : ByteArray) : List Value := [.string s]
theorem addrs_openW {fuel : Nat} {cs : List Value} {x : DataW H × List MemPlace} (h : DataW.trod enc Try.prog w base spare held fuel 26 cs = some x) (hw : Wt Try.prog 26 x.1) :
    ∃ v l, cs = [v] ∧ AddrsAt w v l ∧ l.length ≤ maxLen ∧ ∀ s ∈ l, s.size ≤ 140737488351232 := by
  obtain ⟨v, L, e, h1, h2, h3⟩ := rows_openW (size := 1) (cells := cellsTx) (good := fun s => s.size ≤ 140737488351232) Try.underlying26 (by kernel_rfl) (by decide) (fun _ => rfl) (fun fuel cs y hcs ht hwt => by
    obtain ⟨c0, rfl⟩ : ∃ c0, cs = [c0] := by
      match cs, hcs with
      | [c0], _ => exact ⟨c0, rfl⟩
    obtain ⟨a0, e0, ed, w0⟩ := DataW.trod_string Try.underlying35 ht
    simp at e0
    subst e0
    rw [ed] at hwt
    exact ⟨a0, rfl, by simpa using Wt.str hwt⟩) h hw
  obtain ⟨p, cap, b, off, rfl, hp, hc⟩ := h1
  exact ⟨_, L, e, ⟨p, cap, b, off, rfl, fun hne => ⟨hp hne, Nat.zero_le _, fun h => by cases h⟩, fun j s hj => by simpa using hc j s hj 0 _ rfl⟩, h2.1, h3⟩
end
end Go.Proofs.Ythpafojeadbjlaa
