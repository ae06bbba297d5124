/-
  Reading records, the document's answer: siphonref08.Records.
  Reading records, the document's answer: siphonref08.Records at every argument.
-/
import Derived.Test.YtfdiaaggmjlkbaaIgH
namespace Go.Proofs.Ytfdiaaggmjlkbaa
open Go.RowKit
set_option linter.unusedVariables false

/-- What stands from a place on. -/
def suf (s : ByteArray) (a : Nat) : ByteArray := s.extract a s.size
theorem suf_size (s : ByteArray) (a : Nat) : (suf s a).size = s.size - a := by unfold suf; simp
theorem suf_data (s : ByteArray) (a : Nat) : (suf s a).data.toList = s.data.toList.drop a := by
  unfold suf
  rw [Lib.extract_data, List.take_of_length_le (by simp)]
theorem suf_subs (s : ByteArray) (a i n : Nat) : subs (suf s a) i n = subs s (a + i) n := by
  unfold subs
  rw [suf_data, List.drop_drop]
theorem suf_numv (s : ByteArray) (a i : Nat) (w : Nat) (h1 : 1 ≤ w) (h4 : w ≤ 4) (h : a + i + w ≤ s.size) : numv (suf s a) i w = numv s (a + i : Nat) w := by
  have hz := suf_size s a
  rw [numv_of _ i w h1 h4 (by omega), numv_of s (a + i) w h1 h4 (by omega), suf_subs]
theorem suf_ext (s : ByteArray) (a i n : Nat) : (suf s a).extract i (i + n) = s.extract (a + i) (a + i + n) := by
  rw [extract_mk, extract_mk, suf_subs]
theorem suf_suf (s : ByteArray) (a b : Nat) : (suf s a).extract b (suf s a).size = suf s (a + b) := by
  apply ByteArray.ext
  apply Array.toList_inj.1
  have h1 := suf_data (suf s a) b
  have h2 := suf_data s (a + b)
  unfold suf at h1 h2 ⊢
  rw [h1, h2]
  have h3 := suf_data s a
  unfold suf at h3
  rw [h3, List.drop_drop]
theorem suf_addrs (s : ByteArray) (a b n size : Nat) : addrsL (suf s a) b n size = addrsL s (a + b) n size := by
  unfold addrsL
  refine List.map_congr_left fun i _ => ?_
  rw [suf_ext]
  congr 1 <;> omega
theorem suf_zero (s : ByteArray) : suf s 0 = s := by
  apply ByteArray.ext
  apply Array.toList_inj.1
  rw [suf_data, List.drop_zero]

theorem suf_rec (s : ByteArray) (a Z : Nat) (ha : a ≤ s.size) : recOf (suf s a) 0 Z = recOf s a Z := by
  have hz := suf_size s a
  unfold recOf
  by_cases h : s.size < a + 4 + Z
  · rw [if_pos (by omega), if_pos h]
  · rw [if_neg (by omega), if_neg h]
    have e2 : numv (suf s a) 2 2 = numv s (a + 2 : Nat) 2 := suf_numv s a 2 2 (by omega) (by omega) (by omega)
    have e1 : numv (suf s a) 1 1 = numv s (a + 1 : Nat) 1 := suf_numv s a 1 1 (by omega) (by omega) (by omega)
    have e0 : numv (suf s a) 0 1 = numv s a 1 := suf_numv s a 0 1 (by omega) (by omega) (by omega)
    have eg := suf_ext s a 4 Z
    simp only [Nat.zero_add]
    rw [show ((2 : Nat) : Int) = 2 from rfl, show ((1 : Nat) : Int) = 1 from rfl, show ((0 : Nat) : Int) = 0 from rfl]
    rw [e2, e1, e0, eg, hz, suf_addrs, ← Nat.add_assoc a 4 Z]
    by_cases h2 : s.size < a + (4 + Z + (numv s (a + 2 : Nat) 2).toNat * Z + 4 * (numv s (a + 1 : Nat) 1).toNat)
    · rw [if_pos (by omega), if_pos h2]
    · rw [if_neg (by omega), if_neg h2]

/-- What recOf says, case by case. -/
theorem rec_cases (T : ByteArray) (Z : Nat) (hZ : Z ≤ 16) :
    (T.size < 4 + Z ∧ recOf T 0 Z = (2, ⟨0, ⟨#[]⟩, []⟩, 0)) ∨
    (∃ C N : Nat, 4 + Z ≤ T.size ∧ numv T 2 2 = C ∧ byt T 1 = N ∧ C ≤ 65535 ∧ N ≤ 255 ∧ C * Z ≤ 1048560 ∧
      ((T.size < 4 + Z + C * Z + 4 * N ∧ recOf T 0 Z = (2, ⟨0, ⟨#[]⟩, []⟩, 0)) ∨
       (4 + Z + C * Z + 4 * N ≤ T.size ∧ 60 < C ∧ recOf T 0 Z = (3, ⟨0, ⟨#[]⟩, []⟩, 0)) ∨
       (4 + Z + C * Z + 4 * N ≤ T.size ∧ C ≤ 60 ∧ grpB (T.extract 4 (4 + Z)) Z = false ∧ recOf T 0 Z = (3, ⟨0, ⟨#[]⟩, []⟩, 0)) ∨
       (4 + Z + C * Z + 4 * N ≤ T.size ∧ C ≤ 60 ∧ grpB (T.extract 4 (4 + Z)) Z = true ∧ recOf T 0 Z = (0, ⟨byt T 0, T.extract 4 (4 + Z), addrsL T (4 + Z) C Z⟩, 4 + Z + C * Z + 4 * N)))) := by
  by_cases h : T.size < 4 + Z
  · exact .inl ⟨h, by unfold recOf; rw [if_pos (by omega)]⟩
  · refine .inr ?_
    have b2 := numv_le2 T 2
    have b1 := numv_le1 T 1
    obtain ⟨C, hC⟩ := Int.eq_ofNat_of_zero_le b2.1
    have hN : numv T 1 1 = (byt T 1 : Int) := by
      have := numv_byte T 1 (by omega)
      rw [byt_get T 1 (by omega)] at this
      exact this
    have h0 : numv T 0 1 = (byt T 0 : Int) := by
      have := numv_byte T 0 (by omega)
      rw [byt_get T 0 (by omega)] at this
      exact this
    rw [hN] at b1
    rw [hC] at b2
    refine ⟨C, byt T 1, by omega, hC, rfl, by omega, by omega, Nat.le_trans (Nat.mul_le_mul (show C ≤ 65535 by omega) hZ) (by omega), ?_⟩
    have e : recOf T 0 Z = if T.size < 0 + 4 + Z then (2, ⟨0, ⟨#[]⟩, []⟩, 0) else if T.size < 4 + Z + C * Z + 4 * byt T 1 then (2, ⟨0, ⟨#[]⟩, []⟩, 0) else if 60 < C ∨ grpB (T.extract 4 (4 + Z)) Z = false then (3, ⟨0, ⟨#[]⟩, []⟩, 0) else (0, ⟨byt T 0, T.extract 4 (4 + Z), addrsL T (4 + Z) C Z⟩, 4 + Z + C * Z + 4 * byt T 1) := by
      unfold recOf
      simp only [Nat.zero_add]
      rw [show ((2 : Nat) : Int) = 2 from rfl, show ((1 : Nat) : Int) = 1 from rfl, show ((0 : Nat) : Int) = 0 from rfl, hC, hN, h0]
      simp only [Int.toNat_natCast]
    rw [if_neg (by omega)] at e
    by_cases h1 : T.size < 4 + Z + C * Z + 4 * byt T 1
    · rw [if_pos h1] at e
      exact .inl ⟨h1, e⟩
    · rw [if_neg h1] at e
      by_cases h2 : 60 < C
      · rw [if_pos (.inl h2)] at e
        exact .inr (.inl ⟨by omega, h2, e⟩)
      · rcases hg : grpB (T.extract 4 (4 + Z)) Z with _ | _
        · rw [if_pos (.inr hg)] at e
          exact .inr (.inr (.inl ⟨by omega, by omega, rfl, e⟩))
        · rw [if_neg (by rw [hg]; simp; omega)] at e
          exact .inr (.inr (.inr ⟨by omega, by omega, rfl, e⟩))

theorem cells3s (w : World) (b o : Nat) (v x y z : Value) (t : TypeId) : ∀ j u, [x, y, z][j]? = some u → ((w.setCell ⟨b, o, none⟩ v).alloc (.cells #[x, y, z] t)).cell? ((⟨w.heap.size, 0, none⟩ : Addr).add j) = some u := by
  intro j u hj
  have hb : ((w.setCell ⟨b, o, none⟩ v).alloc (.cells #[x, y, z] t)).heap[w.heap.size]? = some (.cells #[x, y, z] t (0, 0)) := by
    have := heap_new (w.setCell ⟨b, o, none⟩ v) (.cells #[x, y, z] t)
    simpa using this
  have e : (⟨w.heap.size, 0, none⟩ : Addr).add j = ⟨w.heap.size, j, none⟩ := by unfold Addr.add; split <;> simp_all
  rw [e]
  exact cell_of_block hb (by simpa using hj)
theorem Box.set {w0 w : World} {xs : Array Value} {t : TypeId} (h : Box w0 w xs t) (j : Nat) (v : Value) : Box w0 (w.setCell ⟨w0.heap.size, j, none⟩ v) (xs.setIfInBounds j v) t :=
  ⟨heap_store h.1, h.2.setCell (p := ⟨w0.heap.size, j, none⟩) (Nat.le_refl _) _⟩

end Go.Proofs.Ytfdiaaggmjlkbaa
