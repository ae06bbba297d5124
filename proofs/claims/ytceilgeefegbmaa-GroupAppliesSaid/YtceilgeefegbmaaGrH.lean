/-
  The change's hurry. A contract over the translated program.
-/
import Derived.Test.YtceilgeefegbmaaGrD
import Derived.StillTailTactics
namespace Go.Proofs.Ytceilgeefegbmaa
open Go Go.Maps Go.WideMaps
open Go.RowKit
set_option linter.unusedVariables false
set_option linter.unusedSimpArgs false

/-- All of a list end sooner. -/
def hurL (L : List T3) (l : List ByteArray) (e : Int) : List T3 := l.foldl (fun L s => putT L (ky s) (min (getT L (ky s)) e)) L
theorem hur_take {l : List ByteArray} {k : Nat} {s : ByteArray} (L : List T3) (e : Int) (h : l[k]? = some s) : hurL L (l.take (k + 1)) e = putT (hurL L (l.take k) e) (ky s) (min (getT (hurL L (l.take k) e) (ky s)) e) := by
  rw [List.take_succ_eq_append_getElem (List.getElem?_eq_some_iff.1 h).1, (List.getElem?_eq_some_iff.1 h).2]
  simp [hurL]
theorem hur_len (e : Int) : ∀ (l : List ByteArray) (L : List T3), (hurL L l e).length ≤ L.length + l.length
  | [], L => by simp [hurL]
  | s :: r, L => by
    have h1 := hur_len e r (putT L (ky s) (min (getT L (ky s)) e))
    have h2 := put_len L (ky s) (min (getT L (ky s)) e)
    have h3 : hurL L (s :: r) e = hurL (putT L (ky s) (min (getT L (ky s)) e)) r e := rfl
    rw [h3, List.length_cons]
    omega

set_option maxHeartbeats 4000000 in
set_option maxRecDepth 100000 in
theorem hurry_c {w : World} {c mb : Nat} {ex : Bool} {tm : Int} {tv av : Value} {ag : Bool} {L : List T3} (h : Ch w c mb ex tm tv ag av L) (l : List ByteArray) (e : Int) (hL : L.length + l.length ≤ 1000000) (ha : AddrsAt w av l) (hs : ∀ s ∈ l, s.size ≤ maxLen) : Calls Try.prog 32 #[.pointer (some ⟨c, 0, none⟩), .int .i64 e] w fun r w' => r = .returned (.tuple #[]) ∧ Ch w' c mb ex (if ag then min tm e else tm) tv ag av (hurL L l e) ∧ Tw w w' c mb := by
  have HC0 := Lib.hid h
  have HS := Lib.hid hs
  have c5 := h.c5
  obtain ⟨p, cap, b, off, rfl, hp, hc⟩ := ha
  have HP := Lib.hid hp
  have HC := Lib.hid hc
  obtain ⟨n, hn⟩ : ∃ n, n = l.length := ⟨_, rfl⟩
  have HNN := Lib.hid hn
  rw [← hn] at hL c5 HC0 ⊢
  have hnb : n ≤ 1000000 := by omega
  clear hp hc hn h hs
  go_enter Try.func32, Try.ntmps32
  go_wp2_with fail
  go_loopw [5, 12] (fun _ i wr => ∃ k : Nat, k ≤ n ∧ i = .int .i64 k ∧ Hid (Ch wr c mb ex tm tv ag (.slice p n cap) (hurL L (l.take k) e)) ∧ Hid (Tw w wr c mb) ∧ Hid (∀ j s, l[j]? = some s → wr.cell? ⟨b, off + j, none⟩ = some (.string s))) (fun _ i _ => n - (intOf i).toNat)
  case atStart => exact ⟨0, Nat.zero_le _, rfl, HC0, Lib.hid (Tw.refl _ _ _), HC⟩
  case round =>
    clear c5
    obtain ⟨k, hk, rfl, HH, HT, HR⟩ := hrel
    by_cases hlt : k < n
    · obtain ⟨s, hx⟩ : ∃ s, l[k]? = some s := ⟨_, List.getElem?_eq_getElem (by rw [← HNN.out]; exact hlt)⟩
      have hne : l ≠ [] := by rintro rfl; simp at hx
      obtain rfl := (HP.out hne).1
      have HTK := Lib.hid (hur_take L e hx)
      have hkey := Lib.hid (keyA s (HS.out s (List.mem_of_getElem? hx)))
      have HLN := Lib.hid (show (hurL L (l.take k) e).length < maxLen by have h1 := hur_len e (l.take k) L; rw [List.length_take] at h1; unfold maxLen; omega)
      have x0 : wr.cell? ⟨b, off + k, none⟩ = some (.string s) := HR.out k s hx
      have d1 : decide (k < n) = true := decide_eq_true hlt
      have d2 : decide ((k : Int) < (n : Int)) = true := decide_eq_true (by omega)
      have d3 : decide (n ≤ k) = false := decide_eq_false (by omega)
      have d4 : decide (0 ≤ (k : Int)) = true := decide_eq_true (by omega)
      clear hx hne
      generalize hurL L (l.take k) e = Lk at HH HTK HLN
      go_upto_region 3 with fail
      have c2 := HH.out.c2
      have lk := HH.out.2.look1 law_KA und_MA (zero_IA _) hkey.out
      have lkd := (show Mp wr.drew Try.prog 25 mb Lk from HH.out.2).look1 law_KA und_MA (zero_IA _) hkey.out
      unfold tmV at lk lkd
      generalize getT Lk (ky s) = old at HTK lk lkd
      go_still_tail 13, (by kernel_rfl)
      change wpList _ _ _ _ _ wr.drew
      have HH2 := Lib.hid (show Ch wr.drew c mb ex tm tv ag (.slice (some ⟨b, off, none⟩) n cap) Lk from HH.out)
      have hm := Lib.hid HH2.out.2
      clear lk lkd c2 x0 d1 d2 d3 d4
      go_wp2_with (first | (at_mapUpdate; refine wpList_store_mp _ rfl _ _ _ 69 rfl 25 3 law_KA und_MA mb Lk rfl hm.out HLN.out _ _ _ rfl rfl hkey.out ?_; intro w5 hm5 ht5) | go_in)
      have HH5 := Lib.hid (HH2.out.turn hm5 ht5)
      have HT5 := Lib.hid ((HT.out.trans (show Tw wr wr.drew c mb from ⟨rfl, rfl, rfl, Nat.le_refl _, fun _ _ _ _ => rfl⟩)).trans (Tw.turned (w := wr.drew) (p := c) ht5))
      have HR5 := Lib.hid (fun j s hj => cell_turn hm.out ht5 (show wr.drew.cell? ⟨b, off + j, none⟩ = some (.string s) from HR.out j s hj))
      go_roundw
      case rel => exact ⟨k + 1, by omega, by go_num, Lib.hid (by rw [HTK.out]; exact HH5.out), HT5, HR5⟩
      case measure => simp [intOf]; omega
    · obtain rfl : k = n := by omega
      rw [List.take_of_length_le (by rw [HNN.out]; exact Nat.le_refl _)] at HH
      clear hlt
      have c4 := HH.out.c4
      have c1 := HH.out.c1
      have f1 := HH.out.fz 1
      rcases Bool.eq_false_or_eq_true ag with rfl | rfl
      · have HH7 := Lib.hid (show Ch (wr.setCell ⟨c, 1, none⟩ (.int .i64 (min tm e))) c mb ex (min tm e) tv true (.slice p k cap) (hurL L l e) from ⟨heap_store (j := 1) (v := .int .i64 (min tm e)) HH.out.1, HH.out.2.setCell HH.out.ne _⟩)
        have HT7 := Lib.hid (HT.out.trans (Tw.setCell wr c mb 1 (.int .i64 (min tm e))))
        clear HH
        go_wp2_with fail
        exact bodyPost_end (v := .tuple #[]) (by simp [results, Try.results32, go_sem]) rfl ⟨rfl, HH7.out, HT7.out⟩
      · go_wp2_with fail
        exact bodyPost_end (v := .tuple #[]) (by simp [results, Try.results32, go_sem]) rfl ⟨rfl, HH.out, HT.out⟩
end Go.Proofs.Ytceilgeefegbmaa
