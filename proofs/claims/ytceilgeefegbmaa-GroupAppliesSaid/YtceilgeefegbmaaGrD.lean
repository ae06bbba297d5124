/-
  The change of group.Apply: what its block holds; runs, unknown, put. Contracts over the translated program.
-/
import Derived.Test.YtceilgeefegbmaaGrM
import Derived.Test.YtceilgeefegbmaaGrA
import Derived.StringKeys
namespace Go.Proofs.Ytceilgeefegbmaa
open Go Go.Maps Go.WideMaps
open Go.RowKit
set_option linter.unusedVariables false
set_option linter.unusedSimpArgs false

theorem und_KA : Try.prog.underlying 25 = some (.string) := by kernel_rfl
theorem und_MA : Try.prog.underlying 69 = some (.map 25 3) := by kernel_rfl
theorem law_KA : Keyed Try.prog 25 := string_keyed und_KA
theorem zero_IA (w : World) : (zeroValue 3).run Try.prog w = .ok (tmV 0) w := by kernel_rfl
theorem keyA (s : ByteArray) (hs : s.size ≤ maxLen) : keyOf Try.prog 25 (.string s) = some (.string s.data.toList) := keyOf_string_mk und_KA hs
/-- A source as a key. -/
abbrev ky (s : ByteArray) : Lit := .string s.data.toList

/-- THE CHANGE AT BLOCK c: its fields; its map (at block mb) holds L. -/
def Ch (w : World) (c mb : Nat) (ex : Bool) (tm : Int) (tv : Value) (ag : Bool) (av : Value) (L : List T3) : Prop :=
  w.heap[c]? = some (.cells #[.bool ex, .int .i64 tm, .map (some mb), tv, .bool ag, av] 71 (0, 0)) ∧ Mp w Try.prog 25 mb L
theorem Ch.c0 {w : World} {c mb : Nat} {ex : Bool} {tm : Int} {tv av : Value} {ag : Bool} {L : List T3} (h : Ch w c mb ex tm tv ag av L) : w.cell? ⟨c, 0, none⟩ = some (.bool ex) := by simp [World.cell?, h.1]
theorem Ch.c1 {w : World} {c mb : Nat} {ex : Bool} {tm : Int} {tv av : Value} {ag : Bool} {L : List T3} (h : Ch w c mb ex tm tv ag av L) : w.cell? ⟨c, 1, none⟩ = some (.int .i64 tm) := by simp [World.cell?, h.1]
theorem Ch.c2 {w : World} {c mb : Nat} {ex : Bool} {tm : Int} {tv av : Value} {ag : Bool} {L : List T3} (h : Ch w c mb ex tm tv ag av L) : w.cell? ⟨c, 2, none⟩ = some (.map (some mb)) := by simp [World.cell?, h.1]
theorem Ch.c3 {w : World} {c mb : Nat} {ex : Bool} {tm : Int} {tv av : Value} {ag : Bool} {L : List T3} (h : Ch w c mb ex tm tv ag av L) : w.cell? ⟨c, 3, none⟩ = some tv := by simp [World.cell?, h.1]
theorem Ch.c4 {w : World} {c mb : Nat} {ex : Bool} {tm : Int} {tv av : Value} {ag : Bool} {L : List T3} (h : Ch w c mb ex tm tv ag av L) : w.cell? ⟨c, 4, none⟩ = some (.bool ag) := by simp [World.cell?, h.1]
theorem Ch.c5 {w : World} {c mb : Nat} {ex : Bool} {tm : Int} {tv av : Value} {ag : Bool} {L : List T3} (h : Ch w c mb ex tm tv ag av L) : w.cell? ⟨c, 5, none⟩ = some av := by simp [World.cell?, h.1]
theorem Ch.fz {w : World} {c mb : Nat} {ex : Bool} {tm : Int} {tv av : Value} {ag : Bool} {L : List T3} (h : Ch w c mb ex tm tv ag av L) (j : Nat) : w.frozen? ⟨c, j, none⟩ = false := by simp [World.frozen?, h.1]
theorem Ch.lt {w : World} {c mb : Nat} {ex : Bool} {tm : Int} {tv av : Value} {ag : Bool} {L : List T3} (h : Ch w c mb ex tm tv ag av L) : c < w.heap.size := (Array.getElem?_eq_some_iff.1 h.1).1
theorem Ch.ne {w : World} {c mb : Nat} {ex : Bool} {tm : Int} {tv av : Value} {ag : Bool} {L : List T3} (h : Ch w c mb ex tm tv ag av L) : mb ≠ c := by
  obtain ⟨h1, l, _, es, clock, h2, _⟩ := h
  intro e
  rw [e, h1] at h2
  cases h2
theorem Ch.ofHeap {w : World} {c mb : Nat} {ex : Bool} {tm : Int} {tv av : Value} {ag : Bool} {L : List T3} {w' : World} (h : Ch w c mb ex tm tv ag av L) (h1 : w'.heap[c]? = w.heap[c]?) (h2 : w'.heap[mb]? = w.heap[mb]?) : Ch w' c mb ex tm tv ag av L :=
  ⟨h1.trans h.1, h.2.ofHeap h2⟩
theorem Ch.below {w : World} {c mb : Nat} {ex : Bool} {tm : Int} {tv av : Value} {ag : Bool} {L : List T3} {w' : World} (h : Ch w c mb ex tm tv ag av L) (k : Below w.heap.size w w') : Ch w' c mb ex tm tv ag av L :=
  h.ofHeap (k.block c h.lt) (k.block mb h.2.lt)
theorem Ch.turn {w : World} {c mb : Nat} {ex : Bool} {tm : Int} {tv av : Value} {ag : Bool} {L : List T3} {w' : World} {L' : List T3} (h : Ch w c mb ex tm tv ag av L) (hm : Mp w' Try.prog 25 mb L') (ht : w.mapTurned w' mb) : Ch w' c mb ex tm tv ag av L' := by
  have h1 := h.1
  have e := (Tw.turned (p := w.heap.size) ht).block c h.lt (by have := h.lt; omega) (Ne.symm h.ne)
  exact ⟨e.trans h1, hm⟩
/-- Cells of a row beside a map. -/
theorem cell_turn {w w' : World} {k : TypeId} {mb b o : Nat} {v : Value} {L : List T3} (hm : Mp w Try.prog k mb L) (ht : w.mapTurned w' mb) (hc : w.cell? ⟨b, o, none⟩ = some v) : w'.cell? ⟨b, o, none⟩ = some v := by
  have hne : b ≠ mb := by
    rintro rfl
    obtain ⟨l, _, es, clock, h2, _⟩ := hm
    simp [World.cell?, h2] at hc
  have e := (Tw.turned (p := w.heap.size) ht).block b (gcell_lt hc) (by have := gcell_lt hc; omega) hne
  unfold World.cell? at hc ⊢
  simp only at hc ⊢
  rw [e]
  exact hc

set_option maxHeartbeats 2000000 in
set_option maxRecDepth 100000 in
theorem runs_c {w : World} {c mb : Nat} {ex : Bool} {tm : Int} {tv av : Value} {ag : Bool} {L : List T3} (h : Ch w c mb ex tm tv ag av L) (s : ByteArray) (hs : s.size ≤ maxLen) : Calls Try.prog 44 #[.pointer (some ⟨c, 0, none⟩), .string s] w fun e w' => e = .returned (.bool (decide (0 < getT L (ky s)))) ∧ w' = w := by
  have c2 := h.c2
  have hm := Lib.hid h.2
  have hkey := Lib.hid (keyA s hs)
  clear h
  go_enter Try.func44, Try.ntmps44
  go_wp2_with (first | (at_lookup; refine wpList_look1_mp _ rfl _ _ 69 rfl 25 3 law_KA und_MA (zero_IA _) mb L rfl hm.out _ _ rfl hkey.out ?_) | go_in)
  all_goals (go_ret; exact ⟨rfl, rfl⟩)

set_option maxHeartbeats 2000000 in
set_option maxRecDepth 100000 in
theorem unknown_c {w : World} {c mb : Nat} {ex : Bool} {tm : Int} {tv av : Value} {ag : Bool} {L : List T3} (h : Ch w c mb ex tm tv ag av L) (s : ByteArray) (hs : s.size ≤ maxLen) : Calls Try.prog 48 #[.pointer (some ⟨c, 0, none⟩), .string s] w fun e w' => e = .returned (.bool (!hasT L (ky s))) ∧ w' = w := by
  have c2 := h.c2
  have hm := Lib.hid h.2
  have hkey := Lib.hid (keyA s hs)
  clear h
  go_enter Try.func48, Try.ntmps48
  go_wp2_with (first | (at_lookup; refine wpList_look_mp _ rfl _ _ 69 rfl 25 3 law_KA und_MA (zero_IA _) mb L rfl hm.out _ _ rfl hkey.out ?_) | go_in)
  go_ret
  exact ⟨rfl, rfl⟩

/-- All of a list stored. -/
def putL (L : List T3) (l : List ByteArray) (e : Int) : List T3 := l.foldl (fun L s => putT L (ky s) e) L
theorem put_len (L : List T3) (k : Lit) (e : Int) : (putT L k e).length ≤ L.length + 1 := by
  unfold putT delT
  have := List.length_filter_le (fun x : T3 => !x.1.sameKey k) L
  simp
  omega
theorem putL_take {l : List ByteArray} {k : Nat} {s : ByteArray} (L : List T3) (e : Int) (h : l[k]? = some s) : putL L (l.take (k + 1)) e = putT (putL L (l.take k) e) (ky s) e := by
  rw [List.take_succ_eq_append_getElem (List.getElem?_eq_some_iff.1 h).1, (List.getElem?_eq_some_iff.1 h).2]
  simp [putL]
theorem putL_len (e : Int) : ∀ (l : List ByteArray) (L : List T3), (putL L l e).length ≤ L.length + l.length
  | [], L => by simp [putL]
  | s :: r, L => by
    have h1 := putL_len e r (putT L (ky s) e)
    have h2 := put_len L (ky s) e
    have h3 : putL L (s :: r) e = putL (putT L (ky s) e) r e := rfl
    rw [h3, List.length_cons]
    omega

set_option maxHeartbeats 4000000 in
set_option maxRecDepth 100000 in
theorem put_c {w : World} {c mb : Nat} {ex : Bool} {tm : Int} {tv av : Value} {ag : Bool} {L : List T3} (h : Ch w c mb ex tm tv ag av L) (v : Value) (l : List ByteArray) (e : Int) (hL : L.length + l.length ≤ 1000000) (ha : AddrsAt w v l) (hs : ∀ s ∈ l, s.size ≤ maxLen) : Calls Try.prog 46 #[.pointer (some ⟨c, 0, none⟩), v, .int .i64 e] w fun r w' => r = .returned (.tuple #[]) ∧ Ch w' c mb ex tm tv ag av (putL L l e) ∧ Tw w w' c mb := by
  have HC0 := Lib.hid h
  have HS := Lib.hid hs
  obtain ⟨p, cap, b, off, rfl, hp, hc⟩ := ha
  have HP := Lib.hid hp
  have HC := Lib.hid hc
  obtain ⟨n, hn⟩ : ∃ n, n = l.length := ⟨_, rfl⟩
  have HNN := Lib.hid hn
  rw [← hn] at hL ⊢
  have hnb : n ≤ 1000000 := by omega
  clear hp hc hn h hs
  go_enter Try.func46, Try.ntmps46
  go_wp2_with fail
  go_loopw [7, 10] (fun _ i wr => ∃ k : Nat, k ≤ n ∧ i = .int .i64 k ∧ Hid (Ch wr c mb ex tm tv ag av (putL L (l.take k) e)) ∧ Hid (Tw w wr c mb) ∧ Hid (∀ j s, l[j]? = some s → wr.cell? ⟨b, off + j, none⟩ = some (.string s))) (fun _ i _ => n - (intOf i).toNat)
  case atStart => exact ⟨0, Nat.zero_le _, rfl, HC0, Lib.hid (Tw.refl _ _ _), HC⟩
  case round =>
    obtain ⟨k, hk, rfl, HH, HT, HR⟩ := hrel
    by_cases hlt : k < n
    · obtain ⟨s, hx⟩ : ∃ s, l[k]? = some s := ⟨_, List.getElem?_eq_getElem (by rw [← HNN.out]; exact hlt)⟩
      have hne : l ≠ [] := by rintro rfl; simp at hx
      obtain rfl := (HP.out hne).1
      have HTK := Lib.hid (putL_take L e hx)
      have hkey := Lib.hid (keyA s (HS.out s (List.mem_of_getElem? hx)))
      have HLN := Lib.hid (show (putL L (l.take k) e).length < maxLen by have h1 := putL_len e (l.take k) L; rw [List.length_take] at h1; unfold maxLen; omega)
      have x0 : wr.cell? ⟨b, off + k, none⟩ = some (.string s) := HR.out k s hx
      have c2 := HH.out.c2
      have hm := Lib.hid HH.out.2
      have d1 : decide (k < n) = true := decide_eq_true hlt
      have d2 : decide ((k : Int) < (n : Int)) = true := decide_eq_true (by omega)
      have d3 : decide (n ≤ k) = false := decide_eq_false (by omega)
      have d4 : decide (0 ≤ (k : Int)) = true := decide_eq_true (by omega)
      clear hx hne
      generalize putL L (l.take k) e = Lk at HH HTK HLN hm
      go_wp2_with (first | (at_mapUpdate; refine wpList_store_mp _ rfl _ _ _ 69 rfl 25 3 law_KA und_MA mb Lk rfl hm.out HLN.out _ _ _ rfl rfl hkey.out ?_; intro w5 hm5 ht5) | go_in)
      have HH5 := Lib.hid (HH.out.turn hm5 ht5)
      have HT5 := Lib.hid (HT.out.trans (Tw.turned (p := c) ht5))
      have HR5 := Lib.hid (fun j s hj => cell_turn hm.out ht5 (HR.out j s hj))
      go_roundw
      case rel => exact ⟨k + 1, by omega, by go_num, Lib.hid (by rw [HTK.out]; exact HH5.out), HT5, HR5⟩
      case measure => simp [intOf]; omega
    · obtain rfl : k = n := by omega
      rw [List.take_of_length_le (by rw [HNN.out]; exact Nat.le_refl _)] at HH
      clear hlt
      go_wp2_with fail
      exact bodyPost_end (v := .tuple #[]) (by simp [results, Try.results46, go_sem]) rfl ⟨rfl, HH.out, HT.out⟩
end Go.Proofs.Ytceilgeefegbmaa
