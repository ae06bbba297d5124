/-
  'group.only' at a method value. A contract over the translated program.
-/
import Derived.Test.YtceilgeefegbmaaGrD
import Derived.Test.YtceilgeefegbmaaGrK
namespace Go.Proofs.Ytceilgeefegbmaa
open Go Go.Maps Go.WideMaps
open Go.RowKit
set_option linter.unusedVariables false
set_option linter.unusedSimpArgs false

theorem keep_str {f : ByteArray → Bool} {l : List ByteArray} {k : Nat} {s : ByteArray} (h : l[k]? = some s) : ((l.take (k + 1)).filter f).map Value.string = ((l.take k).filter f).map Value.string ++ (if f s then [.string s] else []) := by
  rw [List.take_succ_eq_append_getElem (List.getElem?_eq_some_iff.1 h).1, (List.getElem?_eq_some_iff.1 h).2, List.filter_append, List.filter_cons]
  split <;> simp

set_option maxHeartbeats 8000000 in
set_option maxRecDepth 100000 in
theorem onlyR_c (c : Nat) (f : ByteArray → Bool) (v : Value) (l : List ByteArray) (w : World) (hl : l.length ≤ 1000000) (ha : AddrsAt w v l)
    (hF : ∀ (s : ByteArray) (U : World), s ∈ l → Below w.heap.size w U → Calls Try.prog 44 #[.pointer (some ⟨c, 0, none⟩), .string s] U fun e w' => e = .returned (.bool (f s)) ∧ Below U.heap.size U w') :
    Calls Try.prog 42 #[v, .func (.func 44) #[.pointer (some ⟨c, 0, none⟩)] #[]] w fun e w' => ∃ u, e = .returned u ∧ AddrsG w.heap.size true w' u (l.filter f) ∧ Below w.heap.size w w' := by
  have HF := Lib.hid hF
  obtain ⟨p, cap, b, off, rfl, hp, hc⟩ := ha
  have HP := Lib.hid hp
  have HC := Lib.hid hc
  obtain ⟨i0, hi0, hz0, hz1, hz2⟩ := info_parts info_Ad
  obtain ⟨n, hn⟩ : ∃ n, n = l.length := ⟨_, rfl⟩
  have HNN := Lib.hid hn
  rw [← hn] at hl ⊢
  clear hp hc hn hF
  go_enter Try.func42, Try.ntmps42
  go_wp2_with fail
  go_loopw [5, 7, 10] (fun s5 _ i wr => ∃ (k m : Nat), k ≤ n ∧ m ≤ k ∧ i = .int .i64 k ∧ Hid (wr.ownsRow w.heap.size 25 1 s5 m (((l.take k).filter f).map Value.string)) ∧ Hid (Below w.heap.size w wr)) (fun _ _ i _ => n - (intOf i).toNat)
  case atStart => exact ⟨0, 0, Nat.zero_le _, Nat.le_refl _, rfl, Lib.hid (World.ownsRow_nil _ _ _ _), Lib.hid (Below.refl _ _)⟩
  case round =>
    obtain ⟨k, m, hk, hmk, rfl, HO, KB⟩ := hrel
    by_cases hlt : k < n
    · obtain ⟨s, hx⟩ : ∃ s, l[k]? = some s := ⟨_, List.getElem?_eq_getElem (by rw [← HNN.out]; exact hlt)⟩
      have hne : l ≠ [] := by rintro rfl; simp at hx
      obtain rfl := (HP.out hne).1
      have HTK := Lib.hid (keep_str (f := f) hx)
      have FC := Lib.hid (HF.out s wr (List.mem_of_getElem? hx) KB.out)
      have x0 : wr.cell? ⟨b, off + k, none⟩ = some (.string s) := gcell_below KB.out (HC.out k s hx)
      have d1 : decide (k < n) = true := decide_eq_true hlt
      have d2 : decide ((k : Int) < (n : Int)) = true := decide_eq_true (by omega)
      have d3 : decide (n ≤ k) = false := decide_eq_false (by omega)
      have d4 : decide (0 ≤ (k : Int)) = true := decide_eq_true (by omega)
      clear hx hne
      rcases Bool.eq_false_or_eq_true (f s) with hf | hf
      · rw [hf] at FC
        have HT2 := Lib.hid (show ((l.take (k + 1)).filter f).map Value.string = ((l.take k).filter f).map Value.string ++ [.string s] by rw [HTK.out, hf]; rfl)
        clear HTK hf
        go_wp2_with fail
        ((with_reducible refine FC.out.mono ?_); rintro e w3 ⟨rfl, k3⟩)
        have HO3 := Lib.hid (g_below HO.out k3)
        have KB3 := Lib.hid (KB.out.trans (k3.mono KB.out.size))
        clear x0 FC k3 HO KB
        go_upto_region 6 with fail
        have NEW := Lib.hid (g_new w3 [.string s] 25)
        have HO5 := Lib.hid (HO3.out.alloc (.cells #[.string s] 25))
        have K5 := Lib.hid (KB3.out.alloc KB3.out.size (.cells #[.string s] 25))
        have n11 := Lib.hid (show m + 1 ≤ maxLen by unfold maxLen; omega)
        have n22 := Lib.hid (show (m + 1) * 16 ≤ 140737488355328 by omega)
        have n33 := Lib.hid (show w.heap.size ≤ (w3.alloc (.cells #[.string s] 25)).heap.size from K5.out.size)
        have oc := Lib.hid (one_str s)
        clear HO3 KB3
        go_wp2_with (at_builtin; refine wpList_append_own _ rfl _ _ 35 rfl w.heap.size 25 i0 (.string ByteArray.empty) 1 16 Try.underlying35 hi0 hz0 hz1 hz2 rfl (by decide) _ _ _ rfl HO5.out ⟨w3.heap.size, 0, none⟩ 1 1 [.string s] rfl rfl NEW.out oc.out n11.out n22.out n33.out ?_)
        intro v' w6 hown' hgrow _
        have HO6 := Lib.hid hown'
        have K6 := Lib.hid (K5.out.grown hgrow n33.out (fun j hj => (HO5.out.lt j hj).1))
        clear hown' hgrow HO5 K5 NEW
        go_wp2_with fail
        go_roundw
        case rel => exact ⟨k + 1, m + 1, by omega, by omega, by go_num, Lib.hid (by rw [HT2.out]; exact HO6.out), K6⟩
        case measure => simp [intOf]; omega
      · rw [hf] at FC
        have HT2 := Lib.hid (show ((l.take (k + 1)).filter f).map Value.string = ((l.take k).filter f).map Value.string by rw [HTK.out, hf]; simp)
        clear HTK hf
        go_wp2_with fail
        ((with_reducible refine FC.out.mono ?_); rintro e w3 ⟨rfl, k3⟩)
        have HO3 := Lib.hid (g_below HO.out k3)
        have KB3 := Lib.hid (KB.out.trans (k3.mono KB.out.size))
        clear x0 FC k3 HO KB
        go_wp2_with fail
        go_roundw
        case rel => exact ⟨k + 1, m, by omega, by omega, by go_num, Lib.hid (by rw [HT2.out]; exact HO3.out), KB3⟩
        case measure => simp [intOf]; omega
    · obtain rfl : k = n := by omega
      rw [List.take_of_length_le (by rw [HNN.out]; exact Nat.le_refl _)] at HO
      have HA := Lib.hid (AddrsG.of_owns HO.out)
      clear hlt
      go_wp2_with fail
      go_ret
      exact ⟨_, rfl, HA.out, KB.out⟩

set_option maxHeartbeats 8000000 in
set_option maxRecDepth 100000 in
theorem onlyT_c (c : Nat) (f : ByteArray → Bool) (v : Value) (l : List ByteArray) (w : World) (hl : l.length ≤ 1000000) (ha : AddrsAt w v l)
    (hF : ∀ (s : ByteArray) (U : World), s ∈ l → Below w.heap.size w U → Calls Try.prog 45 #[.pointer (some ⟨c, 0, none⟩), .string s] U fun e w' => e = .returned (.bool (f s)) ∧ Below U.heap.size U w') :
    Calls Try.prog 42 #[v, .func (.func 45) #[.pointer (some ⟨c, 0, none⟩)] #[]] w fun e w' => ∃ u, e = .returned u ∧ AddrsG w.heap.size true w' u (l.filter f) ∧ Below w.heap.size w w' := by
  have HF := Lib.hid hF
  obtain ⟨p, cap, b, off, rfl, hp, hc⟩ := ha
  have HP := Lib.hid hp
  have HC := Lib.hid hc
  obtain ⟨i0, hi0, hz0, hz1, hz2⟩ := info_parts info_Ad
  obtain ⟨n, hn⟩ : ∃ n, n = l.length := ⟨_, rfl⟩
  have HNN := Lib.hid hn
  rw [← hn] at hl ⊢
  clear hp hc hn hF
  go_enter Try.func42, Try.ntmps42
  go_wp2_with fail
  go_loopw [5, 7, 10] (fun s5 _ i wr => ∃ (k m : Nat), k ≤ n ∧ m ≤ k ∧ i = .int .i64 k ∧ Hid (wr.ownsRow w.heap.size 25 1 s5 m (((l.take k).filter f).map Value.string)) ∧ Hid (Below w.heap.size w wr)) (fun _ _ i _ => n - (intOf i).toNat)
  case atStart => exact ⟨0, 0, Nat.zero_le _, Nat.le_refl _, rfl, Lib.hid (World.ownsRow_nil _ _ _ _), Lib.hid (Below.refl _ _)⟩
  case round =>
    obtain ⟨k, m, hk, hmk, rfl, HO, KB⟩ := hrel
    by_cases hlt : k < n
    · obtain ⟨s, hx⟩ : ∃ s, l[k]? = some s := ⟨_, List.getElem?_eq_getElem (by rw [← HNN.out]; exact hlt)⟩
      have hne : l ≠ [] := by rintro rfl; simp at hx
      obtain rfl := (HP.out hne).1
      have HTK := Lib.hid (keep_str (f := f) hx)
      have FC := Lib.hid (HF.out s wr (List.mem_of_getElem? hx) KB.out)
      have x0 : wr.cell? ⟨b, off + k, none⟩ = some (.string s) := gcell_below KB.out (HC.out k s hx)
      have d1 : decide (k < n) = true := decide_eq_true hlt
      have d2 : decide ((k : Int) < (n : Int)) = true := decide_eq_true (by omega)
      have d3 : decide (n ≤ k) = false := decide_eq_false (by omega)
      have d4 : decide (0 ≤ (k : Int)) = true := decide_eq_true (by omega)
      clear hx hne
      rcases Bool.eq_false_or_eq_true (f s) with hf | hf
      · rw [hf] at FC
        have HT2 := Lib.hid (show ((l.take (k + 1)).filter f).map Value.string = ((l.take k).filter f).map Value.string ++ [.string s] by rw [HTK.out, hf]; rfl)
        clear HTK hf
        go_wp2_with fail
        ((with_reducible refine FC.out.mono ?_); rintro e w3 ⟨rfl, k3⟩)
        have HO3 := Lib.hid (g_below HO.out k3)
        have KB3 := Lib.hid (KB.out.trans (k3.mono KB.out.size))
        clear x0 FC k3 HO KB
        go_upto_region 6 with fail
        have NEW := Lib.hid (g_new w3 [.string s] 25)
        have HO5 := Lib.hid (HO3.out.alloc (.cells #[.string s] 25))
        have K5 := Lib.hid (KB3.out.alloc KB3.out.size (.cells #[.string s] 25))
        have n11 := Lib.hid (show m + 1 ≤ maxLen by unfold maxLen; omega)
        have n22 := Lib.hid (show (m + 1) * 16 ≤ 140737488355328 by omega)
        have n33 := Lib.hid (show w.heap.size ≤ (w3.alloc (.cells #[.string s] 25)).heap.size from K5.out.size)
        have oc := Lib.hid (one_str s)
        clear HO3 KB3
        go_wp2_with (at_builtin; refine wpList_append_own _ rfl _ _ 35 rfl w.heap.size 25 i0 (.string ByteArray.empty) 1 16 Try.underlying35 hi0 hz0 hz1 hz2 rfl (by decide) _ _ _ rfl HO5.out ⟨w3.heap.size, 0, none⟩ 1 1 [.string s] rfl rfl NEW.out oc.out n11.out n22.out n33.out ?_)
        intro v' w6 hown' hgrow _
        have HO6 := Lib.hid hown'
        have K6 := Lib.hid (K5.out.grown hgrow n33.out (fun j hj => (HO5.out.lt j hj).1))
        clear hown' hgrow HO5 K5 NEW
        go_wp2_with fail
        go_roundw
        case rel => exact ⟨k + 1, m + 1, by omega, by omega, by go_num, Lib.hid (by rw [HT2.out]; exact HO6.out), K6⟩
        case measure => simp [intOf]; omega
      · rw [hf] at FC
        have HT2 := Lib.hid (show ((l.take (k + 1)).filter f).map Value.string = ((l.take k).filter f).map Value.string by rw [HTK.out, hf]; simp)
        clear HTK hf
        go_wp2_with fail
        ((with_reducible refine FC.out.mono ?_); rintro e w3 ⟨rfl, k3⟩)
        have HO3 := Lib.hid (g_below HO.out k3)
        have KB3 := Lib.hid (KB.out.trans (k3.mono KB.out.size))
        clear x0 FC k3 HO KB
        go_wp2_with fail
        go_roundw
        case rel => exact ⟨k + 1, m, by omega, by omega, by go_num, Lib.hid (by rw [HT2.out]; exact HO3.out), KB3⟩
        case measure => simp [intOf]; omega
    · obtain rfl : k = n := by omega
      rw [List.take_of_length_le (by rw [HNN.out]; exact Nat.le_refl _)] at HO
      have HA := Lib.hid (AddrsG.of_owns HO.out)
      clear hlt
      go_wp2_with fail
      go_ret
      exact ⟨_, rfl, HA.out, KB.out⟩

set_option maxHeartbeats 8000000 in
set_option maxRecDepth 100000 in
theorem onlyU_c (c : Nat) (f : ByteArray → Bool) (v : Value) (l : List ByteArray) (w : World) (hl : l.length ≤ 1000000) (ha : AddrsAt w v l)
    (hF : ∀ (s : ByteArray) (U : World), s ∈ l → Below w.heap.size w U → Calls Try.prog 48 #[.pointer (some ⟨c, 0, none⟩), .string s] U fun e w' => e = .returned (.bool (f s)) ∧ Below U.heap.size U w') :
    Calls Try.prog 42 #[v, .func (.func 48) #[.pointer (some ⟨c, 0, none⟩)] #[]] w fun e w' => ∃ u, e = .returned u ∧ AddrsG w.heap.size true w' u (l.filter f) ∧ Below w.heap.size w w' := by
  have HF := Lib.hid hF
  obtain ⟨p, cap, b, off, rfl, hp, hc⟩ := ha
  have HP := Lib.hid hp
  have HC := Lib.hid hc
  obtain ⟨i0, hi0, hz0, hz1, hz2⟩ := info_parts info_Ad
  obtain ⟨n, hn⟩ : ∃ n, n = l.length := ⟨_, rfl⟩
  have HNN := Lib.hid hn
  rw [← hn] at hl ⊢
  clear hp hc hn hF
  go_enter Try.func42, Try.ntmps42
  go_wp2_with fail
  go_loopw [5, 7, 10] (fun s5 _ i wr => ∃ (k m : Nat), k ≤ n ∧ m ≤ k ∧ i = .int .i64 k ∧ Hid (wr.ownsRow w.heap.size 25 1 s5 m (((l.take k).filter f).map Value.string)) ∧ Hid (Below w.heap.size w wr)) (fun _ _ i _ => n - (intOf i).toNat)
  case atStart => exact ⟨0, 0, Nat.zero_le _, Nat.le_refl _, rfl, Lib.hid (World.ownsRow_nil _ _ _ _), Lib.hid (Below.refl _ _)⟩
  case round =>
    obtain ⟨k, m, hk, hmk, rfl, HO, KB⟩ := hrel
    by_cases hlt : k < n
    · obtain ⟨s, hx⟩ : ∃ s, l[k]? = some s := ⟨_, List.getElem?_eq_getElem (by rw [← HNN.out]; exact hlt)⟩
      have hne : l ≠ [] := by rintro rfl; simp at hx
      obtain rfl := (HP.out hne).1
      have HTK := Lib.hid (keep_str (f := f) hx)
      have FC := Lib.hid (HF.out s wr (List.mem_of_getElem? hx) KB.out)
      have x0 : wr.cell? ⟨b, off + k, none⟩ = some (.string s) := gcell_below KB.out (HC.out k s hx)
      have d1 : decide (k < n) = true := decide_eq_true hlt
      have d2 : decide ((k : Int) < (n : Int)) = true := decide_eq_true (by omega)
      have d3 : decide (n ≤ k) = false := decide_eq_false (by omega)
      have d4 : decide (0 ≤ (k : Int)) = true := decide_eq_true (by omega)
      clear hx hne
      rcases Bool.eq_false_or_eq_true (f s) with hf | hf
      · rw [hf] at FC
        have HT2 := Lib.hid (show ((l.take (k + 1)).filter f).map Value.string = ((l.take k).filter f).map Value.string ++ [.string s] by rw [HTK.out, hf]; rfl)
        clear HTK hf
        go_wp2_with fail
        ((with_reducible refine FC.out.mono ?_); rintro e w3 ⟨rfl, k3⟩)
        have HO3 := Lib.hid (g_below HO.out k3)
        have KB3 := Lib.hid (KB.out.trans (k3.mono KB.out.size))
        clear x0 FC k3 HO KB
        go_upto_region 6 with fail
        have NEW := Lib.hid (g_new w3 [.string s] 25)
        have HO5 := Lib.hid (HO3.out.alloc (.cells #[.string s] 25))
        have K5 := Lib.hid (KB3.out.alloc KB3.out.size (.cells #[.string s] 25))
        have n11 := Lib.hid (show m + 1 ≤ maxLen by unfold maxLen; omega)
        have n22 := Lib.hid (show (m + 1) * 16 ≤ 140737488355328 by omega)
        have n33 := Lib.hid (show w.heap.size ≤ (w3.alloc (.cells #[.string s] 25)).heap.size from K5.out.size)
        have oc := Lib.hid (one_str s)
        clear HO3 KB3
        go_wp2_with (at_builtin; refine wpList_append_own _ rfl _ _ 35 rfl w.heap.size 25 i0 (.string ByteArray.empty) 1 16 Try.underlying35 hi0 hz0 hz1 hz2 rfl (by decide) _ _ _ rfl HO5.out ⟨w3.heap.size, 0, none⟩ 1 1 [.string s] rfl rfl NEW.out oc.out n11.out n22.out n33.out ?_)
        intro v' w6 hown' hgrow _
        have HO6 := Lib.hid hown'
        have K6 := Lib.hid (K5.out.grown hgrow n33.out (fun j hj => (HO5.out.lt j hj).1))
        clear hown' hgrow HO5 K5 NEW
        go_wp2_with fail
        go_roundw
        case rel => exact ⟨k + 1, m + 1, by omega, by omega, by go_num, Lib.hid (by rw [HT2.out]; exact HO6.out), K6⟩
        case measure => simp [intOf]; omega
      · rw [hf] at FC
        have HT2 := Lib.hid (show ((l.take (k + 1)).filter f).map Value.string = ((l.take k).filter f).map Value.string by rw [HTK.out, hf]; simp)
        clear HTK hf
        go_wp2_with fail
        ((with_reducible refine FC.out.mono ?_); rintro e w3 ⟨rfl, k3⟩)
        have HO3 := Lib.hid (g_below HO.out k3)
        have KB3 := Lib.hid (KB.out.trans (k3.mono KB.out.size))
        clear x0 FC k3 HO KB
        go_wp2_with fail
        go_roundw
        case rel => exact ⟨k + 1, m, by omega, by omega, by go_num, Lib.hid (by rw [HT2.out]; exact HO3.out), KB3⟩
        case measure => simp [intOf]; omega
    · obtain rfl : k = n := by omega
      rw [List.take_of_length_le (by rw [HNN.out]; exact Nat.le_refl _)] at HO
      have HA := Lib.hid (AddrsG.of_owns HO.out)
      clear hlt
      go_wp2_with fail
      go_ret
      exact ⟨_, rfl, HA.out, KB.out⟩

end Go.Proofs.Ytceilgeefegbmaa
