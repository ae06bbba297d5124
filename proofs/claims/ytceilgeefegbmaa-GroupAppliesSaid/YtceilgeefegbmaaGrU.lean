/-
  siphonlaw17.few and siphonref11.Has. Contracts over the translated program.
-/
import Derived.Test.YtceilgeefegbmaaGrT
import Derived.Test.YtceilgeefegbmaaGrR
namespace Go.Proofs.Ytceilgeefegbmaa
open Go.RowKit
set_option linter.unusedVariables false
set_option linter.unusedSimpArgs false

theorem hasS_drop (l : List ByteArray) (k : Nat) (h : k < l.length) (s : ByteArray) : hasS (l.drop k) s = (decide (l[k] = s) || hasS (l.drop (k + 1)) s) := by
  rw [List.drop_eq_getElem_cons h]
  show (decide (l[k].data.toList = s.data.toList) || _) = _
  congr 1
  exact decide_eq_decide.2 ⟨fun e => ba_ext e, fun e => by rw [e]⟩

set_option maxHeartbeats 1000000 in
set_option maxRecDepth 100000 in
theorem rhas_c (v : Value) (l : List ByteArray) (s : ByteArray) (w : World) (hl : l.length ≤ 9223372036854775807) (ha : AddrsAt w v l) :
    Calls Try.prog 23 #[v, .string s] w fun e w' => e = .returned (.bool (hasS l s)) ∧ w' = w := by
  obtain ⟨p, cap, b, off, rfl, hp, hc⟩ := ha
  have HP := Lib.hid hp
  have HC := Lib.hid hc
  clear hp hc
  generalize hV : hasS l s = V
  go_enter Try.func23, Try.ntmps23
  go_wp2
  go_loopw [5] (fun i wr => ∃ k : Nat, k ≤ l.length ∧ i = .int .i64 k ∧ Hid (hasS (l.drop k) s = V) ∧ wr = w) (fun i _ => l.length - (intOf i).toNat)
  case atStart => exact ⟨0, Nat.zero_le _, rfl, Lib.hid (by rw [List.drop_zero]; exact hV), rfl⟩
  case round =>
    clear hV
    obtain ⟨k, hk, rfl, HV, rfl⟩ := hrel
    by_cases hlt : k < l.length
    · have hne : l ≠ [] := by rintro rfl; simp at hlt
      obtain rfl := (HP.out hne).1
      have x1 := HC.out k _ (List.getElem?_eq_getElem hlt)
      have HD := Lib.hid (hasS_drop l k hlt s)
      generalize l[k] = x at x1 HD
      have hlt' : (k : Int) < (l.length : Int) := by omega
      clear hne
      by_cases hx : x = s
      · subst hx
        have V1 := Lib.hid (show V = true by rw [← HV.out, HD.out]; simp)
        clear HD HV
        go_wp2
        go_ret
        exact ⟨by rw [V1.out]; rfl, rfl⟩
      · have e1 : (x.toList == s.toList) = false := by
          rw [beq_eq_false_iff_ne]
          exact fun e => hx (ba_ext (by rw [← Lib.toList_data, ← Lib.toList_data, e]))
        have HV2 := Lib.hid (show hasS (l.drop (k + 1)) s = V by rw [← HV.out, HD.out, decide_eq_false hx]; rfl)
        clear HD HV hx
        go_wp2
        go_roundw
        case rel => first | exact ⟨k + 1, by omega, by go_num, HV2, rfl⟩ | exact ⟨k + 1, by omega, by go_num, HV2, trivial⟩
        case measure => simp [intOf]; omega
    · obtain rfl : k = l.length := by omega
      have V1 := Lib.hid (show V = false by have h := HV.out; rw [List.drop_length] at h; exact h.symm)
      clear HV hlt
      go_wp2
      go_ret
      exact ⟨by rw [V1.out]; rfl, rfl⟩

set_option maxHeartbeats 1000000 in
set_option maxRecDepth 100000 in
theorem few17_c (ex : Bool) (tm : Int) (p : Option Addr) (n cap : Nat) (kd : Int) (g : ByteArray) (rp : Option Addr) (rn rc : Nat) (w : World) :
    Calls Try.prog 19 #[.agg #[.bool ex, .int .i64 tm, .slice p n cap], .agg #[.int .i64 kd, .string g, .slice rp rn rc]] w fun e w' => e = .returned (.bool (decide (n ≤ 100) && decide (rn ≤ 100))) ∧ Below w.heap.size w w' := by
  have HB := Lib.hid (show Below w.heap.size w ((w.alloc (.cells #[.bool ex, .int .i64 tm, .slice p n cap] 24)).alloc (.cells #[.int .i64 kd, .string g, .slice rp rn rc] 37)) from (fun h => Below.alloc h h.size _) ((Below.refl _ w).alloc (Nat.le_refl _) _))
  by_cases h1 : n ≤ 100
  · have d1 : decide ((n : Int) ≤ 100) = true := decide_eq_true (by omega)
    have d3 : decide (n ≤ 100) = true := decide_eq_true h1
    have d5 : decide ((100 : Int) < (n : Int)) = false := decide_eq_false (by omega)
    rw [d3]
    by_cases h2 : rn ≤ 100
    · have d2 : decide ((rn : Int) ≤ 100) = true := decide_eq_true (by omega)
      have d4 : decide (rn ≤ 100) = true := decide_eq_true h2
      have d6 : decide ((100 : Int) < (rn : Int)) = false := decide_eq_false (by omega)
      rw [d4]
      clear h1 h2
      go_enter Try.func19, Try.ntmps19
      go_wp2_with fail
      go_ret
      exact ⟨rfl, HB.out⟩
    · have d2 : decide ((rn : Int) ≤ 100) = false := decide_eq_false (by omega)
      have d4 : decide (rn ≤ 100) = false := decide_eq_false h2
      have d6 : decide ((100 : Int) < (rn : Int)) = true := decide_eq_true (by omega)
      rw [d4]
      clear h1 h2
      go_enter Try.func19, Try.ntmps19
      go_wp2_with fail
      go_ret
      exact ⟨rfl, HB.out⟩
  · have d1 : decide ((n : Int) ≤ 100) = false := decide_eq_false (by omega)
    have d3 : decide (n ≤ 100) = false := decide_eq_false h1
    have d5 : decide ((100 : Int) < (n : Int)) = true := decide_eq_true (by omega)
    rw [d3]
    clear h1
    go_enter Try.func19, Try.ntmps19
    go_wp2_with fail
    go_ret
    exact ⟨rfl, HB.out⟩
theorem applyP_c (ex : Bool) (tm : Int) (v : Value) (sl : List Tm) (is : Bool) (kd : Int) (gp : ByteArray) (rv : Value) (rs : List ByteArray) (now m l : Int) (w : World) (hl : sl.length ≤ 1000000) (h : RowsAt 2 cellsTm w v sl) (hs : ∀ x ∈ sl, x.1.size ≤ maxLen) (hrl : rs.length ≤ 1000000) (hra : AddrsAt w rv rs) (hrs : ∀ s ∈ rs, s.size ≤ maxLen) :
    Calls Try.prog 20 #[.agg #[.bool ex, .int .i64 tm, v], .bool is, .agg #[.int .i64 kd, .string gp, rv], .int .i64 now, .agg #[.int .i64 m, .int .i64 l]] w (ApPost (appP ⟨ex, tm, sl⟩ is kd rs now m l) w) := by
  cases is
  · exact applyF_c ex tm v sl kd gp rv rs now m l w hl h hs hrl hra hrs
  · exact applyT_c ex tm v sl kd gp rv rs now m l w hl h hs hrl hra hrs
end Go.Proofs.Ytceilgeefegbmaa
