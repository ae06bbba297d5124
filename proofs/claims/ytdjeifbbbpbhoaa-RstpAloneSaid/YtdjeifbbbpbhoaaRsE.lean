/-
  rstp: age, hasNews. Contracts over the translated program.
-/
import Derived.Test.YtdjeifbbbpbhoaaRsD
namespace Go.Proofs.Ytdjeifbbbpbhoaa
open Go.RowKit
set_option linter.unusedVariables false
set_option linter.unusedSimpArgs false

theorem find_at {α : Type} {q : α → Bool} : ∀ {l : List α} {k : Nat} {p : α}, (∀ j x, j < k → l[j]? = some x → q x = false) → l[k]? = some p → q p = true → l.find? q = some p
  | [], k, p, _, h, _ => by simp at h
  | a :: l, 0, p, _, h, hp => by
    simp at h
    subst h
    simp [hp]
  | a :: l, k + 1, p, hn, h, hp => by
    have := hn 0 a (by omega) rfl
    rw [List.find?_cons_of_neg (by simp [this])]
    exact find_at (k := k) (fun j x hj hx => hn (j + 1) x (by omega) (by simpa using hx)) (by simpa using h) hp
theorem find_no {α : Type} {q : α → Bool} {l : List α} (h : ∀ j x, j < l.length → l[j]? = some x → q x = false) : l.find? q = none := by
  rw [List.find?_eq_none]
  intro x hx
  obtain ⟨j, hj, e⟩ := List.getElem_of_mem hx
  simp [h j x hj (by rw [List.getElem?_eq_getElem hj, e])]

/-- Who is Root keeps a message that is not far. -/
def RootKeeps (T : Part) : Prop := ∀ p ∈ T.ps, p.role = 1 → ∃ m, p.kept = some m ∧ -9223372036854775808 ≤ m.age ∧ m.age < 20

section
variable {w : World} {B t rb cap : Nat} {A : List Nat} {T : Part}
set_option maxHeartbeats 2000000 in
set_option maxRecDepth 100000 in
theorem age_c (h : HasS w B t rb cap A T) (hr : RootKeeps T) : Calls Try.prog 35 #[.pointer (some ⟨t, 0, none⟩)] w fun e w' => e = .returned (.int .i64 T.age) ∧ w = w' := by
  have hl := h.n16
  have x2 := h.c2
  have HR := Lib.hid hr
  have HL := Lib.hid h.len
  have H := Lib.hid h
  clear h hr
  go_enter Try.func35, Try.ntmps35
  go_wp2
  clear x2
  go_loop [4, 10] (fun _ i => ∃ k : Nat, k ≤ A.length ∧ i = .int .i64 k ∧ Hid (∀ (j : Nat) (x : Prt), j < k → T.ps[j]? = some x → (x.role == 1) = false)) (fun _ i => A.length - (intOf i).toNat)
  case atStart => exact ⟨0, Nat.zero_le _, rfl, Lib.hid (fun j x hj => by omega)⟩
  case round =>
    obtain ⟨k, hk, rfl, HN⟩ := hrel
    by_cases hlt : k < A.length
    · obtain ⟨a, p, ha, hp, kv, hb, hkv⟩ := H.out.pair hlt
      have xr := H.out.rowc ha
      have y3 := prt_c3 hb
      have y2 := prt_c2 hb
      have HP := Lib.hid hp
      have hmem := Lib.hid (List.mem_of_getElem? hp)
      clear hp ha hb
      cases h1 : (p.role == 1) with
      | true =>
        obtain ⟨m, hm, m0, m1⟩ := HR.out p hmem.out (by simpa using h1)
        rw [hm] at hkv
        obtain ⟨mb, rfl, hmb⟩ := hkv
        obtain ⟨-, -, -, -, z4, -⟩ := msg_c0 hmb
        have E := Lib.hid (show T.age = m.age + 1 by unfold Part.age; rw [find_at HN.out HP.out h1]; simp [hm])
        clear hm hmb
        go_wp2
        go_ret
        exact ⟨by rw [E.out]; rfl, rfl⟩
      | false =>
        have N := Lib.hid (show ∀ (j : Nat) (x : Prt), j < k + 1 → T.ps[j]? = some x → (x.role == 1) = false from fun j x hj hx => by
          by_cases e : j = k
          · subst e
            rw [HP.out] at hx
            cases hx
            exact h1
          · exact HN.out j x (by omega) hx)
        clear hkv
        go_wp2
        go_round
        case rel => exact ⟨k + 1, by omega, by go_num, N⟩
        case measure => simp [intOf]; omega
    · obtain rfl : k = A.length := by omega
      clear hlt
      go_wp2
      go_ret
      have E : T.age = 0 := by unfold Part.age; rw [find_no (by rw [HL.out]; exact HN.out)]
      exact ⟨by rw [E]; rfl, rfl⟩

set_option maxHeartbeats 2000000 in
set_option maxRecDepth 100000 in
theorem news_c (h : HasS w B t rb cap A T) : Calls Try.prog 36 #[.pointer (some ⟨t, 0, none⟩)] w fun e w' => e = .returned (.bool T.news) ∧ ∃ n, w' = w.drewN n := by
  have t0 := h.good.t0
  have t1 := h.good.t1
  have c0 := h.good.c0
  have c1 := h.good.c1
  have x1 := h.c1
  have x7 := h.c7
  have HC := Lib.hid fun n => changed_c (h.drewN n)
  clear h
  unfold Part.news
  cases h1 : decide (0 < T.chg) with
  | false =>
    go_enter Try.func36, Try.ntmps36
    go_wp2
    go_quiet (fail)
    go_wp2
    go_ret
    exact ⟨by rw [Bool.false_and]; rfl, _, rfl⟩
  | true =>
    have p1 := of_decide_eq_true h1
    have hs : IntKind.i64.wrap (T.time - (T.chg - 1)) = T.time - (T.chg - 1) := IntWalk.i64_in _ (by omega)
    have hs' : wrap64 (T.time - (T.chg - 1)) = T.time - (T.chg - 1) := by unfold wrap64; omega
    go_enter Try.func36, Try.ntmps36
    go_wp2
    go_quiet ((go_at_call 21; refine (HC.out _).mono ?_; rintro e w'' ⟨rfl, rfl⟩; exact ⟨rfl, _, rfl⟩))
    go_wp2
    go_ret
    exact ⟨by rw [Bool.true_and]; rfl, _, rfl⟩
end

end Go.Proofs.Ytdjeifbbbpbhoaa
