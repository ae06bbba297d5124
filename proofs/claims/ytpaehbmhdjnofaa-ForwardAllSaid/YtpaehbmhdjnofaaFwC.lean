/-
  The document's Sorted. A contract over the translated program.
-/
import Derived.Test.YtpaehbmhdjnofaaFwB
import Derived.Test.YtpaehbmhdjnofaaVlB
namespace Go.Proofs.Ytpaehbmhdjnofaa
open Go Go.Maps Go.WideMaps
open Go.RowKit
set_option linter.unusedVariables false
set_option linter.unusedSimpArgs false

theorem fi_slice {w : World} {base e size n : Nat} {v : Value} {xs : List Value} (h : w.ownsRow base e size v n xs) : ∃ p c, v = .slice p n c := by
  rcases h.2 with ⟨hv, h0⟩ | ⟨g, cap, cur, hv, _⟩
  · exact ⟨none, 0, by rw [hv, h0]⟩
  · exact ⟨_, _, hv⟩
/-- Whether a number stands behind a rising list's last. -/
def behI (out : List Int) (x : Int) : Bool := match out.getLast? with
  | none => true
  | some y => decide (y < x)
theorem behI_last (out : List Int) (z x : Int) (h : out.getLast? = some z) : behI out x = decide (z < x) := by
  unfold behI
  rw [h]
theorem behI_mem (l out rest : List Int) (h : risI l = out ++ rest) (x : Int) (hx : x ∈ l) : behI out x = true ↔ x ∈ rest := by
  have hu := risI_up l
  rw [h] at hu
  obtain ⟨h1, h2, h3⟩ := List.pairwise_append.1 hu
  have hm : x ∈ out ∨ x ∈ rest := by
    have := (risI_mem l x).2 hx
    rw [h] at this
    exact List.mem_append.1 this
  unfold behI
  rcases hl : out.getLast? with _ | y
  · have : out = [] := List.getLast?_eq_none_iff.1 hl
    subst this
    simpa using hm
  · have hy : y ∈ out := List.mem_of_getLast? hl
    simp only [decide_eq_true_iff]
    constructor
    · intro hs
      rcases hm with hm | hm
      · exfalso
        obtain ⟨pre, rfl⟩ := List.getLast?_eq_some_iff.1 hl
        obtain ⟨g1, g2, g3⟩ := List.pairwise_append.1 h1
        rcases List.mem_append.1 hm with hm | hm
        · have := g3 x hm y (by simp); omega
        · simp at hm; omega
      · exact hm
    · intro hr
      exact h3 y hy x hr
/-- The least of those that stand behind, among the first k; -1: none. -/
def LeastI (l out : List Int) (k : Nat) (nxt : Int) : Prop :=
  (nxt < 0 ∧ ∀ x ∈ l.take k, behI out x = false) ∨ (∃ (n : Nat) (y : Int), nxt = n ∧ l[n]? = some y ∧ behI out y = true ∧ ∀ x ∈ l.take k, behI out x = true → y ≤ x)
theorem LeastI.start (l out : List Int) : LeastI l out 0 (-1) := .inl ⟨by omega, fun x hx => by simp at hx⟩
theorem take_memI {l : List Int} {k : Nat} {x z : Int} (h : l[k]? = some x) (hz : z ∈ l.take (k + 1)) : z ∈ l.take k ∨ z = x := by
  rw [List.take_succ_eq_append_getElem (List.getElem?_eq_some_iff.1 h).1, (List.getElem?_eq_some_iff.1 h).2] at hz
  simpa using hz
theorem LeastI.take {l out : List Int} {k : Nat} {nxt x : Int} (h : LeastI l out k nxt) (hx : l[k]? = some x) (hb : behI out x = true) (hc : nxt < 0 ∨ ∃ (n : Nat) (y : Int), nxt = n ∧ l[n]? = some y ∧ x < y) : LeastI l out (k + 1) k := by
  refine .inr ⟨k, x, rfl, hx, hb, fun z hz hbz => ?_⟩
  rcases take_memI hx hz with hz | hz
  · rcases h with ⟨h1, h2⟩ | ⟨n, y, h1, h2, h3, h4⟩
    · have := h2 z hz; rw [hbz] at this; cases this
    · rcases hc with hc | ⟨n', y', hc1, hc2, hc3⟩
      · omega
      · have e : n' = n := by omega
        subst e
        rw [h2] at hc2
        cases hc2
        have := h4 z hz hbz
        omega
  · omega
theorem LeastI.skip {l out : List Int} {k : Nat} {nxt x : Int} (h : LeastI l out k nxt) (hx : l[k]? = some x) (hc : behI out x = false ∨ ∃ (n : Nat) (y : Int), nxt = n ∧ l[n]? = some y ∧ y ≤ x) : LeastI l out (k + 1) nxt := by
  rcases h with ⟨h1, h2⟩ | ⟨n, y, h1, h2, h3, h4⟩
  · refine .inl ⟨h1, fun z hz => ?_⟩
    rcases take_memI hx hz with hz | rfl
    · exact h2 z hz
    · rcases hc with hc | ⟨n', y', hc1, _⟩
      · exact hc
      · omega
  · refine .inr ⟨n, y, h1, h2, h3, fun z hz hbz => ?_⟩
    rcases take_memI hx hz with hz | rfl
    · exact h4 z hz hbz
    · rcases hc with hc | ⟨n', y', hc1, hc2, hc3⟩
      · rw [hbz] at hc; cases hc
      · have e : n' = n := by omega
        subst e
        rw [h2] at hc2
        cases hc2
        omega
theorem LeastI.none {l out rest : List Int} (hr : risI l = out ++ rest) (h : LeastI l out l.length (-1)) : rest = [] := by
  rcases h with ⟨-, h2⟩ | ⟨n, y, h1, _⟩
  · rcases rest with _ | ⟨x, t⟩
    · rfl
    · have hx : x ∈ l := (risI_mem l x).1 (by rw [hr]; simp)
      have := h2 x (by rw [List.take_length]; exact hx)
      rw [(behI_mem l out _ hr x hx).2 (by simp)] at this
      cases this
  · omega
theorem LeastI.some {l out rest : List Int} {n : Nat} {y : Int} (hr : risI l = out ++ rest) (h : LeastI l out l.length n) (hy : l[n]? = Option.some y) : ∃ t, rest = y :: t := by
  rcases h with ⟨h1, _⟩ | ⟨n', y', h1, h2, h3, h4⟩
  · omega
  · have e : n' = n := by omega
    subst e
    rw [hy] at h2
    cases h2
    have hm : y ∈ l := List.mem_of_getElem? hy
    have hin := (behI_mem l out rest hr y hm).1 h3
    rcases rest with _ | ⟨x, t⟩
    · cases hin
    · have hx : x ∈ l := (risI_mem l x).1 (by rw [hr]; simp)
      have hle := h4 x (by rw [List.take_length]; exact hx) ((behI_mem l out _ hr x hx).2 (by simp))
      have hu := risI_up l
      rw [hr] at hu
      have h2 := (List.pairwise_cons.1 (List.pairwise_append.1 hu).2.1).1
      rcases List.mem_cons.1 hin with e | e
      · exact ⟨t, by rw [e]⟩
      · have := h2 y e; omega

set_option maxHeartbeats 8000000 in
set_option maxRecDepth 100000 in
theorem rsorted_c (v : Value) (l : List Int) (w : World) (hl : l.length ≤ 1000000) (ha : IntsAt w v l) :
    Calls Try.prog 23 #[v] w (IPost w (risI l)) := by
  obtain ⟨i0, hi, hz0, hz1, hz2⟩ := info_parts info_FI
  obtain ⟨p, cap, b, off, rfl, hp, hc⟩ := ha
  have HP := Lib.hid hp
  have HC := Lib.hid hc
  have RL := Lib.hid (risI_len l)
  clear hp hc
  unfold IPost
  go_enter Try.func23, Try.ntmps23
  go_wp2_with fail
  go_loopw [3, 4, 5, 6] (fun o _ _ _ wr => ∃ (out rest : List Int) (qo : Option Addr) (no co : Nat), o = .slice qo no co ∧ no ≤ l.length ∧ Hid (no = out.length) ∧ Hid (risI l = out ++ rest) ∧ Hid (wr.ownsRow w.heap.size 3 1 (.slice qo no co) no (out.map (Value.int .i64))) ∧ Hid (Below w.heap.size w wr)) (fun o _ _ _ _ => l.length + 1 - (match o with | .slice _ n _ => n | _ => 0))
  case atStart => exact ⟨[], risI l, none, 0, 0, rfl, Nat.zero_le _, Lib.hid rfl, Lib.hid rfl, Lib.hid (World.ownsRow_nil _ _ _ _), Lib.hid (Below.refl _ _)⟩
  case round =>
    obtain ⟨out, rest, qo, no, co, rfl, hno, HN, HR, OW, K⟩ := hrel
    obtain ⟨wo, rfl⟩ : ∃ wo : World, wo = wr := ⟨_, rfl⟩
    have hle : (no : Int) ≤ (l.length : Int) := by omega
    have hled : decide ((no : Int) ≤ (l.length : Int)) = true := decide_eq_true hle
    have hled2 : decide (no ≤ l.length) = true := decide_eq_true hno
    go_wp2_with fail
    go_loopw [4, 5, 6] (fun nx i _ wq => ∃ (k : Nat) (nxt : Int), k ≤ l.length ∧ i = .int .i64 k ∧ nx = .int .i64 nxt ∧ -1 ≤ nxt ∧ nxt < l.length ∧ Hid (LeastI l out k nxt) ∧ Hid (∃ n, wq = wo.drewN n)) (fun _ i _ _ => l.length - (intOf i).toNat)
    case atStart => exact ⟨0, -1, Nat.zero_le _, rfl, rfl, by omega, by omega, Lib.hid (LeastI.start _ _), Lib.hid ⟨0, rfl⟩⟩
    case round =>
      obtain ⟨k, nxt, hk, rfl, rfl, hx1, hx2, HL, HW⟩ := hrel
      by_cases hlt : k < l.length
      · have hne : l ≠ [] := by rintro rfl; simp at hlt
        obtain rfl := HP.out hne
        have CE := Lib.hid (show ∀ j s, l[j]? = some s → wr.cell? ⟨b, off + j, none⟩ = some (.int .i64 s) from by
          obtain ⟨n, rfl⟩ := HW.out
          exact fun j s hj => icell_below (below_drewN K.out n) (HC.out j s hj))
        have hlk := Lib.hid (List.getElem?_eq_getElem hlt)
        generalize l[k] = x at hlk
        have x1 := CE.out k x hlk.out
        have hlt' : (k : Int) < (l.length : Int) := by omega
        clear hne hle hled hled2 hlt
        rcases hg : out.getLast? with _ | z
        · have he : out = [] := List.getLast?_eq_none_iff.1 hg
          have HB := Lib.hid (show behI out x = true by rw [he]; rfl)
          obtain rfl : no = 0 := by rw [HN.out, he]; rfl
          clear hg he
          by_cases hn : nxt < 0
          · obtain rfl : nxt = -1 := by omega
            clear hn
            go_wp2_with fail
            go_quiet (fail)
            go_wp2_with fail
            go_quiet (fail)
            go_wp2_with fail
            go_roundw
            case rel => first | exact ⟨k + 1, k, by omega, by go_num, rfl, by omega, by omega, Lib.hid (LeastI.take HL.out hlk.out HB.out (.inl (by omega))), Lib.hid (by obtain ⟨n0, h0⟩ := HW.out; exact ⟨_, by first | rw [h0, World.drewN_drewN] | rw [h0, World.drewN_drewN, World.drewN_drewN]⟩)⟩ | ((repeat apply Exists.intro); exact ⟨⟨k + 1, k, by omega, by go_num, rfl, by omega, by omega, Lib.hid (LeastI.take HL.out hlk.out HB.out (.inl (by omega))), Lib.hid (by obtain ⟨n0, h0⟩ := HW.out; exact ⟨_, by first | rw [h0, World.drewN_drewN] | rw [h0, World.drewN_drewN, World.drewN_drewN]⟩)⟩, rfl⟩)
            case measure => simp [intOf]; omega
          · obtain ⟨n, rfl⟩ : ∃ n : Nat, nxt = n := ⟨nxt.toNat, by omega⟩
            have hnl : n < l.length := by omega
            have hly := Lib.hid (List.getElem?_eq_getElem hnl)
            generalize l[n] = y at hly
            have y1 := CE.out n y hly.out
            have dn : decide ((n : Int) < 0) = false := decide_eq_false hn
            clear hnl
            rcases hs : decide (x < y) with _ | _
            · have hlt2 : ¬ x < y := of_decide_eq_false hs
              have S := Lib.hid hlt2
              have g2 := hs
              clear hs
              go_wp2_with fail
              go_quiet (fail)
              go_wp2_with fail
              go_quiet (fail)
              go_wp2_with fail
              go_roundw
              case rel => first | exact ⟨k + 1, n, by omega, by go_num, rfl, by omega, by omega, Lib.hid (LeastI.skip HL.out hlk.out (.inr ⟨n, y, rfl, hly.out, S.out⟩)), Lib.hid (by obtain ⟨n0, h0⟩ := HW.out; exact ⟨_, by first | rw [h0, World.drewN_drewN] | rw [h0, World.drewN_drewN, World.drewN_drewN]⟩)⟩ | ((repeat apply Exists.intro); exact ⟨⟨k + 1, n, by omega, by go_num, rfl, by omega, by omega, Lib.hid (LeastI.skip HL.out hlk.out (.inr ⟨n, y, rfl, hly.out, S.out⟩)), Lib.hid (by obtain ⟨n0, h0⟩ := HW.out; exact ⟨_, by first | rw [h0, World.drewN_drewN] | rw [h0, World.drewN_drewN, World.drewN_drewN]⟩)⟩, rfl⟩)
              case measure => simp [intOf]; omega
            · have hlt2 : x < y := of_decide_eq_true hs
              have S := Lib.hid hlt2
              have g2 := hs
              clear hs
              go_wp2_with fail
              go_quiet (fail)
              go_wp2_with fail
              go_quiet (fail)
              go_wp2_with fail
              go_roundw
              case rel => first | exact ⟨k + 1, k, by omega, by go_num, rfl, by omega, by omega, Lib.hid (LeastI.take HL.out hlk.out HB.out (.inr ⟨n, y, rfl, hly.out, S.out⟩)), Lib.hid (by obtain ⟨n0, h0⟩ := HW.out; exact ⟨_, by first | rw [h0, World.drewN_drewN] | rw [h0, World.drewN_drewN, World.drewN_drewN]⟩)⟩ | ((repeat apply Exists.intro); exact ⟨⟨k + 1, k, by omega, by go_num, rfl, by omega, by omega, Lib.hid (LeastI.take HL.out hlk.out HB.out (.inr ⟨n, y, rfl, hly.out, S.out⟩)), Lib.hid (by obtain ⟨n0, h0⟩ := HW.out; exact ⟨_, by first | rw [h0, World.drewN_drewN] | rw [h0, World.drewN_drewN, World.drewN_drewN]⟩)⟩, rfl⟩)
              case measure => simp [intOf]; omega
        · have HG := Lib.hid hg
          have hpos : 0 < out.length := by rcases out with _ | ⟨q, t⟩ <;> simp at hg ⊢
          obtain ⟨m, rfl⟩ : ∃ m, no = m + 1 := ⟨no - 1, by have := HN.out; omega⟩
          have hzm : out[m]? = some z := by
            rw [List.getLast?_eq_getElem?] at hg
            have h := HN.out
            rw [show out.length - 1 = m from by omega] at hg
            exact hg
          obtain ⟨po, co2, bo, oo, hv, hpo, hco⟩ := IntsAt.of_owns (l := out) (by have h := HN.out; have := OW.out; exact this)
          rw [← HN.out] at hv
          cases hv
          obtain rfl := hpo (by rintro rfl; simp at hpos)
          have z1 : wr.cell? ⟨bo, oo + m, none⟩ = some (.int .i64 z) := by
            obtain ⟨n, rfl⟩ := HW.out
            exact hco m z hzm
          have HBE := Lib.hid (behI_last out z x hg)
          clear hg hpos hzm hpo hco
          have e0 : (((m : Int) + 1) == 0) = false := (ne_t (by omega)).1
          have e1 : (((m + 1 : Nat) : Int) == 0) = false := (ne_t (by omega)).1
          have hw : IntKind.i64.wrap (((m + 1 : Nat) : Int) - 1) = (m : Int) := by rw [show ((m + 1 : Nat) : Int) - 1 = (m : Int) from by omega]; exact IntWalk.i64_in _ (by omega)
          have hm0 : (0 : Int) ≤ (m : Int) := by omega
          have hm1 : (m : Int) < ((m + 1 : Nat) : Int) := by omega
          rcases hs : decide (z < x) with _ | _
          · have HB := Lib.hid (show behI out x = false by rw [HBE.out]; exact hs)
            have g1 := hs
            clear hs
            go_wp2_with fail
            go_quiet (fail)
            go_wp2_with fail
            go_quiet (fail)
            go_wp2_with fail
            go_roundw
            case rel => first | exact ⟨k + 1, nxt, by omega, by go_num, rfl, by omega, by omega, Lib.hid (LeastI.skip HL.out hlk.out (.inl HB.out)), Lib.hid (by obtain ⟨n0, h0⟩ := HW.out; exact ⟨_, by first | rw [h0, World.drewN_drewN] | rw [h0, World.drewN_drewN, World.drewN_drewN]⟩)⟩ | ((repeat apply Exists.intro); exact ⟨⟨k + 1, nxt, by omega, by go_num, rfl, by omega, by omega, Lib.hid (LeastI.skip HL.out hlk.out (.inl HB.out)), Lib.hid (by obtain ⟨n0, h0⟩ := HW.out; exact ⟨_, by first | rw [h0, World.drewN_drewN] | rw [h0, World.drewN_drewN, World.drewN_drewN]⟩)⟩, rfl⟩)
            case measure => simp [intOf]; omega
          · have HB := Lib.hid (show behI out x = true by rw [HBE.out]; exact hs)
            have g1 := hs
            clear hs
            by_cases hn : nxt < 0
            · obtain rfl : nxt = -1 := by omega
              clear hn
              go_wp2_with fail
              go_quiet (fail)
              go_wp2_with fail
              go_quiet (fail)
              go_wp2_with fail
              go_roundw
              case rel => first | exact ⟨k + 1, k, by omega, by go_num, rfl, by omega, by omega, Lib.hid (LeastI.take HL.out hlk.out HB.out (.inl (by omega))), Lib.hid (by obtain ⟨n0, h0⟩ := HW.out; exact ⟨_, by first | rw [h0, World.drewN_drewN] | rw [h0, World.drewN_drewN, World.drewN_drewN]⟩)⟩ | ((repeat apply Exists.intro); exact ⟨⟨k + 1, k, by omega, by go_num, rfl, by omega, by omega, Lib.hid (LeastI.take HL.out hlk.out HB.out (.inl (by omega))), Lib.hid (by obtain ⟨n0, h0⟩ := HW.out; exact ⟨_, by first | rw [h0, World.drewN_drewN] | rw [h0, World.drewN_drewN, World.drewN_drewN]⟩)⟩, rfl⟩)
              case measure => simp [intOf]; omega
            · obtain ⟨n, rfl⟩ : ∃ n : Nat, nxt = n := ⟨nxt.toNat, by omega⟩
              have hnl : n < l.length := by omega
              have hly := Lib.hid (List.getElem?_eq_getElem hnl)
              generalize l[n] = y at hly
              have y1 := CE.out n y hly.out
              have dn : decide ((n : Int) < 0) = false := decide_eq_false hn
              clear hnl
              rcases hs : decide (x < y) with _ | _
              · have hlt2 : ¬ x < y := of_decide_eq_false hs
                have S := Lib.hid hlt2
                have g2 := hs
                clear hs
                go_wp2_with fail
                go_quiet (fail)
                go_wp2_with fail
                go_quiet (fail)
                go_wp2_with fail
                go_roundw
                case rel => first | exact ⟨k + 1, n, by omega, by go_num, rfl, by omega, by omega, Lib.hid (LeastI.skip HL.out hlk.out (.inr ⟨n, y, rfl, hly.out, S.out⟩)), Lib.hid (by obtain ⟨n0, h0⟩ := HW.out; exact ⟨_, by first | rw [h0, World.drewN_drewN] | rw [h0, World.drewN_drewN, World.drewN_drewN]⟩)⟩ | ((repeat apply Exists.intro); exact ⟨⟨k + 1, n, by omega, by go_num, rfl, by omega, by omega, Lib.hid (LeastI.skip HL.out hlk.out (.inr ⟨n, y, rfl, hly.out, S.out⟩)), Lib.hid (by obtain ⟨n0, h0⟩ := HW.out; exact ⟨_, by first | rw [h0, World.drewN_drewN] | rw [h0, World.drewN_drewN, World.drewN_drewN]⟩)⟩, rfl⟩)
                case measure => simp [intOf]; omega
              · have hlt2 : x < y := of_decide_eq_true hs
                have S := Lib.hid hlt2
                have g2 := hs
                clear hs
                go_wp2_with fail
                go_quiet (fail)
                go_wp2_with fail
                go_quiet (fail)
                go_wp2_with fail
                go_roundw
                case rel => first | exact ⟨k + 1, k, by omega, by go_num, rfl, by omega, by omega, Lib.hid (LeastI.take HL.out hlk.out HB.out (.inr ⟨n, y, rfl, hly.out, S.out⟩)), Lib.hid (by obtain ⟨n0, h0⟩ := HW.out; exact ⟨_, by first | rw [h0, World.drewN_drewN] | rw [h0, World.drewN_drewN, World.drewN_drewN]⟩)⟩ | ((repeat apply Exists.intro); exact ⟨⟨k + 1, k, by omega, by go_num, rfl, by omega, by omega, Lib.hid (LeastI.take HL.out hlk.out HB.out (.inr ⟨n, y, rfl, hly.out, S.out⟩)), Lib.hid (by obtain ⟨n0, h0⟩ := HW.out; exact ⟨_, by first | rw [h0, World.drewN_drewN] | rw [h0, World.drewN_drewN, World.drewN_drewN]⟩)⟩, rfl⟩)
                case measure => simp [intOf]; omega
      · obtain rfl : k = l.length := by omega
        clear hlt hle hled hled2 hk
        have O3 := Lib.hid (show wr.ownsRow w.heap.size 3 1 (.slice qo no co) no (out.map (Value.int .i64)) by obtain ⟨n, rfl⟩ := HW.out; exact OW.out)
        have K3 := Lib.hid (show Below w.heap.size w wr by obtain ⟨n, rfl⟩ := HW.out; exact below_drewN K.out n)
        clear OW K HW
        by_cases hn : nxt < 0
        · obtain rfl : nxt = -1 := by omega
          have HE := Lib.hid (show risI l = out by have h := LeastI.none HR.out HL.out; have h2 := HR.out; rw [h, List.append_nil] at h2; exact h2)
          clear hn
          go_wp2_with fail
          go_ret
          exact ⟨_, rfl, by rw [HE.out]; exact IntsAt.of_owns O3.out, K3.out⟩
        · obtain ⟨n, rfl⟩ : ∃ n : Nat, nxt = n := ⟨nxt.toNat, by omega⟩
          have hnl : n < l.length := by omega
          have hne : l ≠ [] := by rintro rfl; simp at hnl
          obtain rfl := HP.out hne
          have hly := Lib.hid (List.getElem?_eq_getElem hnl)
          generalize l[n] = y at hly
          have y1 := icell_below K3.out (HC.out n y hly.out)
          obtain ⟨t, ht⟩ := LeastI.some HR.out HL.out hly.out
          have HR2 := Lib.hid (show risI l = (out ++ [y]) ++ t by rw [HR.out, ht]; simp)
          have hno2 : no + 1 ≤ l.length := by
            have h1 := RL.out
            rw [HR2.out] at h1
            have h2 := HN.out
            simp only [List.length_append, List.length_cons, List.length_nil] at h1
            omega
          have dn : decide ((n : Int) < 0) = false := decide_eq_false hn
          clear hne ht HR HL
          go_wp2_with (at_builtin; refine wpList_append_own _ rfl _ _ 22 rfl w.heap.size 3 i0 (.int .i64 0) 1 8 Try.underlying22 hi hz0 hz1 hz2 rfl (by decide) _ _ _ rfl (O3.out.alloc _) ⟨wr.heap.size, 0, none⟩ 1 1 [.int .i64 y] rfl rfl ?d1 ?d2 ?d3 ?d4 ?d5 ?_)
          case d2 => first | rfl | (intro u hu; simp at hu; subst hu; rfl)
          case d3 => unfold maxLen; omega
          case d4 => omega
          case d5 => have := K3.out.size; simp at this ⊢; omega
          intro v9 w7 hown7 hg7 _
          obtain ⟨p9, c9, rfl⟩ := fi_slice hown7
          have O9 := Lib.hid (show w7.ownsRow w.heap.size 3 1 (.slice p9 (no + 1) c9) (no + 1) ((out ++ [y]).map (Value.int .i64)) by rw [List.map_append]; exact hown7)
          have K9 := Lib.hid ((K3.out.alloc K3.out.size _).grown hg7 (by have := K3.out.size; simp at this ⊢; omega) (fun j hj => (O3.out.lt j hj).1))
          clear hown7 hg7
          go_wp2_with fail
          go_roundw
          case rel => exact ⟨out ++ [y], t, p9, no + 1, c9, rfl, hno2, Lib.hid (by rw [List.length_append, ← HN.out]; rfl), HR2, O9, K9⟩
          case measure => simp; omega




end Go.Proofs.Ytpaehbmhdjnofaa
