/-
  Filters, the document's answer: siphonref11.Has, Admits, Check, Rising, Norm, Not; the law's copied. Contracts over the translated program.
-/
import Derived.Test.YthpafojeadbjlaaFlG
import Derived.Test.YthpafojeadbjlaaFlP
import Derived.Test.YthpafojeadbjlaaAppA
namespace Go.Proofs.Ythpafojeadbjlaa
open Go.RowKit
set_option linter.unusedVariables false
set_option linter.unusedSimpArgs false

theorem fl_owns_slice {w : World} {base e size n : Nat} {v : Value} {xs : List Value} (h : w.ownsRow base e size v n xs) : ∃ p c, v = .slice p n c := by
  rcases h.2 with ⟨hv, h0⟩ | ⟨g, cap, cur, hv, _⟩
  · exact ⟨none, 0, by rw [hv, h0]⟩
  · exact ⟨_, _, hv⟩

theorem hasS_drop (l : List ByteArray) (k : Nat) (h : k < l.length) (s : ByteArray) : hasS (l.drop k) s = (decide (l[k] = s) || hasS (l.drop (k + 1)) s) := by
  rw [List.drop_eq_getElem_cons h]
  show (decide (l[k].data.toList = s.data.toList) || _) = _
  congr 1
  exact decide_eq_decide.2 ⟨fun e => ba_ext e, fun e => by rw [e]⟩

set_option maxHeartbeats 1000000 in
set_option maxRecDepth 100000 in
theorem rhas_c (v : Value) (l : List ByteArray) (s : ByteArray) (w : World) (hl : l.length ≤ 9223372036854775807) (ha : AddrsAt w v l) :
    Calls Try.prog 75 #[v, .string s] w fun e w' => e = .returned (.bool (hasS l s)) ∧ w' = w := by
  obtain ⟨p, cap, b, off, rfl, hp, hc⟩ := ha
  have HP := Lib.hid hp
  have HC := Lib.hid hc
  clear hp hc
  generalize hV : hasS l s = V
  go_enter Try.func75, Try.ntmps75
  go_wp2
  go_loopw [5] (fun i wr => ∃ k : Nat, k ≤ l.length ∧ i = .int .i64 k ∧ Hid (hasS (l.drop k) s = V) ∧ wr = w) (fun i _ => l.length - (intOf i).toNat)
  case atStart => exact ⟨0, Nat.zero_le _, rfl, Lib.hid (by rw [List.drop_zero]; exact hV), rfl⟩
  case round =>
    clear hV
    obtain ⟨k, hk, rfl, HV, rfl⟩ := hrel
    by_cases hlt : k < l.length
    · have hne : l ≠ [] := by rintro rfl; simp at hlt
      obtain rfl := (HP.out hne).1
      have x1 := HC.out k _ (List.getElem?_eq_getElem hlt)
      have HD := Lib.hid (hasS_drop l k hlt s)
      generalize l[k] = x at x1 HD
      have hlt' : (k : Int) < (l.length : Int) := by omega
      clear hne
      by_cases hx : x = s
      · subst hx
        have V1 := Lib.hid (show V = true by rw [← HV.out, HD.out]; simp)
        clear HD HV
        go_wp2
        go_ret
        exact ⟨by rw [V1.out]; rfl, rfl⟩
      · have e1 : (x.toList == s.toList) = false := by
          rw [beq_eq_false_iff_ne]
          exact fun e => hx (ba_ext (by rw [← Lib.toList_data, ← Lib.toList_data, e]))
        have HV2 := Lib.hid (show hasS (l.drop (k + 1)) s = V by rw [← HV.out, HD.out, decide_eq_false hx]; rfl)
        clear HD HV hx
        go_wp2
        go_roundw
        case rel => first | exact ⟨k + 1, by omega, by go_num, HV2, rfl⟩ | exact ⟨k + 1, by omega, by go_num, HV2, trivial⟩
        case measure => simp [intOf]; omega
    · obtain rfl : k = l.length := by omega
      have V1 := Lib.hid (show V = false by have h := HV.out; rw [List.drop_length] at h; exact h.symm)
      clear HV hlt
      go_wp2
      go_ret
      exact ⟨by rw [V1.out]; rfl, rfl⟩

set_option maxHeartbeats 1000000 in
set_option maxRecDepth 100000 in
theorem radm_c (ex : Bool) (v : Value) (l : List ByteArray) (s : ByteArray) (w : World) (hl : l.length ≤ 9223372036854775807) (ha : AddrsAt w v l) :
    Calls Try.prog 55 #[.agg #[.bool ex, v], .string s] w fun e w' => e = .returned (.bool (admB ⟨ex, l⟩ s)) ∧ Below w.heap.size w w' := by
  obtain ⟨p, cp, rfl⟩ := ha.slice
  have HC := Lib.hid fun n => rhas_c (.slice p l.length cp) l s ((w.alloc (.cells #[.bool ex, .slice p l.length cp] 28)).drewN n) hl (ha.below (below_drewN (boxed_below _ _) n))
  have V := Lib.hid (show admB ⟨ex, l⟩ s = (hasS l s != ex) from rfl)
  generalize admB ⟨ex, l⟩ s = r at V ⊢
  generalize hasS l s = h at HC V
  generalize l.length = n at *
  clear ha
  go_enter Try.func55, Try.ntmps55
  go_wp2_with fail
  go_quiet ((go_at_call 75; exact Calls.quiet_of_same (HC.out _)))
  go_wp2_with fail
  go_ret
  exact ⟨by rw [V.out]; rfl, below_drewN (boxed_below _ _) _⟩

theorem gtr_of {x y : ByteArray} {r : Bool} (h : sl y x = r) (t : TypeId) : binOp .gtr t (.string x) (.string y) = pure (.bool r) := by
  have e : (!Op.bytesLess x.toList y.toList && !(x.toList == y.toList)) = sl y x := by
    rcases h1 : sl x y with _ | _
    · rcases h2 : sl y x with _ | _
      · obtain rfl := sl_tri h1 h2
        simp
      · unfold sl at h1
        rw [h1]
        have : x.toList ≠ y.toList := fun e => sl_ne h2 (ba_ext (by rw [← Lib.toList_data, ← Lib.toList_data, e])).symm
        simp [this]
    · have h2 := sl_asym h1
      rw [h2]
      unfold sl at h1
      rw [h1]
      rfl
  rw [← h, ← e]
  simp [binOp, Op.stringOp]
theorem lss_of {x y : ByteArray} {r : Bool} (h : sl x y = r) (t : TypeId) : binOp .lss t (.string x) (.string y) = pure (.bool r) := by
  rw [← h]
  simp [binOp, Op.stringOp, sl]

theorem beh_nil (x : ByteArray) : behB [] x = true := rfl
theorem beh_last (out : List ByteArray) (z x : ByteArray) (h : out.getLast? = some z) : behB out x = sl z x := by
  unfold behB
  rw [h]

set_option maxHeartbeats 8000000 in
set_option maxRecDepth 100000 in
theorem rris_c (v : Value) (l : List ByteArray) (w : World) (hl : l.length ≤ 1000000) (ha : AddrsAt w v l) :
    Calls Try.prog 62 #[v] w (MPost (ris l) w) := by
  obtain ⟨i0, hi, hz0, hz1, hz2⟩ := info_parts infoAd
  obtain ⟨p, cap, b, off, rfl, hp, hc⟩ := ha
  have HP := Lib.hid hp
  have HC := Lib.hid hc
  have RL := Lib.hid (ris_len l)
  clear hp hc
  unfold MPost
  go_enter Try.func62, Try.ntmps62
  go_wp2_with fail
  go_loopw [3, 4, 5, 6] (fun o _ _ _ wr => ∃ (out rest : List ByteArray) (qo : Option Addr) (no co : Nat), o = .slice qo no co ∧ no ≤ l.length ∧ Hid (no = out.length) ∧ Hid (ris l = out ++ rest) ∧ Hid (wr.ownsRow w.heap.size 35 1 (.slice qo no co) no (out.map Value.string)) ∧ Hid (Below w.heap.size w wr)) (fun o _ _ _ _ => l.length + 1 - (match o with | .slice _ n _ => n | _ => 0))
  case atStart => exact ⟨[], ris l, none, 0, 0, rfl, Nat.zero_le _, Lib.hid rfl, Lib.hid rfl, Lib.hid (World.ownsRow_nil _ _ _ _), Lib.hid (Below.refl _ _)⟩
  case round =>
    obtain ⟨out, rest, qo, no, co, rfl, hno, HN, HR, OW, K⟩ := hrel
    obtain ⟨wo, rfl⟩ : ∃ wo : World, wo = wr := ⟨_, rfl⟩
    have hle : (no : Int) ≤ (l.length : Int) := by omega
    have hled : decide ((no : Int) ≤ (l.length : Int)) = true := decide_eq_true hle
    have hled2 : decide (no ≤ l.length) = true := decide_eq_true hno
    go_wp2_with fail
    go_loopw [4, 5, 6] (fun nx i _ wq => ∃ (k : Nat) (nxt : Int), k ≤ l.length ∧ i = .int .i64 k ∧ nx = .int .i64 nxt ∧ -1 ≤ nxt ∧ nxt < l.length ∧ Hid (LeastAt l out k nxt) ∧ Hid (∃ n, wq = wo.drewN n)) (fun _ i _ _ => l.length - (intOf i).toNat)
    case atStart => exact ⟨0, -1, Nat.zero_le _, rfl, rfl, by omega, by omega, Lib.hid (LeastAt.start _ _), Lib.hid ⟨0, rfl⟩⟩
    case round =>
      obtain ⟨k, nxt, hk, rfl, rfl, hx1, hx2, HL, HW⟩ := hrel
      by_cases hlt : k < l.length
      · have hne : l ≠ [] := by rintro rfl; simp at hlt
        obtain rfl := (HP.out hne).1
        have CE := Lib.hid (show ∀ j s, l[j]? = some s → wr.cell? ⟨b, off + j, none⟩ = some (.string s) from by
          obtain ⟨n, rfl⟩ := HW.out
          exact fun j s hj => cell_below (below_drewN K.out n) (HC.out j s hj))
        have hlk := Lib.hid (List.getElem?_eq_getElem hlt)
        generalize l[k] = x at hlk
        have x1 := CE.out k x hlk.out
        have hlt' : (k : Int) < (l.length : Int) := by omega
        clear hne hle hled hled2 hlt
        rcases hg : out.getLast? with _ | z
        · have he : out = [] := List.getLast?_eq_none_iff.1 hg
          have HB := Lib.hid (show behB out x = true by rw [he]; rfl)
          obtain rfl : no = 0 := by rw [HN.out, he]; rfl
          clear hg he
          by_cases hn : nxt < 0
          · obtain rfl : nxt = -1 := by omega
            clear hn
            go_wp2_with fail
            go_quiet (fail)
            go_wp2_with fail
            go_quiet (fail)
            go_wp2_with fail
            go_roundw
            case rel => first | exact ⟨k + 1, k, by omega, by go_num, rfl, by omega, by omega, Lib.hid (LeastAt.take HL.out hlk.out HB.out (.inl (by omega))), Lib.hid (by obtain ⟨n0, h0⟩ := HW.out; exact ⟨_, by first | rw [h0, World.drewN_drewN] | rw [h0, World.drewN_drewN, World.drewN_drewN]⟩)⟩ | ((repeat apply Exists.intro); exact ⟨⟨k + 1, k, by omega, by go_num, rfl, by omega, by omega, Lib.hid (LeastAt.take HL.out hlk.out HB.out (.inl (by omega))), Lib.hid (by obtain ⟨n0, h0⟩ := HW.out; exact ⟨_, by first | rw [h0, World.drewN_drewN] | rw [h0, World.drewN_drewN, World.drewN_drewN]⟩)⟩, rfl⟩)
            case measure => simp [intOf]; omega
          · obtain ⟨n, rfl⟩ : ∃ n : Nat, nxt = n := ⟨nxt.toNat, by omega⟩
            have hnl : n < l.length := by omega
            have hly := Lib.hid (List.getElem?_eq_getElem hnl)
            generalize l[n] = y at hly
            have y1 := CE.out n y hly.out
            have dn : decide ((n : Int) < 0) = false := decide_eq_false hn
            clear hnl
            rcases hs : sl x y with _ | _
            · have S := Lib.hid hs
              have g2 := fun t => lss_of hs t
              clear hs
              go_wp2_with fail
              go_quiet (fail)
              go_wp2_with fail
              go_quiet (fail)
              go_wp2_with fail
              go_roundw
              case rel => first | exact ⟨k + 1, n, by omega, by go_num, rfl, by omega, by omega, Lib.hid (LeastAt.skip HL.out hlk.out (.inr ⟨n, y, rfl, hly.out, S.out⟩)), Lib.hid (by obtain ⟨n0, h0⟩ := HW.out; exact ⟨_, by first | rw [h0, World.drewN_drewN] | rw [h0, World.drewN_drewN, World.drewN_drewN]⟩)⟩ | ((repeat apply Exists.intro); exact ⟨⟨k + 1, n, by omega, by go_num, rfl, by omega, by omega, Lib.hid (LeastAt.skip HL.out hlk.out (.inr ⟨n, y, rfl, hly.out, S.out⟩)), Lib.hid (by obtain ⟨n0, h0⟩ := HW.out; exact ⟨_, by first | rw [h0, World.drewN_drewN] | rw [h0, World.drewN_drewN, World.drewN_drewN]⟩)⟩, rfl⟩)
              case measure => simp [intOf]; omega
            · have S := Lib.hid hs
              have g2 := fun t => lss_of hs t
              clear hs
              go_wp2_with fail
              go_quiet (fail)
              go_wp2_with fail
              go_quiet (fail)
              go_wp2_with fail
              go_roundw
              case rel => first | exact ⟨k + 1, k, by omega, by go_num, rfl, by omega, by omega, Lib.hid (LeastAt.take HL.out hlk.out HB.out (.inr ⟨n, y, rfl, hly.out, S.out⟩)), Lib.hid (by obtain ⟨n0, h0⟩ := HW.out; exact ⟨_, by first | rw [h0, World.drewN_drewN] | rw [h0, World.drewN_drewN, World.drewN_drewN]⟩)⟩ | ((repeat apply Exists.intro); exact ⟨⟨k + 1, k, by omega, by go_num, rfl, by omega, by omega, Lib.hid (LeastAt.take HL.out hlk.out HB.out (.inr ⟨n, y, rfl, hly.out, S.out⟩)), Lib.hid (by obtain ⟨n0, h0⟩ := HW.out; exact ⟨_, by first | rw [h0, World.drewN_drewN] | rw [h0, World.drewN_drewN, World.drewN_drewN]⟩)⟩, rfl⟩)
              case measure => simp [intOf]; omega
        · have HG := Lib.hid hg
          have hpos : 0 < out.length := by rcases out with _ | ⟨q, t⟩ <;> simp at hg ⊢
          obtain ⟨m, rfl⟩ : ∃ m, no = m + 1 := ⟨no - 1, by have := HN.out; omega⟩
          have hzm : out[m]? = some z := by
            rw [List.getLast?_eq_getElem?] at hg
            have h := HN.out
            rw [show out.length - 1 = m from by omega] at hg
            exact hg
          obtain ⟨po, co2, bo, oo, hv, hpo, hco⟩ := AddrsG.of_owns (l := out) (by have h := HN.out; have := OW.out; exact this)
          rw [← HN.out] at hv
          cases hv
          obtain ⟨rfl, -, -⟩ := hpo (by rintro rfl; simp at hpos)
          have z1 : wr.cell? ⟨bo, oo + m, none⟩ = some (.string z) := by
            obtain ⟨n, rfl⟩ := HW.out
            exact hco m z hzm
          have HBE := Lib.hid (beh_last out z x hg)
          clear hg hpos hzm hpo hco
          have e0 : (((m : Int) + 1) == 0) = false := (ne_t (by omega)).1
          have e1 : (((m + 1 : Nat) : Int) == 0) = false := (ne_t (by omega)).1
          have hw : IntKind.i64.wrap (((m + 1 : Nat) : Int) - 1) = (m : Int) := by rw [show ((m + 1 : Nat) : Int) - 1 = (m : Int) from by omega]; exact IntWalk.i64_in _ (by omega)
          have hm0 : (0 : Int) ≤ (m : Int) := by omega
          have hm1 : (m : Int) < ((m + 1 : Nat) : Int) := by omega
          rcases hs : sl z x with _ | _
          · have HB := Lib.hid (show behB out x = false by rw [HBE.out]; exact hs)
            have g1 := fun t => gtr_of hs t
            clear hs
            go_wp2_with fail
            go_quiet (fail)
            go_wp2_with fail
            go_quiet (fail)
            go_wp2_with fail
            go_roundw
            case rel => first | exact ⟨k + 1, nxt, by omega, by go_num, rfl, by omega, by omega, Lib.hid (LeastAt.skip HL.out hlk.out (.inl HB.out)), Lib.hid (by obtain ⟨n0, h0⟩ := HW.out; exact ⟨_, by first | rw [h0, World.drewN_drewN] | rw [h0, World.drewN_drewN, World.drewN_drewN]⟩)⟩ | ((repeat apply Exists.intro); exact ⟨⟨k + 1, nxt, by omega, by go_num, rfl, by omega, by omega, Lib.hid (LeastAt.skip HL.out hlk.out (.inl HB.out)), Lib.hid (by obtain ⟨n0, h0⟩ := HW.out; exact ⟨_, by first | rw [h0, World.drewN_drewN] | rw [h0, World.drewN_drewN, World.drewN_drewN]⟩)⟩, rfl⟩)
            case measure => simp [intOf]; omega
          · have HB := Lib.hid (show behB out x = true by rw [HBE.out]; exact hs)
            have g1 := fun t => gtr_of hs t
            clear hs
            by_cases hn : nxt < 0
            · obtain rfl : nxt = -1 := by omega
              clear hn
              go_wp2_with fail
              go_quiet (fail)
              go_wp2_with fail
              go_quiet (fail)
              go_wp2_with fail
              go_roundw
              case rel => first | exact ⟨k + 1, k, by omega, by go_num, rfl, by omega, by omega, Lib.hid (LeastAt.take HL.out hlk.out HB.out (.inl (by omega))), Lib.hid (by obtain ⟨n0, h0⟩ := HW.out; exact ⟨_, by first | rw [h0, World.drewN_drewN] | rw [h0, World.drewN_drewN, World.drewN_drewN]⟩)⟩ | ((repeat apply Exists.intro); exact ⟨⟨k + 1, k, by omega, by go_num, rfl, by omega, by omega, Lib.hid (LeastAt.take HL.out hlk.out HB.out (.inl (by omega))), Lib.hid (by obtain ⟨n0, h0⟩ := HW.out; exact ⟨_, by first | rw [h0, World.drewN_drewN] | rw [h0, World.drewN_drewN, World.drewN_drewN]⟩)⟩, rfl⟩)
              case measure => simp [intOf]; omega
            · obtain ⟨n, rfl⟩ : ∃ n : Nat, nxt = n := ⟨nxt.toNat, by omega⟩
              have hnl : n < l.length := by omega
              have hly := Lib.hid (List.getElem?_eq_getElem hnl)
              generalize l[n] = y at hly
              have y1 := CE.out n y hly.out
              have dn : decide ((n : Int) < 0) = false := decide_eq_false hn
              clear hnl
              rcases hs : sl x y with _ | _
              · have S := Lib.hid hs
                have g2 := fun t => lss_of hs t
                clear hs
                go_wp2_with fail
                go_quiet (fail)
                go_wp2_with fail
                go_quiet (fail)
                go_wp2_with fail
                go_roundw
                case rel => first | exact ⟨k + 1, n, by omega, by go_num, rfl, by omega, by omega, Lib.hid (LeastAt.skip HL.out hlk.out (.inr ⟨n, y, rfl, hly.out, S.out⟩)), Lib.hid (by obtain ⟨n0, h0⟩ := HW.out; exact ⟨_, by first | rw [h0, World.drewN_drewN] | rw [h0, World.drewN_drewN, World.drewN_drewN]⟩)⟩ | ((repeat apply Exists.intro); exact ⟨⟨k + 1, n, by omega, by go_num, rfl, by omega, by omega, Lib.hid (LeastAt.skip HL.out hlk.out (.inr ⟨n, y, rfl, hly.out, S.out⟩)), Lib.hid (by obtain ⟨n0, h0⟩ := HW.out; exact ⟨_, by first | rw [h0, World.drewN_drewN] | rw [h0, World.drewN_drewN, World.drewN_drewN]⟩)⟩, rfl⟩)
                case measure => simp [intOf]; omega
              · have S := Lib.hid hs
                have g2 := fun t => lss_of hs t
                clear hs
                go_wp2_with fail
                go_quiet (fail)
                go_wp2_with fail
                go_quiet (fail)
                go_wp2_with fail
                go_roundw
                case rel => first | exact ⟨k + 1, k, by omega, by go_num, rfl, by omega, by omega, Lib.hid (LeastAt.take HL.out hlk.out HB.out (.inr ⟨n, y, rfl, hly.out, S.out⟩)), Lib.hid (by obtain ⟨n0, h0⟩ := HW.out; exact ⟨_, by first | rw [h0, World.drewN_drewN] | rw [h0, World.drewN_drewN, World.drewN_drewN]⟩)⟩ | ((repeat apply Exists.intro); exact ⟨⟨k + 1, k, by omega, by go_num, rfl, by omega, by omega, Lib.hid (LeastAt.take HL.out hlk.out HB.out (.inr ⟨n, y, rfl, hly.out, S.out⟩)), Lib.hid (by obtain ⟨n0, h0⟩ := HW.out; exact ⟨_, by first | rw [h0, World.drewN_drewN] | rw [h0, World.drewN_drewN, World.drewN_drewN]⟩)⟩, rfl⟩)
                case measure => simp [intOf]; omega
      · obtain rfl : k = l.length := by omega
        clear hlt hle hled hled2 hk
        have O3 := Lib.hid (show wr.ownsRow w.heap.size 35 1 (.slice qo no co) no (out.map Value.string) by obtain ⟨n, rfl⟩ := HW.out; exact OW.out)
        have K3 := Lib.hid (show Below w.heap.size w wr by obtain ⟨n, rfl⟩ := HW.out; exact below_drewN K.out n)
        clear OW K HW
        by_cases hn : nxt < 0
        · obtain rfl : nxt = -1 := by omega
          have HE := Lib.hid (show ris l = out by have h := LeastAt.none HR.out HL.out; have h2 := HR.out; rw [h, List.append_nil] at h2; exact h2)
          clear hn
          go_wp2_with fail
          go_ret
          exact ⟨_, rfl, by rw [HE.out]; exact AddrsG.of_owns O3.out, K3.out⟩
        · obtain ⟨n, rfl⟩ : ∃ n : Nat, nxt = n := ⟨nxt.toNat, by omega⟩
          have hnl : n < l.length := by omega
          have hne : l ≠ [] := by rintro rfl; simp at hnl
          obtain rfl := (HP.out hne).1
          have hly := Lib.hid (List.getElem?_eq_getElem hnl)
          generalize l[n] = y at hly
          have y1 := cell_below K3.out (HC.out n y hly.out)
          obtain ⟨t, ht⟩ := LeastAt.some HR.out HL.out hly.out
          have HR2 := Lib.hid (show ris l = (out ++ [y]) ++ t by rw [HR.out, ht]; simp)
          have hno2 : no + 1 ≤ l.length := by
            have h1 := RL.out
            rw [HR2.out] at h1
            have h2 := HN.out
            simp only [List.length_append, List.length_cons, List.length_nil] at h1
            omega
          have dn : decide ((n : Int) < 0) = false := decide_eq_false hn
          clear hne ht HR HL
          go_wp2_with (at_builtin; refine wpList_append_own _ rfl _ _ 26 rfl w.heap.size 35 i0 (.string ⟨#[]⟩) 1 16 Try.underlying26 hi hz0 hz1 hz2 rfl (by decide) _ _ _ rfl (O3.out.alloc _) ⟨wr.heap.size, 0, none⟩ 1 1 [.string y] rfl rfl ?d1 ?d2 ?d3 ?d4 ?d5 ?_)
          case d2 => first | rfl | (intro u hu; simp at hu; subst hu; rfl)
          case d3 => unfold maxLen; omega
          case d4 => omega
          case d5 => have := K3.out.size; simp at this ⊢; omega
          intro v9 w7 hown7 hg7 _
          obtain ⟨p9, c9, rfl⟩ := fl_owns_slice hown7
          have O9 := Lib.hid (show w7.ownsRow w.heap.size 35 1 (.slice p9 (no + 1) c9) (no + 1) ((out ++ [y]).map Value.string) by rw [List.map_append]; exact hown7)
          have K9 := Lib.hid ((K3.out.alloc K3.out.size _).grown hg7 (by have := K3.out.size; simp at this ⊢; omega) (fun j hj => (O3.out.lt j hj).1))
          clear hown7 hg7
          go_wp2_with fail
          go_roundw
          case rel => exact ⟨out ++ [y], t, p9, no + 1, c9, rfl, hno2, Lib.hid (by rw [List.length_append, ← HN.out]; rfl), HR2, O9, K9⟩
          case measure => simp; omega


set_option maxHeartbeats 4000000 in
set_option maxRecDepth 100000 in
theorem rnorm_c (ex : Bool) (vs : Value) (l : List ByteArray) (w : World) (hl : l.length ≤ 1000000) (ha : AddrsAt w vs l) :
    Calls Try.prog 40 #[.agg #[.bool ex, vs]] w (FPost (normF ⟨ex, l⟩) w) := by
  have HA := Lib.hid ha
  obtain ⟨p, cp, rfl⟩ := ha.slice
  have B := Lib.hid (KS.start w #[.bool ex, .slice p l.length cp] #[.bool false, .slice none 0 0] 28)
  have HR := Lib.hid fun U (hU : Below w.heap.size w U) => rris_c _ l U hl (HA.out.below hU)
  unfold FPost normF
  simp only
  generalize ris l = rl at HR ⊢
  unfold MPost at HR
  generalize l.length = n at *
  clear ha hl
  go_enter Try.func40, Try.ntmps40
  go_wp2_with fail
  generalize (w.alloc (.cells #[.bool ex, .slice p n cp] 28)).alloc (.cells #[.bool false, .slice none 0 0] 28) = W at B ⊢
  have HRa := Lib.hid (HR.out _ B.out.bel)
  have HRb := Lib.hid (HR.out _ B.out.bel.drew)
  have KF := Lib.hid fun (U : World) (k : KQ w U #[.bool ex, .slice p n cp] 28) => (⟨k.cell0 0 rfl, k.cell0 1 rfl⟩ : U.cell? ⟨w.heap.size, 0, none⟩ = some (.bool ex) ∧ U.cell? ⟨w.heap.size, 1, none⟩ = some (.slice p n cp))
  have k0 := B.out.kq
  obtain ⟨x0, x1⟩ := KF.out W k0
  clear HR HA HRa
  go_region_held3 (fun U => U.cell? ⟨w.heap.size, 0, none⟩ = some (.bool ex) ∧ U.cell? ⟨w.heap.size, 1, none⟩ = some (.slice p n cp))
    (first
      | with_reducible exact KF.out _ ((k3.set _ _).set _ _)
      | with_reducible exact KF.out _ (k3.drew.set _ _ |>.set _ _)
      | with_reducible exact KF.out _ k3
      | with_reducible exact KF.out _ k3.drew
      | with_reducible exact KF.out _ k0
      | with_reducible exact KF.out _ k0.drew)
    (first | (go_at_call 62; (with_reducible refine HRb.out.mono ?_); rintro e w3 ⟨v3, rfl, a3, h3⟩; have B3 := Lib.hid (show KS w w3 #[.bool ex, .slice p n cp] #[.bool false, .slice none 0 0] 28 from KS.below B.out.drew h3); have A3 := Lib.hid a3; have k3 := B3.out.kq; obtain ⟨p3, c3, rfl⟩ := a3.slice; have y0 := B3.out.cell1 0 rfl; have y1 := B3.out.cell1 1 rfl; have fr := (fun j => B3.out.free1 j); have hz := B3.out.lt; clear a3 h3))
  all_goals
    go_wp2_with fail
    refine bodyPost_ret (v := .agg #[.bool ex, .slice p3 rl.length c3]) (by simp [results, Try.results40, go_sem, y0, y1]) rfl ⟨_, rfl, ?_, ?_⟩
    · exact (((A3.out.mono (B' := w.heap.size + 1 + 1) B.out.drew.lt id).store (c := w.heap.size + 1) (by omega)).store (c := w.heap.size + 1) (by omega)).mono (by omega) id
    · exact (B3.out.bel.setCell (p := ⟨w.heap.size + 1, 0, none⟩) (Nat.le_succ _) _).setCell (p := ⟨w.heap.size + 1, 1, none⟩) (Nat.le_succ _) _

end Go.Proofs.Ythpafojeadbjlaa
