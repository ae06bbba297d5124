/-
  rstp: Link, Hear. Contracts over the translated program.
-/
import Derived.Test.YtdjeifbbbpbhoaaRsF
namespace Go.Proofs.Ytdjeifbbbpbhoaa
open Go.RowKit
set_option linter.unusedVariables false
set_option linter.unusedSimpArgs false

section
variable {w : World} {B t rb cap : Nat} {A : List Nat} {T : Part}

set_option maxHeartbeats 2000000 in
set_option maxRecDepth 100000 in
theorem link_c (h : HasS w B t rb cap A T) (n : Int) (up : Bool) (now : Int) : Calls Try.prog 14 #[.pointer (some ⟨t, 0, none⟩), .int .i64 n, .bool up, .int .i64 now] w fun e w' => e = .returned (.tuple #[]) ∧ HasS w' B t rb cap A (T.link n up now) ∧ Tt isS B w w' := by
  unfold Part.link
  cases hat : T.at? n with
  | none =>
    have HP := Lib.hid (port_no h n (by rw [← h.len]; exact at_none hat))
    have H := Lib.hid h
    clear h hat
    go_enter Try.func14, Try.ntmps14
    go_wp2_with fail
    ((with_reducible refine HP.out.mono ?_); rintro e w1 ⟨rfl, rfl⟩)
    go_wp2_with fail
    exact bodyPost_ret (v := .tuple #[]) (by simp [results, Try.results14, go_sem]) rfl ⟨rfl, H.out, Tt.refl _ _ _⟩
  | some p =>
    obtain ⟨k, rfl, hk, hp⟩ := at_some hat
    obtain ⟨a, p', ha, hp', -⟩ := h.pair (k := k) (by rw [← h.len]; exact (List.getElem?_eq_some_iff.1 hp).1)
    rw [hp] at hp'
    cases hp'
    have HP := Lib.hid (port_yes h ha)
    have H := Lib.hid h
    have HA := Lib.hid ha
    have HK := Lib.hid hk
    have HQ := Lib.hid hp
    clear hat ha hk hp
    simp only
    cases ht : timeR now with
    | false =>
      have HN := Lib.hid fun v U => goOn_no U v now ht
      clear h ht
      go_enter Try.func14, Try.ntmps14
      go_wp2_with fail
      ((with_reducible refine HP.out.mono ?_); rintro e w1 ⟨rfl, rfl⟩)
      go_wp2_with fail
      ((with_reducible refine (HN.out _ _).mono ?_); rintro e w1 ⟨rfl, rfl⟩)
      go_wp2_with fail
      exact bodyPost_ret (v := .tuple #[]) (by simp [results, Try.results14, go_sem]) rfl ⟨rfl, H.out, Tt.refl _ _ _⟩
    | true =>
      have HN := Lib.hid (goOn_yes h now ht)
      clear h ht
      go_enter Try.func14, Try.ntmps14
      go_wp2_with fail
      ((with_reducible refine HP.out.mono ?_); rintro e w1 ⟨rfl, rfl⟩)
      go_wp2_with fail
      ((with_reducible refine HN.out.mono ?_); rintro e w1 ⟨rfl, h1, k1⟩)
      obtain ⟨kv, hb, hkv⟩ := h1.ports k a p HA.out HQ.out
      have hgp := Lib.hid (h1.good.ps p (List.mem_of_getElem? HQ.out))
      have x1 := prt_c1 hb
      have x2 := prt_c2 hb
      have f1 := free_of_block (j := 1) hb
      have f2 := free_of_block (j := 2) hb
      have HB := Lib.hid hb
      have HV := Lib.hid hkv
      have H1 := Lib.hid h1
      have K1 := Lib.hid k1
      clear hb hkv h1 k1 HP HN
      cases up with
      | true =>
        go_upto_region 5 with fail
        have hx := (Only.setCell w1 a 1 (.bool true)).drewL 0
        have hs := heap_store (j := 1) (v := .bool true) HB.out
        have HS2 := Lib.hid (H1.out.port HA.out (Only.setCell w1 a 1 (.bool true)) (p := p.link true) ⟨kv, hs, HV.out.only (Only.setCell w1 a 1 (.bool true)) HB.out⟩ (link_good hgp.out true))
        have HT2 := Lib.hid (K1.out.trans (H1.out.ttP HA.out (Only.setCell w1 a 1 (.bool true))))
        clear hx hs x1 x2 f1 f2 HB HV
        generalize w1.setCell ⟨a, 1, none⟩ (.bool true) = W at HS2 HT2 ⊢
        have HR := Lib.hid (right_c HS2.out)
        go_wp2_with fail
        ((with_reducible refine HR.out.mono ?_); rintro e w3 ⟨rfl, h3, t3⟩)
        go_wp2_with fail
        go_end0
        exact ⟨rfl, h3, HT2.out.trans t3⟩
      | false =>
        go_upto_region 5 with fail
        have hx := (Only.setCell w1 a 1 (.bool false)).set 2 (.pointer none)
        have hs := heap_store (j := 2) (v := .pointer none) (heap_store (j := 1) (v := .bool false) HB.out)
        have HS2 := Lib.hid (H1.out.port HA.out hx (p := p.link false) ⟨.pointer none, hs, rfl⟩ (link_good hgp.out false))
        have HT2 := Lib.hid (K1.out.trans (H1.out.ttP HA.out hx))
        clear hx hs x1 x2 f1 f2 HB HV
        generalize (w1.setCell ⟨a, 1, none⟩ (.bool false)).setCell ⟨a, 2, none⟩ (.pointer none) = W at HS2 HT2 ⊢
        have HR := Lib.hid (right_c HS2.out)
        go_wp2_with fail
        ((with_reducible refine HR.out.mono ?_); rintro e w3 ⟨rfl, h3, t3⟩)
        go_wp2_with fail
        go_end0
        exact ⟨rfl, h3, HT2.out.trans t3⟩
end

end Go.Proofs.Ytdjeifbbbpbhoaa
