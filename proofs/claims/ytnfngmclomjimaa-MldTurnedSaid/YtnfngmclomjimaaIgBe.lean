/-
  Writing records: igmp.Body. A contract over the translated program.
-/
import Derived.Test.YtnfngmclomjimaaIgBd
namespace Go.Proofs.Ytnfngmclomjimaa
open Go.RowKit
set_option linter.unusedVariables false

/-- What Body answers in memory. -/
def BodyPost (t : Int × ByteArray) (w : World) (e : Ending) (w' : World) : Prop := e = .returned (.tuple #[.string t.2, .int .i64 t.1]) ∧ Below w.heap.size w w'

/-- A fresh writer that has written nothing. -/
def Fresh (b : Nat) (w : World) : Prop := w.heap[b]? = some (.cells #[.pointer none, .slice none 0 0] 113 (0, 0))

set_option maxHeartbeats 2000000 in
set_option maxRecDepth 100000 in
theorem body_go (v : Value) (L : List Rec) (size : Int) (w : World) (hz : sizeB size = true) (hL : L.length ≤ 30) (hs : ∀ r ∈ L, r.srcs.length ≤ 9223372036854775807) (ha : RecsAt w v L) :
    Calls Try.prog 60 #[v, .int .i64 size] w (BodyPost (bodyI L size) w) := by
  have HZ := Lib.hid fun U => issize_c size U
  rw [hz] at HZ
  have hz16 : size ≤ 16 := by have := of_decide_eq_true hz; omega
  have HR := Lib.hid ha
  obtain ⟨p, cap, b, off, rfl, hp, hc⟩ := ha
  have HP := Lib.hid hp
  have HC := Lib.hid hc
  have HS := Lib.hid hs
  have hL' : (L.length : Int) ≤ 30 := by omega
  have VN := Lib.hid fun (h : L.all (fun r => recB r size) = false) => show bodyI L size = (1, ⟨#[]⟩) from by unfold bodyI; rw [if_neg (by rw [hz]; simp; omega), if_neg (by rw [h]; simp)]
  have VY := Lib.hid fun (h : L.all (fun r => recB r size) = true) => show bodyI L size = (0, ⟨(L.flatMap recL).toArray⟩) from by unfold bodyI; rw [if_neg (by rw [hz]; simp; omega), if_pos h]
  clear hp hc hs hz
  go_enter Try.func60, Try.ntmps60
  go_wp2_with fail
  ((with_reducible refine (HZ.out _).mono ?_); rintro e w1 ⟨rfl, rfl⟩)
  go_wp2_with fail
  go_loopw [8, 19] (fun _ i wr => ∃ k : Nat, k ≤ L.length ∧ i = .int .i64 k ∧ Hid (∀ r ∈ L.take k, recB r size = true) ∧ Hid (Wr.Bld w.heap.size ((L.take k).flatMap recL) wr) ∧ Hid (Below w.heap.size w wr) ∧ Hid (k = 0 → Fresh w.heap.size wr)) (fun _ i _ => L.length - (intOf i).toNat)
  case atStart => exact ⟨0, Nat.zero_le _, rfl, Lib.hid (fun r hr => by simp at hr), Lib.hid (by rw [List.take_zero]; exact Wr.Bld.fresh w), Lib.hid ((Below.refl _ w).alloc (Nat.le_refl _) _), Lib.hid (fun _ => heap_new _ _)⟩
  case round =>
    obtain ⟨k, hk, rfl, hall, hB, hD, hF⟩ := hrel
    by_cases hlt : k < L.length
    · have hne : L ≠ [] := by rintro rfl; simp at hlt
      obtain ⟨rfl, -⟩ := HP.out hne
      obtain ⟨x0, x1, vs, x2, xa⟩ := HC.out k _ (List.getElem?_eq_getElem hlt)
      have hT := Lib.hid (flat_take_rec L k hlt)
      have hTk := Lib.hid (List.take_succ_eq_append_getElem hlt)
      have hM := Lib.hid (List.getElem_mem hlt)
      have hsr := HS.out _ (List.getElem_mem hlt)
      generalize L[k] = r at x0 x1 x2 xa hT hTk hM hsr
      have y0 := cell_below hD.out x0
      have y1 := cell_below hD.out x1
      have y2 := cell_below hD.out x2
      obtain ⟨q, cq, rfl⟩ := xa.slice
      have XA := Lib.hid xa
      have hlt' : (k : Int) < (L.length : Int) := by omega
      have HM := Lib.hid fun U h => recmay_c r (.slice q r.srcs.length cq) size U hsr h
      have hbl := hB.out.lt
      clear x0 x1 x2 xa hne hsr
      rcases hrb : recB r size with _ | _
      · have V := Lib.hid (VN.out (by rw [List.all_eq_false]; exact ⟨r, hM.out, by rw [hrb]; simp⟩))
        rw [hrb] at HM
        clear hrb hM
        go_wp2_with fail
        have X1 : Box wr (wr.alloc (.cells #[.int .i64 r.kind, .string r.group, .slice q r.srcs.length cq] 42)) #[.int .i64 r.kind, .string r.group, .slice q r.srcs.length cq] 42 := Box.start _ _ _
        have XA2 := (XA.out.below hD.out).below X1.2
        ((with_reducible refine (HM.out _ XA2).mono ?_); rintro e w2 ⟨rfl, h2⟩)
        have D2 := Lib.hid (hD.out.trans ((X1.below h2).2.mono hD.out.size))
        clear X1 XA2 h2
        go_wp2_with fail
        go_ret2
        unfold BodyPost
        rw [V.out]
        exact ⟨rfl, D2.out⟩
      · have hall2 := Lib.hid (show ∀ x ∈ L.take (k + 1), recB x size = true by
          rw [hTk.out]
          intro x hx
          rcases List.mem_append.1 hx with h | h
          · exact hall.out x h
          · rw [List.mem_singleton.1 h]; exact hrb)
        obtain ⟨r1, r2, r3, r4, r5⟩ := rec_len r size hrb hz16
        have hlen := recs_len size hz16 (L.take k) hall.out
        have hlk : (L.take k).length ≤ 30 := by rw [List.length_take]; omega
        rw [hrb] at HM
        have HWr := Lib.hid fun U h1 h2 => wrec_c w.heap.size ((L.take k).flatMap recL) r (.slice q r.srcs.length cq) U h1 h2 r2 r3 r4 r5 (by omega)
        clear hrb hM r1 r2 r3 r4 r5 hlen hlk
        go_wp2_with fail
        have X1 : Box wr (wr.alloc (.cells #[.int .i64 r.kind, .string r.group, .slice q r.srcs.length cq] 42)) #[.int .i64 r.kind, .string r.group, .slice q r.srcs.length cq] 42 := Box.start _ _ _
        have XA2 := (XA.out.below hD.out).below X1.2
        ((with_reducible refine (HM.out _ XA2).mono ?_); rintro e w2 ⟨rfl, h2⟩)
        have X2 := Lib.hid (X1.below h2)
        have B2 := Lib.hid (hB.out.below X2.out.2)
        have D2 := Lib.hid (hD.out.trans (X2.out.2.mono hD.out.size))
        have AW := AddrsW.of_at XA.out D2.out (Nat.le_refl _)
        have z0 := X2.out.cell 0 rfl
        have z1 := X2.out.cell 1 rfl
        have z2 := X2.out.cell 2 rfl
        clear X1 XA2 h2 y0 y1 y2
        go_wp2_with fail
        ((with_reducible refine (HWr.out _ B2.out AW).mono ?_); rintro e w3 ⟨rfl, b3, h3, o3⟩)
        have B3 := Lib.hid (show Wr.Bld w.heap.size ((L.take (k + 1)).flatMap recL) w3 by rw [hT.out]; exact b3)
        have D3 := Lib.hid (D2.out.trans h3)
        clear b3 h3 o3 AW z0 z1 z2
        go_wp2_with fail
        go_roundw
        case rel => exact ⟨k + 1, by omega, by go_num, hall2, B3, D3, Lib.hid (fun h => by omega)⟩
        case measure => simp [intOf]; omega
    · obtain rfl : k = L.length := by omega
      have V := Lib.hid (VY.out (by
        rw [List.all_eq_true]
        have h := hall.out
        rw [List.take_length] at h
        exact h))
      have B := hB.out
      rw [List.take_length] at B
      have BL := Lib.hid B
      clear B hlt
      by_cases h0 : L = []
      · subst h0
        have F0 := hF.out rfl
        go_wp2_with fail
        refine (lib_empty _ _ F0).mono ?_
        rintro e w2 ⟨rfl, h2⟩
        go_wp2_with fail
        go_ret2
        unfold BodyPost
        rw [V.out]
        exact ⟨rfl, hD.out.trans (h2.mono hD.out.size)⟩
      · have hne : L.flatMap recL ≠ [] := by
          cases L with
          | nil => exact absurd rfl h0
          | cons r L =>
            intro h
            have := congrArg List.length h
            rw [List.flatMap_cons, List.length_append] at this
            unfold recL at this
            simp only [List.length_append, bytesOf_length, List.length_nil] at this
            omega
        have HN := Lib.hid hne
        clear h0 hne
        go_wp2_with fail
        refine (Wr.bstr_some _ _ _ BL.out HN.out).mono ?_
        rintro e w2 ⟨rfl, b2, h2⟩
        go_wp2_with fail
        go_ret2
        unfold BodyPost
        rw [V.out]
        exact ⟨rfl, hD.out.trans h2⟩

end Go.Proofs.Ytnfngmclomjimaa
