/-
  A message of its own: the law's 'copied'. A contract over the translated program.
-/
import Derived.Test.YtfdiaaggmjlkbaaAppA
import Derived.Test.YtfdiaaggmjlkbaaIgRd
import Derived.StillTailTactics
import Derived.Deep.Cut
namespace Go.Proofs.Ytfdiaaggmjlkbaa
open Go.RowKit
set_option linter.unusedVariables false

theorem below_grown_none {w w' : World} (h : w.grownBy w' none) : Below w.heap.size w w' := (Below.refl _ _).grown h (Nat.le_refl _) (fun k hk => by cases hk)
theorem owns_slice {w : World} {base e size n : Nat} {v : Value} {xs : List Value} (h : w.ownsRow base e size v n xs) : ∃ p c, v = .slice p n c := by
  rcases h.2 with ⟨hv, h0⟩ | ⟨g, cap, cur, hv, _⟩
  · exact ⟨none, 0, by rw [hv, h0]⟩
  · exact ⟨_, _, hv⟩
theorem Box.bel {w0 w : World} {xs : Array Value} {t : TypeId} (h : Box w0 w xs t) : Below w0.heap.size w0 w := h.2
theorem Box.drew {w0 w : World} {xs : Array Value} {t : TypeId} (h : Box w0 w xs t) : Box w0 w.drew xs t := ⟨h.1, h.2.drew⟩

/-- What copied answers. -/
def CopPost (m : Msg) (w : World) (e : Ending) (w' : World) : Prop := ∃ vs vr, e = .returned (m.val vs vr) ∧ AddrsAt w' vs m.srcs ∧ RecsAt w' vr m.recs ∧ Below w.heap.size w w'

set_option maxHeartbeats 4000000 in
set_option maxRecDepth 100000 in
theorem copied_c (m : Msg) (vs vr : Value) (w : World) (hl : m.srcs.length ≤ 100) (hr : m.recs.length ≤ 40) (hs : ∀ r ∈ m.recs, r.srcs.length ≤ 100) (ha : AddrsAt w vs m.srcs) (hb : RecsAt w vr m.recs) :
    Calls Try.prog 6 #[m.val vs vr] w (CopPost m w) := by
  obtain ⟨k, v, g, mx, q, rob, ev, ss, L⟩ := m
  obtain ⟨i0, hi, hz1, hz2⟩ := info_rec0
  have hz0 : i0.zero = some (.agg #[.int .i64 0, .string ⟨#[]⟩, .slice none 0 0]) := by
    have h := info_recz
    rw [hi] at h
    simpa using h
  unfold CopPost
  simp only [Msg.val] at *
  obtain ⟨p7, c7, rfl⟩ := ha.slice
  have HA := Lib.hid ha
  obtain ⟨p8, c8, b, off, rfl, hp, hc⟩ := hb
  have HP := Lib.hid hp
  have HC := Lib.hid hc
  have HS := Lib.hid hs
  clear hp hc hs ha
  have B := Lib.hid (IB3.start w #[.int .i64 k, .int .i64 v, .string g, .int .i64 mx, .bool q, .int .i64 rob, .int .i64 ev, .slice p7 ss.length c7, .slice p8 L.length c8] #[.int .i64 0, .int .i64 0, .string ⟨#[]⟩, .int .i64 0, .bool false, .int .i64 0, .int .i64 0, .slice none 0 0, .slice none 0 0] #[.int .i64 k, .int .i64 v, .string g, .int .i64 mx, .bool q, .int .i64 rob, .int .i64 ev, .slice none 0 0, .slice p8 L.length c8] 26)
  go_enter Try.func6, Try.ntmps6
  go_wp2_with (at_builtin; refine wpList_append_addrs rfl _ _ rfl (w.heap.size + 1 + 1 + 1) _ 0 [] rfl (World.ownsRow_nil _ _ _ _) _ ss rfl ?a1 ?a2 ?a3 ?a4 ?_)
  case a1 => exact HA.out.below B.out.bel
  case a2 => unfold maxLen; omega
  case a3 => omega
  case a4 => simp
  intro v' w3 hown hgrow
  replace B := Lib.hid (B.out.grown hgrow (fun g hg => by simp [Value.ownBlock] at hg))
  have AS := Lib.hid (AddrsG.of_owns (l := ss) (by simpa using hown))
  obtain ⟨p9, c9, rfl⟩ := AS.out.slice
  replace AS := Lib.hid ((AS.out.store (c := w.heap.size + 1 + 1) (j := 7) (u := .slice p9 ss.length c9) (by omega)).store (c := w.heap.size + 1 + 1) (j := 8) (u := .slice none 0 0) (by omega))
  clear hown hgrow
  have z7 := B.out.cell2 7 rfl
  have z8 := B.out.cell2 8 rfl
  have fr2 := fun j => B.out.free2 j
  replace B := Lib.hid ((B.out.set2 7 (.slice p9 ss.length c9)).set2 8 (.slice none 0 0))
  go_wp2_with fail
  clear z7 z8 fr2
  go_loopw [4, 5] (fun i _ wr => ∃ (j : Nat) (pR : Option Addr) (cR : Nat) (xs : List Value), j ≤ L.length ∧ i = .int .i64 j ∧ Hid (IB3 w wr #[.int .i64 k, .int .i64 v, .string g, .int .i64 mx, .bool q, .int .i64 rob, .int .i64 ev, .slice p7 ss.length c7, .slice p8 L.length c8] #[.int .i64 0, .int .i64 0, .string ⟨#[]⟩, .int .i64 0, .bool false, .int .i64 0, .int .i64 0, .slice none 0 0, .slice none 0 0] #[.int .i64 k, .int .i64 v, .string g, .int .i64 mx, .bool q, .int .i64 rob, .int .i64 ev, .slice p9 ss.length c9, .slice pR j cR] 26) ∧ Hid (AddrsG (w.heap.size + 1 + 1 + 1) true wr (.slice p9 ss.length c9) ss) ∧ Hid (wr.ownsRow (w.heap.size + 1 + 1 + 1) 35 3 (.slice pR j cR) j xs) ∧ Hid (RowsOf (w.heap.size + 1 + 1 + 1) wr xs (L.take j))) (fun i _ _ => L.length - (intOf i).toNat)
  case atStart => exact ⟨0, none, 0, [], Nat.zero_le _, rfl, B, AS, Lib.hid (World.ownsRow_nil _ _ _ _), Lib.hid trivial⟩
  case round =>
    clear B AS
    obtain ⟨j, pR, cR, xs, hj, rfl, B, AS, OW, RW⟩ := hrel
    have z8 := B.out.cell0 8 rfl
    have hlt3 := B.out.lt
    by_cases hlt : j < L.length
    · have hne : L ≠ [] := by rintro rfl; simp at hlt
      obtain ⟨rfl, -⟩ := HP.out hne
      obtain ⟨y0, y1, vq, y2, aq⟩ := HC.out j _ (List.getElem?_eq_getElem hlt)
      have hT := Lib.hid (List.take_succ_eq_append_getElem hlt)
      have hq := HS.out _ (List.getElem_mem hlt)
      generalize L[j] = r at y0 y1 y2 aq hT hq
      obtain ⟨rk, rg, rs⟩ := r
      simp only at y0 y1 aq hq
      obtain ⟨pq, cq, rfl⟩ := aq.slice
      have AQ := Lib.hid aq
      have Y2 := Lib.hid y2
      have x0 := cell_below B.out.bel y0
      have x1 := cell_below B.out.bel y1
      have x2 := cell_below B.out.bel y2
      have hlt' : (j : Int) < (L.length : Int) := by omega
      clear hne y0 y1 y2 aq
      go_wp2_with fail
      have BX := Lib.hid (Box.start wr #[.int .i64 rk, .string rg, .slice none 0 0] 35)
      clear x0 x1 x2 z8
      have B1 := Lib.hid (B.out.below BX.out.bel)
      generalize wr.alloc (.cells #[.int .i64 rk, .string rg, .slice none 0 0] 35) = WA at BX B1 ⊢
      have hWA := BX.out.lt
      have x2 := BX.out.cell 2 rfl
      have y2 := cell_below B1.out.bel Y2.out
      have z8 := B1.out.cell0 8 rfl
      go_still_tail 8, (by kernel_rfl)
      change wpList _ _ _ _ _ WA.drew
      clear x2 y2 z8
      go_wp2_with (at_builtin; refine wpList_append_addrs rfl _ _ rfl WA.heap.size _ 0 [] rfl (World.ownsRow_nil _ _ _ _) _ rs rfl ?b1 ?b2 ?b3 ?b4 ?_)
      case b1 => exact (AQ.out.below B1.out.bel).below ((Below.refl _ WA).drew)
      case b2 => unfold maxLen; omega
      case b3 => omega
      case b4 => exact Nat.le_refl _
      intro v2 w5 hown2 hg2
      have G5 := Lib.hid (show Below WA.heap.size WA w5 from ((Below.refl _ WA).drew).trans (below_grown_none hg2))
      have A2 := Lib.hid (AddrsG.of_owns (l := rs) (by simpa using hown2))
      obtain ⟨p2, c2, rfl⟩ := A2.out.slice
      replace BX := Lib.hid (BX.out.below G5.out)
      replace B1 := Lib.hid (B1.out.below G5.out)
      clear hown2 hg2
      have x0 := BX.out.cell 0 rfl
      have x1 := BX.out.cell 1 rfl
      have x2 := BX.out.cell 2 rfl
      have fx := fun j => BX.out.free j
      have z8 := B1.out.cell2 8 rfl
      have hz5 := BX.out.lt
      have Bl6 := Lib.hid (BX.out.bel.setCell (p := ⟨wr.heap.size, 2, none⟩) (Nat.le_refl _) (.slice p2 rs.length c2))
      have OW6 := Lib.hid (owns_below OW.out Bl6.out)
      have Al := Lib.hid ((Below.refl _ (w5.setCell ⟨wr.heap.size, 2, none⟩ (.slice p2 rs.length c2))).alloc (Nat.le_refl _) (.cells #[.int .i64 rk, .string rg, .slice p2 rs.length c2] 35))
      go_wp2_with (at_builtin; refine wpList_append_own _ rfl _ _ 24 rfl (w.heap.size + 1 + 1 + 1) 35 i0 (.agg #[.int .i64 0, .string ⟨#[]⟩, .slice none 0 0]) 3 48 Try.underlying24 hi hz0 hz1 hz2 rfl (by decide) _ _ _ rfl (OW6.out.alloc _) ⟨w5.heap.size, 0, none⟩ 1 1 [.int .i64 rk, .string rg, .slice p2 rs.length c2] rfl rfl ?d1 ?d2 ?d3 ?d4 ?d5 ?_)
      case d1 => exact cells3s _ _ _ _ _ _ _ _
      case d2 => intro u hu; simp at hu; rcases hu with rfl | rfl | rfl <;> rfl
      case d3 => unfold maxLen; omega
      case d4 => omega
      case d5 => simp; omega
      intro v9 w7 hown7 hg7 _
      obtain ⟨p0, c0, rfl⟩ := owns_slice hown7
      clear x0 x1 x2 fx z8
      have OA := OW6.out.alloc (.cells #[.int .i64 rk, .string rg, .slice p2 rs.length c2] 35)
      have OT := owned_type OA (by decide)
      have B7 := Lib.hid (((B.out.below Bl6.out).below Al.out).grown hg7 (fun g hg => by have := (OA.lt g hg).1; omega))
      have AS7 := Lib.hid (((AS.out.below Bl6.out).below Al.out).grown hg7 OT)
      have A27 := Lib.hid ((((A2.out.store (c := wr.heap.size) (j := 2) (u := .slice p2 rs.length c2) hWA).below Al.out).grown hg7 OT).mono (B' := w.heap.size + 1 + 1 + 1) (by omega) id)
      have RW7 := Lib.hid (RowsOf.snoc (r := ⟨rk, rg, rs⟩) (((RW.out.below Bl6.out).below Al.out).grown OA (by decide) hg7) A27.out)
      have OW7 := Lib.hid hown7
      clear hown7 hg7 OA OT
      have z8 := B7.out.cell2 8 rfl
      have fr2 := fun j => B7.out.free2 j
      have B8 := Lib.hid (B7.out.set2 8 (.slice p0 (j + 1) c0))
      have AS8 := Lib.hid (AS7.out.store (c := w.heap.size + 1 + 1) (j := 8) (u := .slice p0 (j + 1) c0) (by omega))
      have OW8 := Lib.hid (owns_store (c := w.heap.size + 1 + 1) (j := 8) (u := .slice p0 (j + 1) c0) OW7.out (by omega))
      have RW8 := Lib.hid (RW7.out.map fun vs l ha => ha.store (c := w.heap.size + 1 + 1) (j := 8) (u := .slice p0 (j + 1) c0) (by omega))
      go_wp2_with fail
      clear z8 fr2
      go_roundw
      case rel => exact ⟨j + 1, p0, c0, _, by omega, by go_num, B8, AS8, OW8, Lib.hid (by rw [hT.out]; exact RW8.out)⟩
      case measure => simp [intOf]; omega
    · obtain rfl : j = L.length := by omega
      have RG := RecsG.of_owns OW.out (L := L) (by have h := RW.out; rw [List.take_length] at h; exact h)
      have RG := Lib.hid RG
      clear hlt
      have z0 := B.out.cell2 0 rfl
      have z1 := B.out.cell2 1 rfl
      have z2 := B.out.cell2 2 rfl
      have z3 := B.out.cell2 3 rfl
      have z4 := B.out.cell2 4 rfl
      have z5 := B.out.cell2 5 rfl
      have z6 := B.out.cell2 6 rfl
      have z7 := B.out.cell2 7 rfl
      have zz8 := B.out.cell2 8 rfl
      have u0 := B.out.cell1 0 rfl
      have u1 := B.out.cell1 1 rfl
      have u2 := B.out.cell1 2 rfl
      have u3 := B.out.cell1 3 rfl
      have u4 := B.out.cell1 4 rfl
      have u5 := B.out.cell1 5 rfl
      have u6 := B.out.cell1 6 rfl
      have u7 := B.out.cell1 7 rfl
      have u8 := B.out.cell1 8 rfl
      have fr1 := fun j => B.out.free1 j
      go_wp2_with fail
      refine bodyPost_ret (v := .agg #[.int .i64 k, .int .i64 v, .string g, .int .i64 mx, .bool q, .int .i64 rob, .int .i64 ev, .slice p9 ss.length c9, .slice pR L.length cR]) (by simp [results, Try.results6, go_sem, u0, u1, u2, u3, u4, u5, u6, u7, u8]) rfl ⟨.slice p9 ss.length c9, .slice pR L.length cR, rfl, ?_, ?_, ?_⟩
      · refine AddrsG.at (B := w.heap.size + 1 + 1 + 1) (ty := true) ?_
        iterate 9 (refine AddrsG.store ?_ (by omega))
        exact AS.out
      · refine RecsG.at (B := w.heap.size + 1 + 1 + 1) (ty := true) ?_
        iterate 9 (refine RecsG.store ?_ (by omega))
        exact RG.out
      · iterate 9 (refine Below.setCell ?_ (by show _ ≤ w.heap.size + 1; omega) _)
        exact B.out.bel

end Go.Proofs.Ytfdiaaggmjlkbaa
