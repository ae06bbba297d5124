/-
  VLANs: how a frame goes out, the document's Out. Contracts over the translated program.
-/
import Derived.Test.YtgoibogpebbkaaaVlI
import Derived.Test.YtgoibogpebbkaaaVlH
namespace Go.Proofs.Ytgoibogpebbkaaa
open Go.RowKit
set_option linter.unusedVariables false

set_option maxHeartbeats 4000000 in
set_option maxRecDepth 100000 in
theorem rout_c (p : Option Addr) (cap : Nat) (L : List Pt) (i : Int) (f : Fr) (w : World) (hl : L.length ≤ 9223372036854775807) (hp : PtsL L) (hx : f.x.size ≤ 140737488351232) (ha : PtsAt w (.slice p L.length cap) L) :
    Calls Try.prog 18 #[.slice p L.length cap, .int .i64 i, f.val] w (FrPost (outI L i f) w) := by
  have HC := Lib.hid fun (U : World) (hU : Below w.heap.size w U) => rchk_c _ L U hl hp (ha.below hU)
  have HF := Lib.hid fun U => rmayF f U hx
  have HW := Lib.hid trivial
  have HW2 := Lib.hid fun U => rmayF ⟨f.d, f.s, false, 0, 0, f.y, f.x⟩ U hx
  have V3 := outI_fault L i f
  have V4 := outI_v0 L i f
  have V5 := outI_none L i f
  have V6 := outI_bad L i f
  have V7 := outI_ok L i f
  have hk := fault_kind L i f
  have hpl := ok_plain f
  obtain ⟨d, s, t, v, q, y, x⟩ := f
  unfold FrPost
  simp only [Fr.val] at HF HW2 ⊢
  simp only at V4 V5 V6 V7 hk hpl
  have B := Lib.hid (IB2.start w #[.string d, .string s, .bool t, .int .i64 v, .int .i64 q, .int .i64 y, .string x] #[.string ⟨#[]⟩, .string ⟨#[]⟩, .bool false, .int .i64 0, .int .i64 0, .int .i64 0, .string ⟨#[]⟩] 33)
  generalize hok2 : Fr.ok ⟨d, s, false, 0, 0, y, x⟩ = ok2 at HW2
  generalize outI L i ⟨d, s, t, v, q, y, x⟩ = ans at V3 V4 V5 V6 V7 ⊢
  generalize faultI L i ⟨d, s, t, v, q, y, x⟩ = fi at V3 V4 V5 V6 V7 hk
  have hci := chkI_cases L
  generalize chkI L = ci at HC hci
  generalize chkB L = cb at hk hci
  clear hx HW
  rcases hk with ⟨rfl, rfl⟩ | ⟨rfl, rfl, hk⟩ | ⟨rfl, rfl, h0, h1, hok⟩
  · obtain rfl := V3 (by decide)
    obtain rfl : ci = 3 := by simpa using hci
    clear ha hp V3 V4 V5 V6 V7 hci hpl hok2
    go_enter Try.func18, Try.ntmps18
    go_wp2_with fail
    ((with_reducible refine (HC.out _ B.out.bel).mono ?_); rintro e w1 ⟨rfl, h1⟩)
    replace B := Lib.hid (B.out.below h1)
    clear h1
    have y0 := B.out.cell1 0 rfl
    have y1 := B.out.cell1 1 rfl
    have y2 := B.out.cell1 2 rfl
    have y3 := B.out.cell1 3 rfl
    have y4 := B.out.cell1 4 rfl
    have y5 := B.out.cell1 5 rfl
    have y6 := B.out.cell1 6 rfl
    have fr := fun j => B.out.free1 j
    have hz := B.out.lt
    go_wp2_with fail
    refine bodyPost_ret (v := .tuple #[.agg #[.string ⟨#[]⟩, .string ⟨#[]⟩, .bool false, .int .i64 0, .int .i64 0, .int .i64 0, .string ⟨#[]⟩], .int .i64 3]) (by simp [results, Try.results18, go_sem, y0, y1, y2, y3, y4, y5, y6]) rfl ⟨rfl, ?_⟩
    exact (((((((B.out.bel).setCell (p := ⟨w.heap.size + 1, 0, none⟩) (Nat.le_succ _) _).setCell (p := ⟨w.heap.size + 1, 1, none⟩) (Nat.le_succ _) _).setCell (p := ⟨w.heap.size + 1, 2, none⟩) (Nat.le_succ _) _).setCell (p := ⟨w.heap.size + 1, 3, none⟩) (Nat.le_succ _) _).setCell (p := ⟨w.heap.size + 1, 4, none⟩) (Nat.le_succ _) _).setCell (p := ⟨w.heap.size + 1, 5, none⟩) (Nat.le_succ _) _).setCell (p := ⟨w.heap.size + 1, 6, none⟩) (Nat.le_succ _) _
  · obtain rfl := V3 (by decide)
    obtain rfl : ci = 0 := by simpa using hci
    clear ha hp V3 V4 V5 V6 V7 hci hpl hok2
    by_cases h0 : i < 0
    · have d1 : decide (i < 0) = true := decide_eq_true h0
      clear h0 hk
      go_enter Try.func18, Try.ntmps18
      go_wp2_with fail
      ((with_reducible refine (HC.out _ B.out.bel).mono ?_); rintro e w1 ⟨rfl, h1⟩)
      replace B := Lib.hid (B.out.below h1)
      clear h1
      have y0 := B.out.cell1 0 rfl
      have y1 := B.out.cell1 1 rfl
      have y2 := B.out.cell1 2 rfl
      have y3 := B.out.cell1 3 rfl
      have y4 := B.out.cell1 4 rfl
      have y5 := B.out.cell1 5 rfl
      have y6 := B.out.cell1 6 rfl
      have fr := fun j => B.out.free1 j
      have hz := B.out.lt
      go_wp2_with fail
      refine bodyPost_ret (v := .tuple #[.agg #[.string ⟨#[]⟩, .string ⟨#[]⟩, .bool false, .int .i64 0, .int .i64 0, .int .i64 0, .string ⟨#[]⟩], .int .i64 1]) (by simp [results, Try.results18, go_sem, y0, y1, y2, y3, y4, y5, y6]) rfl ⟨rfl, ?_⟩
      exact (((((((B.out.bel).setCell (p := ⟨w.heap.size + 1, 0, none⟩) (Nat.le_succ _) _).setCell (p := ⟨w.heap.size + 1, 1, none⟩) (Nat.le_succ _) _).setCell (p := ⟨w.heap.size + 1, 2, none⟩) (Nat.le_succ _) _).setCell (p := ⟨w.heap.size + 1, 3, none⟩) (Nat.le_succ _) _).setCell (p := ⟨w.heap.size + 1, 4, none⟩) (Nat.le_succ _) _).setCell (p := ⟨w.heap.size + 1, 5, none⟩) (Nat.le_succ _) _).setCell (p := ⟨w.heap.size + 1, 6, none⟩) (Nat.le_succ _) _
    · have d1 : decide (i < 0) = false := decide_eq_false h0
      by_cases h2 : (L.length : Int) ≤ i
      · have d2 : decide ((L.length : Int) ≤ i) = true := decide_eq_true h2
        clear h0 h2 hk
        go_enter Try.func18, Try.ntmps18
        go_wp2_with fail
        ((with_reducible refine (HC.out _ B.out.bel).mono ?_); rintro e w1 ⟨rfl, h1⟩)
        replace B := Lib.hid (B.out.below h1)
        clear h1
        have y0 := B.out.cell1 0 rfl
        have y1 := B.out.cell1 1 rfl
        have y2 := B.out.cell1 2 rfl
        have y3 := B.out.cell1 3 rfl
        have y4 := B.out.cell1 4 rfl
        have y5 := B.out.cell1 5 rfl
        have y6 := B.out.cell1 6 rfl
        have fr := fun j => B.out.free1 j
        have hz := B.out.lt
        go_wp2_with fail
        refine bodyPost_ret (v := .tuple #[.agg #[.string ⟨#[]⟩, .string ⟨#[]⟩, .bool false, .int .i64 0, .int .i64 0, .int .i64 0, .string ⟨#[]⟩], .int .i64 1]) (by simp [results, Try.results18, go_sem, y0, y1, y2, y3, y4, y5, y6]) rfl ⟨rfl, ?_⟩
        exact (((((((B.out.bel).setCell (p := ⟨w.heap.size + 1, 0, none⟩) (Nat.le_succ _) _).setCell (p := ⟨w.heap.size + 1, 1, none⟩) (Nat.le_succ _) _).setCell (p := ⟨w.heap.size + 1, 2, none⟩) (Nat.le_succ _) _).setCell (p := ⟨w.heap.size + 1, 3, none⟩) (Nat.le_succ _) _).setCell (p := ⟨w.heap.size + 1, 4, none⟩) (Nat.le_succ _) _).setCell (p := ⟨w.heap.size + 1, 5, none⟩) (Nat.le_succ _) _).setCell (p := ⟨w.heap.size + 1, 6, none⟩) (Nat.le_succ _) _
      · have d2 : decide ((L.length : Int) ≤ i) = false := decide_eq_false h2
        have HOK := Lib.hid (show Fr.ok ⟨d, s, t, v, q, y, x⟩ = false by
          rcases hk with h | h | h
          · exact absurd h h0
          · exact absurd h h2
          · exact h)
        rw [HOK.out] at HF
        clear h0 h2 hk HOK
        go_enter Try.func18, Try.ntmps18
        go_wp2_with fail
        ((with_reducible refine (HC.out _ B.out.bel).mono ?_); rintro e w1 ⟨rfl, h1⟩)
        replace B := Lib.hid (B.out.below h1)
        clear h1
        have x0 := B.out.cell0 0 rfl
        have x1 := B.out.cell0 1 rfl
        have x2 := B.out.cell0 2 rfl
        have x3 := B.out.cell0 3 rfl
        have x4 := B.out.cell0 4 rfl
        have x5 := B.out.cell0 5 rfl
        have x6 := B.out.cell0 6 rfl
        go_wp2_with fail
        ((with_reducible refine (HF.out _).mono ?_); rintro e w2 ⟨rfl, h2⟩)
        clear x0 x1 x2 x3 x4 x5 x6
        replace B := Lib.hid (B.out.below h2)
        clear h2
        have y0 := B.out.cell1 0 rfl
        have y1 := B.out.cell1 1 rfl
        have y2 := B.out.cell1 2 rfl
        have y3 := B.out.cell1 3 rfl
        have y4 := B.out.cell1 4 rfl
        have y5 := B.out.cell1 5 rfl
        have y6 := B.out.cell1 6 rfl
        have fr := fun j => B.out.free1 j
        have hz := B.out.lt
        go_wp2_with fail
        refine bodyPost_ret (v := .tuple #[.agg #[.string ⟨#[]⟩, .string ⟨#[]⟩, .bool false, .int .i64 0, .int .i64 0, .int .i64 0, .string ⟨#[]⟩], .int .i64 1]) (by simp [results, Try.results18, go_sem, y0, y1, y2, y3, y4, y5, y6]) rfl ⟨rfl, ?_⟩
        exact (((((((B.out.bel).setCell (p := ⟨w.heap.size + 1, 0, none⟩) (Nat.le_succ _) _).setCell (p := ⟨w.heap.size + 1, 1, none⟩) (Nat.le_succ _) _).setCell (p := ⟨w.heap.size + 1, 2, none⟩) (Nat.le_succ _) _).setCell (p := ⟨w.heap.size + 1, 3, none⟩) (Nat.le_succ _) _).setCell (p := ⟨w.heap.size + 1, 4, none⟩) (Nat.le_succ _) _).setCell (p := ⟨w.heap.size + 1, 5, none⟩) (Nat.le_succ _) _).setCell (p := ⟨w.heap.size + 1, 6, none⟩) (Nat.le_succ _) _
  · rw [hok] at HF
    replace hpl := hpl hok
    obtain ⟨N, rfl⟩ := Int.eq_ofNat_of_zero_le h0
    have hN : N < L.length := by omega
    rw [ptAt_nat L N hN] at *
    obtain ⟨b, off, vt, vp, rfl, y0, y1, y2, a1, a2⟩ := pts_at ha hN
    have hM := hp _ (List.getElem_mem hN)
    generalize L[N] = r at *
    obtain ⟨rd, rt, rp⟩ := r
    have S1 := strip_in ⟨rd, rt, rp⟩ ⟨d, s, t, v, q, y, x⟩
    have S2 := strip_out ⟨rd, rt, rp⟩ ⟨d, s, t, v, q, y, x⟩
    simp only at y0 y1 y2 a1 a2 hM S1 S2
    have HM := Lib.hid fun (U : World) (hU : Below w.heap.size w U) => rmember_c ⟨rd, rt, rp⟩ vt vp v U (by have := hM.1; simp only; omega) (by have := hM.2; simp only; omega) (a1.below hU) (a2.below hU)
    simp only at HM
    have HH := Lib.hid fun (U : World) (hU : Below w.heap.size w U) => rhas_c vt rt v U (by have := hM.1; omega) (a1.below hU)
    generalize memB ⟨rd, rt, rp⟩ v = rm at HM V5 V6 V7
    generalize hasB rt v = th at HH S1 S2
    generalize strip ⟨rd, rt, rp⟩ ⟨d, s, t, v, q, y, x⟩ = sf at S1 S2 V6 V7
    obtain ⟨p1, c1, rfl⟩ := a1.slice
    obtain ⟨p2, c2, rfl⟩ := a2.slice
    generalize rt.length = n1 at *
    generalize rp.length = n2 at *
    have Y0 := Lib.hid y0
    have Y1 := Lib.hid y1
    have Y2 := Lib.hid y2
    have hN1 : (N : Int) < (L.length : Int) := by omega
    have hN0 : (0 : Int) ≤ (N : Int) := by omega
    clear y0 y1 y2 a1 a2 hM ha hp h0 h1
    clear V3
    replace V4 := V4 rfl
    replace V5 := V5 rfl
    replace V6 := V6 rfl
    replace V7 := V7 rfl
    obtain rfl : ci = 0 := by simpa using hci
    clear hci
    have d1 : decide ((N : Int) < 0) = false := decide_eq_false (by omega)
    have d2 : decide ((L.length : Int) ≤ (N : Int)) = false := decide_eq_false (by omega)
    have d3 : decide (L.length ≤ N) = false := decide_eq_false (by omega)
    rcases (show t = false ∨ t = true by cases t <;> simp) with ht | ht
    · obtain rfl : v = 0 := hpl ht
      obtain rfl := V4 rfl
      have HT := Lib.hid ht
      clear ht V4 V5 V6 V7 S1 S2 hok hok2 hpl
      go_enter Try.func18, Try.ntmps18
      go_wp2_with fail
      ((with_reducible refine (HC.out _ B.out.bel).mono ?_); rintro e w1 ⟨rfl, h1⟩)
      replace B := Lib.hid (B.out.below h1)
      clear h1
      have x0 := B.out.cell0 0 rfl
      have x1 := B.out.cell0 1 rfl
      have x2 := B.out.cell0 2 rfl
      have x3 := B.out.cell0 3 rfl
      have x4 := B.out.cell0 4 rfl
      have x5 := B.out.cell0 5 rfl
      have x6 := B.out.cell0 6 rfl
      go_wp2_with fail
      ((with_reducible refine (HF.out _).mono ?_); rintro e w2 ⟨rfl, h2⟩)
      clear x0 x1 x2 x3 x4 x5 x6
      replace B := Lib.hid (B.out.below h2)
      clear h2
      obtain rfl := HT.out
      clear HT
      have x0 := B.out.cell0 0 rfl
      have x1 := B.out.cell0 1 rfl
      have x2 := B.out.cell0 2 rfl
      have x3 := B.out.cell0 3 rfl
      have x4 := B.out.cell0 4 rfl
      have x5 := B.out.cell0 5 rfl
      have x6 := B.out.cell0 6 rfl
      have y0 := B.out.cell1 0 rfl
      have y1 := B.out.cell1 1 rfl
      have y2 := B.out.cell1 2 rfl
      have y3 := B.out.cell1 3 rfl
      have y4 := B.out.cell1 4 rfl
      have y5 := B.out.cell1 5 rfl
      have y6 := B.out.cell1 6 rfl
      have fr := fun j => B.out.free1 j
      have hz := B.out.lt
      go_wp2_with fail
      refine bodyPost_ret (v := .tuple #[.agg #[.string ⟨#[]⟩, .string ⟨#[]⟩, .bool false, .int .i64 0, .int .i64 0, .int .i64 0, .string ⟨#[]⟩], .int .i64 1]) (by simp [results, Try.results18, go_sem, y0, y1, y2, y3, y4, y5, y6]) rfl ⟨rfl, ?_⟩
      exact (((((((B.out.bel).setCell (p := ⟨w.heap.size + 1, 0, none⟩) (Nat.le_succ _) _).setCell (p := ⟨w.heap.size + 1, 1, none⟩) (Nat.le_succ _) _).setCell (p := ⟨w.heap.size + 1, 2, none⟩) (Nat.le_succ _) _).setCell (p := ⟨w.heap.size + 1, 3, none⟩) (Nat.le_succ _) _).setCell (p := ⟨w.heap.size + 1, 4, none⟩) (Nat.le_succ _) _).setCell (p := ⟨w.heap.size + 1, 5, none⟩) (Nat.le_succ _) _).setCell (p := ⟨w.heap.size + 1, 6, none⟩) (Nat.le_succ _) _
    · clear hpl
      have HT := Lib.hid ht
      clear ht
      by_cases hv : v = 0
      · obtain rfl := V4 hv
        obtain ⟨q1, q2⟩ := viet hv
        clear V4 V5 V6 V7 S1 S2 hok hok2 hv
        go_enter Try.func18, Try.ntmps18
        go_wp2_with fail
        ((with_reducible refine (HC.out _ B.out.bel).mono ?_); rintro e w1 ⟨rfl, h1⟩)
        replace B := Lib.hid (B.out.below h1)
        clear h1
        have x0 := B.out.cell0 0 rfl
        have x1 := B.out.cell0 1 rfl
        have x2 := B.out.cell0 2 rfl
        have x3 := B.out.cell0 3 rfl
        have x4 := B.out.cell0 4 rfl
        have x5 := B.out.cell0 5 rfl
        have x6 := B.out.cell0 6 rfl
        go_wp2_with fail
        ((with_reducible refine (HF.out _).mono ?_); rintro e w2 ⟨rfl, h2⟩)
        clear x0 x1 x2 x3 x4 x5 x6
        replace B := Lib.hid (B.out.below h2)
        clear h2
        obtain rfl := HT.out
        clear HT
        have x0 := B.out.cell0 0 rfl
        have x1 := B.out.cell0 1 rfl
        have x2 := B.out.cell0 2 rfl
        have x3 := B.out.cell0 3 rfl
        have x4 := B.out.cell0 4 rfl
        have x5 := B.out.cell0 5 rfl
        have x6 := B.out.cell0 6 rfl
        have y0 := B.out.cell1 0 rfl
        have y1 := B.out.cell1 1 rfl
        have y2 := B.out.cell1 2 rfl
        have y3 := B.out.cell1 3 rfl
        have y4 := B.out.cell1 4 rfl
        have y5 := B.out.cell1 5 rfl
        have y6 := B.out.cell1 6 rfl
        have fr := fun j => B.out.free1 j
        have hz := B.out.lt
        go_wp2_with fail
        refine bodyPost_ret (v := .tuple #[.agg #[.string ⟨#[]⟩, .string ⟨#[]⟩, .bool false, .int .i64 0, .int .i64 0, .int .i64 0, .string ⟨#[]⟩], .int .i64 1]) (by simp [results, Try.results18, go_sem, y0, y1, y2, y3, y4, y5, y6]) rfl ⟨rfl, ?_⟩
        exact (((((((B.out.bel).setCell (p := ⟨w.heap.size + 1, 0, none⟩) (Nat.le_succ _) _).setCell (p := ⟨w.heap.size + 1, 1, none⟩) (Nat.le_succ _) _).setCell (p := ⟨w.heap.size + 1, 2, none⟩) (Nat.le_succ _) _).setCell (p := ⟨w.heap.size + 1, 3, none⟩) (Nat.le_succ _) _).setCell (p := ⟨w.heap.size + 1, 4, none⟩) (Nat.le_succ _) _).setCell (p := ⟨w.heap.size + 1, 5, none⟩) (Nat.le_succ _) _).setCell (p := ⟨w.heap.size + 1, 6, none⟩) (Nat.le_succ _) _
      · obtain ⟨q1, q2⟩ := vint hv
        replace V5 := V5 hv
        replace V6 := V6 hv
        replace V7 := V7 hv
        clear V4 hv
        rcases rm with _ | _
        · obtain rfl := V5 rfl
          clear V5 V6 V7 S1 S2 hok hok2
          go_enter Try.func18, Try.ntmps18
          go_wp2_with fail
          ((with_reducible refine (HC.out _ B.out.bel).mono ?_); rintro e w1 ⟨rfl, h1⟩)
          replace B := Lib.hid (B.out.below h1)
          clear h1
          have x0 := B.out.cell0 0 rfl
          have x1 := B.out.cell0 1 rfl
          have x2 := B.out.cell0 2 rfl
          have x3 := B.out.cell0 3 rfl
          have x4 := B.out.cell0 4 rfl
          have x5 := B.out.cell0 5 rfl
          have x6 := B.out.cell0 6 rfl
          go_wp2_with fail
          ((with_reducible refine (HF.out _).mono ?_); rintro e w2 ⟨rfl, h2⟩)
          clear x0 x1 x2 x3 x4 x5 x6
          replace B := Lib.hid (B.out.below h2)
          clear h2
          obtain rfl := HT.out
          clear HT
          have x0 := B.out.cell0 0 rfl
          have x1 := B.out.cell0 1 rfl
          have x2 := B.out.cell0 2 rfl
          have x3 := B.out.cell0 3 rfl
          have x4 := B.out.cell0 4 rfl
          have x5 := B.out.cell0 5 rfl
          have x6 := B.out.cell0 6 rfl
          have z0 := icell_below B.out.bel Y0.out
          have z1 := icell_below B.out.bel Y1.out
          have z2 := icell_below B.out.bel Y2.out
          go_wp2_with fail
          go_still_tail 6, (by kernel_rfl)
          change wpList _ _ _ _ _ (World.drew _)
          clear x0 x1 x2 x3 x4 x5 x6 z0 z1 z2
          replace B := Lib.hid B.out.drew
          generalize World.drew w2 = W3 at B ⊢
          go_wp2_with fail
          ((with_reducible refine (HM.out _ B.out.bel).mono ?_); rintro e w3 ⟨rfl, h3⟩)
          replace B := Lib.hid (B.out.below h3)
          clear h3
          have y0 := B.out.cell1 0 rfl
          have y1 := B.out.cell1 1 rfl
          have y2 := B.out.cell1 2 rfl
          have y3 := B.out.cell1 3 rfl
          have y4 := B.out.cell1 4 rfl
          have y5 := B.out.cell1 5 rfl
          have y6 := B.out.cell1 6 rfl
          have fr := fun j => B.out.free1 j
          have hz := B.out.lt
          go_wp2_with fail
          refine bodyPost_ret (v := .tuple #[.agg #[.string ⟨#[]⟩, .string ⟨#[]⟩, .bool false, .int .i64 0, .int .i64 0, .int .i64 0, .string ⟨#[]⟩], .int .i64 6]) (by simp [results, Try.results18, go_sem, y0, y1, y2, y3, y4, y5, y6]) rfl ⟨rfl, ?_⟩
          exact (((((((B.out.bel).setCell (p := ⟨w.heap.size + 1, 0, none⟩) (Nat.le_succ _) _).setCell (p := ⟨w.heap.size + 1, 1, none⟩) (Nat.le_succ _) _).setCell (p := ⟨w.heap.size + 1, 2, none⟩) (Nat.le_succ _) _).setCell (p := ⟨w.heap.size + 1, 3, none⟩) (Nat.le_succ _) _).setCell (p := ⟨w.heap.size + 1, 4, none⟩) (Nat.le_succ _) _).setCell (p := ⟨w.heap.size + 1, 5, none⟩) (Nat.le_succ _) _).setCell (p := ⟨w.heap.size + 1, 6, none⟩) (Nat.le_succ _) _
        · replace V6 := V6 rfl
          replace V7 := V7 rfl
          clear V5
          rcases th with _ | _
          · obtain rfl := S2 rfl
            clear S1 S2 hok
            rcases ok2 with _ | _
            · obtain rfl := V6 hok2
              clear V6 V7 hok2
              go_enter Try.func18, Try.ntmps18
              go_wp2_with fail
              ((with_reducible refine (HC.out _ B.out.bel).mono ?_); rintro e w1 ⟨rfl, h1⟩)
              replace B := Lib.hid (B.out.below h1)
              clear h1
              have x0 := B.out.cell0 0 rfl
              have x1 := B.out.cell0 1 rfl
              have x2 := B.out.cell0 2 rfl
              have x3 := B.out.cell0 3 rfl
              have x4 := B.out.cell0 4 rfl
              have x5 := B.out.cell0 5 rfl
              have x6 := B.out.cell0 6 rfl
              go_wp2_with fail
              ((with_reducible refine (HF.out _).mono ?_); rintro e w2 ⟨rfl, h2⟩)
              clear x0 x1 x2 x3 x4 x5 x6
              replace B := Lib.hid (B.out.below h2)
              clear h2
              obtain rfl := HT.out
              clear HT
              have x0 := B.out.cell0 0 rfl
              have x1 := B.out.cell0 1 rfl
              have x2 := B.out.cell0 2 rfl
              have x3 := B.out.cell0 3 rfl
              have x4 := B.out.cell0 4 rfl
              have x5 := B.out.cell0 5 rfl
              have x6 := B.out.cell0 6 rfl
              have z0 := icell_below B.out.bel Y0.out
              have z1 := icell_below B.out.bel Y1.out
              have z2 := icell_below B.out.bel Y2.out
              go_wp2_with fail
              go_still_tail 6, (by kernel_rfl)
              change wpList _ _ _ _ _ (World.drew _)
              clear x0 x1 x2 x3 x4 x5 x6 z0 z1 z2
              replace B := Lib.hid B.out.drew
              generalize World.drew w2 = W3 at B ⊢
              go_wp2_with fail
              ((with_reducible refine (HM.out _ B.out.bel).mono ?_); rintro e w3 ⟨rfl, h3⟩)
              replace B := Lib.hid (B.out.below h3)
              clear h3
              have x0 := B.out.cell0 0 rfl
              have x1 := B.out.cell0 1 rfl
              have x2 := B.out.cell0 2 rfl
              have x3 := B.out.cell0 3 rfl
              have x4 := B.out.cell0 4 rfl
              have x5 := B.out.cell0 5 rfl
              have x6 := B.out.cell0 6 rfl
              have z0 := icell_below B.out.bel Y0.out
              have z1 := icell_below B.out.bel Y1.out
              have z2 := icell_below B.out.bel Y2.out
              go_wp2_with fail
              go_still_tail 7, (by kernel_rfl)
              change wpList _ _ _ _ _ (World.drew _)
              clear x0 x1 x2 x3 x4 x5 x6 z0 z1 z2
              replace B := Lib.hid B.out.drew
              generalize World.drew w3 = W4 at B ⊢
              go_wp2_with fail
              ((with_reducible refine (HH.out _ B.out.bel).mono ?_); rintro e w5 ⟨rfl, rfl⟩)
              have x0 := B.out.cell0 0 rfl
              have x1 := B.out.cell0 1 rfl
              have x2 := B.out.cell0 2 rfl
              have x3 := B.out.cell0 3 rfl
              have x4 := B.out.cell0 4 rfl
              have x5 := B.out.cell0 5 rfl
              have x6 := B.out.cell0 6 rfl
              have fr0 := fun j => B.out.free0 j
              go_wp2_with fail
              have B2 : IB2 w (((W4.setCell ⟨w.heap.size, 2, none⟩ (.bool false)).setCell ⟨w.heap.size, 3, none⟩ (.int .i64 0)).setCell ⟨w.heap.size, 4, none⟩ (.int .i64 0)) #[.string d, .string s, .bool false, .int .i64 0, .int .i64 0, .int .i64 y, .string x] #[.string ⟨#[]⟩, .string ⟨#[]⟩, .bool false, .int .i64 0, .int .i64 0, .int .i64 0, .string ⟨#[]⟩] 33 := ((B.out.set0 2 _).set0 3 _).set0 4 _
              clear x0 x1 x2 x3 x4 x5 x6 fr0
              generalize ((W4.setCell ⟨w.heap.size, 2, none⟩ (.bool false)).setCell ⟨w.heap.size, 3, none⟩ (.int .i64 0)).setCell ⟨w.heap.size, 4, none⟩ (.int .i64 0) = W2 at B2 ⊢
              replace B := Lib.hid B2
              clear B2
              have x0 := B.out.cell0 0 rfl
              have x1 := B.out.cell0 1 rfl
              have x2 := B.out.cell0 2 rfl
              have x3 := B.out.cell0 3 rfl
              have x4 := B.out.cell0 4 rfl
              have x5 := B.out.cell0 5 rfl
              have x6 := B.out.cell0 6 rfl
              go_wp2_with fail
              ((with_reducible refine (HW2.out _).mono ?_); rintro e w6 ⟨rfl, h6⟩)
              clear x0 x1 x2 x3 x4 x5 x6
              replace B := Lib.hid (B.out.below h6)
              clear h6
              have y0 := B.out.cell1 0 rfl
              have y1 := B.out.cell1 1 rfl
              have y2 := B.out.cell1 2 rfl
              have y3 := B.out.cell1 3 rfl
              have y4 := B.out.cell1 4 rfl
              have y5 := B.out.cell1 5 rfl
              have y6 := B.out.cell1 6 rfl
              have fr := fun j => B.out.free1 j
              have hz := B.out.lt
              go_wp2_with fail
              refine bodyPost_ret (v := .tuple #[.agg #[.string ⟨#[]⟩, .string ⟨#[]⟩, .bool false, .int .i64 0, .int .i64 0, .int .i64 0, .string ⟨#[]⟩], .int .i64 6]) (by simp [results, Try.results18, go_sem, y0, y1, y2, y3, y4, y5, y6]) rfl ⟨rfl, ?_⟩
              exact (((((((B.out.bel).setCell (p := ⟨w.heap.size + 1, 0, none⟩) (Nat.le_succ _) _).setCell (p := ⟨w.heap.size + 1, 1, none⟩) (Nat.le_succ _) _).setCell (p := ⟨w.heap.size + 1, 2, none⟩) (Nat.le_succ _) _).setCell (p := ⟨w.heap.size + 1, 3, none⟩) (Nat.le_succ _) _).setCell (p := ⟨w.heap.size + 1, 4, none⟩) (Nat.le_succ _) _).setCell (p := ⟨w.heap.size + 1, 5, none⟩) (Nat.le_succ _) _).setCell (p := ⟨w.heap.size + 1, 6, none⟩) (Nat.le_succ _) _
            · obtain rfl := V7 hok2
              clear V6 V7 hok2
              go_enter Try.func18, Try.ntmps18
              go_wp2_with fail
              ((with_reducible refine (HC.out _ B.out.bel).mono ?_); rintro e w1 ⟨rfl, h1⟩)
              replace B := Lib.hid (B.out.below h1)
              clear h1
              have x0 := B.out.cell0 0 rfl
              have x1 := B.out.cell0 1 rfl
              have x2 := B.out.cell0 2 rfl
              have x3 := B.out.cell0 3 rfl
              have x4 := B.out.cell0 4 rfl
              have x5 := B.out.cell0 5 rfl
              have x6 := B.out.cell0 6 rfl
              go_wp2_with fail
              ((with_reducible refine (HF.out _).mono ?_); rintro e w2 ⟨rfl, h2⟩)
              clear x0 x1 x2 x3 x4 x5 x6
              replace B := Lib.hid (B.out.below h2)
              clear h2
              obtain rfl := HT.out
              clear HT
              have x0 := B.out.cell0 0 rfl
              have x1 := B.out.cell0 1 rfl
              have x2 := B.out.cell0 2 rfl
              have x3 := B.out.cell0 3 rfl
              have x4 := B.out.cell0 4 rfl
              have x5 := B.out.cell0 5 rfl
              have x6 := B.out.cell0 6 rfl
              have z0 := icell_below B.out.bel Y0.out
              have z1 := icell_below B.out.bel Y1.out
              have z2 := icell_below B.out.bel Y2.out
              go_wp2_with fail
              go_still_tail 6, (by kernel_rfl)
              change wpList _ _ _ _ _ (World.drew _)
              clear x0 x1 x2 x3 x4 x5 x6 z0 z1 z2
              replace B := Lib.hid B.out.drew
              generalize World.drew w2 = W3 at B ⊢
              go_wp2_with fail
              ((with_reducible refine (HM.out _ B.out.bel).mono ?_); rintro e w3 ⟨rfl, h3⟩)
              replace B := Lib.hid (B.out.below h3)
              clear h3
              have x0 := B.out.cell0 0 rfl
              have x1 := B.out.cell0 1 rfl
              have x2 := B.out.cell0 2 rfl
              have x3 := B.out.cell0 3 rfl
              have x4 := B.out.cell0 4 rfl
              have x5 := B.out.cell0 5 rfl
              have x6 := B.out.cell0 6 rfl
              have z0 := icell_below B.out.bel Y0.out
              have z1 := icell_below B.out.bel Y1.out
              have z2 := icell_below B.out.bel Y2.out
              go_wp2_with fail
              go_still_tail 7, (by kernel_rfl)
              change wpList _ _ _ _ _ (World.drew _)
              clear x0 x1 x2 x3 x4 x5 x6 z0 z1 z2
              replace B := Lib.hid B.out.drew
              generalize World.drew w3 = W4 at B ⊢
              go_wp2_with fail
              ((with_reducible refine (HH.out _ B.out.bel).mono ?_); rintro e w5 ⟨rfl, rfl⟩)
              have x0 := B.out.cell0 0 rfl
              have x1 := B.out.cell0 1 rfl
              have x2 := B.out.cell0 2 rfl
              have x3 := B.out.cell0 3 rfl
              have x4 := B.out.cell0 4 rfl
              have x5 := B.out.cell0 5 rfl
              have x6 := B.out.cell0 6 rfl
              have fr0 := fun j => B.out.free0 j
              go_wp2_with fail
              have B2 : IB2 w (((W4.setCell ⟨w.heap.size, 2, none⟩ (.bool false)).setCell ⟨w.heap.size, 3, none⟩ (.int .i64 0)).setCell ⟨w.heap.size, 4, none⟩ (.int .i64 0)) #[.string d, .string s, .bool false, .int .i64 0, .int .i64 0, .int .i64 y, .string x] #[.string ⟨#[]⟩, .string ⟨#[]⟩, .bool false, .int .i64 0, .int .i64 0, .int .i64 0, .string ⟨#[]⟩] 33 := ((B.out.set0 2 _).set0 3 _).set0 4 _
              clear x0 x1 x2 x3 x4 x5 x6 fr0
              generalize ((W4.setCell ⟨w.heap.size, 2, none⟩ (.bool false)).setCell ⟨w.heap.size, 3, none⟩ (.int .i64 0)).setCell ⟨w.heap.size, 4, none⟩ (.int .i64 0) = W2 at B2 ⊢
              replace B := Lib.hid B2
              clear B2
              have x0 := B.out.cell0 0 rfl
              have x1 := B.out.cell0 1 rfl
              have x2 := B.out.cell0 2 rfl
              have x3 := B.out.cell0 3 rfl
              have x4 := B.out.cell0 4 rfl
              have x5 := B.out.cell0 5 rfl
              have x6 := B.out.cell0 6 rfl
              go_wp2_with fail
              ((with_reducible refine (HW2.out _).mono ?_); rintro e w6 ⟨rfl, h6⟩)
              clear x0 x1 x2 x3 x4 x5 x6
              replace B := Lib.hid (B.out.below h6)
              clear h6
              have x0 := B.out.cell0 0 rfl
              have x1 := B.out.cell0 1 rfl
              have x2 := B.out.cell0 2 rfl
              have x3 := B.out.cell0 3 rfl
              have x4 := B.out.cell0 4 rfl
              have x5 := B.out.cell0 5 rfl
              have x6 := B.out.cell0 6 rfl
              have y0 := B.out.cell1 0 rfl
              have y1 := B.out.cell1 1 rfl
              have y2 := B.out.cell1 2 rfl
              have y3 := B.out.cell1 3 rfl
              have y4 := B.out.cell1 4 rfl
              have y5 := B.out.cell1 5 rfl
              have y6 := B.out.cell1 6 rfl
              have fr0 := fun j => B.out.free0 j
              have fr1 := fun j => B.out.free1 j
              have hz := B.out.lt
              go_wp2_with fail
              refine bodyPost_ret (v := .tuple #[.agg #[.string d, .string s, .bool false, .int .i64 0, .int .i64 0, .int .i64 y, .string x], .int .i64 0]) (by simp [results, Try.results18, go_sem, y0, y1, y2, y3, y4, y5, y6]) rfl ⟨rfl, ?_⟩
              exact (((((((B.out.bel).setCell (p := ⟨w.heap.size + 1, 0, none⟩) (Nat.le_succ _) _).setCell (p := ⟨w.heap.size + 1, 1, none⟩) (Nat.le_succ _) _).setCell (p := ⟨w.heap.size + 1, 2, none⟩) (Nat.le_succ _) _).setCell (p := ⟨w.heap.size + 1, 3, none⟩) (Nat.le_succ _) _).setCell (p := ⟨w.heap.size + 1, 4, none⟩) (Nat.le_succ _) _).setCell (p := ⟨w.heap.size + 1, 5, none⟩) (Nat.le_succ _) _).setCell (p := ⟨w.heap.size + 1, 6, none⟩) (Nat.le_succ _) _
          · obtain rfl := S1 rfl
            obtain rfl := V7 hok
            clear S1 S2 V6 V7 hok hok2
            go_enter Try.func18, Try.ntmps18
            go_wp2_with fail
            ((with_reducible refine (HC.out _ B.out.bel).mono ?_); rintro e w1 ⟨rfl, h1⟩)
            replace B := Lib.hid (B.out.below h1)
            clear h1
            have x0 := B.out.cell0 0 rfl
            have x1 := B.out.cell0 1 rfl
            have x2 := B.out.cell0 2 rfl
            have x3 := B.out.cell0 3 rfl
            have x4 := B.out.cell0 4 rfl
            have x5 := B.out.cell0 5 rfl
            have x6 := B.out.cell0 6 rfl
            go_wp2_with fail
            ((with_reducible refine (HF.out _).mono ?_); rintro e w2 ⟨rfl, h2⟩)
            clear x0 x1 x2 x3 x4 x5 x6
            replace B := Lib.hid (B.out.below h2)
            clear h2
            obtain rfl := HT.out
            clear HT
            have x0 := B.out.cell0 0 rfl
            have x1 := B.out.cell0 1 rfl
            have x2 := B.out.cell0 2 rfl
            have x3 := B.out.cell0 3 rfl
            have x4 := B.out.cell0 4 rfl
            have x5 := B.out.cell0 5 rfl
            have x6 := B.out.cell0 6 rfl
            have z0 := icell_below B.out.bel Y0.out
            have z1 := icell_below B.out.bel Y1.out
            have z2 := icell_below B.out.bel Y2.out
            go_wp2_with fail
            go_still_tail 6, (by kernel_rfl)
            change wpList _ _ _ _ _ (World.drew _)
            clear x0 x1 x2 x3 x4 x5 x6 z0 z1 z2
            replace B := Lib.hid B.out.drew
            generalize World.drew w2 = W3 at B ⊢
            go_wp2_with fail
            ((with_reducible refine (HM.out _ B.out.bel).mono ?_); rintro e w3 ⟨rfl, h3⟩)
            replace B := Lib.hid (B.out.below h3)
            clear h3
            have x0 := B.out.cell0 0 rfl
            have x1 := B.out.cell0 1 rfl
            have x2 := B.out.cell0 2 rfl
            have x3 := B.out.cell0 3 rfl
            have x4 := B.out.cell0 4 rfl
            have x5 := B.out.cell0 5 rfl
            have x6 := B.out.cell0 6 rfl
            have z0 := icell_below B.out.bel Y0.out
            have z1 := icell_below B.out.bel Y1.out
            have z2 := icell_below B.out.bel Y2.out
            go_wp2_with fail
            go_still_tail 7, (by kernel_rfl)
            change wpList _ _ _ _ _ (World.drew _)
            clear x0 x1 x2 x3 x4 x5 x6 z0 z1 z2
            replace B := Lib.hid B.out.drew
            generalize World.drew w3 = W4 at B ⊢
            go_wp2_with fail
            ((with_reducible refine (HH.out _ B.out.bel).mono ?_); rintro e w5 ⟨rfl, rfl⟩)
            have x0 := B.out.cell0 0 rfl
            have x1 := B.out.cell0 1 rfl
            have x2 := B.out.cell0 2 rfl
            have x3 := B.out.cell0 3 rfl
            have x4 := B.out.cell0 4 rfl
            have x5 := B.out.cell0 5 rfl
            have x6 := B.out.cell0 6 rfl
            have y0 := B.out.cell1 0 rfl
            have y1 := B.out.cell1 1 rfl
            have y2 := B.out.cell1 2 rfl
            have y3 := B.out.cell1 3 rfl
            have y4 := B.out.cell1 4 rfl
            have y5 := B.out.cell1 5 rfl
            have y6 := B.out.cell1 6 rfl
            have fr0 := fun j => B.out.free0 j
            have fr1 := fun j => B.out.free1 j
            have hz := B.out.lt
            go_wp2_with fail
            refine bodyPost_ret (v := .tuple #[.agg #[.string d, .string s, .bool true, .int .i64 v, .int .i64 q, .int .i64 y, .string x], .int .i64 0]) (by simp [results, Try.results18, go_sem, y0, y1, y2, y3, y4, y5, y6]) rfl ⟨rfl, ?_⟩
            exact (((((((B.out.bel).setCell (p := ⟨w.heap.size + 1, 0, none⟩) (Nat.le_succ _) _).setCell (p := ⟨w.heap.size + 1, 1, none⟩) (Nat.le_succ _) _).setCell (p := ⟨w.heap.size + 1, 2, none⟩) (Nat.le_succ _) _).setCell (p := ⟨w.heap.size + 1, 3, none⟩) (Nat.le_succ _) _).setCell (p := ⟨w.heap.size + 1, 4, none⟩) (Nat.le_succ _) _).setCell (p := ⟨w.heap.size + 1, 5, none⟩) (Nat.le_succ _) _).setCell (p := ⟨w.heap.size + 1, 6, none⟩) (Nat.le_succ _) _

end Go.Proofs.Ytgoibogpebbkaaa
