/-
  VLANs: which VLAN a frame comes into: vlan.In and the document's. Contracts over the translated program.
-/
import Derived.Test.YtgoibogpebbkaaaVlF
import Derived.Test.YtgoibogpebbkaaaEthAR
namespace Go.Proofs.Ytgoibogpebbkaaa
open Go.RowKit
set_option linter.unusedVariables false

theorem fault_kind (L : List Pt) (i : Int) (f : Fr) : (faultI L i f = 3 ∧ chkB L = false) ∨ (faultI L i f = 1 ∧ chkB L = true ∧ (i < 0 ∨ (L.length : Int) ≤ i ∨ f.ok = false)) ∨ (faultI L i f = 0 ∧ chkB L = true ∧ 0 ≤ i ∧ i < (L.length : Int) ∧ f.ok = true) := by
  unfold faultI
  split
  · next h => exact .inl ⟨rfl, h⟩
  · next h1 =>
    have h1' : chkB L = true := by simpa using h1
    split
    · next h2 => exact .inr (.inl ⟨rfl, h1', h2⟩)
    · next h2 =>
      refine .inr (.inr ⟨rfl, h1', by omega, by omega, ?_⟩)
      rcases h : f.ok with _ | _
      · exact absurd (.inr (.inr h)) h2
      · rfl
theorem ptAt_nat (L : List Pt) (n : Nat) (h : n < L.length) : ptAt L (n : Int) = L[n] := by
  unfold ptAt
  simp [List.getD, h]
theorem inI_fault (L : List Pt) (i : Int) (f : Fr) (h : faultI L i f ≠ 0) : inI L i f = (.zero, faultI L i f) := by unfold inI; rw [if_pos h]
theorem inI_none (L : List Pt) (i : Int) (f : Fr) (h : faultI L i f = 0) (k : inV L i f = 0 ∨ memB (ptAt L i) (inV L i f) = false) : inI L i f = (.zero, 6) := by unfold inI; rw [if_neg (by omega), if_pos k]
theorem inI_ok (L : List Pt) (i : Int) (f : Fr) (h : faultI L i f = 0) (k : ¬ (inV L i f = 0 ∨ memB (ptAt L i) (inV L i f) = false)) : inI L i f = (⟨f.d, f.s, true, inV L i f, f.p, f.y, f.x⟩, 0) := by unfold inI; rw [if_neg (by omega), if_neg k]
/-- A port at a place of the list. -/
theorem pts_at {w : World} {p : Option Addr} {cap n : Nat} {L : List Pt} (ha : PtsAt w (.slice p L.length cap) L) (h : n < L.length) : ∃ b off vt vp, p = some ⟨b, off, none⟩ ∧ w.cell? ⟨b, off + n * 3, none⟩ = some (.int .i64 L[n].dft) ∧ w.cell? ⟨b, off + n * 3 + 1, none⟩ = some vt ∧ w.cell? ⟨b, off + n * 3 + 2, none⟩ = some vp ∧ IntsAt w vt L[n].tag ∧ IntsAt w vp L[n].pln := by
  obtain ⟨p', cap', b, off, hv, hpp, hc⟩ := ha
  have hne : L ≠ [] := by rintro rfl; simp at h
  cases hv
  obtain ⟨y0, vt, vp, y1, y2, a1, a2⟩ := hc n _ (List.getElem?_eq_getElem h)
  exact ⟨b, off, vt, vp, hpp hne, y0, y1, y2, a1, a2⟩

theorem IB2.drewN {w0 w : World} {xs ys : Array Value} {t : TypeId} (h : IB2 w0 w xs ys t) (n : Nat) : IB2 w0 (w.drewN n) xs ys t := ⟨h.1, h.2.1, below_drewN h.2.2 n⟩
/-- What In and Out answer. -/
def FrPost (a : Fr × Int) (w : World) (e : Ending) (w' : World) : Prop := e = .returned (.tuple #[a.1.val, .int .i64 a.2]) ∧ Below w.heap.size w w'

set_option maxHeartbeats 4000000 in
set_option maxRecDepth 100000 in
theorem in_c (p : Option Addr) (cap : Nat) (L : List Pt) (i : Int) (f : Fr) (w : World) (hl : L.length ≤ 9223372036854775807) (hp : PtsL L) (hx : f.x.size ≤ 140737488351232) (ha : PtsAt w (.slice p L.length cap) L) :
    Calls Try.prog 15 #[.slice p L.length cap, .int .i64 i, f.val] w (FrPost (inI L i f) w) := by
  have HF := Lib.hid fun (U : World) (hU : Below w.heap.size w U) => fault_c p cap L i f U hl hp hx (ha.below hU)
  have V3 := inI_fault L i f
  have V4 := inI_none L i f
  have V5 := inI_ok L i f
  have hk := fault_kind L i f
  have hvd : inV L i f = if f.v = 0 then (ptAt L i).dft else f.v := rfl
  obtain ⟨d, s, t, v, q, y, x⟩ := f
  unfold FrPost
  simp only [Fr.val] at HF ⊢
  simp only at hvd V5 hk
  have B := Lib.hid (IB2.start w #[.string d, .string s, .bool t, .int .i64 v, .int .i64 q, .int .i64 y, .string x] #[.string ⟨#[]⟩, .string ⟨#[]⟩, .bool false, .int .i64 0, .int .i64 0, .int .i64 0, .string ⟨#[]⟩] 33)
  generalize inV L i ⟨d, s, t, v, q, y, x⟩ = iv at V4 V5 hvd
  generalize inI L i ⟨d, s, t, v, q, y, x⟩ = ans at V3 V4 V5 ⊢
  generalize faultI L i ⟨d, s, t, v, q, y, x⟩ = fi at HF V3 V4 V5 hk
  generalize Fr.ok ⟨d, s, t, v, q, y, x⟩ = ok at hk
  clear hx
  rcases hk with ⟨rfl, -⟩ | ⟨rfl, -⟩ | ⟨rfl, -, h0, h1, -⟩
  · obtain rfl := V3 (by decide)
    clear ha hp V3 V4 V5 hvd
    go_enter Try.func15, Try.ntmps15
    go_wp2_with fail
    ((with_reducible refine (HF.out _ B.out.bel).mono ?_); rintro e w1 ⟨rfl, h1⟩)
    replace B := Lib.hid (B.out.below h1)
    clear h1
    have y0 := B.out.cell1 0 rfl
    have y1 := B.out.cell1 1 rfl
    have y2 := B.out.cell1 2 rfl
    have y3 := B.out.cell1 3 rfl
    have y4 := B.out.cell1 4 rfl
    have y5 := B.out.cell1 5 rfl
    have y6 := B.out.cell1 6 rfl
    have fr := fun j => B.out.free1 j
    have hz := B.out.lt
    go_wp2_with fail
    refine bodyPost_ret (v := .tuple #[.agg #[.string ⟨#[]⟩, .string ⟨#[]⟩, .bool false, .int .i64 0, .int .i64 0, .int .i64 0, .string ⟨#[]⟩], .int .i64 3]) (by simp [results, Try.results15, go_sem, y0, y1, y2, y3, y4, y5, y6]) rfl ⟨rfl, ?_⟩
    exact (((((((B.out.bel).setCell (p := ⟨w.heap.size + 1, 0, none⟩) (Nat.le_succ _) _).setCell (p := ⟨w.heap.size + 1, 1, none⟩) (Nat.le_succ _) _).setCell (p := ⟨w.heap.size + 1, 2, none⟩) (Nat.le_succ _) _).setCell (p := ⟨w.heap.size + 1, 3, none⟩) (Nat.le_succ _) _).setCell (p := ⟨w.heap.size + 1, 4, none⟩) (Nat.le_succ _) _).setCell (p := ⟨w.heap.size + 1, 5, none⟩) (Nat.le_succ _) _).setCell (p := ⟨w.heap.size + 1, 6, none⟩) (Nat.le_succ _) _
  · obtain rfl := V3 (by decide)
    clear ha hp V3 V4 V5 hvd
    go_enter Try.func15, Try.ntmps15
    go_wp2_with fail
    ((with_reducible refine (HF.out _ B.out.bel).mono ?_); rintro e w1 ⟨rfl, h1⟩)
    replace B := Lib.hid (B.out.below h1)
    clear h1
    have y0 := B.out.cell1 0 rfl
    have y1 := B.out.cell1 1 rfl
    have y2 := B.out.cell1 2 rfl
    have y3 := B.out.cell1 3 rfl
    have y4 := B.out.cell1 4 rfl
    have y5 := B.out.cell1 5 rfl
    have y6 := B.out.cell1 6 rfl
    have fr := fun j => B.out.free1 j
    have hz := B.out.lt
    go_wp2_with fail
    refine bodyPost_ret (v := .tuple #[.agg #[.string ⟨#[]⟩, .string ⟨#[]⟩, .bool false, .int .i64 0, .int .i64 0, .int .i64 0, .string ⟨#[]⟩], .int .i64 1]) (by simp [results, Try.results15, go_sem, y0, y1, y2, y3, y4, y5, y6]) rfl ⟨rfl, ?_⟩
    exact (((((((B.out.bel).setCell (p := ⟨w.heap.size + 1, 0, none⟩) (Nat.le_succ _) _).setCell (p := ⟨w.heap.size + 1, 1, none⟩) (Nat.le_succ _) _).setCell (p := ⟨w.heap.size + 1, 2, none⟩) (Nat.le_succ _) _).setCell (p := ⟨w.heap.size + 1, 3, none⟩) (Nat.le_succ _) _).setCell (p := ⟨w.heap.size + 1, 4, none⟩) (Nat.le_succ _) _).setCell (p := ⟨w.heap.size + 1, 5, none⟩) (Nat.le_succ _) _).setCell (p := ⟨w.heap.size + 1, 6, none⟩) (Nat.le_succ _) _
  · obtain ⟨N, rfl⟩ := Int.eq_ofNat_of_zero_le h0
    have hN : N < L.length := by omega
    rw [ptAt_nat L N hN] at *
    obtain ⟨b, off, vt, vp, rfl, y0, y1, y2, a1, a2⟩ := pts_at ha hN
    have hM := hp _ (List.getElem_mem hN)
    generalize L[N] = r at *
    obtain ⟨rd, rt, rp⟩ := r
    simp only at y0 y1 y2 a1 a2 hM hvd
    have HM := Lib.hid fun (U : World) (hU : Below w.heap.size w U) => member_c ⟨rd, rt, rp⟩ vt vp iv U (by have := hM.1; simp only; omega) (by have := hM.2; simp only; omega) (a1.below hU) (a2.below hU)
    simp only at HM
    generalize memB ⟨rd, rt, rp⟩ iv = rm at HM V4 V5
    obtain ⟨p1, c1, rfl⟩ := a1.slice
    obtain ⟨p2, c2, rfl⟩ := a2.slice
    generalize rt.length = n1 at *
    generalize rp.length = n2 at *
    have Y0 := Lib.hid y0
    have Y1 := Lib.hid y1
    have Y2 := Lib.hid y2
    have hN1 : (N : Int) < (L.length : Int) := by omega
    have hN0 : (0 : Int) ≤ (N : Int) := by omega
    clear y0 y1 y2 a1 a2 hM ha hp h0 h1
    clear V3
    replace V4 := V4 rfl
    replace V5 := V5 rfl
    by_cases hv : v = 0
    · subst hv
      obtain rfl : iv = rd := by rw [hvd]; rfl
      clear hvd
      by_cases hiv : iv = 0
      · obtain rfl := V4 (.inl hiv)
        subst hiv
        clear V5 V4
        go_enter Try.func15, Try.ntmps15
        go_wp2_with fail
        ((with_reducible refine (HF.out _ B.out.bel).mono ?_); rintro e w1 ⟨rfl, h1⟩)
        replace B := Lib.hid (B.out.below h1)
        clear h1
        have x0 := B.out.cell0 0 rfl
        have x1 := B.out.cell0 1 rfl
        have x2 := B.out.cell0 2 rfl
        have x3 := B.out.cell0 3 rfl
        have x4 := B.out.cell0 4 rfl
        have x5 := B.out.cell0 5 rfl
        have x6 := B.out.cell0 6 rfl
        have fr0 := fun j => B.out.free0 j
        have z0 := icell_below B.out.bel Y0.out
        go_wp2_with fail
        have B2 : IB2 w (w1.setCell ⟨w.heap.size, 3, none⟩ (.int .i64 0)) #[.string d, .string s, .bool t, .int .i64 0, .int .i64 q, .int .i64 y, .string x] #[.string ⟨#[]⟩, .string ⟨#[]⟩, .bool false, .int .i64 0, .int .i64 0, .int .i64 0, .string ⟨#[]⟩] 33 := B.out.set0 3 _
        clear x0 x1 x2 x3 x4 x5 x6 z0 fr0
        generalize w1.setCell ⟨w.heap.size, 3, none⟩ (.int .i64 0) = W2 at B2 ⊢
        replace B := Lib.hid B2
        clear B2
        have x0 := B.out.cell0 0 rfl
        have x1 := B.out.cell0 1 rfl
        have x2 := B.out.cell0 2 rfl
        have x3 := B.out.cell0 3 rfl
        have x4 := B.out.cell0 4 rfl
        have x5 := B.out.cell0 5 rfl
        have x6 := B.out.cell0 6 rfl
        go_quiet (fail)
        rename_i nq
        clear x0 x1 x2 x3 x4 x5 x6
        replace B := Lib.hid (B.out.drewN nq)
        generalize World.drewN W2 nq = W3 at B ⊢
        have y0 := B.out.cell1 0 rfl
        have y1 := B.out.cell1 1 rfl
        have y2 := B.out.cell1 2 rfl
        have y3 := B.out.cell1 3 rfl
        have y4 := B.out.cell1 4 rfl
        have y5 := B.out.cell1 5 rfl
        have y6 := B.out.cell1 6 rfl
        have fr := fun j => B.out.free1 j
        have hz := B.out.lt
        go_wp2_with fail
        refine bodyPost_ret (v := .tuple #[.agg #[.string ⟨#[]⟩, .string ⟨#[]⟩, .bool false, .int .i64 0, .int .i64 0, .int .i64 0, .string ⟨#[]⟩], .int .i64 6]) (by simp [results, Try.results15, go_sem, y0, y1, y2, y3, y4, y5, y6]) rfl ⟨rfl, ?_⟩
        exact (((((((B.out.bel).setCell (p := ⟨w.heap.size + 1, 0, none⟩) (Nat.le_succ _) _).setCell (p := ⟨w.heap.size + 1, 1, none⟩) (Nat.le_succ _) _).setCell (p := ⟨w.heap.size + 1, 2, none⟩) (Nat.le_succ _) _).setCell (p := ⟨w.heap.size + 1, 3, none⟩) (Nat.le_succ _) _).setCell (p := ⟨w.heap.size + 1, 4, none⟩) (Nat.le_succ _) _).setCell (p := ⟨w.heap.size + 1, 5, none⟩) (Nat.le_succ _) _).setCell (p := ⟨w.heap.size + 1, 6, none⟩) (Nat.le_succ _) _
      · obtain ⟨q1, q2⟩ := vint hiv
        go_enter Try.func15, Try.ntmps15
        go_wp2_with fail
        ((with_reducible refine (HF.out _ B.out.bel).mono ?_); rintro e w1 ⟨rfl, h1⟩)
        replace B := Lib.hid (B.out.below h1)
        clear h1
        have x0 := B.out.cell0 0 rfl
        have x1 := B.out.cell0 1 rfl
        have x2 := B.out.cell0 2 rfl
        have x3 := B.out.cell0 3 rfl
        have x4 := B.out.cell0 4 rfl
        have x5 := B.out.cell0 5 rfl
        have x6 := B.out.cell0 6 rfl
        have fr0 := fun j => B.out.free0 j
        have z0 := icell_below B.out.bel Y0.out
        go_wp2_with fail
        have B2 : IB2 w (w1.setCell ⟨w.heap.size, 3, none⟩ (.int .i64 iv)) #[.string d, .string s, .bool t, .int .i64 iv, .int .i64 q, .int .i64 y, .string x] #[.string ⟨#[]⟩, .string ⟨#[]⟩, .bool false, .int .i64 0, .int .i64 0, .int .i64 0, .string ⟨#[]⟩] 33 := B.out.set0 3 _
        clear x0 x1 x2 x3 x4 x5 x6 z0 fr0
        generalize w1.setCell ⟨w.heap.size, 3, none⟩ (.int .i64 iv) = W2 at B2 ⊢
        replace B := Lib.hid B2
        clear B2
        rcases rm with _ | _
        · obtain rfl := V4 (.inr rfl)
          clear V5
          have z0 := icell_below B.out.bel Y0.out
          have z1 := icell_below B.out.bel Y1.out
          have z2 := icell_below B.out.bel Y2.out
          have x0 := B.out.cell0 0 rfl
          have x1 := B.out.cell0 1 rfl
          have x2 := B.out.cell0 2 rfl
          have x3 := B.out.cell0 3 rfl
          have x4 := B.out.cell0 4 rfl
          have x5 := B.out.cell0 5 rfl
          have x6 := B.out.cell0 6 rfl
          go_still_tail 10, (by kernel_rfl)
          change wpList _ _ _ _ _ (World.drew _)
          clear x0 x1 x2 x3 x4 x5 x6 z0 z1 z2
          replace B := Lib.hid B.out.drew
          generalize World.drew W2 = W3 at B ⊢
          go_wp2_with fail
          ((with_reducible refine (HM.out _ B.out.bel).mono ?_); rintro e w3 ⟨rfl, h3⟩)
          replace B := Lib.hid (B.out.below h3)
          clear h3
          have y0 := B.out.cell1 0 rfl
          have y1 := B.out.cell1 1 rfl
          have y2 := B.out.cell1 2 rfl
          have y3 := B.out.cell1 3 rfl
          have y4 := B.out.cell1 4 rfl
          have y5 := B.out.cell1 5 rfl
          have y6 := B.out.cell1 6 rfl
          have fr := fun j => B.out.free1 j
          have hz := B.out.lt
          go_wp2_with fail
          refine bodyPost_ret (v := .tuple #[.agg #[.string ⟨#[]⟩, .string ⟨#[]⟩, .bool false, .int .i64 0, .int .i64 0, .int .i64 0, .string ⟨#[]⟩], .int .i64 6]) (by simp [results, Try.results15, go_sem, y0, y1, y2, y3, y4, y5, y6]) rfl ⟨rfl, ?_⟩
          exact (((((((B.out.bel).setCell (p := ⟨w.heap.size + 1, 0, none⟩) (Nat.le_succ _) _).setCell (p := ⟨w.heap.size + 1, 1, none⟩) (Nat.le_succ _) _).setCell (p := ⟨w.heap.size + 1, 2, none⟩) (Nat.le_succ _) _).setCell (p := ⟨w.heap.size + 1, 3, none⟩) (Nat.le_succ _) _).setCell (p := ⟨w.heap.size + 1, 4, none⟩) (Nat.le_succ _) _).setCell (p := ⟨w.heap.size + 1, 5, none⟩) (Nat.le_succ _) _).setCell (p := ⟨w.heap.size + 1, 6, none⟩) (Nat.le_succ _) _
        · obtain rfl := V5 (by rintro (h | h); exact hiv h; cases h)
          clear V4 hiv
          have z0 := icell_below B.out.bel Y0.out
          have z1 := icell_below B.out.bel Y1.out
          have z2 := icell_below B.out.bel Y2.out
          have x0 := B.out.cell0 0 rfl
          have x1 := B.out.cell0 1 rfl
          have x2 := B.out.cell0 2 rfl
          have x3 := B.out.cell0 3 rfl
          have x4 := B.out.cell0 4 rfl
          have x5 := B.out.cell0 5 rfl
          have x6 := B.out.cell0 6 rfl
          go_still_tail 10, (by kernel_rfl)
          change wpList _ _ _ _ _ (World.drew _)
          clear x0 x1 x2 x3 x4 x5 x6 z0 z1 z2
          replace B := Lib.hid B.out.drew
          generalize World.drew W2 = W3 at B ⊢
          go_wp2_with fail
          ((with_reducible refine (HM.out _ B.out.bel).mono ?_); rintro e w3 ⟨rfl, h3⟩)
          replace B := Lib.hid (B.out.below h3)
          clear h3
          have x0 := B.out.cell0 0 rfl
          have x1 := B.out.cell0 1 rfl
          have x2 := B.out.cell0 2 rfl
          have x3 := B.out.cell0 3 rfl
          have x4 := B.out.cell0 4 rfl
          have x5 := B.out.cell0 5 rfl
          have x6 := B.out.cell0 6 rfl
          have y0 := B.out.cell1 0 rfl
          have y1 := B.out.cell1 1 rfl
          have y2 := B.out.cell1 2 rfl
          have y3 := B.out.cell1 3 rfl
          have y4 := B.out.cell1 4 rfl
          have y5 := B.out.cell1 5 rfl
          have y6 := B.out.cell1 6 rfl
          have fr0 := fun j => B.out.free0 j
          have fr1 := fun j => B.out.free1 j
          have hz := B.out.lt
          go_wp2_with fail
          refine bodyPost_ret (v := .tuple #[.agg #[.string d, .string s, .bool true, .int .i64 iv, .int .i64 q, .int .i64 y, .string x], .int .i64 0]) (by simp [results, Try.results15, go_sem, y0, y1, y2, y3, y4, y5, y6]) rfl ⟨rfl, ?_⟩
          exact ((((((((B.out.bel).setCell (p := ⟨w.heap.size, 2, none⟩) (Nat.le_refl _) _).setCell (p := ⟨w.heap.size + 1, 0, none⟩) (Nat.le_succ _) _).setCell (p := ⟨w.heap.size + 1, 1, none⟩) (Nat.le_succ _) _).setCell (p := ⟨w.heap.size + 1, 2, none⟩) (Nat.le_succ _) _).setCell (p := ⟨w.heap.size + 1, 3, none⟩) (Nat.le_succ _) _).setCell (p := ⟨w.heap.size + 1, 4, none⟩) (Nat.le_succ _) _).setCell (p := ⟨w.heap.size + 1, 5, none⟩) (Nat.le_succ _) _).setCell (p := ⟨w.heap.size + 1, 6, none⟩) (Nat.le_succ _) _
    · obtain rfl : v = iv := by rw [hvd, if_neg hv]
      obtain ⟨q1, q2⟩ := vint hv
      have hiv := hv
      clear hvd hv
      go_enter Try.func15, Try.ntmps15
      go_wp2_with fail
      ((with_reducible refine (HF.out _ B.out.bel).mono ?_); rintro e w1 ⟨rfl, h1⟩)
      replace B := Lib.hid (B.out.below h1)
      clear h1
      have x3 := B.out.cell0 3 rfl
      go_wp2_with fail
      clear x3
      rcases rm with _ | _
      · obtain rfl := V4 (.inr rfl)
        clear V5
        have z0 := icell_below B.out.bel Y0.out
        have z1 := icell_below B.out.bel Y1.out
        have z2 := icell_below B.out.bel Y2.out
        have x0 := B.out.cell0 0 rfl
        have x1 := B.out.cell0 1 rfl
        have x2 := B.out.cell0 2 rfl
        have x3 := B.out.cell0 3 rfl
        have x4 := B.out.cell0 4 rfl
        have x5 := B.out.cell0 5 rfl
        have x6 := B.out.cell0 6 rfl
        go_still_tail 10, (by kernel_rfl)
        change wpList _ _ _ _ _ (World.drew _)
        clear x0 x1 x2 x3 x4 x5 x6 z0 z1 z2
        replace B := Lib.hid B.out.drew
        generalize World.drew w1 = W3 at B ⊢
        go_wp2_with fail
        ((with_reducible refine (HM.out _ B.out.bel).mono ?_); rintro e w3 ⟨rfl, h3⟩)
        replace B := Lib.hid (B.out.below h3)
        clear h3
        have y0 := B.out.cell1 0 rfl
        have y1 := B.out.cell1 1 rfl
        have y2 := B.out.cell1 2 rfl
        have y3 := B.out.cell1 3 rfl
        have y4 := B.out.cell1 4 rfl
        have y5 := B.out.cell1 5 rfl
        have y6 := B.out.cell1 6 rfl
        have fr := fun j => B.out.free1 j
        have hz := B.out.lt
        go_wp2_with fail
        refine bodyPost_ret (v := .tuple #[.agg #[.string ⟨#[]⟩, .string ⟨#[]⟩, .bool false, .int .i64 0, .int .i64 0, .int .i64 0, .string ⟨#[]⟩], .int .i64 6]) (by simp [results, Try.results15, go_sem, y0, y1, y2, y3, y4, y5, y6]) rfl ⟨rfl, ?_⟩
        exact (((((((B.out.bel).setCell (p := ⟨w.heap.size + 1, 0, none⟩) (Nat.le_succ _) _).setCell (p := ⟨w.heap.size + 1, 1, none⟩) (Nat.le_succ _) _).setCell (p := ⟨w.heap.size + 1, 2, none⟩) (Nat.le_succ _) _).setCell (p := ⟨w.heap.size + 1, 3, none⟩) (Nat.le_succ _) _).setCell (p := ⟨w.heap.size + 1, 4, none⟩) (Nat.le_succ _) _).setCell (p := ⟨w.heap.size + 1, 5, none⟩) (Nat.le_succ _) _).setCell (p := ⟨w.heap.size + 1, 6, none⟩) (Nat.le_succ _) _
      · obtain rfl := V5 (by rintro (h | h); exact hiv h; cases h)
        clear V4 hiv
        have z0 := icell_below B.out.bel Y0.out
        have z1 := icell_below B.out.bel Y1.out
        have z2 := icell_below B.out.bel Y2.out
        have x0 := B.out.cell0 0 rfl
        have x1 := B.out.cell0 1 rfl
        have x2 := B.out.cell0 2 rfl
        have x3 := B.out.cell0 3 rfl
        have x4 := B.out.cell0 4 rfl
        have x5 := B.out.cell0 5 rfl
        have x6 := B.out.cell0 6 rfl
        go_still_tail 10, (by kernel_rfl)
        change wpList _ _ _ _ _ (World.drew _)
        clear x0 x1 x2 x3 x4 x5 x6 z0 z1 z2
        replace B := Lib.hid B.out.drew
        generalize World.drew w1 = W3 at B ⊢
        go_wp2_with fail
        ((with_reducible refine (HM.out _ B.out.bel).mono ?_); rintro e w3 ⟨rfl, h3⟩)
        replace B := Lib.hid (B.out.below h3)
        clear h3
        have x0 := B.out.cell0 0 rfl
        have x1 := B.out.cell0 1 rfl
        have x2 := B.out.cell0 2 rfl
        have x3 := B.out.cell0 3 rfl
        have x4 := B.out.cell0 4 rfl
        have x5 := B.out.cell0 5 rfl
        have x6 := B.out.cell0 6 rfl
        have y0 := B.out.cell1 0 rfl
        have y1 := B.out.cell1 1 rfl
        have y2 := B.out.cell1 2 rfl
        have y3 := B.out.cell1 3 rfl
        have y4 := B.out.cell1 4 rfl
        have y5 := B.out.cell1 5 rfl
        have y6 := B.out.cell1 6 rfl
        have fr0 := fun j => B.out.free0 j
        have fr1 := fun j => B.out.free1 j
        have hz := B.out.lt
        go_wp2_with fail
        refine bodyPost_ret (v := .tuple #[.agg #[.string d, .string s, .bool true, .int .i64 v, .int .i64 q, .int .i64 y, .string x], .int .i64 0]) (by simp [results, Try.results15, go_sem, y0, y1, y2, y3, y4, y5, y6]) rfl ⟨rfl, ?_⟩
        exact ((((((((B.out.bel).setCell (p := ⟨w.heap.size, 2, none⟩) (Nat.le_refl _) _).setCell (p := ⟨w.heap.size + 1, 0, none⟩) (Nat.le_succ _) _).setCell (p := ⟨w.heap.size + 1, 1, none⟩) (Nat.le_succ _) _).setCell (p := ⟨w.heap.size + 1, 2, none⟩) (Nat.le_succ _) _).setCell (p := ⟨w.heap.size + 1, 3, none⟩) (Nat.le_succ _) _).setCell (p := ⟨w.heap.size + 1, 4, none⟩) (Nat.le_succ _) _).setCell (p := ⟨w.heap.size + 1, 5, none⟩) (Nat.le_succ _) _).setCell (p := ⟨w.heap.size + 1, 6, none⟩) (Nat.le_succ _) _

end Go.Proofs.Ytgoibogpebbkaaa
