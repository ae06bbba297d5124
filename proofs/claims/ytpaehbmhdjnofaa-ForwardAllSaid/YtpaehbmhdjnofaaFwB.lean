/-
  'forward.Flood', 'Decide', 'Local'. Contracts over the translated program.
-/
import Derived.Test.YtpaehbmhdjnofaaFwA
import Derived.Deep.RegionHeld3
import Derived.Deep.DeepCutAuto
import Derived.WalkSpells
namespace Go.Proofs.Ytpaehbmhdjnofaa
open Go Go.Maps Go.WideMaps
open Go.RowKit
set_option linter.unusedVariables false
set_option linter.unusedSimpArgs false

/-- The lists of a case as they lie in memory. -/
structure CasOk (w : World) (vm vo vr vw : Value) (M O R N : List Int) : Prop where
  m : IntsAt w vm M
  o : IntsAt w vo O
  r : IntsAt w vr R
  n : IntsAt w vw N
  lm : M.length ≤ 1000
  lo : O.length ≤ 1000
  lr : R.length ≤ 1000
  ln : N.length ≤ 1000
  im : I64 M
  io : I64 O
  ir : I64 R
  iN : I64 N
theorem CasOk.below {w w' : World} {vm vo vr vw : Value} {M O R N : List Int} (h : CasOk w vm vo vr vw M O R N) (k : Below w.heap.size w w') : CasOk w' vm vo vr vw M O R N :=
  ⟨h.m.below k, h.o.below k, h.r.below k, h.n.below k, h.lm, h.lo, h.lr, h.ln, h.im, h.io, h.ir, h.iN⟩
theorem mp_ne {w : World} {P : Program} {k : TypeId} {m b : Nat} {T : List MB.T3} {xs : Array Value} {t : TypeId} {f : Nat × Nat} (h : MB.Mp w P k m T) (hb : w.heap[b]? = some (.cells xs t f)) : m ≠ b := by
  obtain ⟨l, _, es, clock, h2, _⟩ := h
  rintro rfl
  rw [hb] at h2
  cases h2
theorem MB.Mp.below {w w' : World} {P : Program} {k : TypeId} {m : Nat} {T : List MB.T3} (h : MB.Mp w P k m T) (hb : Below w.heap.size w w') : MB.Mp w' P k m T := h.ofHeap (hb.block m h.lt)
theorem flo_eq (c : Cs) : c.mem.filter (fun x => MB.getT (setL c.opn) (ki x) && decide (x ≠ c.port)) = c.mem.filter (floP c) := by
  refine List.filter_congr fun x _ => ?_
  rw [setL_get]
  rfl
theorem dec_eq (c : Cs) (l : List Int) : l.filter (fun x => MB.getT (setL c.rou) (ki x) || (c.knw && MB.getT (setL c.wan) (ki x))) = l.filter (decP c) := by
  refine List.filter_congr fun x _ => ?_
  rw [setL_get, setL_get]
  rfl
theorem I64.of_mem {l m : List Int} (h : I64 l) (k : ∀ x ∈ m, x ∈ l) : I64 m := fun x hx => h x (k x hx)
theorem flo_mem (c : Cs) : ∀ x ∈ floL c, x ∈ c.mem := fun x hx => (List.mem_filter.1 ((risI_mem _ _).1 hx)).1
theorem flo_len (c : Cs) : (floL c).length ≤ c.mem.length := Nat.le_trans (risI_len _) (List.length_filter_le _ _)
def IPost (w : World) (l : List Int) (e : Ending) (w' : World) : Prop := ∃ u, e = .returned u ∧ IntsAt w' u l ∧ Below w.heap.size w w'

set_option maxHeartbeats 4000000 in
set_option maxRecDepth 100000 in
theorem flood_c (pt : Int) (vm vo vr vw : Value) (lo ov rc kn fl : Bool) (M O R N : List Int) (w : World) (h : CasOk w vm vo vr vw M O R N) (p1 : -9223372036854775808 ≤ pt) (p2 : pt ≤ 9223372036854775807) :
    Calls Try.prog 10 #[.agg #[.int .i64 pt, vm, vo, vr, vw, .bool lo, .bool ov, .bool rc, .bool kn, .bool fl]] w (IPost w (floL ⟨pt, M, O, R, N, lo, ov, rc, kn, fl⟩)) := by
  obtain ⟨pm, cm, rfl⟩ := h.m.slice
  obtain ⟨po, co, rfl⟩ := h.o.slice
  obtain ⟨pr, cr, rfl⟩ := h.r.slice
  obtain ⟨pw, cw, rfl⟩ := h.n.slice
  obtain ⟨nm, hnm⟩ : ∃ nm, nm = M.length := ⟨_, rfl⟩
  obtain ⟨no, hno⟩ : ∃ no, no = O.length := ⟨_, rfl⟩
  obtain ⟨nr, hnr⟩ : ∃ nr, nr = R.length := ⟨_, rfl⟩
  obtain ⟨nw, hnw⟩ : ∃ nw, nw = N.length := ⟨_, rfl⟩
  rw [← hnm, ← hno, ← hnr, ← hnw] at h ⊢
  have HB := Lib.hid (heap_new w (.cells #[.int .i64 pt, .slice pm nm cm, .slice po no co, .slice pr nr cr, .slice pw nw cw, .bool lo, .bool ov, .bool rc, .bool kn, .bool fl] 28))
  have K0 := Lib.hid (show Below w.heap.size w (w.alloc (.cells #[.int .i64 pt, .slice pm nm cm, .slice po no co, .slice pr nr cr, .slice pw nw cw, .bool lo, .bool ov, .bool rc, .bool kn, .bool fl] 28)) from (Below.refl _ _).alloc (Nat.le_refl _) _)
  have HC := Lib.hid h
  clear hnm hno hnr hnw h
  have HQ := Lib.hid (show ∀ u U, IntsAt U u (risI (M.filter (fun x => MB.getT (setL O) (ki x) && decide (x ≠ pt)))) → Below w.heap.size w U → IPost w (floL ⟨pt, M, O, R, N, lo, ov, rc, kn, fl⟩) (.returned u) U from fun u U h1 h2 => ⟨u, rfl, by rw [flo_eq ⟨pt, M, O, R, N, lo, ov, rc, kn, fl⟩] at h1; exact h1, h2⟩)
  generalize IPost w (floL ⟨pt, M, O, R, N, lo, ov, rc, kn, fl⟩) = Q at HQ ⊢
  go_enter Try.func10, Try.ntmps10
  go_upto_region 1 with fail
  generalize w.alloc (.cells #[.int .i64 pt, .slice pm nm cm, .slice po no co, .slice pr nr cr, .slice pw nw cw, .bool lo, .bool ov, .bool rc, .bool kn, .bool fl] 28) = W at HB K0 ⊢
  have x1 : W.cell? ⟨w.heap.size, 1, none⟩ = some (.slice pm nm cm) := cell_of_block HB.out rfl
  have x2 : W.cell? ⟨w.heap.size, 2, none⟩ = some (.slice po no co) := cell_of_block HB.out rfl
  have SC := Lib.hid (set_c (.slice po no co) O W (by have := HC.out.lo; omega) (HC.out.o.below K0.out) HC.out.io)
  go_wp2_with fail
  ((with_reducible refine SC.out.mono ?_); rintro e w1 ⟨rfl, hm1, k1⟩)
  have HM1 := Lib.hid hm1
  have HB1 := Lib.hid (below_block k1 (lt_of_block HB.out) HB.out)
  have K1 := Lib.hid (K0.out.trans (k1.mono K0.out.size))
  clear hm1 k1 SC x1 x2
  generalize W.heap.size = mb at HM1 ⊢
  go_upto_region 2 with fail
  have HN2 := Lib.hid (heap_new w1 (.cells #[.map (some mb)] 36))
  have HM2 := Lib.hid (HM1.out.kept (World.grownBy_alloc w1 (.cells #[.map (some mb)] 36) none) (by simp))
  have HB2 := Lib.hid (heap_old (p := .cells #[.map (some mb)] 36) HB1.out)
  have K2 := Lib.hid (K1.out.alloc K1.out.size (.cells #[.map (some mb)] 36))
  clear HM1 HB1 K1
  generalize w1.alloc (.cells #[.map (some mb)] 36) = w2 at HN2 HM2 HB2 K2 ⊢
  generalize w1.heap.size = ob at HN2 ⊢
  have x1 : w2.cell? ⟨w.heap.size, 1, none⟩ = some (.slice pm nm cm) := cell_of_block HB2.out rfl
  have OC := Lib.hid (onlyF_c ob w.heap.size (fun x => MB.getT (setL O) (ki x) && decide (x ≠ pt)) (.slice pm nm cm) M w2 (by have := HC.out.lm; omega) (HC.out.m.below K2.out) HC.out.im (fun x U hx hU =>
    flo1_c (cell_of_block (below_block hU (lt_of_block HN2.out) HN2.out) rfl) (HM2.out.below hU) (cell_of_block (below_block hU (lt_of_block HB2.out) HB2.out) rfl) (HC.out.im x hx).1 (HC.out.im x hx).2))
  go_wp2_with fail
  ((with_reducible refine OC.out.mono ?_); rintro e w3 ⟨u, rfl, h3, k3⟩)
  have HF := Lib.hid (HQ.out u w3 h3 (K2.out.trans (k3.mono K2.out.size)))
  clear h3 k3 OC HQ HM2 HN2 HB2 x1
  go_wp2_with fail
  exact HF.out

set_option maxHeartbeats 16000000 in
set_option maxRecDepth 100000 in
theorem decide_c (pt : Int) (vm vo vr vw : Value) (lo ov rc kn fl : Bool) (M O R N : List Int) (w : World) (h : CasOk w vm vo vr vw M O R N) (p1 : -9223372036854775808 ≤ pt) (p2 : pt ≤ 9223372036854775807) :
    Calls Try.prog 12 #[.agg #[.int .i64 pt, vm, vo, vr, vw, .bool lo, .bool ov, .bool rc, .bool kn, .bool fl]] w (IPost w (decL ⟨pt, M, O, R, N, lo, ov, rc, kn, fl⟩)) := by
  obtain ⟨pm, cm, rfl⟩ := h.m.slice
  obtain ⟨po, co, rfl⟩ := h.o.slice
  obtain ⟨pr, cr, rfl⟩ := h.r.slice
  obtain ⟨pw, cw, rfl⟩ := h.n.slice
  obtain ⟨nm, hnm⟩ : ∃ nm, nm = M.length := ⟨_, rfl⟩
  obtain ⟨no, hno⟩ : ∃ no, no = O.length := ⟨_, rfl⟩
  obtain ⟨nr, hnr⟩ : ∃ nr, nr = R.length := ⟨_, rfl⟩
  obtain ⟨nw, hnw⟩ : ∃ nw, nw = N.length := ⟨_, rfl⟩
  rw [← hnm, ← hno, ← hnr, ← hnw] at h ⊢
  have HB := Lib.hid (heap_new w (.cells #[.int .i64 pt, .slice pm nm cm, .slice po no co, .slice pr nr cr, .slice pw nw cw, .bool lo, .bool ov, .bool rc, .bool kn, .bool fl] 28))
  have K0 := Lib.hid (show Below w.heap.size w (w.alloc (.cells #[.int .i64 pt, .slice pm nm cm, .slice po no co, .slice pr nr cr, .slice pw nw cw, .bool lo, .bool ov, .bool rc, .bool kn, .bool fl] 28)) from (Below.refl _ _).alloc (Nat.le_refl _) _)
  have HC := Lib.hid h
  clear hnm hno hnr hnw h
  have HFL := Lib.hid (fun U (k : Below w.heap.size w U) => flood_c pt _ _ _ _ lo ov rc kn fl M O R N U (HC.out.below k) p1 p2)
  have HLL := Lib.hid (flo_len ⟨pt, M, O, R, N, lo, ov, rc, kn, fl⟩)
  have HLM := Lib.hid (flo_mem ⟨pt, M, O, R, N, lo, ov, rc, kn, fl⟩)
  have HQ1 := Lib.hid (show allP ⟨pt, M, O, R, N, lo, ov, rc, kn, fl⟩ = true → ∀ u U, IntsAt U u (floL ⟨pt, M, O, R, N, lo, ov, rc, kn, fl⟩) → Below w.heap.size w U → IPost w (decL ⟨pt, M, O, R, N, lo, ov, rc, kn, fl⟩) (.returned u) U from fun ha u U h1 h2 => ⟨u, rfl, by unfold decL; rw [if_pos ha]; exact h1, h2⟩)
  have HQ2 := Lib.hid (show allP ⟨pt, M, O, R, N, lo, ov, rc, kn, fl⟩ = false → ∀ u U, IntsAt U u (risI ((floL ⟨pt, M, O, R, N, lo, ov, rc, kn, fl⟩).filter (fun x => MB.getT (setL R) (ki x) || (kn && MB.getT (setL N) (ki x))))) → Below w.heap.size w U → IPost w (decL ⟨pt, M, O, R, N, lo, ov, rc, kn, fl⟩) (.returned u) U from fun ha u U h1 h2 => ⟨u, rfl, by unfold decL; rw [if_neg (by rw [ha]; simp), ← dec_eq ⟨pt, M, O, R, N, lo, ov, rc, kn, fl⟩]; exact h1, h2⟩)
  have HAP := Lib.hid (show allP ⟨pt, M, O, R, N, lo, ov, rc, kn, fl⟩ = (lo || ov || rc || (!kn && fl)) from rfl)
  generalize IPost w (decL ⟨pt, M, O, R, N, lo, ov, rc, kn, fl⟩) = Q at HQ1 HQ2 ⊢
  unfold IPost at HFL
  generalize floL ⟨pt, M, O, R, N, lo, ov, rc, kn, fl⟩ = F at HFL HLL HLM HQ1 HQ2
  generalize allP ⟨pt, M, O, R, N, lo, ov, rc, kn, fl⟩ = al at HAP HQ1 HQ2
  go_enter Try.func12, Try.ntmps12
  go_upto_region 1 with fail
  generalize w.alloc (.cells #[.int .i64 pt, .slice pm nm cm, .slice po no co, .slice pr nr cr, .slice pw nw cw, .bool lo, .bool ov, .bool rc, .bool kn, .bool fl] 28) = W at HB K0 ⊢
  have x0 : W.cell? ⟨w.heap.size, 0, none⟩ = some (.int .i64 pt) := cell_of_block HB.out rfl
  have x1 : W.cell? ⟨w.heap.size, 1, none⟩ = some (.slice pm nm cm) := cell_of_block HB.out rfl
  have x2 : W.cell? ⟨w.heap.size, 2, none⟩ = some (.slice po no co) := cell_of_block HB.out rfl
  have x3 : W.cell? ⟨w.heap.size, 3, none⟩ = some (.slice pr nr cr) := cell_of_block HB.out rfl
  have x4 : W.cell? ⟨w.heap.size, 4, none⟩ = some (.slice pw nw cw) := cell_of_block HB.out rfl
  have x5 : W.cell? ⟨w.heap.size, 5, none⟩ = some (.bool lo) := cell_of_block HB.out rfl
  have x6 : W.cell? ⟨w.heap.size, 6, none⟩ = some (.bool ov) := cell_of_block HB.out rfl
  have x7 : W.cell? ⟨w.heap.size, 7, none⟩ = some (.bool rc) := cell_of_block HB.out rfl
  have x8 : W.cell? ⟨w.heap.size, 8, none⟩ = some (.bool kn) := cell_of_block HB.out rfl
  have x9 : W.cell? ⟨w.heap.size, 9, none⟩ = some (.bool fl) := cell_of_block HB.out rfl
  go_wp2_with fail
  ((with_reducible refine (HFL.out W K0.out).mono ?_); rintro e w1 ⟨u, rfl, h1, k1⟩)
  have HA1 := Lib.hid h1
  have HB1 := Lib.hid (below_block k1 (lt_of_block HB.out) HB.out)
  have K1 := Lib.hid (K0.out.trans (k1.mono K0.out.size))
  clear h1 k1 HFL HB K0 x0 x1 x2 x3 x4 x5 x6 x7 x8 x9
  have y3 : w1.cell? ⟨w.heap.size, 3, none⟩ = some (.slice pr nr cr) := cell_of_block HB1.out rfl
  have y4 : w1.cell? ⟨w.heap.size, 4, none⟩ = some (.slice pw nw cw) := cell_of_block HB1.out rfl
  have y5 : w1.cell? ⟨w.heap.size, 5, none⟩ = some (.bool lo) := cell_of_block HB1.out rfl
  have y6 : w1.cell? ⟨w.heap.size, 6, none⟩ = some (.bool ov) := cell_of_block HB1.out rfl
  have y7 : w1.cell? ⟨w.heap.size, 7, none⟩ = some (.bool rc) := cell_of_block HB1.out rfl
  have y8 : w1.cell? ⟨w.heap.size, 8, none⟩ = some (.bool kn) := cell_of_block HB1.out rfl
  have y9 : w1.cell? ⟨w.heap.size, 9, none⟩ = some (.bool fl) := cell_of_block HB1.out rfl
  go_upto_region 2 with fail
  go_cut [26] (fun s26 wx => s26 = .bool al ∧ w1 = wx)
  case first =>
    rcases Bool.eq_false_or_eq_true lo with rfl | rfl
    · obtain rfl : al = true := by rw [HAP.out]; rfl
      go_wp2_with fail
      go_meet
      exact ⟨rfl, rfl⟩
    · rcases Bool.eq_false_or_eq_true ov with rfl | rfl
      · obtain rfl : al = true := by rw [HAP.out]; rfl
        go_wp2_with fail
        go_meet
        exact ⟨rfl, rfl⟩
      · rcases Bool.eq_false_or_eq_true rc with rfl | rfl
        · obtain rfl : al = true := by rw [HAP.out]; rfl
          go_wp2_with fail
          go_meet
          exact ⟨rfl, rfl⟩
        · rcases Bool.eq_false_or_eq_true kn with rfl | rfl
          · obtain rfl : al = false := by rw [HAP.out]; rfl
            go_wp2_with fail
            go_meet
            exact ⟨rfl, rfl⟩
          · obtain rfl : al = fl := by rw [HAP.out]; cases fl <;> rfl
            go_wp2_with fail
            go_meet
            exact ⟨rfl, rfl⟩
  case rest =>
  obtain ⟨rfl, rfl⟩ := hcut
  rcases Bool.eq_false_or_eq_true al with rfl | rfl
  · have HF := Lib.hid (HQ1.out rfl u w1 HA1.out K1.out)
    clear HQ1 HQ2 HB1 K1 HA1 y3 y4 y5 y6 y7 y8 y9
    go_wp2_with fail
    exact HF.out
  · have HQ := Lib.hid (HQ2.out rfl)
    clear HQ1 HQ2 y5 y6 y7 y8 y9
    have SR := Lib.hid (fun U (k : Below w1.heap.size w1 U) => set_c (.slice pr nr cr) R U (by have := HC.out.lr; omega) ((HC.out.r.below K1.out).below k) HC.out.ir)
    have SN := Lib.hid (fun U (k : Below w1.heap.size w1 U) => set_c (.slice pw nw cw) N U (by have := HC.out.ln; omega) ((HC.out.n.below K1.out).below k) HC.out.iN)
    have KF := Lib.hid (show ∀ U, Below w1.heap.size w1 U → U.cell? ⟨w.heap.size, 3, none⟩ = some (.slice pr nr cr) ∧ U.cell? ⟨w.heap.size, 4, none⟩ = some (.slice pw nw cw) from fun U k => ⟨cell_of_block (below_block k (lt_of_block HB1.out) HB1.out) rfl, cell_of_block (below_block k (lt_of_block HB1.out) HB1.out) rfl⟩)
    have kk := Below.refl w1.heap.size w1.drew
    replace kk : Below w1.heap.size w1 w1.drew := (Below.refl _ w1).drew
    clear y3 y4
    go_upto_region 4 with fail
    go_cut [4, 5] (fun s4 s5 wx => ∃ b4 b5 m1 m2 : Nat, s4 = .pointer (some ⟨b4, 0, none⟩) ∧ s5 = .pointer (some ⟨b5, 0, none⟩) ∧ Hid (wx.heap[b4]? = some (.cells #[.map (some m1)] 36 (0, 0))) ∧ Hid (wx.heap[b5]? = some (.cells #[.map (some m2)] 36 (0, 0))) ∧ Hid (MB.Mp wx Try.prog 3 m1 (setL R)) ∧ Hid (MB.Mp wx Try.prog 3 m2 (setL N)) ∧ Hid (Below w1.heap.size w1 wx))
    case first =>
      refine wp_region_held_drew (S := fun U => U.cell? ⟨w.heap.size, 3, none⟩ = some (.slice pr nr cr) ∧ U.cell? ⟨w.heap.size, 4, none⟩ = some (.slice pw nw cw)) (by kernel_rfl) (KF.out _ kk) (fun hH => ?_)
      generalize w1.drew = Y0 at hH kk ⊢
      refine wpAnyH_take (i := 0) (oi := { dst := some 28, op := Op.fieldAddr 28 (Operand.tmp 1) 3, type := 0, pos := "forward.go:45", after := #[], guard := none }) (v := .pointer (some ⟨w.heap.size, 3, none⟩)) rfl (by kernel_rfl) (by kernel_rfl) (by kernel_rfl) (fun _ _ _ h => h) (Or.inl ⟨by kernel_rfl, ?_⟩) hH ?_
      · intro w hSw; (try dsimp only at hSw); go_simp; (try rfl)
      try simp only [Act.put, List.setIfInBounds_toArray, List.set_cons_zero, List.set_cons_succ]
      refine wpAnyH_take (i := 1) (oi := { dst := some 29, op := Op.load 22 (Operand.tmp 28), type := 22, pos := "forward.go:45", after := #[{ on := 0, ground := Ground.data }], guard := none }) (v := .slice pr nr cr) rfl (by kernel_rfl) (by kernel_rfl) (by kernel_rfl) (fun _ _ _ h => h) (Or.inl ⟨by kernel_rfl, ?_⟩) hH ?_
      · intro w hSw; (try dsimp only at hSw); go_simp; (try rfl)
      try simp only [Act.put, List.setIfInBounds_toArray, List.set_cons_zero, List.set_cons_succ]
      refine wpAnyH_take (i := 3) (oi := { dst := some 31, op := Op.fieldAddr 28 (Operand.tmp 1) 4, type := 0, pos := "forward.go:45", after := #[], guard := none }) (v := .pointer (some ⟨w.heap.size, 4, none⟩)) rfl (by kernel_rfl) (by kernel_rfl) (by kernel_rfl) (fun _ _ _ h => h) (Or.inl ⟨by kernel_rfl, ?_⟩) hH ?_
      · intro w hSw; (try dsimp only at hSw); go_simp; (try rfl)
      try simp only [Act.put, List.setIfInBounds_toArray, List.set_cons_zero, List.set_cons_succ]
      refine wpAnyH_take (i := 4) (oi := { dst := some 32, op := Op.load 22 (Operand.tmp 31), type := 22, pos := "forward.go:45", after := #[{ on := 3, ground := Ground.data }], guard := none }) (v := .slice pw nw cw) rfl (by kernel_rfl) (by kernel_rfl) (by kernel_rfl) (fun _ _ _ h => h) (Or.inl ⟨by kernel_rfl, ?_⟩) hH ?_
      · intro w hSw; (try dsimp only at hSw); go_simp; (try rfl)
      try simp only [Act.put, List.setIfInBounds_toArray, List.set_cons_zero, List.set_cons_succ]
      refine wpAnyH_ready (rs := [2, 6, 7]) (by kernel_rfl) (by simp) ?_
      refine AllReadyH.cons rfl (fun K hK => ?_) ?_
      · go_simp
        with_reducible refine (SR.out _ kk).mono ?_
        rintro e Y1 ⟨rfl, m1, hb⟩
        (try go_wp2_with fail)
        replace kk := kk.trans (hb.mono kk.size)
        clear hb
        refine hK.out _ _ (KF.out _ kk) (fun hH => ?_)
        clear hK K
        try simp only [Act.put, List.setIfInBounds_toArray, List.set_cons_zero, List.set_cons_succ]
        generalize Y0.heap.size = md1 at m1 ⊢
        refine wpAnyH_ready (rs := [5, 6, 7]) (by kernel_rfl) (by simp) ?_
        refine AllReadyH.cons rfl (fun K hK => ?_) ?_
        · go_simp
          with_reducible refine (SN.out _ kk).mono ?_
          rintro e Y2 ⟨rfl, m2, hb⟩
          (try go_wp2_with fail)
          replace m1 := m1.below hb
          replace kk := kk.trans (hb.mono kk.size)
          clear hb
          refine hK.out _ _ (KF.out _ kk) (fun hH => ?_)
          clear hK K
          try simp only [Act.put, List.setIfInBounds_toArray, List.set_cons_zero, List.set_cons_succ]
          generalize Y1.heap.size = md2 at m2 ⊢
          refine wpAnyH_ready (rs := [6, 7]) (by kernel_rfl) (by simp) ?_
          refine AllReadyH.cons rfl (fun K hK => ?_) ?_
          · go_simp
            have geb4 := kk.size
            replace m1 := m1.kept (World.grownBy_alloc Y2 (.cells #[.map none] 36) none) (by simp)
            replace m2 := m2.kept (World.grownBy_alloc Y2 (.cells #[.map none] 36) none) (by simp)
            have b4 := heap_new Y2 (.cells #[.map none] 36)
            replace kk := kk.alloc kk.size (.cells #[.map none] 36)
            refine hK.out _ _ (KF.out _ kk) (fun hH => ?_)
            clear hK K
            try simp only [Act.put, List.setIfInBounds_toArray, List.set_cons_zero, List.set_cons_succ]
            generalize Y2.alloc (.cells #[.map none] 36) = Y4 at hH kk b4 m1 m2 ⊢
            generalize Y2.heap.size = adb4 at b4 geb4 ⊢
            refine wpAnyH_ready (rs := [7]) (by kernel_rfl) (by simp) ?_
            refine AllReadyH.cons rfl (fun K hK => ?_) AllReadyH.nil
            go_simp
            have geb5 := kk.size
            have neb5b4 : Y4.heap.size ≠ adb4 := (Nat.ne_of_lt (lt_of_block b4)).symm
            replace b4 := heap_old (p := (.cells #[.map none] 36)) b4
            replace m1 := m1.kept (World.grownBy_alloc Y4 (.cells #[.map none] 36) none) (by simp)
            replace m2 := m2.kept (World.grownBy_alloc Y4 (.cells #[.map none] 36) none) (by simp)
            have b5 := heap_new Y4 (.cells #[.map none] 36)
            replace kk := kk.alloc kk.size (.cells #[.map none] 36)
            refine hK.out _ _ (KF.out _ kk) (fun hH => ?_)
            clear hK K
            try simp only [Act.put, List.setIfInBounds_toArray, List.set_cons_zero, List.set_cons_succ]
            generalize Y4.alloc (.cells #[.map none] 36) = Y6 at hH kk b4 b5 m1 m2 ⊢
            generalize Y4.heap.size = adb5 at b5 geb5 neb5b4 ⊢
            refine wpAnyH_ready (rs := [8]) (by kernel_rfl) (by simp) ?_
            refine AllReadyH.cons rfl (fun K hK => ?_) AllReadyH.nil
            have z0 := cell_of_block (j := 0) b4 rfl
            have fz0 := free_of_block (j := 0) b4
            go_simp
            clear z0 fz0
            replace m1 := m1.setCell (a := ⟨adb4, 0, none⟩) (mp_ne m1 b4) (.map (some md1))
            replace m2 := m2.setCell (a := ⟨adb4, 0, none⟩) (mp_ne m2 b4) (.map (some md1))
            replace b5 := heap_store_other (c := adb4) (j := 0) (v := .map (some md1)) b5 neb5b4
            replace kk := kk.setCell (p := ⟨adb4, 0, none⟩) geb4 (.map (some md1))
            replace b4 : (Y6.setCell ⟨adb4, 0, none⟩ (.map (some md1))).heap[adb4]? = some (.cells #[.map (some md1)] 36 (0, 0)) := heap_store (j := 0) (v := .map (some md1)) b4
            refine hK.out _ _ (KF.out _ kk) (fun hH => ?_)
            clear hK K
            try simp only [Act.put, List.setIfInBounds_toArray, List.set_cons_zero, List.set_cons_succ]
            generalize Y6.setCell ⟨adb4, 0, none⟩ (.map (some md1)) = Y7 at hH kk b4 b5 m1 m2 ⊢
            refine wpAnyH_ready (rs := [9]) (by kernel_rfl) (by simp) ?_
            refine AllReadyH.cons rfl (fun K hK => ?_) AllReadyH.nil
            have z0 := cell_of_block (j := 0) b5 rfl
            have fz0 := free_of_block (j := 0) b5
            go_simp
            clear z0 fz0
            replace m1 := m1.setCell (a := ⟨adb5, 0, none⟩) (mp_ne m1 b5) (.map (some md2))
            replace m2 := m2.setCell (a := ⟨adb5, 0, none⟩) (mp_ne m2 b5) (.map (some md2))
            replace b4 := heap_store_other (c := adb5) (j := 0) (v := .map (some md2)) b4 neb5b4.symm
            replace kk := kk.setCell (p := ⟨adb5, 0, none⟩) geb5 (.map (some md2))
            replace b5 : (Y7.setCell ⟨adb5, 0, none⟩ (.map (some md2))).heap[adb5]? = some (.cells #[.map (some md2)] 36 (0, 0)) := heap_store (j := 0) (v := .map (some md2)) b5
            refine hK.out _ _ (KF.out _ kk) (fun hH => ?_)
            clear hK K
            try simp only [Act.put, List.setIfInBounds_toArray, List.set_cons_zero, List.set_cons_succ]
            generalize Y7.setCell ⟨adb5, 0, none⟩ (.map (some md2)) = Y8 at hH kk b4 b5 m1 m2 ⊢
            refine wpAnyH_done (by kernel_rfl) ?_ _
            go_wp2_with fail
            go_meet
            exact ⟨adb4, adb5, md1, md2, rfl, rfl, Lib.hid b4, Lib.hid b5, Lib.hid m1, Lib.hid m2, Lib.hid kk⟩
          · refine AllReadyH.cons rfl (fun K hK => ?_) AllReadyH.nil
            go_simp
            have geb5 := kk.size
            replace m1 := m1.kept (World.grownBy_alloc Y2 (.cells #[.map none] 36) none) (by simp)
            replace m2 := m2.kept (World.grownBy_alloc Y2 (.cells #[.map none] 36) none) (by simp)
            have b5 := heap_new Y2 (.cells #[.map none] 36)
            replace kk := kk.alloc kk.size (.cells #[.map none] 36)
            refine hK.out _ _ (KF.out _ kk) (fun hH => ?_)
            clear hK K
            try simp only [Act.put, List.setIfInBounds_toArray, List.set_cons_zero, List.set_cons_succ]
            generalize Y2.alloc (.cells #[.map none] 36) = Y4 at hH kk b5 m1 m2 ⊢
            generalize Y2.heap.size = adb5 at b5 geb5 ⊢
            refine wpAnyH_ready (rs := [6]) (by kernel_rfl) (by simp) ?_
            refine AllReadyH.cons rfl (fun K hK => ?_) AllReadyH.nil
            go_simp
            have geb4 := kk.size
            have neb4b5 : Y4.heap.size ≠ adb5 := (Nat.ne_of_lt (lt_of_block b5)).symm
            replace b5 := heap_old (p := (.cells #[.map none] 36)) b5
            replace m1 := m1.kept (World.grownBy_alloc Y4 (.cells #[.map none] 36) none) (by simp)
            replace m2 := m2.kept (World.grownBy_alloc Y4 (.cells #[.map none] 36) none) (by simp)
            have b4 := heap_new Y4 (.cells #[.map none] 36)
            replace kk := kk.alloc kk.size (.cells #[.map none] 36)
            refine hK.out _ _ (KF.out _ kk) (fun hH => ?_)
            clear hK K
            try simp only [Act.put, List.setIfInBounds_toArray, List.set_cons_zero, List.set_cons_succ]
            generalize Y4.alloc (.cells #[.map none] 36) = Y6 at hH kk b5 b4 m1 m2 ⊢
            generalize Y4.heap.size = adb4 at b4 geb4 neb4b5 ⊢
            refine wpAnyH_ready (rs := [8]) (by kernel_rfl) (by simp) ?_
            refine AllReadyH.cons rfl (fun K hK => ?_) AllReadyH.nil
            have z0 := cell_of_block (j := 0) b4 rfl
            have fz0 := free_of_block (j := 0) b4
            go_simp
            clear z0 fz0
            replace m1 := m1.setCell (a := ⟨adb4, 0, none⟩) (mp_ne m1 b4) (.map (some md1))
            replace m2 := m2.setCell (a := ⟨adb4, 0, none⟩) (mp_ne m2 b4) (.map (some md1))
            replace b5 := heap_store_other (c := adb4) (j := 0) (v := .map (some md1)) b5 neb4b5.symm
            replace kk := kk.setCell (p := ⟨adb4, 0, none⟩) geb4 (.map (some md1))
            replace b4 : (Y6.setCell ⟨adb4, 0, none⟩ (.map (some md1))).heap[adb4]? = some (.cells #[.map (some md1)] 36 (0, 0)) := heap_store (j := 0) (v := .map (some md1)) b4
            refine hK.out _ _ (KF.out _ kk) (fun hH => ?_)
            clear hK K
            try simp only [Act.put, List.setIfInBounds_toArray, List.set_cons_zero, List.set_cons_succ]
            generalize Y6.setCell ⟨adb4, 0, none⟩ (.map (some md1)) = Y7 at hH kk b5 b4 m1 m2 ⊢
            refine wpAnyH_ready (rs := [9]) (by kernel_rfl) (by simp) ?_
            refine AllReadyH.cons rfl (fun K hK => ?_) AllReadyH.nil
            have z0 := cell_of_block (j := 0) b5 rfl
            have fz0 := free_of_block (j := 0) b5
            go_simp
            clear z0 fz0
            replace m1 := m1.setCell (a := ⟨adb5, 0, none⟩) (mp_ne m1 b5) (.map (some md2))
            replace m2 := m2.setCell (a := ⟨adb5, 0, none⟩) (mp_ne m2 b5) (.map (some md2))
            replace b4 := heap_store_other (c := adb5) (j := 0) (v := .map (some md2)) b4 neb4b5
            replace kk := kk.setCell (p := ⟨adb5, 0, none⟩) geb5 (.map (some md2))
            replace b5 : (Y7.setCell ⟨adb5, 0, none⟩ (.map (some md2))).heap[adb5]? = some (.cells #[.map (some md2)] 36 (0, 0)) := heap_store (j := 0) (v := .map (some md2)) b5
            refine hK.out _ _ (KF.out _ kk) (fun hH => ?_)
            clear hK K
            try simp only [Act.put, List.setIfInBounds_toArray, List.set_cons_zero, List.set_cons_succ]
            generalize Y7.setCell ⟨adb5, 0, none⟩ (.map (some md2)) = Y8 at hH kk b5 b4 m1 m2 ⊢
            refine wpAnyH_done (by kernel_rfl) ?_ _
            go_wp2_with fail
            go_meet
            exact ⟨adb4, adb5, md1, md2, rfl, rfl, Lib.hid b4, Lib.hid b5, Lib.hid m1, Lib.hid m2, Lib.hid kk⟩
        · refine AllReadyH.cons rfl (fun K hK => ?_) ?_
          · go_simp
            have geb4 := kk.size
            replace m1 := m1.kept (World.grownBy_alloc Y1 (.cells #[.map none] 36) none) (by simp)
            have b4 := heap_new Y1 (.cells #[.map none] 36)
            replace kk := kk.alloc kk.size (.cells #[.map none] 36)
            refine hK.out _ _ (KF.out _ kk) (fun hH => ?_)
            clear hK K
            try simp only [Act.put, List.setIfInBounds_toArray, List.set_cons_zero, List.set_cons_succ]
            generalize Y1.alloc (.cells #[.map none] 36) = Y3 at hH kk b4 m1 ⊢
            generalize Y1.heap.size = adb4 at b4 geb4 ⊢
            refine wpAnyH_ready (rs := [5, 7]) (by kernel_rfl) (by simp) ?_
            refine AllReadyH.cons rfl (fun K hK => ?_) ?_
            · go_simp
              with_reducible refine (SN.out _ kk).mono ?_
              rintro e Y4 ⟨rfl, m2, hb⟩
              (try go_wp2_with fail)
              replace b4 := below_block hb (lt_of_block b4) b4
              replace m1 := m1.below hb
              replace kk := kk.trans (hb.mono kk.size)
              clear hb
              refine hK.out _ _ (KF.out _ kk) (fun hH => ?_)
              clear hK K
              try simp only [Act.put, List.setIfInBounds_toArray, List.set_cons_zero, List.set_cons_succ]
              generalize Y3.heap.size = md2 at m2 ⊢
              refine wpAnyH_ready (rs := [7]) (by kernel_rfl) (by simp) ?_
              refine AllReadyH.cons rfl (fun K hK => ?_) AllReadyH.nil
              go_simp
              have geb5 := kk.size
              have neb5b4 : Y4.heap.size ≠ adb4 := (Nat.ne_of_lt (lt_of_block b4)).symm
              replace b4 := heap_old (p := (.cells #[.map none] 36)) b4
              replace m1 := m1.kept (World.grownBy_alloc Y4 (.cells #[.map none] 36) none) (by simp)
              replace m2 := m2.kept (World.grownBy_alloc Y4 (.cells #[.map none] 36) none) (by simp)
              have b5 := heap_new Y4 (.cells #[.map none] 36)
              replace kk := kk.alloc kk.size (.cells #[.map none] 36)
              refine hK.out _ _ (KF.out _ kk) (fun hH => ?_)
              clear hK K
              try simp only [Act.put, List.setIfInBounds_toArray, List.set_cons_zero, List.set_cons_succ]
              generalize Y4.alloc (.cells #[.map none] 36) = Y6 at hH kk b4 b5 m1 m2 ⊢
              generalize Y4.heap.size = adb5 at b5 geb5 neb5b4 ⊢
              refine wpAnyH_ready (rs := [8]) (by kernel_rfl) (by simp) ?_
              refine AllReadyH.cons rfl (fun K hK => ?_) AllReadyH.nil
              have z0 := cell_of_block (j := 0) b4 rfl
              have fz0 := free_of_block (j := 0) b4
              go_simp
              clear z0 fz0
              replace m1 := m1.setCell (a := ⟨adb4, 0, none⟩) (mp_ne m1 b4) (.map (some md1))
              replace m2 := m2.setCell (a := ⟨adb4, 0, none⟩) (mp_ne m2 b4) (.map (some md1))
              replace b5 := heap_store_other (c := adb4) (j := 0) (v := .map (some md1)) b5 neb5b4
              replace kk := kk.setCell (p := ⟨adb4, 0, none⟩) geb4 (.map (some md1))
              replace b4 : (Y6.setCell ⟨adb4, 0, none⟩ (.map (some md1))).heap[adb4]? = some (.cells #[.map (some md1)] 36 (0, 0)) := heap_store (j := 0) (v := .map (some md1)) b4
              refine hK.out _ _ (KF.out _ kk) (fun hH => ?_)
              clear hK K
              try simp only [Act.put, List.setIfInBounds_toArray, List.set_cons_zero, List.set_cons_succ]
              generalize Y6.setCell ⟨adb4, 0, none⟩ (.map (some md1)) = Y7 at hH kk b4 b5 m1 m2 ⊢
              refine wpAnyH_ready (rs := [9]) (by kernel_rfl) (by simp) ?_
              refine AllReadyH.cons rfl (fun K hK => ?_) AllReadyH.nil
              have z0 := cell_of_block (j := 0) b5 rfl
              have fz0 := free_of_block (j := 0) b5
              go_simp
              clear z0 fz0
              replace m1 := m1.setCell (a := ⟨adb5, 0, none⟩) (mp_ne m1 b5) (.map (some md2))
              replace m2 := m2.setCell (a := ⟨adb5, 0, none⟩) (mp_ne m2 b5) (.map (some md2))
              replace b4 := heap_store_other (c := adb5) (j := 0) (v := .map (some md2)) b4 neb5b4.symm
              replace kk := kk.setCell (p := ⟨adb5, 0, none⟩) geb5 (.map (some md2))
              replace b5 : (Y7.setCell ⟨adb5, 0, none⟩ (.map (some md2))).heap[adb5]? = some (.cells #[.map (some md2)] 36 (0, 0)) := heap_store (j := 0) (v := .map (some md2)) b5
              refine hK.out _ _ (KF.out _ kk) (fun hH => ?_)
              clear hK K
              try simp only [Act.put, List.setIfInBounds_toArray, List.set_cons_zero, List.set_cons_succ]
              generalize Y7.setCell ⟨adb5, 0, none⟩ (.map (some md2)) = Y8 at hH kk b4 b5 m1 m2 ⊢
              refine wpAnyH_done (by kernel_rfl) ?_ _
              go_wp2_with fail
              go_meet
              exact ⟨adb4, adb5, md1, md2, rfl, rfl, Lib.hid b4, Lib.hid b5, Lib.hid m1, Lib.hid m2, Lib.hid kk⟩
            · refine AllReadyH.cons rfl (fun K hK => ?_) AllReadyH.nil
              go_simp
              have geb5 := kk.size
              have neb5b4 : Y3.heap.size ≠ adb4 := (Nat.ne_of_lt (lt_of_block b4)).symm
              replace b4 := heap_old (p := (.cells #[.map none] 36)) b4
              replace m1 := m1.kept (World.grownBy_alloc Y3 (.cells #[.map none] 36) none) (by simp)
              have b5 := heap_new Y3 (.cells #[.map none] 36)
              replace kk := kk.alloc kk.size (.cells #[.map none] 36)
              refine hK.out _ _ (KF.out _ kk) (fun hH => ?_)
              clear hK K
              try simp only [Act.put, List.setIfInBounds_toArray, List.set_cons_zero, List.set_cons_succ]
              generalize Y3.alloc (.cells #[.map none] 36) = Y5 at hH kk b4 b5 m1 ⊢
              generalize Y3.heap.size = adb5 at b5 geb5 neb5b4 ⊢
              refine wpAnyH_ready (rs := [5]) (by kernel_rfl) (by simp) ?_
              refine AllReadyH.cons rfl (fun K hK => ?_) AllReadyH.nil
              go_simp
              with_reducible refine (SN.out _ kk).mono ?_
              rintro e Y6 ⟨rfl, m2, hb⟩
              (try go_wp2_with fail)
              replace b4 := below_block hb (lt_of_block b4) b4
              replace b5 := below_block hb (lt_of_block b5) b5
              replace m1 := m1.below hb
              replace kk := kk.trans (hb.mono kk.size)
              clear hb
              refine hK.out _ _ (KF.out _ kk) (fun hH => ?_)
              clear hK K
              try simp only [Act.put, List.setIfInBounds_toArray, List.set_cons_zero, List.set_cons_succ]
              generalize Y5.heap.size = md2 at m2 ⊢
              refine wpAnyH_ready (rs := [8]) (by kernel_rfl) (by simp) ?_
              refine AllReadyH.cons rfl (fun K hK => ?_) AllReadyH.nil
              have z0 := cell_of_block (j := 0) b4 rfl
              have fz0 := free_of_block (j := 0) b4
              go_simp
              clear z0 fz0
              replace m1 := m1.setCell (a := ⟨adb4, 0, none⟩) (mp_ne m1 b4) (.map (some md1))
              replace m2 := m2.setCell (a := ⟨adb4, 0, none⟩) (mp_ne m2 b4) (.map (some md1))
              replace b5 := heap_store_other (c := adb4) (j := 0) (v := .map (some md1)) b5 neb5b4
              replace kk := kk.setCell (p := ⟨adb4, 0, none⟩) geb4 (.map (some md1))
              replace b4 : (Y6.setCell ⟨adb4, 0, none⟩ (.map (some md1))).heap[adb4]? = some (.cells #[.map (some md1)] 36 (0, 0)) := heap_store (j := 0) (v := .map (some md1)) b4
              refine hK.out _ _ (KF.out _ kk) (fun hH => ?_)
              clear hK K
              try simp only [Act.put, List.setIfInBounds_toArray, List.set_cons_zero, List.set_cons_succ]
              generalize Y6.setCell ⟨adb4, 0, none⟩ (.map (some md1)) = Y7 at hH kk b4 b5 m1 m2 ⊢
              refine wpAnyH_ready (rs := [9]) (by kernel_rfl) (by simp) ?_
              refine AllReadyH.cons rfl (fun K hK => ?_) AllReadyH.nil
              have z0 := cell_of_block (j := 0) b5 rfl
              have fz0 := free_of_block (j := 0) b5
              go_simp
              clear z0 fz0
              replace m1 := m1.setCell (a := ⟨adb5, 0, none⟩) (mp_ne m1 b5) (.map (some md2))
              replace m2 := m2.setCell (a := ⟨adb5, 0, none⟩) (mp_ne m2 b5) (.map (some md2))
              replace b4 := heap_store_other (c := adb5) (j := 0) (v := .map (some md2)) b4 neb5b4.symm
              replace kk := kk.setCell (p := ⟨adb5, 0, none⟩) geb5 (.map (some md2))
              replace b5 : (Y7.setCell ⟨adb5, 0, none⟩ (.map (some md2))).heap[adb5]? = some (.cells #[.map (some md2)] 36 (0, 0)) := heap_store (j := 0) (v := .map (some md2)) b5
              refine hK.out _ _ (KF.out _ kk) (fun hH => ?_)
              clear hK K
              try simp only [Act.put, List.setIfInBounds_toArray, List.set_cons_zero, List.set_cons_succ]
              generalize Y7.setCell ⟨adb5, 0, none⟩ (.map (some md2)) = Y8 at hH kk b4 b5 m1 m2 ⊢
              refine wpAnyH_done (by kernel_rfl) ?_ _
              go_wp2_with fail
              go_meet
              exact ⟨adb4, adb5, md1, md2, rfl, rfl, Lib.hid b4, Lib.hid b5, Lib.hid m1, Lib.hid m2, Lib.hid kk⟩
          · refine AllReadyH.cons rfl (fun K hK => ?_) AllReadyH.nil
            go_simp
            have geb5 := kk.size
            replace m1 := m1.kept (World.grownBy_alloc Y1 (.cells #[.map none] 36) none) (by simp)
            have b5 := heap_new Y1 (.cells #[.map none] 36)
            replace kk := kk.alloc kk.size (.cells #[.map none] 36)
            refine hK.out _ _ (KF.out _ kk) (fun hH => ?_)
            clear hK K
            try simp only [Act.put, List.setIfInBounds_toArray, List.set_cons_zero, List.set_cons_succ]
            generalize Y1.alloc (.cells #[.map none] 36) = Y3 at hH kk b5 m1 ⊢
            generalize Y1.heap.size = adb5 at b5 geb5 ⊢
            refine wpAnyH_ready (rs := [5, 6]) (by kernel_rfl) (by simp) ?_
            refine AllReadyH.cons rfl (fun K hK => ?_) ?_
            · go_simp
              with_reducible refine (SN.out _ kk).mono ?_
              rintro e Y4 ⟨rfl, m2, hb⟩
              (try go_wp2_with fail)
              replace b5 := below_block hb (lt_of_block b5) b5
              replace m1 := m1.below hb
              replace kk := kk.trans (hb.mono kk.size)
              clear hb
              refine hK.out _ _ (KF.out _ kk) (fun hH => ?_)
              clear hK K
              try simp only [Act.put, List.setIfInBounds_toArray, List.set_cons_zero, List.set_cons_succ]
              generalize Y3.heap.size = md2 at m2 ⊢
              refine wpAnyH_ready (rs := [6]) (by kernel_rfl) (by simp) ?_
              refine AllReadyH.cons rfl (fun K hK => ?_) AllReadyH.nil
              go_simp
              have geb4 := kk.size
              have neb4b5 : Y4.heap.size ≠ adb5 := (Nat.ne_of_lt (lt_of_block b5)).symm
              replace b5 := heap_old (p := (.cells #[.map none] 36)) b5
              replace m1 := m1.kept (World.grownBy_alloc Y4 (.cells #[.map none] 36) none) (by simp)
              replace m2 := m2.kept (World.grownBy_alloc Y4 (.cells #[.map none] 36) none) (by simp)
              have b4 := heap_new Y4 (.cells #[.map none] 36)
              replace kk := kk.alloc kk.size (.cells #[.map none] 36)
              refine hK.out _ _ (KF.out _ kk) (fun hH => ?_)
              clear hK K
              try simp only [Act.put, List.setIfInBounds_toArray, List.set_cons_zero, List.set_cons_succ]
              generalize Y4.alloc (.cells #[.map none] 36) = Y6 at hH kk b5 b4 m1 m2 ⊢
              generalize Y4.heap.size = adb4 at b4 geb4 neb4b5 ⊢
              refine wpAnyH_ready (rs := [8]) (by kernel_rfl) (by simp) ?_
              refine AllReadyH.cons rfl (fun K hK => ?_) AllReadyH.nil
              have z0 := cell_of_block (j := 0) b4 rfl
              have fz0 := free_of_block (j := 0) b4
              go_simp
              clear z0 fz0
              replace m1 := m1.setCell (a := ⟨adb4, 0, none⟩) (mp_ne m1 b4) (.map (some md1))
              replace m2 := m2.setCell (a := ⟨adb4, 0, none⟩) (mp_ne m2 b4) (.map (some md1))
              replace b5 := heap_store_other (c := adb4) (j := 0) (v := .map (some md1)) b5 neb4b5.symm
              replace kk := kk.setCell (p := ⟨adb4, 0, none⟩) geb4 (.map (some md1))
              replace b4 : (Y6.setCell ⟨adb4, 0, none⟩ (.map (some md1))).heap[adb4]? = some (.cells #[.map (some md1)] 36 (0, 0)) := heap_store (j := 0) (v := .map (some md1)) b4
              refine hK.out _ _ (KF.out _ kk) (fun hH => ?_)
              clear hK K
              try simp only [Act.put, List.setIfInBounds_toArray, List.set_cons_zero, List.set_cons_succ]
              generalize Y6.setCell ⟨adb4, 0, none⟩ (.map (some md1)) = Y7 at hH kk b5 b4 m1 m2 ⊢
              refine wpAnyH_ready (rs := [9]) (by kernel_rfl) (by simp) ?_
              refine AllReadyH.cons rfl (fun K hK => ?_) AllReadyH.nil
              have z0 := cell_of_block (j := 0) b5 rfl
              have fz0 := free_of_block (j := 0) b5
              go_simp
              clear z0 fz0
              replace m1 := m1.setCell (a := ⟨adb5, 0, none⟩) (mp_ne m1 b5) (.map (some md2))
              replace m2 := m2.setCell (a := ⟨adb5, 0, none⟩) (mp_ne m2 b5) (.map (some md2))
              replace b4 := heap_store_other (c := adb5) (j := 0) (v := .map (some md2)) b4 neb4b5
              replace kk := kk.setCell (p := ⟨adb5, 0, none⟩) geb5 (.map (some md2))
              replace b5 : (Y7.setCell ⟨adb5, 0, none⟩ (.map (some md2))).heap[adb5]? = some (.cells #[.map (some md2)] 36 (0, 0)) := heap_store (j := 0) (v := .map (some md2)) b5
              refine hK.out _ _ (KF.out _ kk) (fun hH => ?_)
              clear hK K
              try simp only [Act.put, List.setIfInBounds_toArray, List.set_cons_zero, List.set_cons_succ]
              generalize Y7.setCell ⟨adb5, 0, none⟩ (.map (some md2)) = Y8 at hH kk b5 b4 m1 m2 ⊢
              refine wpAnyH_done (by kernel_rfl) ?_ _
              go_wp2_with fail
              go_meet
              exact ⟨adb4, adb5, md1, md2, rfl, rfl, Lib.hid b4, Lib.hid b5, Lib.hid m1, Lib.hid m2, Lib.hid kk⟩
            · refine AllReadyH.cons rfl (fun K hK => ?_) AllReadyH.nil
              go_simp
              have geb4 := kk.size
              have neb4b5 : Y3.heap.size ≠ adb5 := (Nat.ne_of_lt (lt_of_block b5)).symm
              replace b5 := heap_old (p := (.cells #[.map none] 36)) b5
              replace m1 := m1.kept (World.grownBy_alloc Y3 (.cells #[.map none] 36) none) (by simp)
              have b4 := heap_new Y3 (.cells #[.map none] 36)
              replace kk := kk.alloc kk.size (.cells #[.map none] 36)
              refine hK.out _ _ (KF.out _ kk) (fun hH => ?_)
              clear hK K
              try simp only [Act.put, List.setIfInBounds_toArray, List.set_cons_zero, List.set_cons_succ]
              generalize Y3.alloc (.cells #[.map none] 36) = Y5 at hH kk b5 b4 m1 ⊢
              generalize Y3.heap.size = adb4 at b4 geb4 neb4b5 ⊢
              refine wpAnyH_ready (rs := [5]) (by kernel_rfl) (by simp) ?_
              refine AllReadyH.cons rfl (fun K hK => ?_) AllReadyH.nil
              go_simp
              with_reducible refine (SN.out _ kk).mono ?_
              rintro e Y6 ⟨rfl, m2, hb⟩
              (try go_wp2_with fail)
              replace b5 := below_block hb (lt_of_block b5) b5
              replace b4 := below_block hb (lt_of_block b4) b4
              replace m1 := m1.below hb
              replace kk := kk.trans (hb.mono kk.size)
              clear hb
              refine hK.out _ _ (KF.out _ kk) (fun hH => ?_)
              clear hK K
              try simp only [Act.put, List.setIfInBounds_toArray, List.set_cons_zero, List.set_cons_succ]
              generalize Y5.heap.size = md2 at m2 ⊢
              refine wpAnyH_ready (rs := [8]) (by kernel_rfl) (by simp) ?_
              refine AllReadyH.cons rfl (fun K hK => ?_) AllReadyH.nil
              have z0 := cell_of_block (j := 0) b4 rfl
              have fz0 := free_of_block (j := 0) b4
              go_simp
              clear z0 fz0
              replace m1 := m1.setCell (a := ⟨adb4, 0, none⟩) (mp_ne m1 b4) (.map (some md1))
              replace m2 := m2.setCell (a := ⟨adb4, 0, none⟩) (mp_ne m2 b4) (.map (some md1))
              replace b5 := heap_store_other (c := adb4) (j := 0) (v := .map (some md1)) b5 neb4b5.symm
              replace kk := kk.setCell (p := ⟨adb4, 0, none⟩) geb4 (.map (some md1))
              replace b4 : (Y6.setCell ⟨adb4, 0, none⟩ (.map (some md1))).heap[adb4]? = some (.cells #[.map (some md1)] 36 (0, 0)) := heap_store (j := 0) (v := .map (some md1)) b4
              refine hK.out _ _ (KF.out _ kk) (fun hH => ?_)
              clear hK K
              try simp only [Act.put, List.setIfInBounds_toArray, List.set_cons_zero, List.set_cons_succ]
              generalize Y6.setCell ⟨adb4, 0, none⟩ (.map (some md1)) = Y7 at hH kk b5 b4 m1 m2 ⊢
              refine wpAnyH_ready (rs := [9]) (by kernel_rfl) (by simp) ?_
              refine AllReadyH.cons rfl (fun K hK => ?_) AllReadyH.nil
              have z0 := cell_of_block (j := 0) b5 rfl
              have fz0 := free_of_block (j := 0) b5
              go_simp
              clear z0 fz0
              replace m1 := m1.setCell (a := ⟨adb5, 0, none⟩) (mp_ne m1 b5) (.map (some md2))
              replace m2 := m2.setCell (a := ⟨adb5, 0, none⟩) (mp_ne m2 b5) (.map (some md2))
              replace b4 := heap_store_other (c := adb5) (j := 0) (v := .map (some md2)) b4 neb4b5
              replace kk := kk.setCell (p := ⟨adb5, 0, none⟩) geb5 (.map (some md2))
              replace b5 : (Y7.setCell ⟨adb5, 0, none⟩ (.map (some md2))).heap[adb5]? = some (.cells #[.map (some md2)] 36 (0, 0)) := heap_store (j := 0) (v := .map (some md2)) b5
              refine hK.out _ _ (KF.out _ kk) (fun hH => ?_)
              clear hK K
              try simp only [Act.put, List.setIfInBounds_toArray, List.set_cons_zero, List.set_cons_succ]
              generalize Y7.setCell ⟨adb5, 0, none⟩ (.map (some md2)) = Y8 at hH kk b5 b4 m1 m2 ⊢
              refine wpAnyH_done (by kernel_rfl) ?_ _
              go_wp2_with fail
              go_meet
              exact ⟨adb4, adb5, md1, md2, rfl, rfl, Lib.hid b4, Lib.hid b5, Lib.hid m1, Lib.hid m2, Lib.hid kk⟩
      · refine AllReadyH.cons rfl (fun K hK => ?_) ?_
        · go_simp
          have geb4 := kk.size
          have b4 := heap_new Y0 (.cells #[.map none] 36)
          replace kk := kk.alloc kk.size (.cells #[.map none] 36)
          refine hK.out _ _ (KF.out _ kk) (fun hH => ?_)
          clear hK K
          try simp only [Act.put, List.setIfInBounds_toArray, List.set_cons_zero, List.set_cons_succ]
          generalize Y0.alloc (.cells #[.map none] 36) = Y2 at hH kk b4 ⊢
          generalize Y0.heap.size = adb4 at b4 geb4 ⊢
          refine wpAnyH_ready (rs := [2, 7]) (by kernel_rfl) (by simp) ?_
          refine AllReadyH.cons rfl (fun K hK => ?_) ?_
          · go_simp
            with_reducible refine (SR.out _ kk).mono ?_
            rintro e Y3 ⟨rfl, m1, hb⟩
            (try go_wp2_with fail)
            replace b4 := below_block hb (lt_of_block b4) b4
            replace kk := kk.trans (hb.mono kk.size)
            clear hb
            refine hK.out _ _ (KF.out _ kk) (fun hH => ?_)
            clear hK K
            try simp only [Act.put, List.setIfInBounds_toArray, List.set_cons_zero, List.set_cons_succ]
            generalize Y2.heap.size = md1 at m1 ⊢
            refine wpAnyH_ready (rs := [5, 7]) (by kernel_rfl) (by simp) ?_
            refine AllReadyH.cons rfl (fun K hK => ?_) ?_
            · go_simp
              with_reducible refine (SN.out _ kk).mono ?_
              rintro e Y4 ⟨rfl, m2, hb⟩
              (try go_wp2_with fail)
              replace b4 := below_block hb (lt_of_block b4) b4
              replace m1 := m1.below hb
              replace kk := kk.trans (hb.mono kk.size)
              clear hb
              refine hK.out _ _ (KF.out _ kk) (fun hH => ?_)
              clear hK K
              try simp only [Act.put, List.setIfInBounds_toArray, List.set_cons_zero, List.set_cons_succ]
              generalize Y3.heap.size = md2 at m2 ⊢
              refine wpAnyH_ready (rs := [7]) (by kernel_rfl) (by simp) ?_
              refine AllReadyH.cons rfl (fun K hK => ?_) AllReadyH.nil
              go_simp
              have geb5 := kk.size
              have neb5b4 : Y4.heap.size ≠ adb4 := (Nat.ne_of_lt (lt_of_block b4)).symm
              replace b4 := heap_old (p := (.cells #[.map none] 36)) b4
              replace m1 := m1.kept (World.grownBy_alloc Y4 (.cells #[.map none] 36) none) (by simp)
              replace m2 := m2.kept (World.grownBy_alloc Y4 (.cells #[.map none] 36) none) (by simp)
              have b5 := heap_new Y4 (.cells #[.map none] 36)
              replace kk := kk.alloc kk.size (.cells #[.map none] 36)
              refine hK.out _ _ (KF.out _ kk) (fun hH => ?_)
              clear hK K
              try simp only [Act.put, List.setIfInBounds_toArray, List.set_cons_zero, List.set_cons_succ]
              generalize Y4.alloc (.cells #[.map none] 36) = Y6 at hH kk b4 b5 m1 m2 ⊢
              generalize Y4.heap.size = adb5 at b5 geb5 neb5b4 ⊢
              refine wpAnyH_ready (rs := [8]) (by kernel_rfl) (by simp) ?_
              refine AllReadyH.cons rfl (fun K hK => ?_) AllReadyH.nil
              have z0 := cell_of_block (j := 0) b4 rfl
              have fz0 := free_of_block (j := 0) b4
              go_simp
              clear z0 fz0
              replace m1 := m1.setCell (a := ⟨adb4, 0, none⟩) (mp_ne m1 b4) (.map (some md1))
              replace m2 := m2.setCell (a := ⟨adb4, 0, none⟩) (mp_ne m2 b4) (.map (some md1))
              replace b5 := heap_store_other (c := adb4) (j := 0) (v := .map (some md1)) b5 neb5b4
              replace kk := kk.setCell (p := ⟨adb4, 0, none⟩) geb4 (.map (some md1))
              replace b4 : (Y6.setCell ⟨adb4, 0, none⟩ (.map (some md1))).heap[adb4]? = some (.cells #[.map (some md1)] 36 (0, 0)) := heap_store (j := 0) (v := .map (some md1)) b4
              refine hK.out _ _ (KF.out _ kk) (fun hH => ?_)
              clear hK K
              try simp only [Act.put, List.setIfInBounds_toArray, List.set_cons_zero, List.set_cons_succ]
              generalize Y6.setCell ⟨adb4, 0, none⟩ (.map (some md1)) = Y7 at hH kk b4 b5 m1 m2 ⊢
              refine wpAnyH_ready (rs := [9]) (by kernel_rfl) (by simp) ?_
              refine AllReadyH.cons rfl (fun K hK => ?_) AllReadyH.nil
              have z0 := cell_of_block (j := 0) b5 rfl
              have fz0 := free_of_block (j := 0) b5
              go_simp
              clear z0 fz0
              replace m1 := m1.setCell (a := ⟨adb5, 0, none⟩) (mp_ne m1 b5) (.map (some md2))
              replace m2 := m2.setCell (a := ⟨adb5, 0, none⟩) (mp_ne m2 b5) (.map (some md2))
              replace b4 := heap_store_other (c := adb5) (j := 0) (v := .map (some md2)) b4 neb5b4.symm
              replace kk := kk.setCell (p := ⟨adb5, 0, none⟩) geb5 (.map (some md2))
              replace b5 : (Y7.setCell ⟨adb5, 0, none⟩ (.map (some md2))).heap[adb5]? = some (.cells #[.map (some md2)] 36 (0, 0)) := heap_store (j := 0) (v := .map (some md2)) b5
              refine hK.out _ _ (KF.out _ kk) (fun hH => ?_)
              clear hK K
              try simp only [Act.put, List.setIfInBounds_toArray, List.set_cons_zero, List.set_cons_succ]
              generalize Y7.setCell ⟨adb5, 0, none⟩ (.map (some md2)) = Y8 at hH kk b4 b5 m1 m2 ⊢
              refine wpAnyH_done (by kernel_rfl) ?_ _
              go_wp2_with fail
              go_meet
              exact ⟨adb4, adb5, md1, md2, rfl, rfl, Lib.hid b4, Lib.hid b5, Lib.hid m1, Lib.hid m2, Lib.hid kk⟩
            · refine AllReadyH.cons rfl (fun K hK => ?_) AllReadyH.nil
              go_simp
              have geb5 := kk.size
              have neb5b4 : Y3.heap.size ≠ adb4 := (Nat.ne_of_lt (lt_of_block b4)).symm
              replace b4 := heap_old (p := (.cells #[.map none] 36)) b4
              replace m1 := m1.kept (World.grownBy_alloc Y3 (.cells #[.map none] 36) none) (by simp)
              have b5 := heap_new Y3 (.cells #[.map none] 36)
              replace kk := kk.alloc kk.size (.cells #[.map none] 36)
              refine hK.out _ _ (KF.out _ kk) (fun hH => ?_)
              clear hK K
              try simp only [Act.put, List.setIfInBounds_toArray, List.set_cons_zero, List.set_cons_succ]
              generalize Y3.alloc (.cells #[.map none] 36) = Y5 at hH kk b4 b5 m1 ⊢
              generalize Y3.heap.size = adb5 at b5 geb5 neb5b4 ⊢
              refine wpAnyH_ready (rs := [5]) (by kernel_rfl) (by simp) ?_
              refine AllReadyH.cons rfl (fun K hK => ?_) AllReadyH.nil
              go_simp
              with_reducible refine (SN.out _ kk).mono ?_
              rintro e Y6 ⟨rfl, m2, hb⟩
              (try go_wp2_with fail)
              replace b4 := below_block hb (lt_of_block b4) b4
              replace b5 := below_block hb (lt_of_block b5) b5
              replace m1 := m1.below hb
              replace kk := kk.trans (hb.mono kk.size)
              clear hb
              refine hK.out _ _ (KF.out _ kk) (fun hH => ?_)
              clear hK K
              try simp only [Act.put, List.setIfInBounds_toArray, List.set_cons_zero, List.set_cons_succ]
              generalize Y5.heap.size = md2 at m2 ⊢
              refine wpAnyH_ready (rs := [8]) (by kernel_rfl) (by simp) ?_
              refine AllReadyH.cons rfl (fun K hK => ?_) AllReadyH.nil
              have z0 := cell_of_block (j := 0) b4 rfl
              have fz0 := free_of_block (j := 0) b4
              go_simp
              clear z0 fz0
              replace m1 := m1.setCell (a := ⟨adb4, 0, none⟩) (mp_ne m1 b4) (.map (some md1))
              replace m2 := m2.setCell (a := ⟨adb4, 0, none⟩) (mp_ne m2 b4) (.map (some md1))
              replace b5 := heap_store_other (c := adb4) (j := 0) (v := .map (some md1)) b5 neb5b4
              replace kk := kk.setCell (p := ⟨adb4, 0, none⟩) geb4 (.map (some md1))
              replace b4 : (Y6.setCell ⟨adb4, 0, none⟩ (.map (some md1))).heap[adb4]? = some (.cells #[.map (some md1)] 36 (0, 0)) := heap_store (j := 0) (v := .map (some md1)) b4
              refine hK.out _ _ (KF.out _ kk) (fun hH => ?_)
              clear hK K
              try simp only [Act.put, List.setIfInBounds_toArray, List.set_cons_zero, List.set_cons_succ]
              generalize Y6.setCell ⟨adb4, 0, none⟩ (.map (some md1)) = Y7 at hH kk b4 b5 m1 m2 ⊢
              refine wpAnyH_ready (rs := [9]) (by kernel_rfl) (by simp) ?_
              refine AllReadyH.cons rfl (fun K hK => ?_) AllReadyH.nil
              have z0 := cell_of_block (j := 0) b5 rfl
              have fz0 := free_of_block (j := 0) b5
              go_simp
              clear z0 fz0
              replace m1 := m1.setCell (a := ⟨adb5, 0, none⟩) (mp_ne m1 b5) (.map (some md2))
              replace m2 := m2.setCell (a := ⟨adb5, 0, none⟩) (mp_ne m2 b5) (.map (some md2))
              replace b4 := heap_store_other (c := adb5) (j := 0) (v := .map (some md2)) b4 neb5b4.symm
              replace kk := kk.setCell (p := ⟨adb5, 0, none⟩) geb5 (.map (some md2))
              replace b5 : (Y7.setCell ⟨adb5, 0, none⟩ (.map (some md2))).heap[adb5]? = some (.cells #[.map (some md2)] 36 (0, 0)) := heap_store (j := 0) (v := .map (some md2)) b5
              refine hK.out _ _ (KF.out _ kk) (fun hH => ?_)
              clear hK K
              try simp only [Act.put, List.setIfInBounds_toArray, List.set_cons_zero, List.set_cons_succ]
              generalize Y7.setCell ⟨adb5, 0, none⟩ (.map (some md2)) = Y8 at hH kk b4 b5 m1 m2 ⊢
              refine wpAnyH_done (by kernel_rfl) ?_ _
              go_wp2_with fail
              go_meet
              exact ⟨adb4, adb5, md1, md2, rfl, rfl, Lib.hid b4, Lib.hid b5, Lib.hid m1, Lib.hid m2, Lib.hid kk⟩
          · refine AllReadyH.cons rfl (fun K hK => ?_) AllReadyH.nil
            go_simp
            have geb5 := kk.size
            have neb5b4 : Y2.heap.size ≠ adb4 := (Nat.ne_of_lt (lt_of_block b4)).symm
            replace b4 := heap_old (p := (.cells #[.map none] 36)) b4
            have b5 := heap_new Y2 (.cells #[.map none] 36)
            replace kk := kk.alloc kk.size (.cells #[.map none] 36)
            refine hK.out _ _ (KF.out _ kk) (fun hH => ?_)
            clear hK K
            try simp only [Act.put, List.setIfInBounds_toArray, List.set_cons_zero, List.set_cons_succ]
            generalize Y2.alloc (.cells #[.map none] 36) = Y4 at hH kk b4 b5 ⊢
            generalize Y2.heap.size = adb5 at b5 geb5 neb5b4 ⊢
            refine wpAnyH_ready (rs := [2]) (by kernel_rfl) (by simp) ?_
            refine AllReadyH.cons rfl (fun K hK => ?_) AllReadyH.nil
            go_simp
            with_reducible refine (SR.out _ kk).mono ?_
            rintro e Y5 ⟨rfl, m1, hb⟩
            (try go_wp2_with fail)
            replace b4 := below_block hb (lt_of_block b4) b4
            replace b5 := below_block hb (lt_of_block b5) b5
            replace kk := kk.trans (hb.mono kk.size)
            clear hb
            refine hK.out _ _ (KF.out _ kk) (fun hH => ?_)
            clear hK K
            try simp only [Act.put, List.setIfInBounds_toArray, List.set_cons_zero, List.set_cons_succ]
            generalize Y4.heap.size = md1 at m1 ⊢
            refine wpAnyH_ready (rs := [5]) (by kernel_rfl) (by simp) ?_
            refine AllReadyH.cons rfl (fun K hK => ?_) AllReadyH.nil
            go_simp
            with_reducible refine (SN.out _ kk).mono ?_
            rintro e Y6 ⟨rfl, m2, hb⟩
            (try go_wp2_with fail)
            replace b4 := below_block hb (lt_of_block b4) b4
            replace b5 := below_block hb (lt_of_block b5) b5
            replace m1 := m1.below hb
            replace kk := kk.trans (hb.mono kk.size)
            clear hb
            refine hK.out _ _ (KF.out _ kk) (fun hH => ?_)
            clear hK K
            try simp only [Act.put, List.setIfInBounds_toArray, List.set_cons_zero, List.set_cons_succ]
            generalize Y5.heap.size = md2 at m2 ⊢
            refine wpAnyH_ready (rs := [8]) (by kernel_rfl) (by simp) ?_
            refine AllReadyH.cons rfl (fun K hK => ?_) AllReadyH.nil
            have z0 := cell_of_block (j := 0) b4 rfl
            have fz0 := free_of_block (j := 0) b4
            go_simp
            clear z0 fz0
            replace m1 := m1.setCell (a := ⟨adb4, 0, none⟩) (mp_ne m1 b4) (.map (some md1))
            replace m2 := m2.setCell (a := ⟨adb4, 0, none⟩) (mp_ne m2 b4) (.map (some md1))
            replace b5 := heap_store_other (c := adb4) (j := 0) (v := .map (some md1)) b5 neb5b4
            replace kk := kk.setCell (p := ⟨adb4, 0, none⟩) geb4 (.map (some md1))
            replace b4 : (Y6.setCell ⟨adb4, 0, none⟩ (.map (some md1))).heap[adb4]? = some (.cells #[.map (some md1)] 36 (0, 0)) := heap_store (j := 0) (v := .map (some md1)) b4
            refine hK.out _ _ (KF.out _ kk) (fun hH => ?_)
            clear hK K
            try simp only [Act.put, List.setIfInBounds_toArray, List.set_cons_zero, List.set_cons_succ]
            generalize Y6.setCell ⟨adb4, 0, none⟩ (.map (some md1)) = Y7 at hH kk b4 b5 m1 m2 ⊢
            refine wpAnyH_ready (rs := [9]) (by kernel_rfl) (by simp) ?_
            refine AllReadyH.cons rfl (fun K hK => ?_) AllReadyH.nil
            have z0 := cell_of_block (j := 0) b5 rfl
            have fz0 := free_of_block (j := 0) b5
            go_simp
            clear z0 fz0
            replace m1 := m1.setCell (a := ⟨adb5, 0, none⟩) (mp_ne m1 b5) (.map (some md2))
            replace m2 := m2.setCell (a := ⟨adb5, 0, none⟩) (mp_ne m2 b5) (.map (some md2))
            replace b4 := heap_store_other (c := adb5) (j := 0) (v := .map (some md2)) b4 neb5b4.symm
            replace kk := kk.setCell (p := ⟨adb5, 0, none⟩) geb5 (.map (some md2))
            replace b5 : (Y7.setCell ⟨adb5, 0, none⟩ (.map (some md2))).heap[adb5]? = some (.cells #[.map (some md2)] 36 (0, 0)) := heap_store (j := 0) (v := .map (some md2)) b5
            refine hK.out _ _ (KF.out _ kk) (fun hH => ?_)
            clear hK K
            try simp only [Act.put, List.setIfInBounds_toArray, List.set_cons_zero, List.set_cons_succ]
            generalize Y7.setCell ⟨adb5, 0, none⟩ (.map (some md2)) = Y8 at hH kk b4 b5 m1 m2 ⊢
            refine wpAnyH_done (by kernel_rfl) ?_ _
            go_wp2_with fail
            go_meet
            exact ⟨adb4, adb5, md1, md2, rfl, rfl, Lib.hid b4, Lib.hid b5, Lib.hid m1, Lib.hid m2, Lib.hid kk⟩
        · refine AllReadyH.cons rfl (fun K hK => ?_) AllReadyH.nil
          go_simp
          have geb5 := kk.size
          have b5 := heap_new Y0 (.cells #[.map none] 36)
          replace kk := kk.alloc kk.size (.cells #[.map none] 36)
          refine hK.out _ _ (KF.out _ kk) (fun hH => ?_)
          clear hK K
          try simp only [Act.put, List.setIfInBounds_toArray, List.set_cons_zero, List.set_cons_succ]
          generalize Y0.alloc (.cells #[.map none] 36) = Y2 at hH kk b5 ⊢
          generalize Y0.heap.size = adb5 at b5 geb5 ⊢
          refine wpAnyH_ready (rs := [2, 6]) (by kernel_rfl) (by simp) ?_
          refine AllReadyH.cons rfl (fun K hK => ?_) ?_
          · go_simp
            with_reducible refine (SR.out _ kk).mono ?_
            rintro e Y3 ⟨rfl, m1, hb⟩
            (try go_wp2_with fail)
            replace b5 := below_block hb (lt_of_block b5) b5
            replace kk := kk.trans (hb.mono kk.size)
            clear hb
            refine hK.out _ _ (KF.out _ kk) (fun hH => ?_)
            clear hK K
            try simp only [Act.put, List.setIfInBounds_toArray, List.set_cons_zero, List.set_cons_succ]
            generalize Y2.heap.size = md1 at m1 ⊢
            refine wpAnyH_ready (rs := [5, 6]) (by kernel_rfl) (by simp) ?_
            refine AllReadyH.cons rfl (fun K hK => ?_) ?_
            · go_simp
              with_reducible refine (SN.out _ kk).mono ?_
              rintro e Y4 ⟨rfl, m2, hb⟩
              (try go_wp2_with fail)
              replace b5 := below_block hb (lt_of_block b5) b5
              replace m1 := m1.below hb
              replace kk := kk.trans (hb.mono kk.size)
              clear hb
              refine hK.out _ _ (KF.out _ kk) (fun hH => ?_)
              clear hK K
              try simp only [Act.put, List.setIfInBounds_toArray, List.set_cons_zero, List.set_cons_succ]
              generalize Y3.heap.size = md2 at m2 ⊢
              refine wpAnyH_ready (rs := [6]) (by kernel_rfl) (by simp) ?_
              refine AllReadyH.cons rfl (fun K hK => ?_) AllReadyH.nil
              go_simp
              have geb4 := kk.size
              have neb4b5 : Y4.heap.size ≠ adb5 := (Nat.ne_of_lt (lt_of_block b5)).symm
              replace b5 := heap_old (p := (.cells #[.map none] 36)) b5
              replace m1 := m1.kept (World.grownBy_alloc Y4 (.cells #[.map none] 36) none) (by simp)
              replace m2 := m2.kept (World.grownBy_alloc Y4 (.cells #[.map none] 36) none) (by simp)
              have b4 := heap_new Y4 (.cells #[.map none] 36)
              replace kk := kk.alloc kk.size (.cells #[.map none] 36)
              refine hK.out _ _ (KF.out _ kk) (fun hH => ?_)
              clear hK K
              try simp only [Act.put, List.setIfInBounds_toArray, List.set_cons_zero, List.set_cons_succ]
              generalize Y4.alloc (.cells #[.map none] 36) = Y6 at hH kk b5 b4 m1 m2 ⊢
              generalize Y4.heap.size = adb4 at b4 geb4 neb4b5 ⊢
              refine wpAnyH_ready (rs := [8]) (by kernel_rfl) (by simp) ?_
              refine AllReadyH.cons rfl (fun K hK => ?_) AllReadyH.nil
              have z0 := cell_of_block (j := 0) b4 rfl
              have fz0 := free_of_block (j := 0) b4
              go_simp
              clear z0 fz0
              replace m1 := m1.setCell (a := ⟨adb4, 0, none⟩) (mp_ne m1 b4) (.map (some md1))
              replace m2 := m2.setCell (a := ⟨adb4, 0, none⟩) (mp_ne m2 b4) (.map (some md1))
              replace b5 := heap_store_other (c := adb4) (j := 0) (v := .map (some md1)) b5 neb4b5.symm
              replace kk := kk.setCell (p := ⟨adb4, 0, none⟩) geb4 (.map (some md1))
              replace b4 : (Y6.setCell ⟨adb4, 0, none⟩ (.map (some md1))).heap[adb4]? = some (.cells #[.map (some md1)] 36 (0, 0)) := heap_store (j := 0) (v := .map (some md1)) b4
              refine hK.out _ _ (KF.out _ kk) (fun hH => ?_)
              clear hK K
              try simp only [Act.put, List.setIfInBounds_toArray, List.set_cons_zero, List.set_cons_succ]
              generalize Y6.setCell ⟨adb4, 0, none⟩ (.map (some md1)) = Y7 at hH kk b5 b4 m1 m2 ⊢
              refine wpAnyH_ready (rs := [9]) (by kernel_rfl) (by simp) ?_
              refine AllReadyH.cons rfl (fun K hK => ?_) AllReadyH.nil
              have z0 := cell_of_block (j := 0) b5 rfl
              have fz0 := free_of_block (j := 0) b5
              go_simp
              clear z0 fz0
              replace m1 := m1.setCell (a := ⟨adb5, 0, none⟩) (mp_ne m1 b5) (.map (some md2))
              replace m2 := m2.setCell (a := ⟨adb5, 0, none⟩) (mp_ne m2 b5) (.map (some md2))
              replace b4 := heap_store_other (c := adb5) (j := 0) (v := .map (some md2)) b4 neb4b5
              replace kk := kk.setCell (p := ⟨adb5, 0, none⟩) geb5 (.map (some md2))
              replace b5 : (Y7.setCell ⟨adb5, 0, none⟩ (.map (some md2))).heap[adb5]? = some (.cells #[.map (some md2)] 36 (0, 0)) := heap_store (j := 0) (v := .map (some md2)) b5
              refine hK.out _ _ (KF.out _ kk) (fun hH => ?_)
              clear hK K
              try simp only [Act.put, List.setIfInBounds_toArray, List.set_cons_zero, List.set_cons_succ]
              generalize Y7.setCell ⟨adb5, 0, none⟩ (.map (some md2)) = Y8 at hH kk b5 b4 m1 m2 ⊢
              refine wpAnyH_done (by kernel_rfl) ?_ _
              go_wp2_with fail
              go_meet
              exact ⟨adb4, adb5, md1, md2, rfl, rfl, Lib.hid b4, Lib.hid b5, Lib.hid m1, Lib.hid m2, Lib.hid kk⟩
            · refine AllReadyH.cons rfl (fun K hK => ?_) AllReadyH.nil
              go_simp
              have geb4 := kk.size
              have neb4b5 : Y3.heap.size ≠ adb5 := (Nat.ne_of_lt (lt_of_block b5)).symm
              replace b5 := heap_old (p := (.cells #[.map none] 36)) b5
              replace m1 := m1.kept (World.grownBy_alloc Y3 (.cells #[.map none] 36) none) (by simp)
              have b4 := heap_new Y3 (.cells #[.map none] 36)
              replace kk := kk.alloc kk.size (.cells #[.map none] 36)
              refine hK.out _ _ (KF.out _ kk) (fun hH => ?_)
              clear hK K
              try simp only [Act.put, List.setIfInBounds_toArray, List.set_cons_zero, List.set_cons_succ]
              generalize Y3.alloc (.cells #[.map none] 36) = Y5 at hH kk b5 b4 m1 ⊢
              generalize Y3.heap.size = adb4 at b4 geb4 neb4b5 ⊢
              refine wpAnyH_ready (rs := [5]) (by kernel_rfl) (by simp) ?_
              refine AllReadyH.cons rfl (fun K hK => ?_) AllReadyH.nil
              go_simp
              with_reducible refine (SN.out _ kk).mono ?_
              rintro e Y6 ⟨rfl, m2, hb⟩
              (try go_wp2_with fail)
              replace b5 := below_block hb (lt_of_block b5) b5
              replace b4 := below_block hb (lt_of_block b4) b4
              replace m1 := m1.below hb
              replace kk := kk.trans (hb.mono kk.size)
              clear hb
              refine hK.out _ _ (KF.out _ kk) (fun hH => ?_)
              clear hK K
              try simp only [Act.put, List.setIfInBounds_toArray, List.set_cons_zero, List.set_cons_succ]
              generalize Y5.heap.size = md2 at m2 ⊢
              refine wpAnyH_ready (rs := [8]) (by kernel_rfl) (by simp) ?_
              refine AllReadyH.cons rfl (fun K hK => ?_) AllReadyH.nil
              have z0 := cell_of_block (j := 0) b4 rfl
              have fz0 := free_of_block (j := 0) b4
              go_simp
              clear z0 fz0
              replace m1 := m1.setCell (a := ⟨adb4, 0, none⟩) (mp_ne m1 b4) (.map (some md1))
              replace m2 := m2.setCell (a := ⟨adb4, 0, none⟩) (mp_ne m2 b4) (.map (some md1))
              replace b5 := heap_store_other (c := adb4) (j := 0) (v := .map (some md1)) b5 neb4b5.symm
              replace kk := kk.setCell (p := ⟨adb4, 0, none⟩) geb4 (.map (some md1))
              replace b4 : (Y6.setCell ⟨adb4, 0, none⟩ (.map (some md1))).heap[adb4]? = some (.cells #[.map (some md1)] 36 (0, 0)) := heap_store (j := 0) (v := .map (some md1)) b4
              refine hK.out _ _ (KF.out _ kk) (fun hH => ?_)
              clear hK K
              try simp only [Act.put, List.setIfInBounds_toArray, List.set_cons_zero, List.set_cons_succ]
              generalize Y6.setCell ⟨adb4, 0, none⟩ (.map (some md1)) = Y7 at hH kk b5 b4 m1 m2 ⊢
              refine wpAnyH_ready (rs := [9]) (by kernel_rfl) (by simp) ?_
              refine AllReadyH.cons rfl (fun K hK => ?_) AllReadyH.nil
              have z0 := cell_of_block (j := 0) b5 rfl
              have fz0 := free_of_block (j := 0) b5
              go_simp
              clear z0 fz0
              replace m1 := m1.setCell (a := ⟨adb5, 0, none⟩) (mp_ne m1 b5) (.map (some md2))
              replace m2 := m2.setCell (a := ⟨adb5, 0, none⟩) (mp_ne m2 b5) (.map (some md2))
              replace b4 := heap_store_other (c := adb5) (j := 0) (v := .map (some md2)) b4 neb4b5
              replace kk := kk.setCell (p := ⟨adb5, 0, none⟩) geb5 (.map (some md2))
              replace b5 : (Y7.setCell ⟨adb5, 0, none⟩ (.map (some md2))).heap[adb5]? = some (.cells #[.map (some md2)] 36 (0, 0)) := heap_store (j := 0) (v := .map (some md2)) b5
              refine hK.out _ _ (KF.out _ kk) (fun hH => ?_)
              clear hK K
              try simp only [Act.put, List.setIfInBounds_toArray, List.set_cons_zero, List.set_cons_succ]
              generalize Y7.setCell ⟨adb5, 0, none⟩ (.map (some md2)) = Y8 at hH kk b5 b4 m1 m2 ⊢
              refine wpAnyH_done (by kernel_rfl) ?_ _
              go_wp2_with fail
              go_meet
              exact ⟨adb4, adb5, md1, md2, rfl, rfl, Lib.hid b4, Lib.hid b5, Lib.hid m1, Lib.hid m2, Lib.hid kk⟩
          · refine AllReadyH.cons rfl (fun K hK => ?_) AllReadyH.nil
            go_simp
            have geb4 := kk.size
            have neb4b5 : Y2.heap.size ≠ adb5 := (Nat.ne_of_lt (lt_of_block b5)).symm
            replace b5 := heap_old (p := (.cells #[.map none] 36)) b5
            have b4 := heap_new Y2 (.cells #[.map none] 36)
            replace kk := kk.alloc kk.size (.cells #[.map none] 36)
            refine hK.out _ _ (KF.out _ kk) (fun hH => ?_)
            clear hK K
            try simp only [Act.put, List.setIfInBounds_toArray, List.set_cons_zero, List.set_cons_succ]
            generalize Y2.alloc (.cells #[.map none] 36) = Y4 at hH kk b5 b4 ⊢
            generalize Y2.heap.size = adb4 at b4 geb4 neb4b5 ⊢
            refine wpAnyH_ready (rs := [2]) (by kernel_rfl) (by simp) ?_
            refine AllReadyH.cons rfl (fun K hK => ?_) AllReadyH.nil
            go_simp
            with_reducible refine (SR.out _ kk).mono ?_
            rintro e Y5 ⟨rfl, m1, hb⟩
            (try go_wp2_with fail)
            replace b5 := below_block hb (lt_of_block b5) b5
            replace b4 := below_block hb (lt_of_block b4) b4
            replace kk := kk.trans (hb.mono kk.size)
            clear hb
            refine hK.out _ _ (KF.out _ kk) (fun hH => ?_)
            clear hK K
            try simp only [Act.put, List.setIfInBounds_toArray, List.set_cons_zero, List.set_cons_succ]
            generalize Y4.heap.size = md1 at m1 ⊢
            refine wpAnyH_ready (rs := [5]) (by kernel_rfl) (by simp) ?_
            refine AllReadyH.cons rfl (fun K hK => ?_) AllReadyH.nil
            go_simp
            with_reducible refine (SN.out _ kk).mono ?_
            rintro e Y6 ⟨rfl, m2, hb⟩
            (try go_wp2_with fail)
            replace b5 := below_block hb (lt_of_block b5) b5
            replace b4 := below_block hb (lt_of_block b4) b4
            replace m1 := m1.below hb
            replace kk := kk.trans (hb.mono kk.size)
            clear hb
            refine hK.out _ _ (KF.out _ kk) (fun hH => ?_)
            clear hK K
            try simp only [Act.put, List.setIfInBounds_toArray, List.set_cons_zero, List.set_cons_succ]
            generalize Y5.heap.size = md2 at m2 ⊢
            refine wpAnyH_ready (rs := [8]) (by kernel_rfl) (by simp) ?_
            refine AllReadyH.cons rfl (fun K hK => ?_) AllReadyH.nil
            have z0 := cell_of_block (j := 0) b4 rfl
            have fz0 := free_of_block (j := 0) b4
            go_simp
            clear z0 fz0
            replace m1 := m1.setCell (a := ⟨adb4, 0, none⟩) (mp_ne m1 b4) (.map (some md1))
            replace m2 := m2.setCell (a := ⟨adb4, 0, none⟩) (mp_ne m2 b4) (.map (some md1))
            replace b5 := heap_store_other (c := adb4) (j := 0) (v := .map (some md1)) b5 neb4b5.symm
            replace kk := kk.setCell (p := ⟨adb4, 0, none⟩) geb4 (.map (some md1))
            replace b4 : (Y6.setCell ⟨adb4, 0, none⟩ (.map (some md1))).heap[adb4]? = some (.cells #[.map (some md1)] 36 (0, 0)) := heap_store (j := 0) (v := .map (some md1)) b4
            refine hK.out _ _ (KF.out _ kk) (fun hH => ?_)
            clear hK K
            try simp only [Act.put, List.setIfInBounds_toArray, List.set_cons_zero, List.set_cons_succ]
            generalize Y6.setCell ⟨adb4, 0, none⟩ (.map (some md1)) = Y7 at hH kk b5 b4 m1 m2 ⊢
            refine wpAnyH_ready (rs := [9]) (by kernel_rfl) (by simp) ?_
            refine AllReadyH.cons rfl (fun K hK => ?_) AllReadyH.nil
            have z0 := cell_of_block (j := 0) b5 rfl
            have fz0 := free_of_block (j := 0) b5
            go_simp
            clear z0 fz0
            replace m1 := m1.setCell (a := ⟨adb5, 0, none⟩) (mp_ne m1 b5) (.map (some md2))
            replace m2 := m2.setCell (a := ⟨adb5, 0, none⟩) (mp_ne m2 b5) (.map (some md2))
            replace b4 := heap_store_other (c := adb5) (j := 0) (v := .map (some md2)) b4 neb4b5
            replace kk := kk.setCell (p := ⟨adb5, 0, none⟩) geb5 (.map (some md2))
            replace b5 : (Y7.setCell ⟨adb5, 0, none⟩ (.map (some md2))).heap[adb5]? = some (.cells #[.map (some md2)] 36 (0, 0)) := heap_store (j := 0) (v := .map (some md2)) b5
            refine hK.out _ _ (KF.out _ kk) (fun hH => ?_)
            clear hK K
            try simp only [Act.put, List.setIfInBounds_toArray, List.set_cons_zero, List.set_cons_succ]
            generalize Y7.setCell ⟨adb5, 0, none⟩ (.map (some md2)) = Y8 at hH kk b5 b4 m1 m2 ⊢
            refine wpAnyH_done (by kernel_rfl) ?_ _
            go_wp2_with fail
            go_meet
            exact ⟨adb4, adb5, md1, md2, rfl, rfl, Lib.hid b4, Lib.hid b5, Lib.hid m1, Lib.hid m2, Lib.hid kk⟩
    case rest =>
    obtain ⟨b4, b5, m1, m2, rfl, rfl, HB4, HB5, HM1, HM2, K2⟩ := hcut
    have HBX := Lib.hid (below_block K2.out (lt_of_block HB1.out) HB1.out)
    have OC := Lib.hid (onlyD_c b4 w.heap.size b5 (fun x => MB.getT (setL R) (ki x) || (kn && MB.getT (setL N) (ki x))) u F wc (by have := HLL.out; have := HC.out.lm; show F.length ≤ 1000000; have h3 : F.length ≤ M.length := HLL.out; omega) (HA1.out.below K2.out) (HC.out.im.of_mem HLM.out) (fun x U hx hU =>
      dec1_c (cell_of_block (below_block hU (lt_of_block HB4.out) HB4.out) rfl) (HM1.out.below hU) (cell_of_block (below_block hU (lt_of_block HBX.out) HBX.out) rfl) (cell_of_block (below_block hU (lt_of_block HB5.out) HB5.out) rfl) (HM2.out.below hU) ((HC.out.im.of_mem HLM.out) x hx).1 ((HC.out.im.of_mem HLM.out) x hx).2))
    go_wp2_with fail
    ((with_reducible refine OC.out.mono ?_); rintro e w3 ⟨u3, rfl, h3, k3⟩)
    have HF := Lib.hid (HQ.out u3 w3 h3 (K1.out.trans ((K2.out.trans (k3.mono K2.out.size)).mono K1.out.size)))
    clear h3 k3 OC HQ HM1 HM2 HB4 HB5 HBX
    go_wp2_with fail
    exact HF.out

def nearB (g : ByteArray) : Bool := (decide (g.size = 4) && decide (g.extract 0 3 = ⟨#[224, 0, 0]⟩)) || decide (g = ⟨#[255, 2, 0, 0, 0, 0, 0, 0, 0, 0, 0, 0, 0, 0, 0, 1]⟩)
end Go.Proofs.Ytpaehbmhdjnofaa
