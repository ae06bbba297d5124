/-
  'siphonlaw09.MldDecodes' returns true, whatever the input, and each argument reads behind the call as it read before. Conditions: none beyond those that the row itself states.
-/
import Derived.Test.YtnfngmclomjimaaGreatRows
import Derived.Test.YtnfngmclomjimaaGreatLive9
import Derived.Test.YtnfngmclomjimaaGreatMdN
import Derived.Test.YtnfngmclomjimaaGreatSame
import Derived.WalkKit
import Derived.ProofKit
import Derived.OpenShut
import Derived.ShutString
import Derived.ChangeOld
import Derived.Below
import Derived.Carry
import Derived.SizedLaws
import Derived.Lib.SmallJoins
import Derived.ChangeArms
import Derived.WideShapes
namespace Go.Proofs.YtnfngmclomjimaaGreat.mldDecodesLaw
open Go.ChangeShapes Go.WideShapes Go.ChangeAt Go.RowKit Go.Joins
open Go.ChangeMaps (open_string shut_string)
set_option linter.unusedVariables false

theorem list2 {α : Type} (l : List α) (h : l.length = 2) : ∃ x0 x1 : α, l = [x0, x1] := by
  match l, h with
  | [x0, x1], _ => exact ⟨x0, x1, rfl⟩

theorem go_short (s : ByteArray) (Z : Nat) : ∀ n a, (recsGo s Z n a).2.length ≤ n
  | 0, _ => Nat.le_refl _
  | n + 1, a => by
    unfold recsGo
    split
    · exact Nat.zero_le _
    · simp only
      split
      · exact Nat.zero_le _
      · have := go_short s Z n (a + (recOf s a Z).2.2)
        split
        · simp only [List.length_cons]; omega
        · simp only; omega
theorem rec_short (s : ByteArray) (a Z : Nat) : (recOf s a Z).2.1.srcs.length ≤ 60 := by
  unfold recOf
  split
  · exact Nat.zero_le _
  · simp only
    split
    · exact Nat.zero_le _
    · split
      · exact Nat.zero_le _
      · next h => simp only [addrsL_length]; omega
theorem go_srcs (s : ByteArray) (Z : Nat) : ∀ n a, ∀ r ∈ (recsGo s Z n a).2, r.srcs.length ≤ 60
  | 0, _, r, h => by simp [recsGo] at h
  | n + 1, a, r, h => by
    unfold recsGo at h
    split at h
    · simp at h
    · simp only at h
      split at h
      · simp at h
      · split at h
        · rcases List.mem_cons.1 h with rfl | h
          · exact rec_short s a Z
          · exact go_srcs s Z n _ r h
        · exact go_srcs s Z n _ r h
theorem recsI_short (s : ByteArray) (n Z : Int) : (recsI s n Z).2.length ≤ 30 ∧ ∀ r ∈ (recsI s n Z).2, r.srcs.length ≤ 60 := by
  unfold recsI
  split
  · exact ⟨Nat.zero_le _, fun r h => by simp at h⟩
  · split
    · exact ⟨Nat.zero_le _, fun r h => by simp at h⟩
    · exact ⟨Nat.le_trans (go_short _ _ _ _) (by omega), go_srcs _ _ _ _⟩
theorem dec_short9 (src dst s : ByteArray) : (decD src dst s).2.srcs.length ≤ 60 ∧ (decD src dst s).2.recs.length ≤ 30 ∧ ∀ r ∈ (decD src dst s).2.recs, r.srcs.length ≤ 60 := by
  have z : zeroM.srcs.length ≤ 60 ∧ zeroM.recs.length ≤ 30 ∧ ∀ r ∈ zeroM.recs, r.srcs.length ≤ 60 := ⟨Nat.zero_le _, Nat.zero_le _, fun r h => by simp [zeroM] at h⟩
  have one : ∀ k, (oneD s k).2.srcs.length ≤ 60 ∧ (oneD s k).2.recs.length ≤ 30 ∧ ∀ r ∈ (oneD s k).2.recs, r.srcs.length ≤ 60 := fun k => by
    unfold oneD
    split
    · exact z
    · split
      · exact ⟨Nat.zero_le _, Nat.zero_le _, fun r h => by simp at h⟩
      · exact z
  have qry : (qryD s).2.srcs.length ≤ 60 ∧ (qryD s).2.recs.length ≤ 30 ∧ ∀ r ∈ (qryD s).2.recs, r.srcs.length ≤ 60 := by
    unfold qryD
    split
    · exact z
    · split
      · split
        · exact ⟨Nat.zero_le _, Nat.zero_le _, fun r h => by simp at h⟩
        · exact z
      · split
        · exact z
        · next hd =>
          have h0 := Decidable.not_not.1 hd
          unfold dtE at h0
          split at h0
          · cases h0
          · split at h0
            · cases h0
            · split
              · exact ⟨by simp only [addrsL_length]; omega, Nat.zero_le _, fun r h => by simp at h⟩
              · exact z
  have rep : (repD s).2.srcs.length ≤ 60 ∧ (repD s).2.recs.length ≤ 30 ∧ ∀ r ∈ (repD s).2.recs, r.srcs.length ≤ 60 := by
    unfold repD repQ
    split
    · exact z
    · exact ⟨Nat.zero_le _, (recsI_short _ _ _).1, (recsI_short _ _ _).2⟩
  have rd : (rdM s).2.srcs.length ≤ 60 ∧ (rdM s).2.recs.length ≤ 30 ∧ ∀ r ∈ (rdM s).2.recs, r.srcs.length ≤ 60 := by
    unfold rdM
    split
    · exact qry
    · split
      · exact one _
      · split
        · exact one _
        · split
          · exact rep
          · exact z
  unfold decD
  split
  · exact z
  · split
    · exact z
    · split
      · exact z
      · unfold fixD
        split
        · exact z
        · exact rd

set_option maxHeartbeats 2000000 in
set_option maxRecDepth 100000 in
theorem walk_live (src dst s : ByteArray) (w : World) (h : (20000 : Int) < (s.size : Int) ∨ (¬ (20000 : Int) < (s.size : Int) ∧ ((100 : Int) < (src.size : Int) ∨ (¬ (100 : Int) < (src.size : Int) ∧ (100 : Int) < (dst.size : Int))))) :
    Calls Tryz.prog 3 #[.agg #[.string src, .string dst], .string s] w fun e w' => e = .returned (.bool true) ∧ Below w.heap.size w w' := by
  have HL := Lib.hid fun U => live9_c U
  have B := Lib.hid (Box.start w #[.string src, .string dst] 24)
  rcases h with h | ⟨h, h1 | ⟨h1, h2⟩⟩
  all_goals
    go_enter Tryz.func3, Tryz.ntmps3
    go_wp2_with fail
    ((with_reducible refine (HL.out _).mono ?_); rintro e w5 ⟨rfl, h5⟩)
    go_wp2_with fail
    go_ret
    exact ⟨rfl, (B.out.below h5).2⟩

set_option maxHeartbeats 2000000 in
set_option maxRecDepth 100000 in
theorem walk_yes (src dst s : ByteArray) (w : World) (hs : ¬ (20000 : Int) < (s.size : Int)) (h1 : ¬ (100 : Int) < (src.size : Int)) (h2 : ¬ (100 : Int) < (dst.size : Int)) :
    Calls Tryz.prog 3 #[.agg #[.string src, .string dst], .string s] w fun e w' => e = .returned (.bool true) ∧ Below w.heap.size w w' := by
  have HL := Lib.hid fun U => live9_c U
  have H1 := Lib.hid fun U => mdec_c src dst s U (by omega)
  have H2 := Lib.hid fun U => rdec9_c src dst s U (by omega)
  obtain ⟨d1, d2, d3⟩ := dec_short9 src dst s
  unfold MsgPost at H1 H2
  generalize decD src dst s = t at H1 H2 d1 d2 d3
  obtain ⟨E, m⟩ := t
  simp only at H1 H2 d1 d2 d3
  have HM := Lib.hid fun vs1 vr1 vs2 vr2 U h1 h2 h3 h4 => sameM_c m vs1 vr1 vs2 vr2 U (by omega) (by omega) (fun r hr => by have := d3 r hr; omega) h1 h2 h3 h4
  clear d1 d2 d3
  obtain ⟨k, ver, g, mx, qt, rob, ev, ss, rs⟩ := m
  simp only [Msg.val] at H1 H2 HM
  have B := Lib.hid (Box.start w #[.string src, .string dst] 24)
  go_enter Tryz.func3, Tryz.ntmps3
  go_wp2_with fail
  ((with_reducible refine (H1.out _).mono ?_); rintro e w1 ⟨vs1, vr1, rfl, hvs1, hvr1, k1⟩)
  obtain ⟨p1, c1, rfl⟩ := hvs1.slice
  obtain ⟨p2, c2, rfl⟩ := hvr1.slice
  have S1 := Lib.hid hvs1.at
  have R1 := Lib.hid hvr1.at
  replace B := Lib.hid (B.out.below k1)
  clear hvs1 hvr1 k1
  go_upto_region 4 with fail
  have A1 := (Below.refl w1.heap.size w1).alloc (Nat.le_refl _) (.cells #[.int .i64 k, .int .i64 ver, .string g, .int .i64 mx, .bool qt, .int .i64 rob, .int .i64 ev, .slice p1 ss.length c1, .slice p2 rs.length c2] 29)
  have n1 := heap_new w1 (.cells #[.int .i64 k, .int .i64 ver, .string g, .int .i64 mx, .bool qt, .int .i64 rob, .int .i64 ev, .slice p1 ss.length c1, .slice p2 rs.length c2] 29)
  replace B := Lib.hid (B.out.below A1)
  replace S1 := Lib.hid (S1.out.below A1)
  replace R1 := Lib.hid (R1.out.below A1)
  clear A1
  generalize w1.alloc (.cells #[.int .i64 k, .int .i64 ver, .string g, .int .i64 mx, .bool qt, .int .i64 rob, .int .i64 ev, .slice p1 ss.length c1, .slice p2 rs.length c2] 29) = W1 at B S1 R1 n1 ⊢
  generalize w1.heap.size = P1 at n1 ⊢
  have N1 := Lib.hid n1
  clear n1
  have x0 := B.out.cell 0 rfl
  have x1 := B.out.cell 1 rfl
  go_wp2_with fail
  ((with_reducible refine (H2.out _).mono ?_); rintro e w2 ⟨vs2, vr2, rfl, hvs2, hvr2, k2⟩)
  obtain ⟨p3, c3, rfl⟩ := hvs2.slice
  obtain ⟨p4, c4, rfl⟩ := hvr2.slice
  have S2 := Lib.hid hvs2.at
  have R2 := Lib.hid hvr2.at
  replace B := Lib.hid (B.out.below k2)
  replace S1 := Lib.hid (S1.out.below k2)
  replace R1 := Lib.hid (R1.out.below k2)
  replace N1 := Lib.hid (below_block k2 (lt_of_block N1.out) N1.out)
  clear hvs2 hvr2 k2 x0 x1
  go_upto_region 5 with fail
  have A2 := (Below.refl w2.heap.size w2).alloc (Nat.le_refl _) (.cells #[.int .i64 k, .int .i64 ver, .string g, .int .i64 mx, .bool qt, .int .i64 rob, .int .i64 ev, .slice p3 ss.length c3, .slice p4 rs.length c4] 29)
  have n2 := heap_new w2 (.cells #[.int .i64 k, .int .i64 ver, .string g, .int .i64 mx, .bool qt, .int .i64 rob, .int .i64 ev, .slice p3 ss.length c3, .slice p4 rs.length c4] 29)
  replace B := Lib.hid (B.out.below A2)
  replace S1 := Lib.hid (S1.out.below A2)
  replace R1 := Lib.hid (R1.out.below A2)
  replace S2 := Lib.hid (S2.out.below A2)
  replace R2 := Lib.hid (R2.out.below A2)
  replace N1 := Lib.hid (below_block A2 (lt_of_block N1.out) N1.out)
  clear A2
  generalize w2.alloc (.cells #[.int .i64 k, .int .i64 ver, .string g, .int .i64 mx, .bool qt, .int .i64 rob, .int .i64 ev, .slice p3 ss.length c3, .slice p4 rs.length c4] 29) = W2 at B S1 R1 S2 R2 N1 n2 ⊢
  generalize w2.heap.size = P2 at n2 ⊢
  have y0 : W2.cell? ⟨P1, 0, none⟩ = some _ := cell_of_block N1.out rfl
  have z0 : W2.cell? ⟨P2, 0, none⟩ = some _ := cell_of_block n2 rfl
  have y1 : W2.cell? ⟨P1, 1, none⟩ = some _ := cell_of_block N1.out rfl
  have z1 : W2.cell? ⟨P2, 1, none⟩ = some _ := cell_of_block n2 rfl
  have y2 : W2.cell? ⟨P1, 2, none⟩ = some _ := cell_of_block N1.out rfl
  have z2 : W2.cell? ⟨P2, 2, none⟩ = some _ := cell_of_block n2 rfl
  have y3 : W2.cell? ⟨P1, 3, none⟩ = some _ := cell_of_block N1.out rfl
  have z3 : W2.cell? ⟨P2, 3, none⟩ = some _ := cell_of_block n2 rfl
  have y4 : W2.cell? ⟨P1, 4, none⟩ = some _ := cell_of_block N1.out rfl
  have z4 : W2.cell? ⟨P2, 4, none⟩ = some _ := cell_of_block n2 rfl
  have y5 : W2.cell? ⟨P1, 5, none⟩ = some _ := cell_of_block N1.out rfl
  have z5 : W2.cell? ⟨P2, 5, none⟩ = some _ := cell_of_block n2 rfl
  have y6 : W2.cell? ⟨P1, 6, none⟩ = some _ := cell_of_block N1.out rfl
  have z6 : W2.cell? ⟨P2, 6, none⟩ = some _ := cell_of_block n2 rfl
  have y7 : W2.cell? ⟨P1, 7, none⟩ = some _ := cell_of_block N1.out rfl
  have z7 : W2.cell? ⟨P2, 7, none⟩ = some _ := cell_of_block n2 rfl
  have y8 : W2.cell? ⟨P1, 8, none⟩ = some _ := cell_of_block N1.out rfl
  have z8 : W2.cell? ⟨P2, 8, none⟩ = some _ := cell_of_block n2 rfl
  have HM1 := Lib.hid fun U (k' : Below W2.heap.size W2 U) => HM.out (.slice p1 ss.length c1) (.slice p2 rs.length c2) (.slice p3 ss.length c3) (.slice p4 rs.length c4) U (S1.out.below k') (R1.out.below k') (S2.out.below k') (R2.out.below k')
  have kr := Below.refl W2.heap.size W2
  clear n2
  go_wp2_with fail
  ((with_reducible refine (HM1.out _ kr).mono ?_); rintro e w3 ⟨rfl, k3⟩)
  replace B := Lib.hid (B.out.below k3)
  clear k3 y0 z0 y1 z1 y2 z2 y3 z3 y4 z4 y5 z5 y6 z6 y7 z7 y8 z8
  go_wp2_with fail
  ((with_reducible refine (HL.out _).mono ?_); rintro e w4 ⟨rfl, k4⟩)
  go_wp2_with fail
  go_ret
  exact ⟨rfl, (B.out.below k4).2⟩

theorem walk (a0_0 : ByteArray) (a0_1 : ByteArray) (a1 : ByteArray) (w : World) (za0_0 : a0_0.size ≤ 140737488351232) (za0_1 : a0_1.size ≤ 140737488351232) (za1 : a1.size ≤ 140737488351232) :
    Calls Tryz.prog 3 #[.agg #[.string a0_0, .string a0_1], .string a1] w fun e w' => e = .returned (.bool true) ∧ Below w.heap.size w w' := by
  by_cases h : (20000 : Int) < (a1.size : Int)
  · exact walk_live _ _ _ w (.inl h)
  · by_cases h1 : (100 : Int) < (a0_0.size : Int)
    · exact walk_live _ _ _ w (.inr ⟨h, .inl h1⟩)
    · by_cases h2 : (100 : Int) < (a0_1.size : Int)
      · exact walk_live _ _ _ w (.inr ⟨h, .inr ⟨h1, h2⟩⟩)
      · exact walk_yes _ _ _ w h h1 h2

theorem own : ownKnob Tryz.prog.godebug = none := by kernel_rfl
theorem laidOut : laidOutB Tryz.prog = true := by kernel_rfl

set_option maxHeartbeats 1000000 in
set_option maxRecDepth 100000 in
theorem lifted (os : Os) (started : os.Started) (H : Type) (enc : TypeId × Value → H) :
    ReturnsInHanded {} Tryz.checked os 3 .any (Rows.mldDecodesSpec.pre6 enc Tryz.prog Tryz.f3 Rows.mldDecodesRow.domain false) (Rows.mldDecodesSpec.post enc Tryz.prog Tryz.f3 false true false false) := by
  refine returnsInHanded_of_change_sized (C := Tryz.checked) own started (by kernel_rfl) Tryz.func3
    (ChangeSpec.witness6 (enc := enc) (C := Tryz.checked) false ⟨#[], #[.agg #[.string ByteArray.empty, .string ByteArray.empty], .string ByteArray.empty], []⟩ 8 (by kernel_rfl) (by kernel_rfl) (by kernel_rfl) (by kernel_rfl)) ?_
  intro W base args ds gs before hval0 hW hcnd hsz0 hholds
  have hval : ∀ (j : Nat) t v, Tryz.f3.params[j]? = some t → args[j]? = some v → Value.okWide Tryz.prog W .any base t v := hval0
  have hsz : (DataW.weightsEach Tryz.prog (Tryz.f3.params.toList ++ Rows.mldDecodesSpec.plain.varTypes Tryz.prog) (ds ++ gs)).all (· ≤ reachBytes) = true := hsz0
  have hW' := hW
  obtain ⟨p, q, hA0, hV, rfl, hfz, hnd⟩ := hW
  have hA : DataW.TrodAll enc Tryz.prog W 0 (fun _ => true) true Tryz.f3.params.toList args.toList ds p := hA0
  rw [Tryz.params3] at hA hval hsz
  obtain ⟨v0, vs0, d0, ds0, p0, q0, hargs, rfl, rfl, h0, r0⟩ := trodAll_cons hA
  obtain ⟨v1, vs1, d1, ds1, p1, q1, rfl, rfl, rfl, h1, r1⟩ := trodAll_cons r0
  obtain ⟨rfl, rfl, rfl⟩ := trodAll_nil r1
  obtain rfl : args = #[v0, v1] := by cases args; simp_all
  obtain ⟨rfl, rfl⟩ := trodVars_none hV
  have k0 := h0
  have lt0 : ∀ x ∈ p0, x.block < W.heap.size := by obtain ⟨m, hm⟩ := k0; exact DataW.trod_lt m _ _ _ hm
  have k1 := h1
  have lt1 : ∀ x ∈ p1, x.block < W.heap.size := by obtain ⟨m, hm⟩ := k1; exact DataW.trod_lt m _ _ _ hm
  obtain ⟨cs0, rfl, hz0⟩ := okWide_struct Tryz.underlying24 (hval 0 24 v0 rfl rfl)
  obtain ⟨l0⟩ := cs0
  obtain ⟨c0_0, c0_1, rfl⟩ := list2 l0 (hz0.trans (by kernel_rfl))
  obtain ⟨fu0, hf0⟩ := h0
  obtain ⟨xs0, m0, -, hx0, -, hn0, hg0⟩ := DataW.trod_struct Tryz.underlying24 hf0
  obtain ⟨y0_0, y0_1, rfl⟩ := list2 xs0 hn0
  simp only [Prod.mk.injEq] at hx0
  obtain ⟨rfl, rfl⟩ := hx0
  have g0_0 : DataW.trod enc Tryz.prog W 0 (fun _ => true) true m0 22 (List.take (Tryz.prog.cellsOf 22) (List.drop 0 [c0_0, c0_1])) = some y0_0 := hg0 0 _ rfl
  rw [show Tryz.prog.cellsOf 22 = 1 from by kernel_rfl] at g0_0
  replace g0_0 : DataW.trod enc Tryz.prog W 0 (fun _ => true) true m0 22 [c0_0] = some y0_0 := g0_0
  have g0_1 : DataW.trod enc Tryz.prog W 0 (fun _ => true) true m0 22 (List.take (Tryz.prog.cellsOf 22) (List.drop 1 [c0_0, c0_1])) = some y0_1 := hg0 1 _ rfl
  rw [show Tryz.prog.cellsOf 22 = 1 from by kernel_rfl] at g0_1
  replace g0_1 : DataW.trod enc Tryz.prog W 0 (fun _ => true) true m0 22 [c0_1] = some y0_1 := g0_1
  clear hg0
  obtain ⟨a0_0, e0_0, rfl, w0_0⟩ := DataW.trod_string Tryz.underlying22 g0_0
  simp at e0_0
  subst e0_0
  obtain ⟨a0_1, e0_1, rfl, w0_1⟩ := DataW.trod_string Tryz.underlying22 g0_1
  simp at e0_1
  subst e0_1
  obtain ⟨a1, rfl, rfl, rfl, w1⟩ := open_string Tryz.underlying9 (hval 1 9 v1 rfl rfl) h1
  have za0_0 : a0_0.size ≤ 140737488351232 := by
    have h := List.all_eq_true.1 hsz _ (DataW.weights_mem_each (j := 0) (t := 24) rfl rfl a0_0.data.toList.length (by simp [DataW.weights, DataW.weightsEach, Tryz.underlying24]))
    simpa [reachBytes] using of_decide_eq_true h
  have za0_1 : a0_1.size ≤ 140737488351232 := by
    have h := List.all_eq_true.1 hsz _ (DataW.weights_mem_each (j := 0) (t := 24) rfl rfl a0_1.data.toList.length (by simp [DataW.weights, DataW.weightsEach, Tryz.underlying24]))
    simpa [reachBytes] using of_decide_eq_true h
  have za1 : a1.size ≤ 140737488351232 := by
    have h := sized_string hsz (j := 1) (t := 9) rfl rfl
    simpa [reachBytes] using h
  clear hA0 hval0
  refine (walk a0_0 a0_1 a1 W za0_0 za0_1 za1).mono fun e W' ⟨he, bel⟩ => ?_
  subst he
  exact ⟨_, rfl, _, _, _, [], _, [], hW', trodAll_mk1 (shut_bool Tryz.underlying4 _), (trodAll_cons_mk (Below.trod laidOut (by kernel_rfl) (of_decide_eq_true (by kernel_rfl)) k0 bel lt0) (trodAll_cons_mk (Below.trod laidOut (by kernel_rfl) (of_decide_eq_true (by kernel_rfl)) k1 bel lt1) trodAll_mk0)), rfl, bel.frame _, fun h => by cases h⟩

theorem over : Rows.mldDecodesRow.holds Tryz.pinned (OpenSpec.ofChange Rows.mldDecodesSpec) :=
  OpenClaim.holds_of_wide 3 Tryz.f3 rfl rfl rfl rfl rfl rfl rfl ⟨rfl, rfl, rfl, rfl, rfl⟩ rfl rfl rfl rfl rfl (by kernel_rfl) Tryz.func3 (by kernel_rfl)
    (of_decide_eq_true (by kernel_rfl)) (by unfold Func.isWrapper; first | (rw [if_pos (by decide +kernel)]; kernel_rfl) | (rw [if_neg (by decide +kernel)]; exact ⟨rfl, rfl⟩))
    (fun os started H enc _ => lifted os started H enc)

/-- The statement. -/
theorem proved : Rows.MldDecodesSaid := over
#print axioms proved
end Go.Proofs.YtnfngmclomjimaaGreat.mldDecodesLaw
