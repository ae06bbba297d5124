/-
  Filters: change, Diff of two filters of one kind, Diff; the law's after. Contracts over the translated program.
-/
import Derived.Test.YthpafojeadbjlaaFlH
import Derived.Test.YthpafojeadbjlaaFlP
import Derived.Test.YthpafojeadbjlaaAppA
import Derived.StillTailTactics
import Derived.Deep.RegionHeld3
import Derived.Deep.Cut
namespace Go.Proofs.Ythpafojeadbjlaa
open Go.RowKit
set_option linter.unusedVariables false
set_option linter.unusedSimpArgs false

theorem infoR0 : (Try.prog.info? 57).map (fun i => (i.size, i.bytes)) = some (3, 48) := by kernel_rfl
theorem infoRz : (Try.prog.info? 57).map (fun i => i.zero) = some (some (.agg #[.int .i64 0, .string ⟨#[]⟩, .slice none 0 0])) := by kernel_rfl
theorem infoR : ∃ i, Try.prog.info? 57 = some i ∧ i.zero = some (.agg #[.int .i64 0, .string ⟨#[]⟩, .slice none 0 0]) ∧ i.size = 3 ∧ i.bytes = 48 := by
  have h := infoR0
  have h2 := infoRz
  cases hi : Try.prog.info? 57 with
  | none => rw [hi] at h; cases h
  | some i => rw [hi] at h h2; simp at h h2; exact ⟨i, rfl, h2, h.1, h.2⟩
theorem owned_ty {B : Nat} {w : World} {xs : List Value} {v : Value} {n : Nat} {e : TypeId} (hown : w.ownsRow B e 3 v n xs) (he : e ≠ 35) : ∀ g, v.ownBlock = some g → ∃ cs e' f, w.heap[g]? = some (.cells cs e' f) ∧ e' ≠ 35 := by
  intro g hg
  rcases hown.2 with ⟨hv, _⟩ | ⟨g', cap, cur, hv, _, hb, _⟩
  · rw [hv] at hg; simp [Value.ownBlock] at hg
  · rw [hv] at hg
    have : g' = g := by simpa [Value.ownBlock] using hg
    subst this
    exact ⟨_, _, _, hb, he⟩
theorem cells3a (w : World) (x y z : Value) (t : TypeId) : ∀ j u, [x, y, z][j]? = some u → (w.alloc (.cells #[x, y, z] t)).cell? ((⟨w.heap.size, 0, none⟩ : Addr).add j) = some u := by
  intro j u hj
  have e : (⟨w.heap.size, 0, none⟩ : Addr).add j = ⟨w.heap.size, j, none⟩ := by unfold Addr.add; split <;> simp_all
  rw [e]
  exact cell_of_block (heap_new _ _) (by simpa using hj)
theorem recs_of_owns0 {w : World} {base n : Nat} {v : Value} {xs : List Value} {L : List Rec} {e : TypeId} (h : w.ownsRow base e 3 v n xs) (hx : RowsOf 0 w xs L) : RecsAt w v L := by
  have hn : L.length = n := by have := h.1; have := hx.length; omega
  rcases h.2 with ⟨rfl, h0⟩ | ⟨g, cap, cur, rfl, hb, hg, -, -, -, -⟩
  · have : L = [] := List.eq_nil_of_length_eq_zero (by omega)
    subst this
    exact RecsG.nil _ _ w
  · subst hn
    refine ⟨_, cap, g, 0, rfl, fun _ => ⟨rfl, Nat.zero_le _⟩, fun j r hj => ?_⟩
    obtain ⟨h1, h2, vs, h3, h4⟩ := hx.at j r hj
    have e' : ∀ k, (⟨g, 0, none⟩ : Addr).add k = ⟨g, 0 + k, none⟩ := fun k => by unfold Addr.add; split <;> simp_all
    have c := h.cells (g := g) rfl
    refine ⟨?_, ?_, vs, ?_, h4.mono (Nat.zero_le _) (fun h => by cases h)⟩
    · rw [← e']; exact c _ _ h1
    · rw [Nat.add_assoc, ← e']; exact c _ _ h2
    · rw [Nat.add_assoc, ← e']; exact c _ _ h3
theorem fu_owns_slice {w : World} {base e size n : Nat} {v : Value} {xs : List Value} (h : w.ownsRow base e size v n xs) : ∃ p c, v = .slice p n c := by
  rcases h.2 with ⟨hv, h0⟩ | ⟨g, cap, cur, hv, _⟩
  · exact ⟨none, 0, by rw [hv, h0]⟩
  · exact ⟨_, _, hv⟩
theorem AC.mk {w : World} {p : Option Addr} {c : Nat} {l : List ByteArray} (h1 : l.length ≤ c) (h2 : AddrsAt w (.slice p l.length c) l) : AC w p c l := ⟨h1, h2⟩
theorem addr_ne_rec : (57 : TypeId) ≠ 35 := by decide
theorem AddrsG.tmp {w : World} {v : Value} {l : List ByteArray} (h : AddrsG 0 true w v l) (o : Obj) : AddrsG 0 true (w.alloc o) v l := h.below ((Below.refl _ w).alloc (Nat.le_refl _) _)

set_option maxHeartbeats 4000000 in
set_option maxRecDepth 100000 in
theorem change_c (gr : ByteArray) (va vb : Value) (A B : List ByteArray) (w : World) (ha : AddrsG 0 true w va A) (hb : AddrsG 0 true w vb B) :
    Calls Try.prog 61 #[.string gr, va, vb] w (DiPost (changeF gr A B) w) := by
  obtain ⟨i0, hi, hz0, hz1, hz2⟩ := infoR
  have HA := Lib.hid ha
  have HB := Lib.hid hb
  obtain ⟨pa, ca, rfl⟩ := ha.slice
  obtain ⟨pb, cb, rfl⟩ := hb.slice
  unfold DiPost
  have BK := Lib.hid (Below.refl w.heap.size w)
  obtain ⟨na, hna⟩ : ∃ n, n = A.length := ⟨_, rfl⟩
  obtain ⟨nb, hnb⟩ : ∃ n, n = B.length := ⟨_, rfl⟩
  rw [← hna] at HA ⊢
  rw [← hnb] at HB ⊢
  replace hna := Lib.hid hna
  replace hnb := Lib.hid hnb
  clear ha hb
  have O0 := Lib.hid (World.ownsRow_nil w w.heap.size 57 3)
  by_cases zA : 0 < na
  · have dA : decide ((0 : Int) < (na : Int)) = true := decide_eq_true (by omega)
    have kA : (0 : Int) < (na : Int) := by omega
    have eA := Lib.hid (show ¬ A = [] from fun e => by have := hna.out; rw [e] at this; simp at this; omega)
    clear zA
    by_cases zB : 0 < nb
    · have dB : decide ((0 : Int) < (nb : Int)) = true := decide_eq_true (by omega)
      have kB : (0 : Int) < (nb : Int) := by omega
      have eB := Lib.hid (show ¬ B = [] from fun e => by have := hnb.out; rw [e] at this; simp at this; omega)
      clear zB
      go_enter Try.func61, Try.ntmps61
      have OA1 := Lib.hid (O0.out.alloc (.cells #[.int .i64 5, .string gr, .slice pa na ca] 57))
      have CA1 := Lib.hid (cells3a w (.int .i64 5) (.string gr) (.slice pa na ca) 57)
      have oc1 := Lib.hid (show ∀ u ∈ [Value.int .i64 5, .string gr, .slice pa na ca], u.oneCell' = true from fun u hu => by simp at hu; rcases hu with rfl | rfl | rfl <;> rfl)
      have sz1 := Lib.hid (show w.heap.size ≤ (w.alloc (.cells #[.int .i64 5, .string gr, .slice pa na ca] 57)).heap.size by have := BK.out.size; first | (simp; done) | (simp; omega))
      have nA1 := Lib.hid (show 0 + 1 ≤ maxLen by unfold maxLen; omega)
      have nB1 := Lib.hid (show (0 + 1) * 48 ≤ 140737488355328 by omega)
      go_wp2_with (at_builtin; refine wpList_append_own _ rfl _ _ 50 rfl w.heap.size 57 i0 (.agg #[.int .i64 0, .string ⟨#[]⟩, .slice none 0 0]) 3 48 Try.underlying50 hi hz0 hz1 hz2 rfl (by decide) _ _ _ rfl OA1.out ⟨w.heap.size, 0, none⟩ 1 1 [.int .i64 5, .string gr, .slice pa na ca] rfl rfl CA1.out oc1.out nA1.out nB1.out sz1.out ?_)
      intro v1 w1 hown1 hg1 _
      obtain ⟨p1, c1, rfl⟩ := fu_owns_slice hown1
      have OT1 := owned_ty OA1.out addr_ne_rec
      replace BK := Lib.hid ((BK.out.alloc BK.out.size (.cells #[.int .i64 5, .string gr, .slice pa na ca] 57)).grown hg1 sz1.out (fun j hj => (OA1.out.lt j hj).1))
      replace HA := Lib.hid ((HA.out.tmp (.cells #[.int .i64 5, .string gr, .slice pa na ca] 57)).grown hg1 OT1)
      replace HB := Lib.hid ((HB.out.tmp (.cells #[.int .i64 5, .string gr, .slice pa na ca] 57)).grown hg1 OT1)
      have O1 := Lib.hid hown1
      clear hown1 hg1 OT1
      have OA2 := Lib.hid (O1.out.alloc (.cells #[.int .i64 6, .string gr, .slice pb nb cb] 57))
      have CA2 := Lib.hid (cells3a w1 (.int .i64 6) (.string gr) (.slice pb nb cb) 57)
      have oc2 := Lib.hid (show ∀ u ∈ [Value.int .i64 6, .string gr, .slice pb nb cb], u.oneCell' = true from fun u hu => by simp at hu; rcases hu with rfl | rfl | rfl <;> rfl)
      have sz2 := Lib.hid (show w.heap.size ≤ (w1.alloc (.cells #[.int .i64 6, .string gr, .slice pb nb cb] 57)).heap.size by have := BK.out.size; first | (simp; done) | (simp; omega))
      have nA2 := Lib.hid (show (0 + 1) + 1 ≤ maxLen by unfold maxLen; omega)
      have nB2 := Lib.hid (show ((0 + 1) + 1) * 48 ≤ 140737488355328 by omega)
      go_wp2_with (at_builtin; refine wpList_append_own _ rfl _ _ 50 rfl w.heap.size 57 i0 (.agg #[.int .i64 0, .string ⟨#[]⟩, .slice none 0 0]) 3 48 Try.underlying50 hi hz0 hz1 hz2 rfl (by decide) _ _ _ rfl OA2.out ⟨w1.heap.size, 0, none⟩ 1 1 [.int .i64 6, .string gr, .slice pb nb cb] rfl rfl CA2.out oc2.out nA2.out nB2.out sz2.out ?_)
      intro v2 w2 hown2 hg2 _
      obtain ⟨p2, c2, rfl⟩ := fu_owns_slice hown2
      have OT2 := owned_ty OA2.out addr_ne_rec
      replace BK := Lib.hid ((BK.out.alloc BK.out.size (.cells #[.int .i64 6, .string gr, .slice pb nb cb] 57)).grown hg2 sz2.out (fun j hj => (OA2.out.lt j hj).1))
      replace HA := Lib.hid ((HA.out.tmp (.cells #[.int .i64 6, .string gr, .slice pb nb cb] 57)).grown hg2 OT2)
      replace HB := Lib.hid ((HB.out.tmp (.cells #[.int .i64 6, .string gr, .slice pb nb cb] 57)).grown hg2 OT2)
      have RE := Lib.hid (show RecsAt w2 (.slice p2 (0 + 1 + 1) c2) (changeF gr A B) from by rw [show changeF gr A B = [⟨5, gr, A⟩, ⟨6, gr, B⟩] by unfold changeF; rw [if_neg eA.out, if_neg eB.out]; rfl]; exact recs_of_owns0 hown2 ⟨rfl, rfl, HA.out, rfl, rfl, HB.out, trivial⟩)
      clear hown2 hg2 OT2
      go_wp2_with fail
      go_ret
      exact ⟨_, rfl, RE.out, BK.out⟩
    · obtain rfl : nb = 0 := by have := hnb.out; omega
      have eB := Lib.hid (show B = [] from List.eq_nil_of_length_eq_zero hnb.out.symm)
      clear zB
      go_enter Try.func61, Try.ntmps61
      have OA1 := Lib.hid (O0.out.alloc (.cells #[.int .i64 5, .string gr, .slice pa na ca] 57))
      have CA1 := Lib.hid (cells3a w (.int .i64 5) (.string gr) (.slice pa na ca) 57)
      have oc1 := Lib.hid (show ∀ u ∈ [Value.int .i64 5, .string gr, .slice pa na ca], u.oneCell' = true from fun u hu => by simp at hu; rcases hu with rfl | rfl | rfl <;> rfl)
      have sz1 := Lib.hid (show w.heap.size ≤ (w.alloc (.cells #[.int .i64 5, .string gr, .slice pa na ca] 57)).heap.size by have := BK.out.size; first | (simp; done) | (simp; omega))
      have nA1 := Lib.hid (show 0 + 1 ≤ maxLen by unfold maxLen; omega)
      have nB1 := Lib.hid (show (0 + 1) * 48 ≤ 140737488355328 by omega)
      go_wp2_with (at_builtin; refine wpList_append_own _ rfl _ _ 50 rfl w.heap.size 57 i0 (.agg #[.int .i64 0, .string ⟨#[]⟩, .slice none 0 0]) 3 48 Try.underlying50 hi hz0 hz1 hz2 rfl (by decide) _ _ _ rfl OA1.out ⟨w.heap.size, 0, none⟩ 1 1 [.int .i64 5, .string gr, .slice pa na ca] rfl rfl CA1.out oc1.out nA1.out nB1.out sz1.out ?_)
      intro v1 w1 hown1 hg1 _
      obtain ⟨p1, c1, rfl⟩ := fu_owns_slice hown1
      have OT1 := owned_ty OA1.out addr_ne_rec
      replace BK := Lib.hid ((BK.out.alloc BK.out.size (.cells #[.int .i64 5, .string gr, .slice pa na ca] 57)).grown hg1 sz1.out (fun j hj => (OA1.out.lt j hj).1))
      replace HA := Lib.hid ((HA.out.tmp (.cells #[.int .i64 5, .string gr, .slice pa na ca] 57)).grown hg1 OT1)
      replace HB := Lib.hid ((HB.out.tmp (.cells #[.int .i64 5, .string gr, .slice pa na ca] 57)).grown hg1 OT1)
      have RE := Lib.hid (show RecsAt w1 (.slice p1 (0 + 1) c1) (changeF gr A B) from by rw [show changeF gr A B = [⟨5, gr, A⟩] by unfold changeF; rw [if_neg eA.out, if_pos eB.out]; rfl]; exact recs_of_owns0 hown1 ⟨rfl, rfl, HA.out, trivial⟩)
      clear hown1 hg1 OT1
      go_wp2_with fail
      go_ret
      exact ⟨_, rfl, RE.out, BK.out⟩
  · obtain rfl : na = 0 := by have := hna.out; omega
    have eA := Lib.hid (show A = [] from List.eq_nil_of_length_eq_zero hna.out.symm)
    clear zA
    by_cases zB : 0 < nb
    · have dB : decide ((0 : Int) < (nb : Int)) = true := decide_eq_true (by omega)
      have kB : (0 : Int) < (nb : Int) := by omega
      have eB := Lib.hid (show ¬ B = [] from fun e => by have := hnb.out; rw [e] at this; simp at this; omega)
      clear zB
      go_enter Try.func61, Try.ntmps61
      have OA1 := Lib.hid (O0.out.alloc (.cells #[.int .i64 6, .string gr, .slice pb nb cb] 57))
      have CA1 := Lib.hid (cells3a w (.int .i64 6) (.string gr) (.slice pb nb cb) 57)
      have oc1 := Lib.hid (show ∀ u ∈ [Value.int .i64 6, .string gr, .slice pb nb cb], u.oneCell' = true from fun u hu => by simp at hu; rcases hu with rfl | rfl | rfl <;> rfl)
      have sz1 := Lib.hid (show w.heap.size ≤ (w.alloc (.cells #[.int .i64 6, .string gr, .slice pb nb cb] 57)).heap.size by have := BK.out.size; first | (simp; done) | (simp; omega))
      have nA1 := Lib.hid (show 0 + 1 ≤ maxLen by unfold maxLen; omega)
      have nB1 := Lib.hid (show (0 + 1) * 48 ≤ 140737488355328 by omega)
      go_wp2_with (at_builtin; refine wpList_append_own _ rfl _ _ 50 rfl w.heap.size 57 i0 (.agg #[.int .i64 0, .string ⟨#[]⟩, .slice none 0 0]) 3 48 Try.underlying50 hi hz0 hz1 hz2 rfl (by decide) _ _ _ rfl OA1.out ⟨w.heap.size, 0, none⟩ 1 1 [.int .i64 6, .string gr, .slice pb nb cb] rfl rfl CA1.out oc1.out nA1.out nB1.out sz1.out ?_)
      intro v1 w1 hown1 hg1 _
      obtain ⟨p1, c1, rfl⟩ := fu_owns_slice hown1
      have OT1 := owned_ty OA1.out addr_ne_rec
      replace BK := Lib.hid ((BK.out.alloc BK.out.size (.cells #[.int .i64 6, .string gr, .slice pb nb cb] 57)).grown hg1 sz1.out (fun j hj => (OA1.out.lt j hj).1))
      replace HA := Lib.hid ((HA.out.tmp (.cells #[.int .i64 6, .string gr, .slice pb nb cb] 57)).grown hg1 OT1)
      replace HB := Lib.hid ((HB.out.tmp (.cells #[.int .i64 6, .string gr, .slice pb nb cb] 57)).grown hg1 OT1)
      have RE := Lib.hid (show RecsAt w1 (.slice p1 (0 + 1) c1) (changeF gr A B) from by rw [show changeF gr A B = [⟨6, gr, B⟩] by unfold changeF; rw [if_pos eA.out, if_neg eB.out]; rfl]; exact recs_of_owns0 hown1 ⟨rfl, rfl, HB.out, trivial⟩)
      clear hown1 hg1 OT1
      go_wp2_with fail
      go_ret
      exact ⟨_, rfl, RE.out, BK.out⟩
    · obtain rfl : nb = 0 := by have := hnb.out; omega
      have eB := Lib.hid (show B = [] from List.eq_nil_of_length_eq_zero hnb.out.symm)
      clear zB
      go_enter Try.func61, Try.ntmps61
      have RE := Lib.hid (show RecsAt w (.slice none 0 0) (changeF gr A B) from by rw [show changeF gr A B = [] by unfold changeF; rw [if_pos eA.out, if_pos eB.out]; rfl]; exact RecsG.nil _ _ _)
      go_wp2_with fail
      go_ret
      exact ⟨_, rfl, RE.out, BK.out⟩


set_option maxHeartbeats 8000000 in
set_option maxRecDepth 100000 in
theorem diff2_c (gr : ByteArray) (ge : Bool) (vf vg : Value) (lf lg : List ByteArray) (w : World) (hf : lf.length ≤ 1000000) (hg : lg.length ≤ 1000000) (haf : AddrsAt w vf lf) (hag : AddrsAt w vg lg) :
    Calls Try.prog 38 #[.string gr, .agg #[.bool ge, vf], .agg #[.bool ge, vg]] w (DiPost (if ge then changeF gr (lessF lf lg) (lessF lg lf) else changeF gr (lessF lg lf) (lessF lf lg)) w) := by
  have HAF := Lib.hid haf
  have HAG := Lib.hid hag
  obtain ⟨pf, cf, rfl⟩ := haf.slice
  obtain ⟨pg, cg, rfl⟩ := hag.slice
  have HRF := Lib.hid fun U (hU : Below w.heap.size w U) => rising_c _ lf U hf (HAF.out.below hU)
  have HRG := Lib.hid fun U (hU : Below w.heap.size w U) => rising_c _ lg U hg (HAG.out.below hU)
  have l1 := Nat.le_trans (ris_len lf) hf
  have l2 := Nat.le_trans (ris_len lg) hg
  have HW1 := Lib.hid fun (pa pb : Option Addr) (ca cb : Nat) (U : World) h1 h2 => without_c pa pb ca cb (ris lg) (ris lf) U l2 l1 h1 h2
  have HW2 := Lib.hid fun (pa pb : Option Addr) (ca cb : Nat) (U : World) h1 h2 => without_c pa pb ca cb (ris lf) (ris lg) U l1 l2 h1 h2
  rw [mgo_less] at HW1 HW2
  have HC := Lib.hid fun va vb U h1 h2 => if ge then change_c gr va vb (lessF lf lg) (lessF lg lf) U h1 h2 else change_c gr va vb (lessF lf lg) (lessF lg lf) U h1 h2
  clear HC
  have HC1 := Lib.hid fun va vb U h1 h2 => change_c gr va vb (lessF lf lg) (lessF lg lf) U h1 h2
  have HC2 := Lib.hid fun va vb U h1 h2 => change_c gr va vb (lessF lg lf) (lessF lf lg) U h1 h2
  generalize lessF lf lg = la at *
  generalize lessF lg lf = lb at *
  generalize ris lf = rf at *
  generalize ris lg = rg at *
  generalize changeF gr la lb = X1 at *
  generalize changeF gr lb la = X2 at *
  unfold LPost at HRF HRG
  unfold MPost at HW1 HW2
  unfold DiPost at HC1 HC2 ⊢
  generalize lf.length = nf at *
  generalize lg.length = ng at *
  clear haf hag hf hg HAF HAG l1 l2
  cases ge
  · simp only [Bool.not_false, Bool.not_true, if_true, Bool.false_eq_true, if_false]
    have B := Lib.hid (K2.start w #[.bool false, .slice pf nf cf] #[.bool false, .slice pg ng cg])
    go_enter Try.func38, Try.ntmps38
    go_wp2_with fail
    generalize (w.alloc (.cells #[.bool false, .slice pf nf cf] 28)).alloc (.cells #[.bool false, .slice pg ng cg] 28) = W at B ⊢
    have HRFb := Lib.hid (HRF.out _ B.out.bel.drew)
    have KF := Lib.hid fun (U : World) (k : K2 w U #[.bool false, .slice pf nf cf] #[.bool false, .slice pg ng cg]) => (⟨cell_of_block k.1 rfl, cell_of_block k.2.1 rfl⟩ : U.cell? ⟨w.heap.size, 1, none⟩ = some (.slice pf nf cf) ∧ U.cell? ⟨w.heap.size + 1, 1, none⟩ = some (.slice pg ng cg))
    have k0 := B.out
    obtain ⟨x0, x1⟩ := KF.out W k0
    clear HRF
    go_region_held3 (fun U => U.cell? ⟨w.heap.size, 1, none⟩ = some (.slice pf nf cf) ∧ U.cell? ⟨w.heap.size + 1, 1, none⟩ = some (.slice pg ng cg))
      (first
        | with_reducible exact KF.out _ k4
        | with_reducible exact KF.out _ k3
        | with_reducible exact KF.out _ k0
        | with_reducible exact KF.out _ k0.drew)
      (first
        | (go_at_call 48; (with_reducible refine HRFb.out.mono ?_); rintro e w3 ⟨v3, rfl, a3, h3, q3⟩; have k3 := (K2.below k0.drew h3); have A3 := Lib.hid a3; obtain ⟨p3, d3, rfl, m3⟩ := q3; have M3 := Lib.hid m3; have HRGb := Lib.hid (HRG.out _ k3.bel); clear a3 h3 m3)
        | (go_at_call 48; (with_reducible refine HRGb.out.mono ?_); rintro e w4 ⟨v4, rfl, a4, h4, q4⟩; have k4 := (K2.below k3 h4); have A34 := Lib.hid (A3.out.below h4); have A4 := Lib.hid a4; obtain ⟨p4, d4, rfl, m4⟩ := q4; have M4 := Lib.hid m4; clear a4 h4 m4))
    all_goals
      have K4 := Lib.hid k4
      have y0 := cell_of_block (j := 0) K4.out.1 rfl
      have y1 := cell_of_block (j := 0) K4.out.2.1 rfl
      clear x0 x1
      go_wp2_with fail
      ((with_reducible refine (HW1.out _ _ _ _ _ (AC.mk M4.out A4.out.at) (AC.mk M3.out A34.out.at)).mono ?_); rintro e w5 ⟨v5, rfl, a5, h5⟩)
      have K5 := Lib.hid (K4.out.below h5)
      have A45 := Lib.hid (A4.out.below h5)
      have A35 := Lib.hid (A34.out.below h5)
      have A5 := Lib.hid a5
      obtain ⟨p5, d5, rfl⟩ := a5.slice
      clear h5 a5 y0 y1
      go_wp2_with fail
      ((with_reducible refine (HW2.out _ _ _ _ _ (AC.mk M3.out A35.out.at) (AC.mk M4.out A45.out.at)).mono ?_); rintro e w6 ⟨v6, rfl, a6, h6⟩)
      have K6 := Lib.hid (K5.out.below h6)
      have A56 := Lib.hid ((A5.out.below h6).mono (B' := 0) (Nat.zero_le _) id)
      have A6 := Lib.hid (a6.mono (B' := 0) (Nat.zero_le _) id)
      obtain ⟨p6, d6, rfl⟩ := a6.slice
      clear h6 a6
      have y1 := cell_of_block (j := 0) K6.out.2.1 rfl
      go_wp2_with fail
      ((with_reducible refine (HC2.out _ _ _ A56.out A6.out).mono ?_); rintro e w7 ⟨v7, rfl, r7, h7⟩)
      have R7 := Lib.hid r7
      have K7 := Lib.hid (K6.out.below h7)
      obtain ⟨p7, d7, rfl⟩ := r7.slice
      clear r7 h7 y1
      go_wp2_with fail
      go_ret
      exact ⟨_, rfl, R7.out, K7.out.bel⟩
  · simp only [Bool.not_false, Bool.not_true, if_true, Bool.false_eq_true, if_false]
    have B := Lib.hid (K2.start w #[.bool true, .slice pf nf cf] #[.bool true, .slice pg ng cg])
    go_enter Try.func38, Try.ntmps38
    go_wp2_with fail
    generalize (w.alloc (.cells #[.bool true, .slice pf nf cf] 28)).alloc (.cells #[.bool true, .slice pg ng cg] 28) = W at B ⊢
    have HRFb := Lib.hid (HRF.out _ B.out.bel.drew)
    have KF := Lib.hid fun (U : World) (k : K2 w U #[.bool true, .slice pf nf cf] #[.bool true, .slice pg ng cg]) => (⟨cell_of_block k.1 rfl, cell_of_block k.2.1 rfl⟩ : U.cell? ⟨w.heap.size, 1, none⟩ = some (.slice pf nf cf) ∧ U.cell? ⟨w.heap.size + 1, 1, none⟩ = some (.slice pg ng cg))
    have k0 := B.out
    obtain ⟨x0, x1⟩ := KF.out W k0
    clear HRF
    go_region_held3 (fun U => U.cell? ⟨w.heap.size, 1, none⟩ = some (.slice pf nf cf) ∧ U.cell? ⟨w.heap.size + 1, 1, none⟩ = some (.slice pg ng cg))
      (first
        | with_reducible exact KF.out _ k4
        | with_reducible exact KF.out _ k3
        | with_reducible exact KF.out _ k0
        | with_reducible exact KF.out _ k0.drew)
      (first
        | (go_at_call 48; (with_reducible refine HRFb.out.mono ?_); rintro e w3 ⟨v3, rfl, a3, h3, q3⟩; have k3 := (K2.below k0.drew h3); have A3 := Lib.hid a3; obtain ⟨p3, d3, rfl, m3⟩ := q3; have M3 := Lib.hid m3; have HRGb := Lib.hid (HRG.out _ k3.bel); clear a3 h3 m3)
        | (go_at_call 48; (with_reducible refine HRGb.out.mono ?_); rintro e w4 ⟨v4, rfl, a4, h4, q4⟩; have k4 := (K2.below k3 h4); have A34 := Lib.hid (A3.out.below h4); have A4 := Lib.hid a4; obtain ⟨p4, d4, rfl, m4⟩ := q4; have M4 := Lib.hid m4; clear a4 h4 m4))
    all_goals
      have K4 := Lib.hid k4
      have y0 := cell_of_block (j := 0) K4.out.1 rfl
      have y1 := cell_of_block (j := 0) K4.out.2.1 rfl
      clear x0 x1
      go_wp2_with fail
      ((with_reducible refine (HW1.out _ _ _ _ _ (AC.mk M4.out A4.out.at) (AC.mk M3.out A34.out.at)).mono ?_); rintro e w5 ⟨v5, rfl, a5, h5⟩)
      have K5 := Lib.hid (K4.out.below h5)
      have A45 := Lib.hid (A4.out.below h5)
      have A35 := Lib.hid (A34.out.below h5)
      have A5 := Lib.hid a5
      obtain ⟨p5, d5, rfl⟩ := a5.slice
      clear h5 a5 y0 y1
      go_wp2_with fail
      ((with_reducible refine (HW2.out _ _ _ _ _ (AC.mk M3.out A35.out.at) (AC.mk M4.out A45.out.at)).mono ?_); rintro e w6 ⟨v6, rfl, a6, h6⟩)
      have K6 := Lib.hid (K5.out.below h6)
      have A56 := Lib.hid ((A5.out.below h6).mono (B' := 0) (Nat.zero_le _) id)
      have A6 := Lib.hid (a6.mono (B' := 0) (Nat.zero_le _) id)
      obtain ⟨p6, d6, rfl⟩ := a6.slice
      clear h6 a6
      have y1 := cell_of_block (j := 0) K6.out.2.1 rfl
      go_wp2_with fail
      ((with_reducible refine (HC1.out _ _ _ A6.out A56.out).mono ?_); rintro e w7 ⟨v7, rfl, r7, h7⟩)
      have R7 := Lib.hid r7
      have K7 := Lib.hid (K6.out.below h7)
      obtain ⟨p7, d7, rfl⟩ := r7.slice
      clear r7 h7 y1
      go_wp2_with fail
      go_ret
      exact ⟨_, rfl, R7.out, K7.out.bel⟩

/-- Diff, of every two filters. -/
theorem diff_c (gr : ByteArray) (fe ge : Bool) (vf vg : Value) (lf lg : List ByteArray) (w : World) (hf : lf.length ≤ 1000000) (hg : lg.length ≤ 1000000) (haf : AddrsAt w vf lf) (hag : AddrsAt w vg lg) :
    Calls Try.prog 38 #[.string gr, .agg #[.bool fe, vf], .agg #[.bool ge, vg]] w (DiPost (diffF gr ⟨fe, lf⟩ ⟨ge, lg⟩) w) := by
  by_cases h : fe = ge
  · subst h
    have e : diffF gr ⟨fe, lf⟩ ⟨fe, lg⟩ = if fe then changeF gr (lessF lf lg) (lessF lg lf) else changeF gr (lessF lg lf) (lessF lf lg) := by unfold diffF; rw [if_neg (by simp)]
    rw [e]
    exact diff2_c gr fe vf vg lf lg w hf hg haf hag
  · obtain rfl : fe = !ge := by revert h; cases fe <;> cases ge <;> simp
    have e : diffF gr ⟨!ge, lf⟩ ⟨ge, lg⟩ = [⟨if ge then 4 else 3, gr, ris lg⟩] := by unfold diffF; rw [if_pos (by cases ge <;> simp)]
    rw [e]
    exact diff1_c gr ge vf vg lf lg w hf hg haf hag

end Go.Proofs.Ythpafojeadbjlaa
