/-
  'Proxy.Tell'. A contract over the translated program.
  'proxy.whole', 'Proxy.All'. Contracts over the translated program.
  'Proxy.All'. A contract over the translated program.
  'Proxy.Forget'. A contract over the translated program.
-/
import Derived.Test.YthpafojeadbjlaaPxKE
import Derived.Test.YthpafojeadbjlaaFlU
import Derived.Lib.QuietBelow
import Derived.Test.YthpafojeadbjlaaPxGI
import Derived.Test.YthpafojeadbjlaaFlA
import Derived.Test.YthpafojeadbjlaaGrB
import Derived.Deep.AppendLies
import Derived.Deep.RegionLaw
import Derived.Deep.RegionHeld3
namespace Go.Proofs.Ythpafojeadbjlaa
open Go Go.Maps Go.WideMaps Go.RowKit
set_option linter.unusedVariables false
set_option linter.unusedSimpArgs false

variable {w w' : World} {p mb : Nat} {room : Int} {R : List Pr}

theorem px_call2 {W w w' : World} (h : Below W.heap.size W w) (k : Below w.heap.size w w') : Below W.heap.size W w' := h.trans (k.mono h.size)
theorem HasP.neB {b : Nat} {xs : Array Value} {t : TypeId} {f : Nat × Nat} (h : HasP w p mb room R) (hb : w.heap[b]? = some (.cells xs t f)) : b ≠ mb := by
  obtain ⟨l, _, es, clock, h2, _⟩ := h.map
  rintro rfl
  rw [hb] at h2
  cases h2
/-- What Tell leaves. -/
def TlPost (p mb : Nat) (room : Int) (R : List Pr) (v : Int) (g : ByteArray) (f : Fl) (w : World) (e : Ending) (w' : World) : Prop :=
  ∃ u r, e = .returned (.tuple #[r, .int .i64 (tellR room R v g f u).2.1]) ∧ RecsAt w' r (tellR room R v g f u).1 ∧ HasP w' p mb room (tellR room R v g f u).2.2 ∧ TwS (fun b => b = mb) w w'

theorem ptell_nil (v : Int) (g : ByteArray) (ex : Bool) (q : Option Addr) (n c : Nat) (w : World) : Calls Try.prog 19 #[.pointer none, .int .i64 v, .string g, .agg #[.bool ex, .slice q n c]] w fun e w' => e = .returned (.tuple #[.slice none 0 0, .int .i64 1]) ∧ Below w.heap.size w w' := by
  have K0 := Lib.hid (show Below w.heap.size w (w.alloc (.cells #[.bool ex, .slice q n c] 28)) from (Below.refl _ w).alloc (Nat.le_refl _) _)
  go_enter Try.func19, Try.ntmps19
  go_wp2_with fail
  go_ret2
  exact ⟨rfl, K0.out⟩

set_option maxHeartbeats 8000000 in
set_option maxRecDepth 100000 in
theorem ptell_no (h : HasP w p mb room R) (v : Int) (g : ByteArray) (hm : mayP v g = false) (ex : Bool) (vs : Value) (l : List ByteArray) (ha : AddrsAt w vs l) :
    Calls Try.prog 19 #[.pointer (some ⟨p, 0, none⟩), .int .i64 v, .string g, .agg #[.bool ex, vs]] w (TlPost p mb room R v g ⟨ex, l⟩ w) := by
  have E : tellR room R v g ⟨ex, l⟩ (.bool false) = ([], 1, R) := by unfold tellR; rw [if_pos hm]
  have HQ := Lib.hid (show ∀ U, Below w.heap.size w U → TlPost p mb room R v g ⟨ex, l⟩ w (.returned (.tuple #[.slice none 0 0, .int .i64 1])) U from fun U hU =>
    ⟨.bool false, .slice none 0 0, by rw [E], by rw [E]; exact RecsG.nil _ _ _, by rw [E]; exact h.below hU, TwS.ofBelow hU⟩)
  generalize TlPost p mb room R v g ⟨ex, l⟩ w = Q at HQ ⊢
  have MC := Lib.hid (fun U => pmay_c v g U)
  rw [hm] at MC
  obtain ⟨q, n, c, rfl⟩ := addrs_slice ha
  have K0 := Lib.hid (show Below w.heap.size w (w.alloc (.cells #[.bool ex, .slice q n c] 28)) from (Below.refl _ w).alloc (Nat.le_refl _) _)
  clear h E ha hm
  go_enter Try.func19, Try.ntmps19
  go_wp2_with fail
  ((with_reducible refine (MC.out _).mono ?_); rintro e w1 ⟨rfl, k1⟩)
  have HF := Lib.hid (HQ.out w1 (px_call2 K0.out k1))
  clear k1
  go_wp2_with fail
  exact HF.out

set_option maxHeartbeats 16000000 in
set_option maxRecDepth 100000 in
theorem ptell_ok (h : HasP w p mb room R) (hg : GoodR R room) (hr1 : 1 ≤ room) (hr : room ≤ 4096) (v : Int) (g : ByteArray) (hm : mayP v g = true) (ex : Bool) (vs : Value) (l : List ByteArray) (hl : l.length ≤ 1000) (hz : ∀ s ∈ l, s.size ≤ 140737488351232) (ha : AddrsAt w vs l) :
    Calls Try.prog 19 #[.pointer (some ⟨p, 0, none⟩), .int .i64 v, .string g, .agg #[.bool ex, vs]] w (TlPost p mb room R v g ⟨ex, l⟩ w) := by
  have hmm := hm
  unfold mayP at hmm
  simp only [Bool.and_eq_true, decide_eq_true_iff] at hmm
  have hk : WfK v g := wfk_of hmm.2.1 hmm.2.2 (grp_size hmm.1)
  have hkey := Lib.hid (keyE v g hk)
  have MC := Lib.hid (fun U => pmay_c v g U)
  rw [hm] at MC
  have HLK0 := fun (U : World) (k : HasP U p mb room R) => k.map.look law_ST und_MP (zero_MP U) hkey.out
  rw [has_mP hg.wf hk, get_mP hg.wf hk] at HLK0
  have HLK := Lib.hid HLK0
  have OLD : ∃ oq on oc, getV R v g = .agg #[.bool (oldR R v g).ex, .slice oq on oc] ∧ ∀ U, HasP U p mb room R → AddrsAt U (.slice oq on oc) (oldR R v g).src := by
    rcases hh : hasR R v g with _ | _
    · refine ⟨none, 0, 0, ?_, fun U _ => ?_⟩
      · unfold getV; rw [old_no hh, get_none hh]; rfl
      · rw [old_no hh]; exact AddrsG.nil _ _ _
    · obtain ⟨x, h1, h2, -, -⟩ := get_has hh
      have e : oldR R v g = x.f := by unfold oldR; rw [h1]; rfl
      obtain ⟨oq, on, oc, hv⟩ := addrs_slice (h.row x h2)
      refine ⟨oq, on, oc, ?_, fun U hU => ?_⟩
      · unfold getV; rw [e, h1, ← hv]; rfl
      · rw [e, ← hv]; exact hU.row x h2
  obtain ⟨oq, on, oc, hgv, hoa0⟩ := OLD
  have hoa := Lib.hid hoa0
  rw [hgv] at HLK
  have OLN := Lib.hid (old_len hg v g)
  obtain ⟨q, n, c, rfl⟩ := addrs_slice ha
  have hn : n = l.length := by obtain ⟨p2, cap, hv⟩ := ha.slice; simp only [Value.slice.injEq] at hv; exact hv.2.1
  have AN0 := fun U => (pany_c ex q n c (by omega) U).mono fun e w' (hx : e = .returned (.bool (ex || decide (0 < n))) ∧ w' = U.alloc (.cells #[.bool ex, .slice q n c] 28)) => (⟨hx.1, by rw [hx.2]; exact (Below.refl _ _).alloc (Nat.le_refl _) _⟩ : e = .returned (.bool (ex || decide (0 < n))) ∧ Below U.heap.size U w')
  have han : (ex || decide (0 < n)) = anyF ⟨ex, l⟩ := by unfold anyF; rw [hn]
  rw [han] at AN0
  have AN := Lib.hid AN0
  have KP := Lib.hid (fun U (k : HasP U p mb room R) (a : AddrsAt U (.slice q n c) l) => pkeep_c k hg hr v g hm ex _ l hl hz a)
  have DC0 := fun U (a1 : AddrsAt U (.slice oq on oc) (oldR R v g).src) (a2 : AddrsAt U (.slice q n c) l) => diff_c g (oldR R v g).ex ex _ _ (oldR R v g).src l U (by have := OLN.out; omega) (by omega) a1 a2
  unfold DiPost at DC0
  have DC := Lib.hid DC0
  have LN := Lib.hid fun U (k : HasP U p mb room R) => MV.Mp.len k.map und_MP 3
  rw [len_mP] at LN
  have HQF := Lib.hid (show hasR R v g = false → anyF ⟨ex, l⟩ = true → room ≤ R.length → ∀ U, HasP U p mb room R → TwS (fun b => b = mb) w U → TlPost p mb room R v g ⟨ex, l⟩ w (.returned (.tuple #[.slice none 0 0, .int .i64 5])) U from fun h1 h2 h3 U hU tU => by
    have E : tellR room R v g ⟨ex, l⟩ (.bool false) = ([], 5, R) := by unfold tellR; rw [if_neg (by rw [hm]; simp), if_pos ⟨h1, h2, h3⟩]
    exact ⟨.bool false, .slice none 0 0, by rw [E], by rw [E]; exact RecsG.nil _ _ _, by rw [E]; exact hU, tU⟩)
  have HQT := Lib.hid (show anyF ⟨ex, l⟩ = true → (hasR R v g = true ∨ (R.length : Int) < room) → ∀ U u r, RecsAt U r (diffF g ⟨(oldR R v g).ex, (oldR R v g).src⟩ ⟨ex, l⟩) → HasP U p mb room (putR R ⟨v, g, normF ⟨ex, l⟩, u⟩) → TwS (fun b => b = mb) w U → TlPost p mb room R v g ⟨ex, l⟩ w (.returned (.tuple #[r, .int .i64 0])) U from fun h2 h3 U u r hr hU tU => by
    have E : tellR room R v g ⟨ex, l⟩ u = (diffF g (oldR R v g) ⟨ex, l⟩, 0, putR R ⟨v, g, normF ⟨ex, l⟩, u⟩) := by
      unfold tellR
      rw [if_neg (by rw [hm]; simp), if_neg (by rintro ⟨h4, -, h5⟩; exact h3.elim (fun h3 => by rw [h3] at h4; cases h4) (fun h3 => by omega)), if_pos h2]
    exact ⟨u, r, by rw [E], by rw [E]; exact hr, by rw [E]; exact hU, tU⟩)
  have HQN := Lib.hid (show anyF ⟨ex, l⟩ = false → ∀ U r, RecsAt U r (diffF g ⟨(oldR R v g).ex, (oldR R v g).src⟩ ⟨ex, l⟩) → HasP U p mb room (delR R v g) → TwS (fun b => b = mb) w U → TlPost p mb room R v g ⟨ex, l⟩ w (.returned (.tuple #[r, .int .i64 0])) U from fun h2 U r hr hU tU => by
    have E : tellR room R v g ⟨ex, l⟩ (.bool false) = (diffF g (oldR R v g) ⟨ex, l⟩, 0, delR R v g) := by
      unfold tellR
      rw [if_neg (by rw [hm]; simp), if_neg (by rintro ⟨-, h4, -⟩; rw [h2] at h4; cases h4), if_neg (by rw [h2]; simp)]
    exact ⟨.bool false, r, by rw [E], by rw [E]; exact hr, by rw [E]; exact hU, tU⟩)
  have HDL := Lib.hid (show ∀ U qv, HasP U p mb room R → MV.Mp qv Try.prog 77 mb (MV.delT (mP R) (litE v g)) → U.mapTurned qv mb → HasP qv p mb room (delR R v g) from fun U qv h1 h3 h4 => by
    rw [del_mP hg.wf hk] at h3
    exact HasP.turn h1 h3 h4 (fun x hx => h1.row x (List.mem_filter.1 hx).1))
  have HH := Lib.hid h
  have HA := Lib.hid ha
  have hl9 : R.length ≤ 4096 := by have := hg.len; omega
  generalize TlPost p mb room R v g ⟨ex, l⟩ w = Q at HQF HQT HQN ⊢
  generalize anyF ⟨ex, l⟩ = an at AN HQF HQT HQN
  generalize hasR R v g = hs at HLK HQF HQT
  generalize oldR R v g = OF at HLK hoa OLN DC HQT HQN
  obtain ⟨oe, ol⟩ := OF
  simp only at HLK hoa OLN DC HQT HQN
  generalize diffF g ⟨oe, ol⟩ ⟨ex, l⟩ = D at DC HQT HQN
  obtain ⟨rn, hrn⟩ : ∃ rn, rn = R.length := ⟨_, rfl⟩
  rw [← hrn] at LN HQF HQT hl9
  clear h hg hm hmm hk HLK0 hgv hoa0 hl hz ha AN0 han DC0 hrn hn
  have K0 := Lib.hid (show Below w.heap.size w (w.alloc (.cells #[.bool ex, .slice q n c] 28)) from (Below.refl _ w).alloc (Nat.le_refl _) _)
  have FB := Lib.hid (heap_new w (.cells #[.bool ex, .slice q n c] 28))
  go_enter Try.func19, Try.ntmps19
  go_wp2_with fail
  ((with_reducible refine (MC.out _).mono ?_); rintro e w1 ⟨rfl, k1⟩)
  have K1 := Lib.hid (px_call2 K0.out k1)
  have FB1 := Lib.hid (below_block k1 (lt_of_block FB.out) FB.out)
  clear k1 K0 FB MC
  go_upto_region 4 with fail
  have PB := Lib.hid (heap_new w1 (.cells #[.int .i64 v, .string g] 77))
  have KA := (Below.refl w1.heap.size w1).alloc (Nat.le_refl _) (.cells #[.int .i64 v, .string g] 77)
  have K2 := Lib.hid (px_call2 K1.out KA)
  have FB2 := Lib.hid (below_block KA (lt_of_block FB1.out) FB1.out)
  clear KA K1 FB1
  generalize w1.alloc (.cells #[.int .i64 v, .string g] 77) = W at PB K2 FB2 ⊢
  generalize w1.heap.size = sb at PB ⊢
  obtain ⟨fb, hfb⟩ : ∃ fb, fb = w.heap.size := ⟨_, rfl⟩
  rw [← hfb] at FB2 ⊢
  clear hfb
  have HW := Lib.hid (HH.out.below K2.out)
  have KF := Lib.hid fun (U : World) (kz : Below W.heap.size W U) => (⟨(HW.out.below kz).c1, cell_of_block (j := 0) (below_block kz (lt_of_block PB.out) PB.out) rfl, cell_of_block (j := 1) (below_block kz (lt_of_block PB.out) PB.out) rfl, HLK.out U (HW.out.below kz), kz⟩ : U.cell? ⟨p, 1, none⟩ = some (.map (some mb)) ∧ U.cell? ⟨sb, 0, none⟩ = some (.int .i64 v) ∧ U.cell? ⟨sb, 1, none⟩ = some (.string g) ∧ (Instr.lookup 72 (.map (some mb)) (.agg #[.int .i64 v, .string g]) true).run Try.prog U = .ok (.tuple #[.agg #[.bool oe, .slice oq on oc], .bool hs]) U ∧ Below W.heap.size W U)
  have k0 := Below.refl W.heap.size W
  go_region_held3 (fun U => U.cell? ⟨p, 1, none⟩ = some (.map (some mb)) ∧ U.cell? ⟨sb, 0, none⟩ = some (.int .i64 v) ∧ U.cell? ⟨sb, 1, none⟩ = some (.string g) ∧ (Instr.lookup 72 (.map (some mb)) (.agg #[.int .i64 v, .string g]) true).run Try.prog U = .ok (.tuple #[.agg #[.bool oe, .slice oq on oc], .bool hs]) U ∧ Below W.heap.size W U)
    (first | with_reducible exact KF.out _ (k0.alloc k0.size _).drew | with_reducible exact KF.out _ (k0.drew.alloc k0.drew.size _) | with_reducible exact KF.out _ k0.drew)
    (fail)
  all_goals
    rename_i hx
    clear hx
    have KA := (k0.alloc k0.size (.cells #[.bool oe, .slice oq on oc] 28)).drew
    have H4 := Lib.hid (HW.out.below KA)
    have P4 := Lib.hid (below_block KA (lt_of_block PB.out) PB.out)
    have F4 := Lib.hid (below_block KA (lt_of_block FB2.out) FB2.out)
    have K4 := Lib.hid (px_call2 K2.out KA)
    have O4 := Lib.hid (show (W.alloc (.cells #[.bool oe, .slice oq on oc] 28)).drew.heap[W.heap.size]? = some (.cells #[.bool oe, .slice oq on oc] 28 (0, 0)) from heap_new W _)
    clear HW PB FB2 K2 KF KA k0
    generalize (W.alloc (.cells #[.bool oe, .slice oq on oc] 28)).drew = W4 at H4 P4 F4 K4 O4 ⊢
    generalize W.heap.size = ob at O4 ⊢
    cases hs with
    | true =>
      have xf0 := fun d os => cell_regrown (w := W4) (cell_of_block (j := 0) F4.out rfl) d os
      have xf1 := fun d os => cell_regrown (w := W4) (cell_of_block (j := 1) F4.out rfl) d os
      have xp0 := fun d os => cell_regrown (w := W4) H4.out.c0 d os
      have xp1 := fun d os => cell_regrown (w := W4) H4.out.c1 d os
      have xln := fun d os => LN.out _ (H4.out.below (below_regrown W4 d os))
      have CA := fun d os => Calls.regrown_of (AN.out (Go.Sort.grow (redrawn W4 d) os))
      go_upto_region 5 with fail
      refine wp_region_quiet_below (by kernel_rfl) (by kernel_rfl) ?_
      iterate 3 (with_reducible refine wpQuiet_step (fun K hK => ?_); go_simp; first | (with_reducible refine hK _ ?_; clear hK K) | (with_reducible apply Exists.intro; with_reducible refine ⟨fun _ => ?_, hK _ ?_⟩; (with_reducible exact CA _ _); clear hK K))
      iterate 2 (with_reducible refine Go.BigFrame.wpQuiet_skip (by kernel_rfl) ?_)
      iterate 2 (with_reducible refine wpQuiet_step (fun K hK => ?_); go_simp; first | (with_reducible refine hK _ ?_; clear hK K) | (with_reducible apply Exists.intro; with_reducible refine ⟨fun _ => ?_, hK _ ?_⟩; (with_reducible exact CA _ _); clear hK K))
      iterate 10 (with_reducible refine Go.BigFrame.wpQuiet_skip (by kernel_rfl) ?_)
      iterate 1 (with_reducible refine wpQuiet_step (fun K hK => ?_); go_simp; first | (with_reducible refine hK _ ?_; clear hK K) | (with_reducible apply Exists.intro; with_reducible refine ⟨fun _ => ?_, hK _ ?_⟩; (with_reducible exact CA _ _); clear hK K))
      with_reducible refine wpQuiet_nil ?_
      intro _ hw
      obtain ⟨⟨dq, osq⟩, hw2⟩ := hw
      subst hw2
      have G := below_regrown W4 dq osq
      clear xf0 xf1 xp0 xp1 xln CA
      generalize Go.Sort.grow (redrawn W4 dq) osq = W5 at G ⊢
      have H5 := Lib.hid (H4.out.below G)
      have P5 := Lib.hid (below_block G (lt_of_block P4.out) P4.out)
      have F5 := Lib.hid (below_block G (lt_of_block F4.out) F4.out)
      have O5 := Lib.hid (below_block G (lt_of_block O4.out) O4.out)
      have K5 := Lib.hid (px_call2 K4.out G)
      clear H4 P4 F4 O4 K4 G
      cases an with
      | true =>
        have yf0 : W5.cell? ⟨fb, 0, none⟩ = some (.bool ex) := cell_of_block F5.out rfl
        have yf1 : W5.cell? ⟨fb, 1, none⟩ = some (.slice q n c) := cell_of_block F5.out rfl
        go_wp2_with fail
        ((with_reducible refine (AN.out _).mono ?_); rintro e w6 ⟨rfl, k6⟩)
        have H6 := Lib.hid (H5.out.below k6)
        have P6 := Lib.hid (below_block k6 (lt_of_block P5.out) P5.out)
        have F6 := Lib.hid (below_block k6 (lt_of_block F5.out) F5.out)
        have O6 := Lib.hid (below_block k6 (lt_of_block O5.out) O5.out)
        have K6 := Lib.hid (px_call2 K5.out k6)
        clear H5 P5 F5 O5 K5 k6 yf0 yf1
        have yf0 : w6.cell? ⟨fb, 0, none⟩ = some (.bool ex) := cell_of_block F6.out rfl
        have yf1 : w6.cell? ⟨fb, 1, none⟩ = some (.slice q n c) := cell_of_block F6.out rfl
        have yp0 : w6.cell? ⟨sb, 0, none⟩ = some (.int .i64 v) := cell_of_block P6.out rfl
        have yp1 : w6.cell? ⟨sb, 1, none⟩ = some (.string g) := cell_of_block P6.out rfl
        go_wp2_with fail
        ((with_reducible refine (KP.out _ H6.out (HA.out.below K6.out)).mono ?_); rintro e w7 ⟨rfl, ⟨u, h7⟩, t7⟩)
        have H7 := Lib.hid h7
        have T7 := Lib.hid ((TwS.ofBelow (S := fun b => b = mb) K6.out).trans t7 (fun b _ h => h))
        have F7 := Lib.hid (t7.blk F6.out (H6.out.neB F6.out))
        have O7 := Lib.hid (t7.blk O6.out (H6.out.neB O6.out))
        have A7 := Lib.hid ((HA.out.below K6.out).tws t7 (fun b hb => by subst hb; exact H6.out.noStr))
        have B7 := Lib.hid ((hoa.out _ H6.out).tws t7 (fun b hb => by subst hb; exact H6.out.noStr))
        clear yf0 yf1 yp0 yp1 h7 t7 H6 P6 F6 O6 K6
        have yf0 : w7.cell? ⟨fb, 0, none⟩ = some (.bool ex) := cell_of_block F7.out rfl
        have yf1 : w7.cell? ⟨fb, 1, none⟩ = some (.slice q n c) := cell_of_block F7.out rfl
        have yo0 : w7.cell? ⟨ob, 0, none⟩ = some (.bool oe) := cell_of_block O7.out rfl
        have yo1 : w7.cell? ⟨ob, 1, none⟩ = some (.slice oq on oc) := cell_of_block O7.out rfl
        go_wp2_with fail
        ((with_reducible refine (DC.out _ B7.out A7.out).mono ?_); rintro e w8 ⟨r, rfl, r8, k8⟩)
        obtain ⟨rq, rc, rfl⟩ := r8.slice
        have HF := Lib.hid (HQT.out (by first | rfl | trivial) (by first | exact Or.inl rfl | exact Or.inl trivial | simp) _ u _ r8 (H7.out.below k8) (T7.out.trans (TwS.ofBelow k8) (fun b _ h => h)))
        clear r8 k8 yf0 yf1 yo0 yo1
        go_wp2_with fail
        exact HF.out
      | false =>
        have yf0 : W5.cell? ⟨fb, 0, none⟩ = some (.bool ex) := cell_of_block F5.out rfl
        have yf1 : W5.cell? ⟨fb, 1, none⟩ = some (.slice q n c) := cell_of_block F5.out rfl
        go_wp2_with fail
        ((with_reducible refine (AN.out _).mono ?_); rintro e w6 ⟨rfl, k6⟩)
        have H6 := Lib.hid (H5.out.below k6)
        have P6 := Lib.hid (below_block k6 (lt_of_block P5.out) P5.out)
        have F6 := Lib.hid (below_block k6 (lt_of_block F5.out) F5.out)
        have O6 := Lib.hid (below_block k6 (lt_of_block O5.out) O5.out)
        have K6 := Lib.hid (px_call2 K5.out k6)
        clear H5 P5 F5 O5 K5 k6 yf0 yf1
        have yf0 : w6.cell? ⟨fb, 0, none⟩ = some (.bool ex) := cell_of_block F6.out rfl
        have yf1 : w6.cell? ⟨fb, 1, none⟩ = some (.slice q n c) := cell_of_block F6.out rfl
        have yp0 : w6.cell? ⟨sb, 0, none⟩ = some (.int .i64 v) := cell_of_block P6.out rfl
        have yp1 : w6.cell? ⟨sb, 1, none⟩ = some (.string g) := cell_of_block P6.out rfl
        have ym1 := H6.out.c1
        go_upto_region 9 with fail
        go_still_tail 5, (by kernel_rfl)
        change wpList _ _ _ _ _ w6.drew
        have hmp := Lib.hid H6.out.drew.map
        clear yf0 yf1 yp0 yp1 ym1
        go_upto_region 10 with (first | (at_delete; refine MV.wpList_delete_mp _ rfl _ _ 72 77 rfl 28 law_ST und_MP mb (mP R) rfl hmp.out _ _ rfl hkey.out ?_; intro w7 hm7 ht7) | go_in)
        have t7 : TwS (fun b => b = mb) w6 w7 := (show TwS (fun b => b = mb) w6 w6.drew from (TwS.refl _ _).drew).trans (TwS.turned (S := fun b => b = mb) ht7 rfl) (fun b _ h => h)
        have H7 := Lib.hid (HDL.out _ _ H6.out.drew hm7 ht7)
        have T7 := Lib.hid ((TwS.ofBelow (S := fun b => b = mb) K6.out).trans t7 (fun b _ h => h))
        have F7 := Lib.hid (t7.blk F6.out (H6.out.neB F6.out))
        have O7 := Lib.hid (t7.blk O6.out (H6.out.neB O6.out))
        have A7 := Lib.hid ((HA.out.below K6.out).tws t7 (fun b hb => by subst hb; exact H6.out.noStr))
        have B7 := Lib.hid ((hoa.out _ H6.out).tws t7 (fun b hb => by subst hb; exact H6.out.noStr))
        clear hm7 ht7 t7 H6 P6 F6 O6 K6 hmp
        have yf0 : w7.cell? ⟨fb, 0, none⟩ = some (.bool ex) := cell_of_block F7.out rfl
        have yf1 : w7.cell? ⟨fb, 1, none⟩ = some (.slice q n c) := cell_of_block F7.out rfl
        have yo0 : w7.cell? ⟨ob, 0, none⟩ = some (.bool oe) := cell_of_block O7.out rfl
        have yo1 : w7.cell? ⟨ob, 1, none⟩ = some (.slice oq on oc) := cell_of_block O7.out rfl
        go_wp2_with fail
        ((with_reducible refine (DC.out _ B7.out A7.out).mono ?_); rintro e w8 ⟨r, rfl, r8, k8⟩)
        obtain ⟨rq, rc, rfl⟩ := r8.slice
        have HF := Lib.hid (HQN.out (by first | rfl | trivial) _ _ r8 (H7.out.below k8) (T7.out.trans (TwS.ofBelow k8) (fun b _ h => h)))
        clear r8 k8 yf0 yf1 yo0 yo1
        go_wp2_with fail
        exact HF.out
    | false =>
      cases an with
      | false =>
        have xf0 := fun d os => cell_regrown (w := W4) (cell_of_block (j := 0) F4.out rfl) d os
        have xf1 := fun d os => cell_regrown (w := W4) (cell_of_block (j := 1) F4.out rfl) d os
        have xp0 := fun d os => cell_regrown (w := W4) H4.out.c0 d os
        have xp1 := fun d os => cell_regrown (w := W4) H4.out.c1 d os
        have xln := fun d os => LN.out _ (H4.out.below (below_regrown W4 d os))
        have CA := fun d os => Calls.regrown_of (AN.out (Go.Sort.grow (redrawn W4 d) os))
        go_upto_region 5 with fail
        refine wp_region_quiet_below (by kernel_rfl) (by kernel_rfl) ?_
        iterate 7 (with_reducible refine wpQuiet_step (fun K hK => ?_); go_simp; first | (with_reducible refine hK _ ?_; clear hK K) | (with_reducible apply Exists.intro; with_reducible refine ⟨fun _ => ?_, hK _ ?_⟩; (with_reducible exact CA _ _); clear hK K))
        iterate 10 (with_reducible refine Go.BigFrame.wpQuiet_skip (by kernel_rfl) ?_)
        iterate 1 (with_reducible refine wpQuiet_step (fun K hK => ?_); go_simp; first | (with_reducible refine hK _ ?_; clear hK K) | (with_reducible apply Exists.intro; with_reducible refine ⟨fun _ => ?_, hK _ ?_⟩; (with_reducible exact CA _ _); clear hK K))
        with_reducible refine wpQuiet_nil ?_
        intro _ hw
        obtain ⟨⟨dq, osq⟩, hw2⟩ := hw
        subst hw2
        have G := below_regrown W4 dq osq
        clear xf0 xf1 xp0 xp1 xln CA
        generalize Go.Sort.grow (redrawn W4 dq) osq = W5 at G ⊢
        have H5 := Lib.hid (H4.out.below G)
        have P5 := Lib.hid (below_block G (lt_of_block P4.out) P4.out)
        have F5 := Lib.hid (below_block G (lt_of_block F4.out) F4.out)
        have O5 := Lib.hid (below_block G (lt_of_block O4.out) O4.out)
        have K5 := Lib.hid (px_call2 K4.out G)
        clear H4 P4 F4 O4 K4 G
        have yf0 : W5.cell? ⟨fb, 0, none⟩ = some (.bool ex) := cell_of_block F5.out rfl
        have yf1 : W5.cell? ⟨fb, 1, none⟩ = some (.slice q n c) := cell_of_block F5.out rfl
        go_wp2_with fail
        ((with_reducible refine (AN.out _).mono ?_); rintro e w6 ⟨rfl, k6⟩)
        have H6 := Lib.hid (H5.out.below k6)
        have P6 := Lib.hid (below_block k6 (lt_of_block P5.out) P5.out)
        have F6 := Lib.hid (below_block k6 (lt_of_block F5.out) F5.out)
        have O6 := Lib.hid (below_block k6 (lt_of_block O5.out) O5.out)
        have K6 := Lib.hid (px_call2 K5.out k6)
        clear H5 P5 F5 O5 K5 k6 yf0 yf1
        have yf0 : w6.cell? ⟨fb, 0, none⟩ = some (.bool ex) := cell_of_block F6.out rfl
        have yf1 : w6.cell? ⟨fb, 1, none⟩ = some (.slice q n c) := cell_of_block F6.out rfl
        have yp0 : w6.cell? ⟨sb, 0, none⟩ = some (.int .i64 v) := cell_of_block P6.out rfl
        have yp1 : w6.cell? ⟨sb, 1, none⟩ = some (.string g) := cell_of_block P6.out rfl
        have ym1 := H6.out.c1
        go_upto_region 9 with fail
        go_still_tail 5, (by kernel_rfl)
        change wpList _ _ _ _ _ w6.drew
        have hmp := Lib.hid H6.out.drew.map
        clear yf0 yf1 yp0 yp1 ym1
        go_upto_region 10 with (first | (at_delete; refine MV.wpList_delete_mp _ rfl _ _ 72 77 rfl 28 law_ST und_MP mb (mP R) rfl hmp.out _ _ rfl hkey.out ?_; intro w7 hm7 ht7) | go_in)
        have t7 : TwS (fun b => b = mb) w6 w7 := (show TwS (fun b => b = mb) w6 w6.drew from (TwS.refl _ _).drew).trans (TwS.turned (S := fun b => b = mb) ht7 rfl) (fun b _ h => h)
        have H7 := Lib.hid (HDL.out _ _ H6.out.drew hm7 ht7)
        have T7 := Lib.hid ((TwS.ofBelow (S := fun b => b = mb) K6.out).trans t7 (fun b _ h => h))
        have F7 := Lib.hid (t7.blk F6.out (H6.out.neB F6.out))
        have O7 := Lib.hid (t7.blk O6.out (H6.out.neB O6.out))
        have A7 := Lib.hid ((HA.out.below K6.out).tws t7 (fun b hb => by subst hb; exact H6.out.noStr))
        have B7 := Lib.hid ((hoa.out _ H6.out).tws t7 (fun b hb => by subst hb; exact H6.out.noStr))
        clear hm7 ht7 t7 H6 P6 F6 O6 K6 hmp
        have yf0 : w7.cell? ⟨fb, 0, none⟩ = some (.bool ex) := cell_of_block F7.out rfl
        have yf1 : w7.cell? ⟨fb, 1, none⟩ = some (.slice q n c) := cell_of_block F7.out rfl
        have yo0 : w7.cell? ⟨ob, 0, none⟩ = some (.bool oe) := cell_of_block O7.out rfl
        have yo1 : w7.cell? ⟨ob, 1, none⟩ = some (.slice oq on oc) := cell_of_block O7.out rfl
        go_wp2_with fail
        ((with_reducible refine (DC.out _ B7.out A7.out).mono ?_); rintro e w8 ⟨r, rfl, r8, k8⟩)
        obtain ⟨rq, rc, rfl⟩ := r8.slice
        have HF := Lib.hid (HQN.out (by first | rfl | trivial) _ _ r8 (H7.out.below k8) (T7.out.trans (TwS.ofBelow k8) (fun b _ h => h)))
        clear r8 k8 yf0 yf1 yo0 yo1
        go_wp2_with fail
        exact HF.out
      | true =>
        by_cases hfull : room ≤ (rn : Int)
        · have d1 : decide (room ≤ (rn : Int)) = true := decide_eq_true hfull
          have d2 : decide ((rn : Int) ≥ room) = true := decide_eq_true hfull
          have xf0 := fun d os => cell_regrown (w := W4) (cell_of_block (j := 0) F4.out rfl) d os
          have xf1 := fun d os => cell_regrown (w := W4) (cell_of_block (j := 1) F4.out rfl) d os
          have xp0 := fun d os => cell_regrown (w := W4) H4.out.c0 d os
          have xp1 := fun d os => cell_regrown (w := W4) H4.out.c1 d os
          have xln := fun d os => LN.out _ (H4.out.below (below_regrown W4 d os))
          have CA := fun d os => Calls.regrown_of (AN.out (Go.Sort.grow (redrawn W4 d) os))
          go_upto_region 5 with fail
          refine wp_region_quiet_below (by kernel_rfl) (by kernel_rfl) ?_
          iterate 18 (with_reducible refine wpQuiet_step (fun K hK => ?_); go_simp; first | (with_reducible refine hK _ ?_; clear hK K) | (with_reducible apply Exists.intro; with_reducible refine ⟨fun _ => ?_, hK _ ?_⟩; (with_reducible exact CA _ _); clear hK K))
          with_reducible refine wpQuiet_nil ?_
          intro _ hw
          obtain ⟨⟨dq, osq⟩, hw2⟩ := hw
          subst hw2
          have G := below_regrown W4 dq osq
          clear xf0 xf1 xp0 xp1 xln CA
          generalize Go.Sort.grow (redrawn W4 dq) osq = W5 at G ⊢
          have H5 := Lib.hid (H4.out.below G)
          have P5 := Lib.hid (below_block G (lt_of_block P4.out) P4.out)
          have F5 := Lib.hid (below_block G (lt_of_block F4.out) F4.out)
          have O5 := Lib.hid (below_block G (lt_of_block O4.out) O4.out)
          have K5 := Lib.hid (px_call2 K4.out G)
          clear H4 P4 F4 O4 K4 G
          have HF := Lib.hid (HQF.out (by first | rfl | trivial) (by first | rfl | trivial) (by omega) _ H5.out (TwS.ofBelow K5.out))
          clear H5 P5 F5 O5 K5
          go_wp2_with fail
          exact HF.out
        · have d1 : decide (room ≤ (rn : Int)) = false := decide_eq_false hfull
          have d2 : decide ((rn : Int) ≥ room) = false := decide_eq_false hfull
          have hlt : (rn : Int) < room := by omega
          have xf0 := fun d os => cell_regrown (w := W4) (cell_of_block (j := 0) F4.out rfl) d os
          have xf1 := fun d os => cell_regrown (w := W4) (cell_of_block (j := 1) F4.out rfl) d os
          have xp0 := fun d os => cell_regrown (w := W4) H4.out.c0 d os
          have xp1 := fun d os => cell_regrown (w := W4) H4.out.c1 d os
          have xln := fun d os => LN.out _ (H4.out.below (below_regrown W4 d os))
          have CA := fun d os => Calls.regrown_of (AN.out (Go.Sort.grow (redrawn W4 d) os))
          go_upto_region 5 with fail
          refine wp_region_quiet_below (by kernel_rfl) (by kernel_rfl) ?_
          iterate 18 (with_reducible refine wpQuiet_step (fun K hK => ?_); go_simp; first | (with_reducible refine hK _ ?_; clear hK K) | (with_reducible apply Exists.intro; with_reducible refine ⟨fun _ => ?_, hK _ ?_⟩; (with_reducible exact CA _ _); clear hK K))
          with_reducible refine wpQuiet_nil ?_
          intro _ hw
          obtain ⟨⟨dq, osq⟩, hw2⟩ := hw
          subst hw2
          have G := below_regrown W4 dq osq
          clear xf0 xf1 xp0 xp1 xln CA
          generalize Go.Sort.grow (redrawn W4 dq) osq = W5 at G ⊢
          have H5 := Lib.hid (H4.out.below G)
          have P5 := Lib.hid (below_block G (lt_of_block P4.out) P4.out)
          have F5 := Lib.hid (below_block G (lt_of_block F4.out) F4.out)
          have O5 := Lib.hid (below_block G (lt_of_block O4.out) O4.out)
          have K5 := Lib.hid (px_call2 K4.out G)
          clear H4 P4 F4 O4 K4 G
          have yf0 : W5.cell? ⟨fb, 0, none⟩ = some (.bool ex) := cell_of_block F5.out rfl
          have yf1 : W5.cell? ⟨fb, 1, none⟩ = some (.slice q n c) := cell_of_block F5.out rfl
          go_wp2_with fail
          ((with_reducible refine (AN.out _).mono ?_); rintro e w6 ⟨rfl, k6⟩)
          have H6 := Lib.hid (H5.out.below k6)
          have P6 := Lib.hid (below_block k6 (lt_of_block P5.out) P5.out)
          have F6 := Lib.hid (below_block k6 (lt_of_block F5.out) F5.out)
          have O6 := Lib.hid (below_block k6 (lt_of_block O5.out) O5.out)
          have K6 := Lib.hid (px_call2 K5.out k6)
          clear H5 P5 F5 O5 K5 k6 yf0 yf1
          have yf0 : w6.cell? ⟨fb, 0, none⟩ = some (.bool ex) := cell_of_block F6.out rfl
          have yf1 : w6.cell? ⟨fb, 1, none⟩ = some (.slice q n c) := cell_of_block F6.out rfl
          have yp0 : w6.cell? ⟨sb, 0, none⟩ = some (.int .i64 v) := cell_of_block P6.out rfl
          have yp1 : w6.cell? ⟨sb, 1, none⟩ = some (.string g) := cell_of_block P6.out rfl
          go_wp2_with fail
          ((with_reducible refine (KP.out _ H6.out (HA.out.below K6.out)).mono ?_); rintro e w7 ⟨rfl, ⟨u, h7⟩, t7⟩)
          have H7 := Lib.hid h7
          have T7 := Lib.hid ((TwS.ofBelow (S := fun b => b = mb) K6.out).trans t7 (fun b _ h => h))
          have F7 := Lib.hid (t7.blk F6.out (H6.out.neB F6.out))
          have O7 := Lib.hid (t7.blk O6.out (H6.out.neB O6.out))
          have A7 := Lib.hid ((HA.out.below K6.out).tws t7 (fun b hb => by subst hb; exact H6.out.noStr))
          have B7 := Lib.hid ((hoa.out _ H6.out).tws t7 (fun b hb => by subst hb; exact H6.out.noStr))
          clear yf0 yf1 yp0 yp1 h7 t7 H6 P6 F6 O6 K6
          have yf0 : w7.cell? ⟨fb, 0, none⟩ = some (.bool ex) := cell_of_block F7.out rfl
          have yf1 : w7.cell? ⟨fb, 1, none⟩ = some (.slice q n c) := cell_of_block F7.out rfl
          have yo0 : w7.cell? ⟨ob, 0, none⟩ = some (.bool oe) := cell_of_block O7.out rfl
          have yo1 : w7.cell? ⟨ob, 1, none⟩ = some (.slice oq on oc) := cell_of_block O7.out rfl
          go_wp2_with fail
          ((with_reducible refine (DC.out _ B7.out A7.out).mono ?_); rintro e w8 ⟨r, rfl, r8, k8⟩)
          obtain ⟨rq, rc, rfl⟩ := r8.slice
          have HF := Lib.hid (HQT.out (by first | rfl | trivial) (by first | exact Or.inr hlt | exact hlt) _ u _ r8 (H7.out.below k8) (T7.out.trans (TwS.ofBelow k8) (fun b _ h => h)))
          clear r8 k8 yf0 yf1 yo0 yo1
          go_wp2_with fail
          exact HF.out

/-- Tell, whatever it is told. -/
theorem ptell_c (h : HasP w p mb room R) (hg : GoodR R room) (hr1 : 1 ≤ room) (hr : room ≤ 4096) (v : Int) (g : ByteArray) (ex : Bool) (vs : Value) (l : List ByteArray) (hl : l.length ≤ 1000) (hz : ∀ s ∈ l, s.size ≤ 140737488351232) (ha : AddrsAt w vs l) :
    Calls Try.prog 19 #[.pointer (some ⟨p, 0, none⟩), .int .i64 v, .string g, .agg #[.bool ex, vs]] w (TlPost p mb room R v g ⟨ex, l⟩ w) := by
  rcases hm : mayP v g with _ | _
  · exact ptell_no h v g hm ex vs l ha
  · exact ptell_ok h hg hr1 hr v g hm ex vs l hl hz ha

theorem pj_call {W w w' : World} (h : Below W.heap.size W w) (k : Below w.heap.size w w') : Below W.heap.size W w' := h.trans (k.mono h.size)
theorem get_mem : ∀ {R : List Pr}, UpR R → ∀ {x : Pr}, x ∈ R → getR R x.vl x.gr = some x
  | [], _, x, hx => by cases hx
  | y :: r, h, x, hx => by
    obtain ⟨h1, h2⟩ := List.pairwise_cons.1 h
    unfold getR
    rw [List.find?_cons]
    rcases List.mem_cons.1 hx with e | e
    · subst e
      rw [(sameK_iff x x.vl x.gr).2 ⟨rfl, rfl⟩]
    · have hne : sameK y x.vl x.gr = false := by
        rcases hs : sameK y x.vl x.gr with _ | _
        · rfl
        · obtain ⟨e1, e2⟩ := (sameK_iff _ _ _).1 hs
          have := h1 x e
          rw [e1, e2, ltK_irrefl] at this
          cases this
      rw [hne]
      exact get_mem h2 e

theorem OwnS.at {B : Nat} {v : Value} {l : List ByteArray} (h : OwnS B w v l) : AddrsAt w v l := by
  obtain ⟨p, cap, rfl, h⟩ := h
  rcases h with rfl | ⟨g, cur, rfl, hg, hb, h1, h2, h3, h4⟩
  · exact ⟨p, cap, 0, 0, rfl, fun h => absurd rfl h, fun j s hj => by simp at hj⟩
  · refine ⟨_, cap, g, 0, rfl, fun _ => ⟨rfl, Nat.zero_le _, fun h => by cases h⟩, fun j s hj => ?_⟩
    rw [Nat.zero_add]
    refine cell_of_block hb ?_
    have hjl := (List.getElem?_eq_some_iff.1 hj).1
    have e : (cur.toList.take l.length)[j]? = some (Value.string s) := by rw [h4, List.getElem?_map, hj]; rfl
    rw [List.getElem?_take_of_lt hjl, Array.getElem?_toList] at e
    exact e
theorem OwnS.below {B : Nat} {v : Value} {l : List ByteArray} (h : OwnS B w v l) (k : Below w.heap.size w w') : OwnS B w' v l := by
  obtain ⟨p, cap, hv, h⟩ := h
  refine ⟨p, cap, hv, ?_⟩
  rcases h with h | ⟨g, cur, hp, hg, hb, hr⟩
  · exact Or.inl h
  · exact Or.inr ⟨g, cur, hp, hg, below_block k (lt_of_block hb) hb, hr⟩
theorem OwnS.mono {B B' : Nat} {v : Value} {l : List ByteArray} (h : OwnS B w v l) (k : B' ≤ B) : OwnS B' w v l := by
  obtain ⟨p, cap, hv, h⟩ := h
  refine ⟨p, cap, hv, ?_⟩
  rcases h with h | ⟨g, cur, hp, hg, hb, hr⟩
  · exact Or.inl h
  · exact Or.inr ⟨g, cur, hp, Nat.le_trans k hg, hb, hr⟩
/-- Other blocks turn. -/
theorem OwnS.blocks {B : Nat} {v : Value} {l : List ByteArray} (h : OwnS B w v l) (k : ∀ g cs, B ≤ g → w.heap[g]? = some (.cells cs 35 (0, 0)) → w'.heap[g]? = w.heap[g]?) : OwnS B w' v l := by
  obtain ⟨p, cap, hv, h⟩ := h
  refine ⟨p, cap, hv, ?_⟩
  rcases h with h | ⟨g, cur, hp, hg, hb, hr⟩
  · exact Or.inl h
  · exact Or.inr ⟨g, cur, hp, hg, (k g cur hg hb).trans hb, hr⟩
theorem OwnS.grown {B : Nat} {v : Value} {l : List ByteArray} {row : Option Nat} (h : OwnS B w v l) (k : w.grownBy w' row) (hr : ∀ g, row = some g → ∃ cs e f, w.heap[g]? = some (.cells cs e f) ∧ e ≠ 35) : OwnS B w' v l :=
  h.blocks fun g cs hg hb => k.block g (lt_of_block hb) (fun e => by
    obtain ⟨cs', e', f', h1, h2⟩ := hr g e.symm
    rw [hb] at h1
    cases h1
    exact h2 rfl)

set_option maxHeartbeats 8000000 in
set_option maxRecDepth 100000 in
theorem whole_c (g : ByteArray) (ex : Bool) (v : Value) (l : List ByteArray) (w : World) (hl : l.length ≤ 1000) (ha : AddrsAt w v l) :
    Calls Try.prog 45 #[.string g, .agg #[.bool ex, v]] w fun e w' => ∃ u, e = .returned (.agg #[.int .i64 (if ex then 2 else 1), .string g, u]) ∧ OwnS w.heap.size w' u l ∧ Below w.heap.size w w' := by
  obtain ⟨q, n, c, rfl⟩ := addrs_slice ha
  have K0 := Lib.hid (show Below w.heap.size w ((w.alloc (.cells #[.bool ex, .slice q n c] 28)).alloc (.cells #[.int .i64 0, .string ⟨#[]⟩, .slice none 0 0] 57)) from ((Below.refl _ w).alloc (Nat.le_refl _) _).alloc (by simp) _)
  have FB := Lib.hid (heap_old (p := .cells #[.int .i64 0, .string ⟨#[]⟩, .slice none 0 0] 57) (heap_new w (.cells #[.bool ex, .slice q n c] 28)))
  have RB := Lib.hid (show ((w.alloc (.cells #[.bool ex, .slice q n c] 28)).alloc (.cells #[.int .i64 0, .string ⟨#[]⟩, .slice none 0 0] 57)).heap[w.heap.size + 1]? = some (.cells #[.int .i64 0, .string ⟨#[]⟩, .slice none 0 0] 57 (0, 0)) from by simpa using heap_new (w.alloc (.cells #[.bool ex, .slice q n c] 28)) (.cells #[.int .i64 0, .string ⟨#[]⟩, .slice none 0 0] 57))
  have CC := Lib.hid (fun U (k : Below w.heap.size w U) => clone_c (.slice q n c) l U (by omega) (ha.below k))
  unfold ClPost at CC
  clear ha
  cases ex <;>
    (go_enter Try.func45, Try.ntmps45
     go_upto_region 1 with fail
     generalize (w.alloc (.cells #[.bool _, .slice q n c] 28)).alloc (.cells #[.int .i64 0, .string ⟨#[]⟩, .slice none 0 0] 57) = W at K0 FB RB ⊢
     have y0 := cell_of_block (j := 0) FB.out rfl
     have y1 := cell_of_block (j := 1) FB.out rfl
     go_wp2_with fail
     ((with_reducible refine (CC.out _ K0.out).mono ?_); rintro e w1 ⟨u, rfl, o1, k1⟩)
     obtain ⟨up, uc, rfl⟩ := o1.slice
     have O1 := Lib.hid o1
     have RB1 := Lib.hid (below_block k1 (lt_of_block RB.out) RB.out)
     have K1 := Lib.hid (pj_call K0.out k1)
     have hW := Lib.hid (lt_of_block RB.out)
     clear o1 k1 y0 y1 FB K0 CC
     have z0 := cell_of_block (j := 0) RB1.out rfl
     have z1 := cell_of_block (j := 1) RB1.out rfl
     have z2 := cell_of_block (j := 2) RB1.out rfl
     have fr := (fun j : Nat => free_of_block (j := j) RB1.out)
     go_wp2_with fail
     refine bodyPost_ret (v := .agg #[.int .i64 _, .string g, .slice up l.length uc]) (by simp [results, Try.results45, go_sem, z0, z1, z2]) rfl ⟨_, rfl, ?_, ?_⟩
     · refine (O1.out.mono (B' := w.heap.size) (by have := K1.out.size; have := hW.out; omega)).blocks fun b cs hb hc => ?_
       have hne : b ≠ w.heap.size + 1 := by
         rintro rfl
         have h9 := hc.symm.trans RB1.out
         simp at h9
       exact ((heap_store_other (heap_store_other (heap_store_other hc hne) hne) hne)).trans hc.symm
     · exact ((K1.out.setCell (p := ⟨w.heap.size + 1, 0, none⟩) (by show _ ≤ w.heap.size + 1; omega) _).setCell (p := ⟨w.heap.size + 1, 1, none⟩) (by show _ ≤ w.heap.size + 1; omega) _).setCell (p := ⟨w.heap.size + 1, 2, none⟩) (by show _ ≤ w.heap.size + 1; omega) _)

/-- Records with the values of their lists. -/
abbrev Rv := Rec × Value
def cellsRv (t : Rv) : List Value := [.int .i64 t.1.kind, .string t.1.group, t.2]
def rowRv (T : List Rv) : List Value := T.flatMap cellsRv
theorem rowRv_snoc (T : List Rv) (t : Rv) : rowRv (T ++ [t]) = rowRv T ++ cellsRv t := by
  unfold rowRv
  rw [List.flatMap_append]
  simp
theorem info_Rc : (Try.prog.info? 57).map (fun i => (i.zero, i.size, i.bytes)) = some (some (.agg #[.int .i64 0, .string ⟨#[]⟩, .slice none 0 0]), 3, 48) := by kernel_rfl
/-- RECORDS OF ONE'S OWN, in memory made since B. -/
def RecsO (B : Nat) (w : World) (v : Value) (L : List Rec) : Prop :=
  ∃ T : List Rv, T.map (·.1) = L ∧ w.ownsRow B 57 3 v T.length (rowRv T) ∧ ∀ t ∈ T, OwnS B w t.2 t.1.srcs
theorem rowRv_get : ∀ (T : List Rv) (i c : Nat) (t : Rv), T[i]? = some t → c < 3 → (rowRv T)[i * 3 + c]? = (cellsRv t)[c]?
  | [], i, c, t, h, _ => by simp at h
  | x :: r, 0, c, t, h, hc => by
    simp at h
    subst h
    show (cellsRv x ++ rowRv r)[0 * 3 + c]? = _
    rw [List.getElem?_append_left (by show _ < 3; omega)]
    simp
  | x :: r, i + 1, c, t, h, hc => by
    show (cellsRv x ++ rowRv r)[(i + 1) * 3 + c]? = _
    rw [List.getElem?_append_right (by show 3 ≤ _; omega)]
    have e : (i + 1) * 3 + c - (cellsRv x).length = i * 3 + c := by show _ - 3 = _; omega
    rw [e]
    exact rowRv_get r i c t (by simpa using h) hc
theorem RecsO.recs {B : Nat} {v : Value} {L : List Rec} (h : RecsO B w v L) : RecsAt w v L := by
  obtain ⟨T, rfl, hO, hS⟩ := h
  rcases hO.2 with ⟨rfl, h0⟩ | ⟨g, cap, cur, rfl, hb, hg, h1, h2, h3, h4⟩
  · have : T = [] := List.eq_nil_of_length_eq_zero h0
    subst this
    exact RecsG.nil _ _ _
  · refine ⟨_, cap, g, 0, by rw [List.length_map], fun _ => ⟨rfl, Nat.zero_le _⟩, fun j r hj => ?_⟩
    rw [List.getElem?_map] at hj
    obtain ⟨t, ht, rfl⟩ := Option.map_eq_some_iff.1 hj
    have hjl := (List.getElem?_eq_some_iff.1 ht).1
    have cell : ∀ c u, c < 3 → (cellsRv t)[c]? = some u → w.cell? ⟨g, 0 + j * 3 + c, none⟩ = some u := by
      intro c u hc hu
      refine cell_of_block hg ?_
      have e := rowRv_get T j c t ht hc
      rw [hu] at e
      rw [← Array.getElem?_toList, ← e, ← h4, List.getElem?_take_of_lt (by omega), Nat.zero_add]
    exact ⟨by simpa using cell 0 _ (by omega) rfl, cell 1 _ (by omega) rfl, t.2, cell 2 _ (by omega) rfl, (hS t (List.mem_of_getElem? ht)).at⟩
theorem PkAt.slice {base : Nat} {v : Value} {D : List Pk} (h : PkAt w base v D) : ∃ q c, v = .slice q D.length c := by
  rcases h with ⟨rfl, rfl⟩ | ⟨g, cap, rfl, _⟩
  · exact ⟨none, 0, rfl⟩
  · exact ⟨_, cap, rfl⟩
theorem of_get {R : List Pr} {v : Int} {k : Nat} {e : Pk} (h : ((ofR R v).map pkR)[k]? = some e) : ∃ x, (ofR R v)[k]? = some x ∧ e = (x.vl, x.gr) ∧ x ∈ R ∧ x.vl = v := by
  rw [List.getElem?_map] at h
  obtain ⟨x, hx, rfl⟩ := Option.map_eq_some_iff.1 h
  have h1 := List.mem_filter.1 (List.mem_of_getElem? hx)
  exact ⟨x, hx, rfl, h1.1, by simpa using h1.2⟩
theorem rec_take {R : List Pr} {v : Int} {k : Nat} {x : Pr} (h : (ofR R v)[k]? = some x) : ((ofR R v).map recR).take (k + 1) = ((ofR R v).map recR).take k ++ [recR x] := by
  rw [List.take_succ_eq_append_getElem (by rw [List.length_map]; exact (List.getElem?_eq_some_iff.1 h).1)]
  congr 2
  rw [List.getElem_map]
  rw [(List.getElem?_eq_some_iff.1 h).2]

theorem pall_nil (v : Int) (w : World) : Calls Try.prog 24 #[.pointer none, .int .i64 v] w fun e w' => e = .returned (.slice none 0 0) ∧ w' = w := by
  have N := Lib.hid (fun U => pof_nil v U)
  go_enter Try.func24, Try.ntmps24
  go_wp2_with fail
  ((with_reducible refine (N.out _).mono ?_); rintro e w1 ⟨rfl, rfl⟩)
  go_wp2_with fail
  go_loopw [5, 7, 12] (fun s _ i wr => s = .slice none 0 0 ∧ i = .int .i64 0 ∧ Hid (wr = w1)) (fun _ _ _ _ => 0)
  case atStart => exact ⟨rfl, rfl, Lib.hid rfl⟩
  case round =>
    obtain ⟨rfl, rfl, hw⟩ := hrel
    go_wp2
    go_ret
    exact ⟨rfl, hw.out⟩

theorem cellsB {w : World} {b : Nat} {xs : List Value} {t : TypeId} {f : Nat × Nat} (h : w.heap[b]? = some (.cells xs.toArray t f)) : ∀ j u, xs[j]? = some u → w.cell? ((⟨b, 0, none⟩ : Addr).add j) = some u := by
  intro j u hj
  have e : (⟨b, 0, none⟩ : Addr).add j = ⟨b, j, none⟩ := by unfold Addr.add; split <;> simp_all
  rw [e]
  exact cell_of_block h (by simpa using hj)

theorem own_type {w : World} {base e size n : Nat} {v : Value} {xs : List Value} (h : w.ownsRow base e size v n xs) {d : TypeId} (hd : e ≠ d) : ∀ g, v.ownBlock = some g → ∃ cs e' f, w.heap[g]? = some (.cells cs e' f) ∧ e' ≠ d := by
  intro g hg
  rcases h.2 with ⟨rfl, h0⟩ | ⟨b, cap, cur, rfl, hb, hh, h1, h2, h3, h4⟩
  · simp [Value.ownBlock] at hg
  · simp [Value.ownBlock] at hg
    subst hg
    exact ⟨cur, e, _, hh, hd⟩

theorem own_lower {w : World} {B B' e size n : Nat} {v : Value} {xs : List Value} (h : w.ownsRow B e size v n xs) (k : B' ≤ B) : w.ownsRow B' e size v n xs := by
  refine ⟨h.1, ?_⟩
  rcases h.2 with h | ⟨g, cap, cur, hv, hb, hr⟩
  · exact Or.inl h
  · exact Or.inr ⟨g, cap, cur, hv, Nat.le_trans k hb, hr⟩

set_option maxHeartbeats 8000000 in
set_option maxRecDepth 100000 in
theorem pall_c (h : HasP w p mb room R) (hg : GoodR R room) (hr : room ≤ 4096) (v : Int) :
    Calls Try.prog 24 #[.pointer (some ⟨p, 0, none⟩), .int .i64 v] w fun e w' => ∃ u, e = .returned u ∧ RecsO w.heap.size w' u ((ofR R v).map recR) ∧ Below w.heap.size w w' := by
  have H := Lib.hid h
  have OC := Lib.hid (pof_c h hg hr v)
  have UP := Lib.hid hg.up
  have WF := Lib.hid hg.wf
  have LK := Lib.hid (fun (U : World) (kU : HasP U p mb room R) (x : Pr) (hx : x ∈ R) => show (Instr.lookup 72 (.map (some mb)) (.agg #[.int .i64 x.vl, .string x.gr]) false).run Try.prog U = .ok (.agg #[.bool x.f.ex, x.v]) U from by
    have := kU.map.look1 law_ST und_MP (zero_MP U) (keyE x.vl x.gr (WF.out x hx))
    rw [get_mP WF.out (WF.out x hx)] at this
    unfold getV at this
    rw [get_mem UP.out hx] at this
    exact this)
  have LL := Lib.hid (show (ofR R v).length ≤ 4096 by have := List.length_filter_le (fun x : Pr => decide (x.vl = v)) R; have := hg.len; unfold ofR; omega)
  have LS := Lib.hid (fun (x : Pr) (hx : x ∈ R) => (hg.ok x hx).2.2.2.2.2)
  obtain ⟨i0, hi, hz0, hz1, hz2⟩ := info_parts info_Rc
  clear h hg hr
  go_enter Try.func24, Try.ntmps24
  go_wp2_with fail
  ((with_reducible refine OC.out.mono ?_); rintro e w1 ⟨u, rfl, hu, k1⟩)
  obtain ⟨uq, uc, rfl⟩ := hu.slice
  have HU := Lib.hid hu
  have K1 := Lib.hid k1
  have hln : ((ofR R v).map pkR).length = (ofR R v).length := by rw [List.length_map]
  obtain ⟨n, hn⟩ : ∃ n, n = ((ofR R v).map pkR).length := ⟨_, rfl⟩
  have HN := Lib.hid (hn.trans hln)
  have HN2 := Lib.hid hn
  rw [← hn]
  clear hu k1 OC hn hln
  go_wp2_with fail
  go_loopw [5, 7, 12] (fun s _ i wr => ∃ (k : Nat) (T : List Rv) (po : Option Addr) (co : Nat), k ≤ n ∧ i = .int .i64 k ∧ s = .slice po T.length co ∧ Hid (T.map (·.1) = ((ofR R v).map recR).take k) ∧ Hid (wr.ownsRow w1.heap.size 57 3 (.slice po T.length co) T.length (rowRv T)) ∧ Hid (∀ t ∈ T, OwnS w1.heap.size wr t.2 t.1.srcs) ∧ Hid (Below w1.heap.size w1 wr)) (fun _ _ i _ => n - (intOf i).toNat)
  case atStart => exact ⟨0, [], none, 0, Nat.zero_le _, rfl, rfl, Lib.hid rfl, Lib.hid (World.ownsRow_nil _ _ _ _), Lib.hid (fun t ht => by cases ht), Lib.hid (Below.refl _ _)⟩
  case round =>
    obtain ⟨k, T, po, co, hk, rfl, rfl, hT, hO, hS, hB⟩ := hrel
    have hnb : n ≤ 4096 := by rw [HN.out]; exact LL.out
    by_cases hlt : k < n
    · obtain ⟨e, he⟩ : ∃ e, ((ofR R v).map pkR)[k]? = some e := ⟨_, List.getElem?_eq_getElem (by rw [← HN2.out]; exact hlt)⟩
      obtain ⟨x, hx, rfl, hxR, hxv⟩ := of_get he
      have HTK := Lib.hid (rec_take hx)
      rcases HU.out with ⟨-, h0⟩ | ⟨g, cap, hv, hg0, hg1, hgc⟩
      · rw [h0] at he; simp at he
      simp only [Value.slice.injEq] at hv
      obtain ⟨rfl, -, rfl⟩ := hv
      have hgx := hgc k _ he
      have x0 : wr.cell? ⟨g, k * 2, none⟩ = some (.int .i64 x.vl) := cell_below hB.out hgx.1
      have x1 : wr.cell? ⟨g, k * 2 + 1, none⟩ = some (.string x.gr) := cell_below hB.out hgx.2
      have Hx := Lib.hid hxR
      have TL := Lib.hid (show T.length = k from by have h9 := congrArg List.length hT.out; rw [List.length_map, List.length_take, List.length_map, ← HN.out] at h9; omega)
      have d1 : decide (k < n) = true := decide_eq_true hlt
      have d2 : decide ((k : Int) < (n : Int)) = true := decide_eq_true (by omega)
      have d4 : decide (0 ≤ (k : Int)) = true := decide_eq_true (by omega)
      clear he hx hxR hxv hgx hgc
      go_upto_region 5 with fail
      have PB := heap_new wr (.cells #[.int .i64 x.vl, .string x.gr] 77)
      have KA := (Below.refl wr.heap.size wr).alloc (Nat.le_refl _) (.cells #[.int .i64 x.vl, .string x.gr] 77)
      have kk := (hB.out.trans (KA.mono hB.out.size)).drew
      have hO1 := owns_below hO.out KA
      have hS1 := fun t ht => (hS.out t ht).below KA
      clear x0 x1 KA
      have WC := Lib.hid (fun U (k : Below w1.heap.size w1 U) => (whole_c x.gr x.f.ex x.v x.f.src U (LS.out x Hx.out) (((H.out.below K1.out).below k).row x Hx.out)).mono fun e w' hh => (by
        obtain ⟨u, h1, h2, h3⟩ := hh
        exact ⟨u, h1, h2.mono k.size, h3⟩ : ∃ u, e = .returned (.agg #[.int .i64 (if x.f.ex then 2 else 1), .string x.gr, u]) ∧ OwnS w1.heap.size w' u x.f.src ∧ Below U.heap.size U w'))
      have LK1 := fun U (k : Below w1.heap.size w1 U) => LK.out U ((H.out.below K1.out).below k) x Hx.out
      have HTK' : ((ofR R v).map recR).take (k + 1) = ((ofR R v).map recR).take k ++ [(⟨if x.f.ex then 2 else 1, x.gr, x.f.src⟩ : Rec)] := HTK.out
      obtain ⟨ki, hki⟩ : ∃ ki : Int, ki = if x.f.ex then 2 else 1 := ⟨_, rfl⟩
      rw [← hki] at WC HTK'
      clear HTK hki
      have HTK := Lib.hid HTK'
      clear HTK' Hx
      generalize x.f.ex = fx at WC LK1
      generalize x.v = fv at WC LK1
      generalize x.f.src = fs at WC HTK
      generalize x.gr = gr at WC LK1 HTK PB kk hO1 hS1 ⊢
      generalize x.vl = vl at WC LK1 PB kk hO1 hS1 ⊢
      have oc := Lib.hid (fun (a : Int) (g : ByteArray) (u : Value) (hu : u.oneCell' = true) => show ∀ z ∈ [Value.int .i64 a, .string g, u], z.oneCell' = true from fun z hz => by simp at hz; rcases hz with rfl | rfl | rfl <;> first | rfl | exact hu)
      have n1 := Lib.hid (show T.length + 1 ≤ maxLen by unfold maxLen; have := TL.out; omega)
      have n2 := Lib.hid (show (T.length + 1) * 48 ≤ 140737488355328 by have := TL.out; omega)
      have KF := Lib.hid (fun (U : World) (k : Below w1.heap.size w1 U) (hb : U.heap[wr.heap.size]? = some (.cells #[.int .i64 vl, .string gr] 77 (0, 0))) => (⟨cell_of_block hb rfl, cell_of_block hb rfl, ((H.out.below K1.out).below k).c1, LK1 U k⟩ : U.cell? ⟨wr.heap.size, 0, none⟩ = some (.int .i64 vl) ∧ U.cell? ⟨wr.heap.size, 1, none⟩ = some (.string gr) ∧ U.cell? ⟨p, 1, none⟩ = some (.map (some mb)) ∧ (Instr.lookup 72 (.map (some mb)) (.agg #[.int .i64 vl, .string gr]) false).run Try.prog U = .ok (.agg #[.bool fx, fv]) U))
      clear LK1
      have hO : (wr.alloc (.cells #[.int .i64 vl, .string gr] 77)).drew.ownsRow w1.heap.size 57 3 (.slice po T.length co) T.length (rowRv T) := hO1
      have hS := fun t ht => (hS1 t ht).blocks (w' := (wr.alloc (.cells #[.int .i64 vl, .string gr] 77)).drew) (fun _ _ _ _ => rfl)
      replace PB : (wr.alloc (.cells #[.int .i64 vl, .string gr] 77)).drew.heap[wr.heap.size]? = some (.cells #[.int .i64 vl, .string gr] 77 (0, 0)) := PB
      clear hO1 hS1 hB
      refine wp_region_held_drew (S := fun U => U.cell? ⟨wr.heap.size, 0, none⟩ = some (.int .i64 vl) ∧ U.cell? ⟨wr.heap.size, 1, none⟩ = some (.string gr) ∧ U.cell? ⟨p, 1, none⟩ = some (.map (some mb)) ∧ (Instr.lookup 72 (.map (some mb)) (.agg #[.int .i64 vl, .string gr]) false).run Try.prog U = .ok (.agg #[.bool fx, fv]) U) (by kernel_rfl) (KF.out _ kk PB) (fun hH => ?_)
      generalize (wr.alloc (.cells #[.int .i64 vl, .string gr] 77)).drew = Y0 at PB kk hO hS hH ⊢
      generalize wr.heap.size = pb at PB KF hH ⊢
      refine wpAnyH_take (i := 0) (oi := { dst := some 16, op := Op.move (Operand.tmp 5), type := 50, pos := "proxy.go:81", after := #[], guard := none }) (v := .slice po T.length co) rfl (by kernel_rfl) (by kernel_rfl) (by kernel_rfl) (fun _ _ _ h => h) (Or.inl ⟨by kernel_rfl, ?_⟩) hH ?_
      · intro w hSw; (try dsimp only at hSw); go_simp; (try rfl)
      try simp only [Act.put, List.setIfInBounds_toArray, List.set_cons_zero, List.set_cons_succ]
      refine wpAnyH_take (i := 1) (oi := { dst := some 17, op := Op.fieldAddr 77 (Operand.tmp 7) 1, type := 0, pos := "proxy.go:81", after := #[], guard := none }) (v := .pointer (some ⟨pb, 1, none⟩)) rfl (by kernel_rfl) (by kernel_rfl) (by kernel_rfl) (fun _ _ _ h => h) (Or.inl ⟨by kernel_rfl, ?_⟩) hH ?_
      · intro w hSw; (try dsimp only at hSw); go_simp; (try rfl)
      try simp only [Act.put, List.setIfInBounds_toArray, List.set_cons_zero, List.set_cons_succ]
      refine wpAnyH_take (i := 2) (oi := { dst := some 18, op := Op.load 35 (Operand.tmp 17), type := 35, pos := "proxy.go:81", after := #[{ on := 1, ground := Ground.data }], guard := none }) (v := .string gr) rfl (by kernel_rfl) (by kernel_rfl) (by kernel_rfl) (fun _ _ _ h => h) (Or.inl ⟨by kernel_rfl, ?_⟩) hH ?_
      · intro w hSw; (try dsimp only at hSw); go_simp; (try rfl)
      try simp only [Act.put, List.setIfInBounds_toArray, List.set_cons_zero, List.set_cons_succ]
      refine wpAnyH_take (i := 3) (oi := { dst := some 19, op := Op.move (Operand.tmp 0), type := 40, pos := "proxy.go:81", after := #[], guard := none }) (v := .pointer (some ⟨p, 0, none⟩)) rfl (by kernel_rfl) (by kernel_rfl) (by kernel_rfl) (fun _ _ _ h => h) (Or.inl ⟨by kernel_rfl, ?_⟩) hH ?_
      · intro w hSw; (try dsimp only at hSw); go_simp; (try rfl)
      try simp only [Act.put, List.setIfInBounds_toArray, List.set_cons_zero, List.set_cons_succ]
      refine wpAnyH_take (i := 4) (oi := { dst := some 20, op := Op.nilCheck (Operand.tmp 19), type := 0, pos := "proxy.go:81", after := #[{ on := 3, ground := Ground.data }], guard := none }) (v := .pointer (some ⟨p, 0, none⟩)) rfl (by kernel_rfl) (by kernel_rfl) (by kernel_rfl) (fun _ _ _ h => h) (Or.inl ⟨by kernel_rfl, ?_⟩) hH ?_
      · intro w hSw; (try dsimp only at hSw); go_simp; (try rfl)
      try simp only [Act.put, List.setIfInBounds_toArray, List.set_cons_zero, List.set_cons_succ]
      refine wpAnyH_take (i := 5) (oi := { dst := some 21, op := Op.fieldAddr 74 (Operand.tmp 20) 1, type := 0, pos := "proxy.go:81", after := #[{ on := 4, ground := Ground.data }], guard := none }) (v := .pointer (some ⟨p, 1, none⟩)) rfl (by kernel_rfl) (by kernel_rfl) (by kernel_rfl) (fun _ _ _ h => h) (Or.inl ⟨by kernel_rfl, ?_⟩) hH ?_
      · intro w hSw; (try dsimp only at hSw); go_simp; (try rfl)
      try simp only [Act.put, List.setIfInBounds_toArray, List.set_cons_zero, List.set_cons_succ]
      refine wpAnyH_take (i := 6) (oi := { dst := some 22, op := Op.load 72 (Operand.tmp 21), type := 72, pos := "proxy.go:81", after := #[{ on := 5, ground := Ground.data }], guard := none }) (v := .map (some mb)) rfl (by kernel_rfl) (by kernel_rfl) (by kernel_rfl) (fun _ _ _ h => h) (Or.inl ⟨by kernel_rfl, ?_⟩) hH ?_
      · intro w hSw; (try dsimp only at hSw); go_simp; (try rfl)
      try simp only [Act.put, List.setIfInBounds_toArray, List.set_cons_zero, List.set_cons_succ]
      refine wpAnyH_take (i := 7) (oi := { dst := some 23, op := Op.load 77 (Operand.tmp 7), type := 77, pos := "proxy.go:81", after := #[], guard := none }) (v := .agg #[.int .i64 vl, .string gr]) rfl (by kernel_rfl) (by kernel_rfl) (by kernel_rfl) (fun _ _ _ h => h) (Or.inl ⟨by kernel_rfl, ?_⟩) hH ?_
      · intro w hSw; (try dsimp only at hSw); go_simp; (try rfl)
      try simp only [Act.put, List.setIfInBounds_toArray, List.set_cons_zero, List.set_cons_succ]
      refine wpAnyH_take (i := 8) (oi := { dst := some 24, op := Op.lookup 72 (Operand.tmp 22) (Operand.tmp 23) false, type := 28, pos := "proxy.go:81", after := #[{ on := 6, ground := Ground.data }, { on := 7, ground := Ground.data }], guard := none }) (v := .agg #[.bool fx, fv]) rfl (by kernel_rfl) (by kernel_rfl) (by kernel_rfl) (fun _ _ _ h => h) (Or.inl ⟨by kernel_rfl, ?_⟩) hH ?_
      · intro w hSw; (try dsimp only at hSw); go_simp; (try rfl)
      try simp only [Act.put, List.setIfInBounds_toArray, List.set_cons_zero, List.set_cons_succ]
      refine wpAnyH_ready (rs := [9]) (by kernel_rfl) (by simp) ?_
      refine AllReadyH.cons rfl (fun K hK => ?_) AllReadyH.nil
      go_simp
      with_reducible refine (WC.out _ kk).mono ?_
      rintro e Y1 ⟨ru, rfl, ow, hb⟩
      (try go_wp2_with fail)
      replace PB := below_block hb (lt_of_block PB) PB
      replace hO := owns_below hO hb
      replace hS := fun t ht => (hS t ht).below hb
      replace kk := kk.trans (hb.mono kk.size)
      clear hb
      obtain ⟨rq, rc, rfl⟩ := ow.slice
      refine hK.out _ _ (KF.out _ kk PB) (fun hH => ?_)
      clear hK K
      try simp only [Act.put, List.setIfInBounds_toArray, List.set_cons_zero, List.set_cons_succ]
      refine wpAnyH_ready (rs := [10]) (by kernel_rfl) (by simp) ?_
      refine AllReadyH.cons rfl (fun K hK => ?_) AllReadyH.nil
      go_simp
      have geab := kk.size
      have neabPB : Y1.heap.size ≠ pb := (Nat.ne_of_lt (lt_of_block PB)).symm
      replace PB := heap_old (p := (.cells #[.int .i64 ki, .string gr, .slice rq fs.length rc] 57)) PB
      replace hO := hO.alloc (.cells #[.int .i64 ki, .string gr, .slice rq fs.length rc] 57)
      replace hS := fun t ht => (hS t ht).below ((Below.refl _ _).alloc (Nat.le_refl _) (.cells #[.int .i64 ki, .string gr, .slice rq fs.length rc] 57))
      replace ow := ow.below ((Below.refl _ _).alloc (Nat.le_refl _) (.cells #[.int .i64 ki, .string gr, .slice rq fs.length rc] 57))
      have ab := heap_new Y1 (.cells #[.int .i64 ki, .string gr, .slice rq fs.length rc] 57)
      replace kk := kk.alloc kk.size (.cells #[.int .i64 ki, .string gr, .slice rq fs.length rc] 57)
      refine hK.out _ _ (KF.out _ kk PB) (fun hH => ?_)
      clear hK K
      try simp only [Act.put, List.setIfInBounds_toArray, List.set_cons_zero, List.set_cons_succ]
      generalize Y1.alloc (.cells #[.int .i64 ki, .string gr, .slice rq fs.length rc] 57) = Y3 at hH kk PB ab hO hS ow ⊢
      generalize Y1.heap.size = adab at ab geab neabPB ⊢
      refine wpAnyH_ready (rs := [11]) (by kernel_rfl) (by simp) ?_
      refine AllReadyH.cons rfl (fun K hK => ?_) AllReadyH.nil
      have CA := cellsB (xs := [.int .i64 ki, .string gr, .slice rq fs.length rc]) ab
      refine step_append_lies _ rfl _ _ 50 rfl w1.heap.size 57 i0 (.agg #[.int .i64 0, .string ⟨#[]⟩, .slice none 0 0]) 3 48 Try.underlying50 hi hz0 hz1 hz2 rfl (by decide) (.slice po T.length co) T.length (rowRv T) rfl hO ⟨adab, 0, none⟩ 1 1 [.int .i64 ki, .string gr, .slice rq fs.length rc] rfl rfl CA (oc.out _ _ _ rfl) (by decide) n1.out n2.out kk.size _ rfl ?_
      intro g7 c7 Y4 hown7 hg7 hat7 hlt7
      have hfar7 := fun j hj => (hO.lt j hj).1
      replace hS := fun t ht => (hS t ht).grown hg7 (own_type hO (by decide))
      replace ow := ow.grown hg7 (own_type hO (by decide))
      replace PB := g_keeps hO hg7 PB (by decide)
      replace kk := kk.grown hg7 kk.size hfar7
      replace hO := hown7
      clear CA hown7 hg7 hat7 hlt7 hfar7
      refine hK.out _ _ (KF.out _ kk PB) (fun hH => ?_)
      clear hK K
      try simp only [Act.put, List.setIfInBounds_toArray, List.set_cons_zero, List.set_cons_succ]
      refine wpAnyH_take (i := 12) (oi := { dst := some 5, op := Op.assign (Operand.tmp 27), type := 50, pos := "proxy.go:81", after := #[{ on := 11, ground := Ground.data }, { on := 11, ground := Ground.chain }, { on := 0, ground := Ground.phase }, { on := 1, ground := Ground.phase }, { on := 2, ground := Ground.phase }, { on := 3, ground := Ground.phase }, { on := 4, ground := Ground.phase }, { on := 5, ground := Ground.phase }, { on := 6, ground := Ground.phase }, { on := 7, ground := Ground.phase }, { on := 8, ground := Ground.phase }, { on := 9, ground := Ground.phase }, { on := 10, ground := Ground.phase }, { on := 11, ground := Ground.phase }], guard := none }) (v := .slice (some ⟨g7, 0, none⟩) (T.length + 1) c7) rfl (by kernel_rfl) (by kernel_rfl) (by kernel_rfl) (fun _ _ _ h => h) (Or.inl ⟨by kernel_rfl, ?_⟩) hH ?_
      · intro w hSw; (try dsimp only at hSw); go_simp; (try rfl)
      try simp only [Act.put, List.setIfInBounds_toArray, List.set_cons_zero, List.set_cons_succ]
      refine wpAnyH_done (by kernel_rfl) ?_ _
      have HO9 := Lib.hid hO
      have HS9 := Lib.hid hS
      have OW9 := Lib.hid ow
      have KK9 := Lib.hid kk
      clear hO hS ow kk hH PB
      go_wp2_with fail
      go_roundw
      case rel =>
        refine ⟨k + 1, T ++ [(⟨ki, gr, fs⟩, .slice rq fs.length rc)], some ⟨g7, 0, none⟩, c7, by omega, by go_num, by rw [List.length_append]; rfl, ?_, ?_, ?_, KK9⟩
        · rw [List.map_append, hT.out, HTK.out]; exact Lib.hid rfl
        · rw [List.length_append, rowRv_snoc]; exact HO9
        · refine Lib.hid fun t ht => ?_
          rcases List.mem_append.1 ht with ht | ht
          · exact HS9.out t ht
          · simp at ht; subst ht; exact OW9.out
      case measure => simp [intOf]; omega
    · obtain rfl : k = n := by omega
      rw [List.take_of_length_le (by rw [List.length_map, HN.out]; exact Nat.le_refl _)] at hT
      have d1 : decide (k < k) = false := by simp
      have d2 : decide ((k : Int) < (k : Int)) = false := by simp
      have HF := Lib.hid (show RecsO w.heap.size wr (.slice po T.length co) ((ofR R v).map recR) from ⟨T, hT.out, own_lower hO.out K1.out.size, fun t ht => (hS.out t ht).mono K1.out.size⟩)
      have KF := Lib.hid (pj_call K1.out hB.out)
      clear hlt hT hO hS hB
      go_wp2_with fail
      go_ret
      exact ⟨_, rfl, HF.out, KF.out⟩

/-- What is left when some are forgotten. -/
def dropR (R : List Pr) (D : List Pk) : List Pr := R.filter (fun x => !D.any (fun e => sameK x e.1 e.2))
theorem drop_nil (R : List Pr) : dropR R [] = R := by unfold dropR; simp
theorem drop_snoc (R : List Pr) (D : List Pk) (e : Pk) : dropR R (D ++ [e]) = delR (dropR R D) e.1 e.2 := by
  unfold dropR delR
  rw [List.filter_filter]
  refine List.filter_congr fun x _ => ?_
  rw [List.any_append]
  simp [Bool.and_comm]
theorem drop_sub (R : List Pr) (D : List Pk) : (dropR R D).Sublist R := List.filter_sublist
theorem drop_of (R : List Pr) (v : Int) : dropR R ((ofR R v).map pkR) = offR R v := by
  unfold dropR offR
  refine List.filter_congr fun x hx => ?_
  congr 1
  rw [Bool.eq_iff_iff, List.any_eq_true]
  constructor
  · rintro ⟨e, he, hs⟩
    obtain ⟨y, hy, rfl⟩ := List.mem_map.1 he
    have h1 := (sameK_iff _ _ _).1 hs
    have h2 := (List.mem_filter.1 hy).2
    simp only [pkR, decide_eq_true_iff] at h1 h2 ⊢
    omega
  · intro h
    exact ⟨pkR x, List.mem_map.2 ⟨x, List.mem_filter.2 ⟨hx, h⟩, rfl⟩, (sameK_iff _ _ _).2 ⟨rfl, rfl⟩⟩
theorem TwS.snd {S : Nat → Prop} {w1 w2 : World} (h : TwS S w w1) (k : TwS S w1 w2) : TwS S w w2 := h.trans k (fun _ _ h => h)

theorem pfor_nil (v : Int) (w : World) : Calls Try.prog 22 #[.pointer none, .int .i64 v] w fun e w' => e = .returned (.int .i64 0) ∧ w' = w := by
  have C := Lib.hid (pof_nil v w)
  go_enter Try.func22, Try.ntmps22
  go_wp2_with fail
  ((with_reducible refine C.out.mono ?_); rintro e w1 ⟨rfl, k1⟩)
  subst k1
  go_wp2_with fail
  go_loopw [7, 13] (fun _ i wr => i = .int .i64 0 ∧ wr = w1) (fun _ _ _ => 0)
  case atStart => exact ⟨rfl, rfl⟩
  case round =>
    obtain ⟨rfl, rfl⟩ := hrel
    go_wp2_with fail
    go_ret
    exact ⟨rfl, rfl⟩

set_option maxHeartbeats 8000000 in
set_option maxRecDepth 100000 in
theorem pfor_c (h : HasP w p mb room R) (hg : GoodR R room) (hr : room ≤ 4096) (v : Int) :
    Calls Try.prog 22 #[.pointer (some ⟨p, 0, none⟩), .int .i64 v] w fun e w' => e = .returned (.int .i64 (ofR R v).length) ∧ HasP w' p mb room (offR R v) ∧ TwS (fun b => b = mb) w w' := by
  have H := Lib.hid h
  have OC := Lib.hid (pof_c h hg hr v)
  have UP := Lib.hid hg.up
  have WF := Lib.hid hg.wf
  have WD := Lib.hid (fun (D : List Pk) => show WfR (dropR R D) from fun x hx => hg.wf x ((drop_sub R D).subset hx))
  have LL := Lib.hid (show (ofR R v).length ≤ 4096 by have := List.length_filter_le (fun x : Pr => decide (x.vl = v)) R; have := hg.len; unfold ofR; omega)
  have ML := Lib.hid h.map.lt
  obtain ⟨n, hn0⟩ : ∃ n, n = (ofR R v).length := ⟨_, rfl⟩
  rw [← hn0]
  have HN := Lib.hid hn0
  clear h hg hr hn0
  go_enter Try.func22, Try.ntmps22
  go_wp2_with fail
  ((with_reducible refine OC.out.mono ?_); rintro e w1 ⟨u, rfl, hu, k1⟩)
  obtain ⟨uq, uc, rfl⟩ := hu.slice
  have HU := Lib.hid hu
  have K1 := Lib.hid k1
  have hn : n = ((ofR R v).map pkR).length := by rw [List.length_map]; exact HN.out
  have HN2 := Lib.hid hn
  rw [← hn]
  have H1 := Lib.hid (H.out.below k1)
  clear hu k1 OC hn
  go_wp2_with fail
  go_loopw [7, 13] (fun _ i wr => ∃ k : Nat, k ≤ n ∧ i = .int .i64 k ∧ Hid (HasP wr p mb room (dropR R (((ofR R v).map pkR).take k))) ∧ Hid (TwS (fun b => b = mb) w1 wr)) (fun _ i _ => n - (intOf i).toNat)
  case atStart => exact ⟨0, Nat.zero_le _, rfl, Lib.hid (by rw [List.take_zero, drop_nil]; exact H1.out), Lib.hid (TwS.refl _ _)⟩
  case round =>
    obtain ⟨k, hk, rfl, hH, hT⟩ := hrel
    have hnb : n ≤ 4096 := by rw [HN.out]; exact LL.out
    by_cases hlt : k < n
    · obtain ⟨e, he⟩ : ∃ e, ((ofR R v).map pkR)[k]? = some e := ⟨_, List.getElem?_eq_getElem (by rw [← HN2.out]; exact hlt)⟩
      have HTK := Lib.hid (show ((ofR R v).map pkR).take (k + 1) = ((ofR R v).map pkR).take k ++ [e] by rw [List.take_add_one, he]; rfl)
      obtain ⟨x, hx, rfl, hxR, hxv⟩ := of_get he
      rcases HU.out with ⟨-, h0⟩ | ⟨g, cap, hv, hg0, hg1, hgc⟩
      · rw [h0] at he; simp at he
      simp only [Value.slice.injEq] at hv
      obtain ⟨rfl, -, rfl⟩ := hv
      have hgx := hgc k _ he
      have hgm : ¬ g = mb := by have := ML.out; omega
      have x0 : wr.cell? ⟨g, k * 2, none⟩ = some (.int .i64 x.vl) := hT.out.cell hgx.1 hgm
      have x1 : wr.cell? ⟨g, k * 2 + 1, none⟩ = some (.string x.gr) := hT.out.cell hgx.2 hgm
      have hk9 := WF.out x hxR
      have hkey := Lib.hid (keyE x.vl x.gr hk9)
      have HDL := Lib.hid (show ∀ U qv, HasP U p mb room (dropR R (((ofR R v).map pkR).take k)) → MV.Mp qv Try.prog 77 mb (MV.delT (mP (dropR R (((ofR R v).map pkR).take k))) (litE x.vl x.gr)) → U.mapTurned qv mb → HasP qv p mb room (dropR R (((ofR R v).map pkR).take (k + 1))) from fun U qv h1 h3 h4 => by
        rw [del_mP (WD.out _) hk9] at h3
        rw [HTK.out, drop_snoc]
        exact HasP.turn h1 h3 h4 (fun y hy => h1.row y (List.mem_filter.1 hy).1))
      have d1 : decide (k < n) = true := decide_eq_true hlt
      have d2 : decide ((k : Int) < (n : Int)) = true := decide_eq_true (by omega)
      have d4 : decide (0 ≤ (k : Int)) = true := decide_eq_true (by omega)
      clear he hx hxR hxv hgx hgc hgm hk9 HTK
      generalize dropR R (((ofR R v).map pkR).take k) = R0 at hH HDL
      obtain ⟨R1, hR1⟩ : ∃ R1, R1 = dropR R (((ofR R v).map pkR).take (k + 1)) := ⟨_, rfl⟩
      rw [← hR1] at HDL
      have HR1 := Lib.hid hR1
      clear hR1
      go_upto_region 5 with fail
      have PB := Lib.hid (heap_new wr (.cells #[.int .i64 x.vl, .string x.gr] 77))
      have KA := (Below.refl wr.heap.size wr).alloc (Nat.le_refl _) (.cells #[.int .i64 x.vl, .string x.gr] 77)
      have H2 := Lib.hid (hH.out.below KA)
      have T2 := Lib.hid (hT.out.snd (TwS.ofBelow KA))
      clear KA hH hT x0 x1
      generalize wr.alloc (.cells #[.int .i64 x.vl, .string x.gr] 77) = W at PB H2 T2 ⊢
      generalize wr.heap.size = pb at PB ⊢
      have ym1 := H2.out.c1
      have yp0 : W.cell? ⟨pb, 0, none⟩ = some (.int .i64 x.vl) := cell_of_block PB.out rfl
      have yp1 : W.cell? ⟨pb, 1, none⟩ = some (.string x.gr) := cell_of_block PB.out rfl
      go_still_tail 5, (by kernel_rfl)
      change wpList _ _ _ _ _ W.drew
      have hmp := Lib.hid H2.out.drew.map
      clear yp0 yp1 ym1
      go_upto_region 6 with (first | (at_delete; refine MV.wpList_delete_mp _ rfl _ _ 72 77 rfl 28 law_ST und_MP mb (mP R0) rfl hmp.out _ _ rfl hkey.out ?_; intro w7 hm7 ht7) | go_in)
      have t7 : TwS (fun b => b = mb) W w7 := (show TwS (fun b => b = mb) W W.drew from (TwS.refl _ _).drew).trans (TwS.turned (S := fun b => b = mb) ht7 rfl) (fun b _ h => h)
      have H7 := Lib.hid (HDL.out _ _ H2.out.drew hm7 ht7)
      have T7 := Lib.hid (T2.out.snd t7)
      clear hm7 ht7 t7 H2 T2 PB hmp
      go_wp2_with fail
      go_roundw
      case rel => exact ⟨k + 1, by omega, by go_num, Lib.hid (by have h9 := H7.out; rw [HR1.out] at h9; exact h9), T7⟩
      case measure => simp [intOf]; omega
    · obtain rfl : k = n := by omega
      rw [List.take_of_length_le (by rw [← HN2.out]; exact Nat.le_refl _), drop_of] at hH
      have d1 : decide (k < k) = false := by simp
      have d2 : decide ((k : Int) < (k : Int)) = false := by simp
      have TF := Lib.hid ((TwS.ofBelow (S := fun b => b = mb) K1.out).snd hT.out)
      clear hlt hT
      go_wp2_with fail
      go_ret
      exact ⟨rfl, hH.out, TF.out⟩

end Go.Proofs.Ythpafojeadbjlaa
