/-
  Reading records: igmp.Records. A contract over the translated program.
-/
import Derived.Test.YtniahpbjfpmmhaaGreatIgB
namespace Go.Proofs.YtniahpbjfpmmhaaGreat
open Go.RowKit
set_option linter.unusedVariables false

set_option maxHeartbeats 400000 in
theorem iskind_c (k : Int) (w : World) :
    Calls Tryz.prog 90 #[.int .i64 k] w fun e w' => e = .returned (.bool (kindB k)) ∧ w = w' := by
  by_cases h1 : 1 ≤ k
  · by_cases h2 : k ≤ 6
    · have V := Lib.hid (show kindB k = true from decide_eq_true ⟨h1, h2⟩)
      go_enter Tryz.func90, Tryz.ntmps90
      go_wp2_with fail
      go_ret
      exact ⟨by rw [V.out]; rfl, rfl⟩
    · have V := Lib.hid (show kindB k = false from decide_eq_false (by omega))
      have d : decide (k ≤ 6) = false := decide_eq_false h2
      clear h2
      go_enter Tryz.func90, Tryz.ntmps90
      go_wp2_with fail
      go_ret
      exact ⟨by rw [V.out]; rfl, rfl⟩
  · have V := Lib.hid (show kindB k = false from decide_eq_false (by omega))
    have d : decide (1 ≤ k) = false := decide_eq_false h1
    clear h1
    go_enter Tryz.func90, Tryz.ntmps90
    go_wp2_with fail
    go_ret
    exact ⟨by rw [V.out]; rfl, rfl⟩

def sizeB (z : Int) : Bool := decide (z = 4 ∨ z = 16)

set_option maxHeartbeats 400000 in
theorem issize_c (z : Int) (w : World) :
    Calls Tryz.prog 88 #[.int .i64 z] w fun e w' => e = .returned (.bool (sizeB z)) ∧ w = w' := by
  by_cases h1 : z = 4
  · have V := Lib.hid (show sizeB z = true from decide_eq_true (.inl h1))
    obtain ⟨p1, p2⟩ := eq_t h1
    clear h1
    go_enter Tryz.func88, Tryz.ntmps88
    go_wp2_with fail
    go_ret
    exact ⟨by rw [V.out]; rfl, rfl⟩
  · obtain ⟨p1, p2⟩ := ne_t h1
    by_cases h2 : z = 16
    · have V := Lib.hid (show sizeB z = true from decide_eq_true (.inr h2))
      obtain ⟨q1, q2⟩ := eq_t h2
      clear h1 h2
      go_enter Tryz.func88, Tryz.ntmps88
      go_wp2_with fail
      go_ret
      exact ⟨by rw [V.out]; rfl, rfl⟩
    · have V := Lib.hid (show sizeB z = false from decide_eq_false (by omega))
      obtain ⟨q1, q2⟩ := ne_t h2
      clear h1 h2
      go_enter Tryz.func88, Tryz.ntmps88
      go_wp2_with fail
      go_ret
      exact ⟨by rw [V.out]; rfl, rfl⟩

/-- What Records answers, given as an error and a list. -/
def RecsPost (t : Int × List Rec) (w : World) (e : Ending) (w' : World) : Prop :=
  ∃ v, e = .returned (.tuple #[v, .int .i64 t.1]) ∧ RecsG w.heap.size true w' v t.2 ∧ Below w.heap.size w w'

theorem info_rec : (Tryz.prog.info? 36).map (fun i => (i.size, i.bytes)) = some (3, 48) := by kernel_rfl
theorem info_rec0 : ∃ i, Tryz.prog.info? 36 = some i ∧ i.size = 3 ∧ i.bytes = 48 := by
  have h := info_rec
  cases hi : Tryz.prog.info? 36 with
  | none => rw [hi] at h; cases h
  | some i => rw [hi] at h; simp at h; exact ⟨i, rfl, h.1, h.2⟩
theorem info_recz : (Tryz.prog.info? 36).map (fun i => i.zero) = some (some (.agg #[.int .i64 0, .string ⟨#[]⟩, .slice none 0 0])) := by kernel_rfl

theorem recOf_le (s : ByteArray) (a Z : Nat) (ha : a ≤ s.size) : (recOf s a Z).2.2 ≤ s.size - a := by
  unfold recOf
  split
  · exact Nat.zero_le _
  · simp only
    split
    · exact Nat.zero_le _
    · split
      · exact Nat.zero_le _
      · simp only; omega

theorem owned_type {B : Nat} {w : World} {xs : List Value} {v : Value} {n : Nat} {e : TypeId} (hown : w.ownsRow B e 3 v n xs) (he : e ≠ 22) : ∀ g, v.ownBlock = some g → ∃ cs e' f, w.heap[g]? = some (.cells cs e' f) ∧ e' ≠ 22 := by
  intro g hg
  rcases hown.2 with ⟨hv, _⟩ | ⟨g', cap, cur, hv, _, hb, _⟩
  · rw [hv] at hg; simp [Value.ownBlock] at hg
  · rw [hv] at hg
    have : g' = g := by simpa [Value.ownBlock] using hg
    subst this
    exact ⟨_, _, _, hb, he⟩
theorem cells3 (w : World) (o : Obj) (x y z : Value) (t : TypeId) : ∀ j u, [x, y, z][j]? = some u → ((w.alloc o).alloc (.cells #[x, y, z] t)).cell? ((⟨w.heap.size + 1, 0, none⟩ : Addr).add j) = some u := by
  intro j u hj
  have hb : ((w.alloc o).alloc (.cells #[x, y, z] t)).heap[w.heap.size + 1]? = some (.cells #[x, y, z] t (0, 0)) := by
    have := heap_new (w.alloc o) (.cells #[x, y, z] t)
    simpa using this
  have e : (⟨w.heap.size + 1, 0, none⟩ : Addr).add j = ⟨w.heap.size + 1, j, none⟩ := by unfold Addr.add; split <;> simp_all
  rw [e]
  exact cell_of_block hb (by simpa using hj)

theorem RowsOf.grown {B : Nat} {w w' : World} {xs : List Value} {L : List Rec} {v : Value} {n : Nat} {e : TypeId} (h : RowsOf B w xs L) (hown : w.ownsRow B e 3 v n xs) (he : e ≠ 22) (k : w.grownBy w' v.ownBlock) : RowsOf B w' xs L := by
  exact h.map fun vs l ha => ha.grown k (owned_type hown he)
theorem RowsOf.below {B : Nat} {w w' : World} {xs : List Value} {L : List Rec} (h : RowsOf B w xs L) (k : Below w.heap.size w w') : RowsOf B w' xs L :=
  h.map fun vs l ha => ha.below k

set_option maxHeartbeats 2000000 in
set_option maxRecDepth 100000 in
theorem recs_go (s : ByteArray) (n Z : Nat) (w : World) (hs : s.size ≤ 281474976710000) (hZ : Z = 4 ∨ Z = 16) (hn : n ≤ 30) :
    Calls Tryz.prog 72 #[.string s, .int .i64 n, .int .i64 Z] w (RecsPost (recsGo s Z n 0) w) := by
  have HR := Lib.hid fun (a : Nat) (ha : a ≤ s.size) U => recat_c s a Z U hs (by omega) ha
  have HZ := Lib.hid fun U => issize_c (Z : Int) U
  rw [show sizeB (Z : Int) = true from decide_eq_true (by omega)] at HZ
  have hn' : (n : Int) ≤ 30 := by omega
  have h0' : (0 : Int) ≤ (n : Int) := by omega
  obtain ⟨i0, hi, hz1, hz2⟩ := info_rec0
  have hz0 : i0.zero = some (.agg #[.int .i64 0, .string ⟨#[]⟩, .slice none 0 0]) := by
    have h := info_recz
    rw [hi] at h
    simpa using h
  have H0 := Lib.hid (comb_nil (recsGo s Z n 0) (recsGo_err s Z n 0))
  clear hZ
  go_enter Tryz.func72, Tryz.ntmps72
  go_wp2_with fail
  refine (HZ.out _).mono ?_
  rintro e w1 ⟨rfl, rfl⟩
  go_wp2_with fail
  go_loopw [8, 9, 10, 11, 12, 23] (fun v at_ _ _ _ i wr => ∃ (k a : Nat) (acc : List Rec) (xs : List Value), k ≤ n ∧ a ≤ s.size ∧ i = .int .i64 k ∧ at_ = .int .i64 a ∧ acc.length ≤ k ∧ Hid (wr.ownsRow w.heap.size 36 3 v acc.length xs) ∧ Hid (RowsOf w.heap.size wr xs acc) ∧ Hid (comb acc (recsGo s Z (n - k) a) = recsGo s Z n 0) ∧ Hid (Below w.heap.size w wr)) (fun _ _ _ _ _ i _ => n - (intOf i).toNat)
  case atStart => exact ⟨0, 0, [], [], Nat.zero_le _, Nat.zero_le _, rfl, rfl, Nat.le_refl _, Lib.hid (World.ownsRow_nil _ _ _ _), Lib.hid trivial, H0, Lib.hid (Below.refl _ _)⟩
  case round =>
    obtain ⟨k, a, acc, xs, hk, ha, rfl, rfl, hac, hown, hrows, hcomb, hb⟩ := hrel
    by_cases hlt : k < n
    · have hlt' : (k : Int) < (n : Int) := by omega
      have HX := Lib.hid (HR.out a ha)
      have hle := recOf_le s a Z ha
      have hnk : n - k = (n - (k + 1)) + 1 := by omega
      rw [hnk] at hcomb
      have HBad := Lib.hid fun h => (recsGo_bad s Z (n - (k + 1)) a acc h).symm.trans hcomb.out
      have HGood := Lib.hid fun h => (recsGo_good s Z (n - (k + 1)) a acc h).symm.trans hcomb.out
      unfold RecPost at HX
      generalize recOf s a Z = t at HX HBad HGood hle
      obtain ⟨E, ⟨kd, g, sr⟩, W⟩ := t
      simp only at HX HBad HGood hle
      clear hnk
      have hW : (W : Int) ≤ 281474976710000 := by omega
      have hai : (a : Int) ≤ 281474976710000 := by omega
      go_wp2_with fail
      refine (HX.out _).mono ?_
      rintro e w1 ⟨vs, rfl, hva, h1⟩
      obtain ⟨p, cp, rfl⟩ := hva.slice
      have HA := Lib.hid hva
      have B1 := Lib.hid h1
      generalize sr.length = srn at HA
      clear h1 hva
      by_cases hE : E = 0
      · subst hE
        have HG := Lib.hid (HGood.out rfl)
        have HK := Lib.hid fun U => iskind_c kd U
        have hbs := hb.out.size
        have hb1 := B1.out.size
        have BO := Lib.hid (show Below w.heap.size w (w1.alloc (.cells #[.int .i64 kd, .string g, .slice p srn cp] 36)) from (hb.out.trans (B1.out.mono hb.out.size)).alloc (by omega) _)
        have OW := Lib.hid ((owns_below hown.out B1.out).alloc (.cells #[.int .i64 kd, .string g, .slice p srn cp] 36))
        have RW := Lib.hid ((hrows.out.below B1.out).below ((Below.refl w1.heap.size w1).alloc (Nat.le_refl _) (.cells #[.int .i64 kd, .string g, .slice p srn cp] 36)))
        have AW := Lib.hid ((HA.out.mono hbs id).below ((Below.refl w1.heap.size w1).alloc (Nat.le_refl _) (.cells #[.int .i64 kd, .string g, .slice p srn cp] 36)))
        clear hbs hb1 HBad HGood HR HX
        rcases hkb : kindB kd with _ | _
        · rw [hkb] at HK HG
          have HG' := Lib.hid (show comb acc (recsGo s Z (n - (k + 1)) (a + W)) = recsGo s Z n 0 from HG.out)
          clear HG hkb
          go_wp2_with fail
          refine (HK.out _).mono ?_
          rintro e w2 ⟨rfl, rfl⟩
          go_wp2_with fail
          go_roundw
          case rel => exact ⟨k + 1, a + W, acc, xs, by omega, by omega, by go_num, by go_num, by omega, OW, RW, HG', BO⟩
          case measure => simp [intOf]; omega
        · rw [hkb] at HK HG
          have HG' := Lib.hid (show comb (acc ++ [⟨kd, g, sr⟩]) (recsGo s Z (n - (k + 1)) (a + W)) = recsGo s Z n 0 from HG.out)
          clear HG hkb
          go_wp2_with fail
          refine (HK.out _).mono ?_
          rintro e w2 ⟨rfl, rfl⟩
          go_wp2_with (at_builtin; refine wpList_append_own _ rfl _ _ 26 rfl w.heap.size 36 i0 (.agg #[.int .i64 0, .string ⟨#[]⟩, .slice none 0 0]) 3 48 Tryz.underlying26 hi hz0 hz1 hz2 rfl (by decide) _ _ _ rfl (OW.out.alloc _) ⟨w1.heap.size + 1, 0, none⟩ 1 1 [.int .i64 kd, .string g, .slice p srn cp] rfl rfl ?c1 ?c2 ?c3 ?c4 ?c5 ?_)
          case c1 => exact cells3 _ _ _ _ _ _
          case c2 => intro u hu; simp at hu; rcases hu with rfl | rfl | rfl <;> rfl
          case c3 => unfold maxLen; omega
          case c4 => omega
          case c5 => have := BO.out.size; simp at this ⊢; omega
          intro v' w2 hown' hgrow _
          have HO2 := Lib.hid hown'
          have RW2 := Lib.hid ((((RW.out.below ((Below.refl _ _).alloc (Nat.le_refl _) _)).grown (OW.out.alloc _) (by decide) hgrow)).snoc (r := ⟨kd, g, sr⟩) ((AW.out.below ((Below.refl _ _).alloc (Nat.le_refl _) _)).grown hgrow fun g hg => owned_type (OW.out.alloc _) (by decide) g hg))
          have BO2 := Lib.hid ((BO.out.alloc BO.out.size _).grown hgrow (by have := BO.out.size; simp at this ⊢; omega) (fun j hj => (OW.out.lt j hj).1))
          clear hown'
          go_wp2_with fail
          go_roundw
          case rel => exact ⟨k + 1, a + W, acc ++ [⟨kd, g, sr⟩], _, by omega, by omega, by go_num, by go_num, by simp; omega, Lib.hid (by rw [List.length_append]; exact HO2.out), RW2, HG', BO2⟩
          case measure => simp [intOf]; omega
      · obtain ⟨q1, q2⟩ := ne_t hE
        have HG := Lib.hid (HBad.out hE)
        clear hE HGood
        go_wp2_with fail
        go_ret2
        unfold RecsPost
        rw [← HG.out]
        exact ⟨_, rfl, RecsG.nil _ _ _, (hb.out.trans (B1.out.mono hb.out.size)).alloc (by have := hb.out.size; have := B1.out.size; omega) _⟩
    · obtain rfl : k = n := by omega
      have HG := Lib.hid (show recsGo s Z k 0 = (0, acc) by rw [← hcomb.out, Nat.sub_self]; unfold recsGo comb; simp)
      go_wp2_with fail
      go_ret2
      unfold RecsPost
      rw [HG.out]
      exact ⟨_, rfl, RecsG.of_owns hown.out hrows.out, hb.out⟩

end Go.Proofs.YtniahpbjfpmmhaaGreat
