/-
  Filters: closures, filter.without, Norm, Not. Contracts over the translated program.
-/
import Derived.Test.YthpafojeadbjlaaFlC
import Derived.Test.YthpafojeadbjlaaFlM
import Derived.StillTailTactics
import Derived.Deep.RegionHeld3
namespace Go.Proofs.Ythpafojeadbjlaa
open Go.RowKit
set_option linter.unusedVariables false

set_option maxHeartbeats 400000 in
theorem wcl_c (i j : Bool) (w : World) : Calls Try.prog 77 #[.bool i, .bool j] w fun e w' => e = .returned (.bool (stW i j)) ∧ Below w.heap.size w w' := by
  cases i <;> cases j
  all_goals
    go_enter Try.func77, Try.ntmps77
    go_wp2_with fail
    go_ret
    exact ⟨rfl, Below.refl _ _⟩
set_option maxHeartbeats 400000 in
theorem orcl_c (i j : Bool) (w : World) : Calls Try.prog 53 #[.bool i, .bool j] w fun e w' => e = .returned (.bool (i || j)) ∧ w' = w := by
  cases i <;> cases j
  all_goals
    go_enter Try.func53, Try.ntmps53
    go_wp2_with fail
    go_ret
    exact ⟨rfl, rfl⟩
set_option maxHeartbeats 400000 in
theorem andcl_c (i j : Bool) (w : World) : Calls Try.prog 68 #[.bool i, .bool j] w fun e w' => e = .returned (.bool (i && j)) ∧ w' = w := by
  cases i <;> cases j
  all_goals
    go_enter Try.func68, Try.ntmps68
    go_wp2_with fail
    go_ret
    exact ⟨rfl, rfl⟩

set_option maxHeartbeats 1000000 in
set_option maxRecDepth 100000 in
theorem jor_c (c1 c2 c3 c4 : Nat) (fe ge ex i j : Bool) (w : World) (h1 : w.cell? ⟨c1, 0, none⟩ = some (.func (.func 53) #[] #[])) (h2 : w.cell? ⟨c2, 0, none⟩ = some (.bool fe)) (h3 : w.cell? ⟨c3, 0, none⟩ = some (.bool ge)) (h4 : w.cell? ⟨c4, 0, none⟩ = some (.bool ex)) :
    Calls Try.prog 73 #[.bool i, .bool j, .pointer (some ⟨c1, 0, none⟩), .pointer (some ⟨c2, 0, none⟩), .pointer (some ⟨c3, 0, none⟩), .pointer (some ⟨c4, 0, none⟩)] w fun e w' => e = .returned (.bool (((i != fe) || (j != ge)) != ex)) ∧ Below w.heap.size w w' := by
  have HC := Lib.hid fun a b U => orcl_c a b U
  go_enter Try.func73, Try.ntmps73
  go_wp2_with fail
  go_quiet ((go_at_call 53; exact Calls.quiet_of_same (HC.out _ _ _)))
  go_wp2_with fail
  go_ret
  exact ⟨rfl, below_drewN (Below.refl _ _) _⟩
set_option maxHeartbeats 1000000 in
set_option maxRecDepth 100000 in
theorem jand_c (c1 c2 c3 c4 : Nat) (fe ge ex i j : Bool) (w : World) (h1 : w.cell? ⟨c1, 0, none⟩ = some (.func (.func 68) #[] #[])) (h2 : w.cell? ⟨c2, 0, none⟩ = some (.bool fe)) (h3 : w.cell? ⟨c3, 0, none⟩ = some (.bool ge)) (h4 : w.cell? ⟨c4, 0, none⟩ = some (.bool ex)) :
    Calls Try.prog 73 #[.bool i, .bool j, .pointer (some ⟨c1, 0, none⟩), .pointer (some ⟨c2, 0, none⟩), .pointer (some ⟨c3, 0, none⟩), .pointer (some ⟨c4, 0, none⟩)] w fun e w' => e = .returned (.bool (((i != fe) && (j != ge)) != ex)) ∧ Below w.heap.size w w' := by
  have HC := Lib.hid fun a b U => andcl_c a b U
  go_enter Try.func73, Try.ntmps73
  go_wp2_with fail
  go_quiet ((go_at_call 68; exact Calls.quiet_of_same (HC.out _ _ _)))
  go_wp2_with fail
  go_ret
  exact ⟨rfl, below_drewN (Below.refl _ _) _⟩

set_option maxHeartbeats 1000000 in
set_option maxRecDepth 100000 in
theorem without_c (pa pb : Option Addr) (ca cb : Nat) (A B : List ByteArray) (w : World) (hA : A.length ≤ 1000000) (hB : B.length ≤ 1000000) (ha : AC w pa ca A) (hb : AC w pb cb B) :
    Calls Try.prog 60 #[.slice pa A.length ca, .slice pb B.length cb] w (MPost (mgo stW A B) w) := by
  have HM := Lib.hid (mergew_c pa pb ca cb A B stW w hA hB ha hb fun i j U _ => wcl_c i j U)
  generalize mgo stW A B = R at HM ⊢
  unfold MPost at HM ⊢
  generalize A.length = na at *
  generalize B.length = nb at *
  clear ha hb
  go_enter Try.func60, Try.ntmps60
  go_wp2_with fail
  ((with_reducible refine HM.out.mono ?_); rintro e w1 ⟨v1, rfl, a1, h1⟩)
  have A1 := Lib.hid a1
  have K1 := Lib.hid h1
  obtain ⟨p1, c1, rfl⟩ := a1.slice
  clear a1 h1
  go_wp2_with fail
  go_ret
  exact ⟨_, rfl, A1.out, K1.out⟩

/-- What makes a filter answers. -/
def FPost (f : Fl) (w : World) (e : Ending) (w' : World) : Prop := ∃ v, e = .returned (.agg #[.bool f.ex, v]) ∧ AddrsG w.heap.size true w' v f.src ∧ Below w.heap.size w w'

/-- The block behind w0's end holds xs, one more lies behind it; what lay is as it was. -/
def KS (w0 w : World) (xs ys : Array Value) (t : TypeId) : Prop := w.heap[w0.heap.size]? = some (.cells xs t (0, 0)) ∧ w.heap[w0.heap.size + 1]? = some (.cells ys t (0, 0)) ∧ Below w0.heap.size w0 w
theorem KS.start (w0 : World) (xs ys : Array Value) (t : TypeId) : KS w0 ((w0.alloc (.cells xs t)).alloc (.cells ys t)) xs ys t :=
  ⟨heap_old (heap_new _ _), by simpa using heap_new (w0.alloc (.cells xs t)) (.cells ys t), ((Below.refl _ w0).alloc (Nat.le_refl _) _).alloc (by simp) _⟩
theorem KS.below {w0 w w' : World} {xs ys : Array Value} {t : TypeId} (h : KS w0 w xs ys t) (k : Below w.heap.size w w') : KS w0 w' xs ys t :=
  ⟨below_block k (lt_of_block h.1) h.1, below_block k (lt_of_block h.2.1) h.2.1, h.2.2.trans (k.mono h.2.2.size)⟩
theorem KS.cell0 {w0 w : World} {xs ys : Array Value} {t : TypeId} (h : KS w0 w xs ys t) (j : Nat) {v : Value} (hj : xs[j]? = some v) : w.cell? ⟨w0.heap.size, j, none⟩ = some v := cell_of_block h.1 hj
theorem KS.cell1 {w0 w : World} {xs ys : Array Value} {t : TypeId} (h : KS w0 w xs ys t) (j : Nat) {v : Value} (hj : ys[j]? = some v) : w.cell? ⟨w0.heap.size + 1, j, none⟩ = some v := cell_of_block h.2.1 hj
theorem KS.free1 {w0 w : World} {xs ys : Array Value} {t : TypeId} (h : KS w0 w xs ys t) (j : Nat) : w.frozen? ⟨w0.heap.size + 1, j, none⟩ = false := free_of_block h.2.1
theorem KS.bel {w0 w : World} {xs ys : Array Value} {t : TypeId} (h : KS w0 w xs ys t) : Below w0.heap.size w0 w := h.2.2
theorem KS.lt {w0 w : World} {xs ys : Array Value} {t : TypeId} (h : KS w0 w xs ys t) : w0.heap.size + 1 < w.heap.size := lt_of_block h.2.1
theorem KS.drew {w0 w : World} {xs ys : Array Value} {t : TypeId} (h : KS w0 w xs ys t) : KS w0 w.drew xs ys t := ⟨h.1, h.2.1, h.2.2.drew⟩

/-- The first of the two blocks as it was. -/
def KQ (w0 w : World) (xs : Array Value) (t : TypeId) : Prop := w.heap[w0.heap.size]? = some (.cells xs t (0, 0)) ∧ Below w0.heap.size w0 w
theorem KS.kq {w0 w : World} {xs ys : Array Value} {t : TypeId} (h : KS w0 w xs ys t) : KQ w0 w xs t := ⟨h.1, h.2.2⟩
theorem KQ.drew {w0 w : World} {xs : Array Value} {t : TypeId} (h : KQ w0 w xs t) : KQ w0 w.drew xs t := ⟨h.1, h.2.drew⟩
theorem KQ.cell0 {w0 w : World} {xs : Array Value} {t : TypeId} (h : KQ w0 w xs t) (j : Nat) {v : Value} (hj : xs[j]? = some v) : w.cell? ⟨w0.heap.size, j, none⟩ = some v := cell_of_block h.1 hj
theorem KQ.set {w0 w : World} {xs : Array Value} {t : TypeId} (h : KQ w0 w xs t) (j : Nat) (v : Value) : KQ w0 (w.setCell ⟨w0.heap.size + 1, j, none⟩ v) xs t :=
  ⟨heap_store_other h.1 (by omega), h.2.setCell (p := ⟨w0.heap.size + 1, j, none⟩) (Nat.le_succ _) _⟩
theorem KQ.bel {w0 w : World} {xs : Array Value} {t : TypeId} (h : KQ w0 w xs t) : Below w0.heap.size w0 w := h.2

set_option maxHeartbeats 4000000 in
set_option maxRecDepth 100000 in
theorem norm_c (ex : Bool) (vs : Value) (l : List ByteArray) (w : World) (hl : l.length ≤ 1000000) (ha : AddrsAt w vs l) :
    Calls Try.prog 27 #[.agg #[.bool ex, vs]] w (FPost (normF ⟨ex, l⟩) w) := by
  have HA := Lib.hid ha
  obtain ⟨p, cp, rfl⟩ := ha.slice
  have B := Lib.hid (KS.start w #[.bool ex, .slice p l.length cp] #[.bool false, .slice none 0 0] 28)
  have HR := Lib.hid fun U (hU : Below w.heap.size w U) => rising_c _ l U hl (HA.out.below hU)
  unfold FPost normF
  simp only
  generalize ris l = rl at HR ⊢
  unfold LPost at HR
  generalize l.length = n at *
  clear ha hl
  go_enter Try.func27, Try.ntmps27
  go_wp2_with fail
  generalize (w.alloc (.cells #[.bool ex, .slice p n cp] 28)).alloc (.cells #[.bool false, .slice none 0 0] 28) = W at B ⊢
  have HRa := Lib.hid (HR.out _ B.out.bel)
  have HRb := Lib.hid (HR.out _ B.out.bel.drew)
  have KF := Lib.hid fun (U : World) (k : KQ w U #[.bool ex, .slice p n cp] 28) => (⟨k.cell0 0 rfl, k.cell0 1 rfl⟩ : U.cell? ⟨w.heap.size, 0, none⟩ = some (.bool ex) ∧ U.cell? ⟨w.heap.size, 1, none⟩ = some (.slice p n cp))
  have k0 := B.out.kq
  obtain ⟨x0, x1⟩ := KF.out W k0
  clear HR HA HRa
  go_region_held3 (fun U => U.cell? ⟨w.heap.size, 0, none⟩ = some (.bool ex) ∧ U.cell? ⟨w.heap.size, 1, none⟩ = some (.slice p n cp))
    (first
      | with_reducible exact KF.out _ ((k3.set _ _).set _ _)
      | with_reducible exact KF.out _ (k3.drew.set _ _ |>.set _ _)
      | with_reducible exact KF.out _ k3
      | with_reducible exact KF.out _ k3.drew
      | with_reducible exact KF.out _ k0
      | with_reducible exact KF.out _ k0.drew)
    (first | (go_at_call 48; (with_reducible refine HRb.out.mono ?_); rintro e w3 ⟨v3, rfl, a3, h3, -⟩; have B3 := Lib.hid (show KS w w3 #[.bool ex, .slice p n cp] #[.bool false, .slice none 0 0] 28 from KS.below B.out.drew h3); have A3 := Lib.hid a3; have k3 := B3.out.kq; obtain ⟨p3, c3, rfl⟩ := a3.slice; have y0 := B3.out.cell1 0 rfl; have y1 := B3.out.cell1 1 rfl; have fr := (fun j => B3.out.free1 j); have hz := B3.out.lt; clear a3 h3))
  all_goals
    go_wp2_with fail
    refine bodyPost_ret (v := .agg #[.bool ex, .slice p3 rl.length c3]) (by simp [results, Try.results27, go_sem, y0, y1]) rfl ⟨_, rfl, ?_, ?_⟩
    · exact (((A3.out.mono (B' := w.heap.size + 1 + 1) B.out.drew.lt id).store (c := w.heap.size + 1) (by omega)).store (c := w.heap.size + 1) (by omega)).mono (by omega) id
    · exact (B3.out.bel.setCell (p := ⟨w.heap.size + 1, 0, none⟩) (Nat.le_succ _) _).setCell (p := ⟨w.heap.size + 1, 1, none⟩) (Nat.le_succ _) _

set_option maxHeartbeats 4000000 in
set_option maxRecDepth 100000 in
theorem not_c (ex : Bool) (vs : Value) (l : List ByteArray) (w : World) (hl : l.length ≤ 1000000) (ha : AddrsAt w vs l) :
    Calls Try.prog 46 #[.agg #[.bool ex, vs]] w (FPost (notF ⟨ex, l⟩) w) := by
  have HA := Lib.hid ha
  obtain ⟨p, cp, rfl⟩ := ha.slice
  have B := Lib.hid (KS.start w #[.bool ex, .slice p l.length cp] #[.bool false, .slice none 0 0] 28)
  have HR := Lib.hid fun U (hU : Below w.heap.size w U) => rising_c _ l U hl (HA.out.below hU)
  unfold FPost notF
  simp only
  generalize ris l = rl at HR ⊢
  unfold LPost at HR
  generalize l.length = n at *
  clear ha hl
  go_enter Try.func46, Try.ntmps46
  go_wp2_with fail
  generalize (w.alloc (.cells #[.bool ex, .slice p n cp] 28)).alloc (.cells #[.bool false, .slice none 0 0] 28) = W at B ⊢
  have HRa := Lib.hid (HR.out _ B.out.bel)
  have HRb := Lib.hid (HR.out _ B.out.bel.drew)
  have KF := Lib.hid fun (U : World) (k : KQ w U #[.bool ex, .slice p n cp] 28) => (⟨k.cell0 0 rfl, k.cell0 1 rfl⟩ : U.cell? ⟨w.heap.size, 0, none⟩ = some (.bool ex) ∧ U.cell? ⟨w.heap.size, 1, none⟩ = some (.slice p n cp))
  have k0 := B.out.kq
  obtain ⟨x0, x1⟩ := KF.out W k0
  clear HR HA HRa
  go_region_held3 (fun U => U.cell? ⟨w.heap.size, 0, none⟩ = some (.bool ex) ∧ U.cell? ⟨w.heap.size, 1, none⟩ = some (.slice p n cp))
    (first
      | with_reducible exact KF.out _ ((k3.set _ _).set _ _)
      | with_reducible exact KF.out _ (k3.drew.set _ _ |>.set _ _)
      | with_reducible exact KF.out _ k3
      | with_reducible exact KF.out _ k3.drew
      | with_reducible exact KF.out _ k0
      | with_reducible exact KF.out _ k0.drew)
    (first | (go_at_call 48; (with_reducible refine HRb.out.mono ?_); rintro e w3 ⟨v3, rfl, a3, h3, -⟩; have B3 := Lib.hid (show KS w w3 #[.bool ex, .slice p n cp] #[.bool false, .slice none 0 0] 28 from KS.below B.out.drew h3); have A3 := Lib.hid a3; have k3 := B3.out.kq; obtain ⟨p3, c3, rfl⟩ := a3.slice; have y0 := B3.out.cell1 0 rfl; have y1 := B3.out.cell1 1 rfl; have fr := (fun j => B3.out.free1 j); have hz := B3.out.lt; clear a3 h3))
  all_goals
    go_wp2_with fail
    refine bodyPost_ret (v := .agg #[.bool (!ex), .slice p3 rl.length c3]) (by simp [results, Try.results46, go_sem, y0, y1]) rfl ⟨_, rfl, ?_, ?_⟩
    · exact (((A3.out.mono (B' := w.heap.size + 1 + 1) B.out.drew.lt id).store (c := w.heap.size + 1) (by omega)).store (c := w.heap.size + 1) (by omega)).mono (by omega) id
    · exact (B3.out.bel.setCell (p := ⟨w.heap.size + 1, 0, none⟩) (Nat.le_succ _) _).setCell (p := ⟨w.heap.size + 1, 1, none⟩) (Nat.le_succ _) _

end Go.Proofs.Ythpafojeadbjlaa
