/-
  Reading messages: igmp.readOne, readRecords. Contracts over the translated program.
  Reading queries: igmp.groupMayBe and readDetails. Contracts over the translated program.
-/
import Derived.Test.YtniahpbjfpmmhaaGreatIgC
import Derived.Deep.RegionWith
import Derived.Test.YtniahpbjfpmmhaaGreatBits
namespace Go.Proofs.YtniahpbjfpmmhaaGreat
open Go.RowKit
set_option linter.unusedVariables false

theorem recs_c (s : ByteArray) (n Z : Int) (w : World) (hs : s.size ≤ 281474976710000) (n1 : -9223372036854775808 ≤ n) :
    Calls Tryz.prog 72 #[.string s, .int .i64 n, .int .i64 Z] w (RecsPost (recsI s n Z) w) := by
  have HZ := Lib.hid fun U => issize_c Z U
  by_cases h0 : n < 0
  · have V := Lib.hid (show recsI s n Z = (1, []) by unfold recsI; rw [if_pos (.inl h0)])
    go_enter Tryz.func72, Tryz.ntmps72
    go_wp2_with fail
    go_ret2
    unfold RecsPost
    rw [V.out]
    exact ⟨_, rfl, RecsG.nil _ _ _, Below.refl _ _⟩
  · have h0' : 0 ≤ n := by omega
    rcases hz : sizeB Z with _ | _
    · have V := Lib.hid (show recsI s n Z = (1, []) by unfold recsI; rw [if_pos (.inr (by have := of_decide_eq_false hz; omega))])
      rw [hz] at HZ
      clear h0 hz
      go_enter Tryz.func72, Tryz.ntmps72
      go_wp2_with fail
      refine (HZ.out _).mono ?_
      rintro e w1 ⟨rfl, rfl⟩
      go_wp2_with fail
      go_ret2
      unfold RecsPost
      rw [V.out]
      exact ⟨_, rfl, RecsG.nil _ _ _, Below.refl _ _⟩
    · have hZ : Z = 4 ∨ Z = 16 := of_decide_eq_true hz
      by_cases h3 : 30 < n
      · have V := Lib.hid (show recsI s n Z = (3, []) by unfold recsI; rw [if_neg (by omega), if_pos h3])
        rw [hz] at HZ
        clear h0 hz hZ
        go_enter Tryz.func72, Tryz.ntmps72
        go_wp2_with fail
        refine (HZ.out _).mono ?_
        rintro e w1 ⟨rfl, rfl⟩
        go_wp2_with fail
        go_ret2
        unfold RecsPost
        rw [V.out]
        exact ⟨_, rfl, RecsG.nil _ _ _, Below.refl _ _⟩
      · obtain ⟨N, rfl⟩ := Int.eq_ofNat_of_zero_le h0'
        obtain ⟨K, rfl⟩ := Int.eq_ofNat_of_zero_le (show 0 ≤ Z by omega)
        have V : recsI s N K = recsGo s K N 0 := by unfold recsI; rw [if_neg (by omega), if_neg h3]; rfl
        rw [V]
        exact recs_go s N K w hs (by omega) (by omega)

/-- What Decode and its parts answer, given as an error and a message. -/
def MsgPost (t : Int × Msg) (w : World) (e : Ending) (w' : World) : Prop :=
  ∃ vs vr, e = .returned (.tuple #[t.2.val vs vr, .int .i64 t.1]) ∧ AddrsG w.heap.size true w' vs t.2.srcs ∧ RecsG w.heap.size true w' vr t.2.recs ∧ Below w.heap.size w w'
theorem RecsG.storeN9 {c : Nat} {ty : Bool} {w : World} {v : Value} {L : List Rec} (h : RecsG (c + 1) ty w v L) (c' : Nat) (hc : c' < c + 1) {u0 u1 u2 u3 u4 u5 u6 u7 u8 : Value} :
    RecsG c ty (((((((((w.setCell ⟨c', 0, none⟩ u0).setCell ⟨c', 1, none⟩ u1).setCell ⟨c', 2, none⟩ u2).setCell ⟨c', 3, none⟩ u3).setCell ⟨c', 4, none⟩ u4).setCell ⟨c', 5, none⟩ u5).setCell ⟨c', 6, none⟩ u6).setCell ⟨c', 7, none⟩ u7).setCell ⟨c', 8, none⟩ u8) v L :=
  (((((((((h.store hc).store hc).store hc).store hc).store hc).store hc).store hc).store hc).store hc).mono (Nat.le_succ _) id
theorem AddrsG.storeN9 {c : Nat} {ty : Bool} {w : World} {v : Value} {L : List ByteArray} (h : AddrsG (c + 1) ty w v L) (c' : Nat) (hc : c' < c + 1) {u0 u1 u2 u3 u4 u5 u6 u7 u8 : Value} :
    AddrsG c ty (((((((((w.setCell ⟨c', 0, none⟩ u0).setCell ⟨c', 1, none⟩ u1).setCell ⟨c', 2, none⟩ u2).setCell ⟨c', 3, none⟩ u3).setCell ⟨c', 4, none⟩ u4).setCell ⟨c', 5, none⟩ u5).setCell ⟨c', 6, none⟩ u6).setCell ⟨c', 7, none⟩ u7).setCell ⟨c', 8, none⟩ u8) v L :=
  (((((((((h.store hc).store hc).store hc).store hc).store hc).store hc).store hc).store hc).store hc).mono (Nat.le_succ _) id
theorem MsgPost.bad {t : Int × Msg} {w w' : World} {e : Ending} {c : Int} (h : t = (c, zeroM)) (he : e = .returned (.tuple #[.agg #[.int .i64 0, .int .i64 0, .string ⟨#[]⟩, .int .i64 0, .bool false, .int .i64 0, .int .i64 0, .slice none 0 0, .slice none 0 0], .int .i64 c])) (hb : Below w.heap.size w w') : MsgPost t w e w' := by
  subst h
  exact ⟨_, _, he, AddrsG.nil _ _ _, RecsG.nil _ _ _, hb⟩

theorem toList_ne (g : ByteArray) (h : ¬ g.size = 0) : g.toList.isEmpty = false := by
  rw [ByteArray.toList_eq, List.isEmpty_eq_false_iff]
  intro h'
  exact h (by have := congrArg List.length h'; simpa using this)
theorem bytes_empty {g : ByteArray} (h : g.size = 0) : g = ⟨#[]⟩ := ByteArray.ext (Array.eq_empty_of_size_eq_zero h)

/-- Block P holds xs; what lies below it is as in w0. -/
def LB (P : Nat) (w0 : World) (xs : Array Value) (w : World) : Prop := w.heap[P]? = some (.cells xs 28 (0, 0)) ∧ Below P w0 w
theorem LB.below {P : Nat} {w0 w w' : World} {xs : Array Value} (h : LB P w0 xs w) (k : Below w.heap.size w w') : LB P w0 xs w' :=
  ⟨below_block k (lt_of_block h.1) h.1, h.2.trans (k.mono (Nat.le_of_lt (lt_of_block h.1)))⟩
theorem LB.store {P : Nat} {w0 w : World} {xs : Array Value} (h : LB P w0 xs w) (j : Nat) (v : Value) : LB P w0 (xs.setIfInBounds j v) (w.setCell ⟨P, j, none⟩ v) :=
  ⟨heap_store h.1, h.2.setCell (p := ⟨P, j, none⟩) (Nat.le_refl _) _⟩
theorem LB.cell {P : Nat} {w0 w : World} {xs : Array Value} (h : LB P w0 xs w) (j : Nat) {v : Value} (hj : xs[j]? = some v) : w.cell? ⟨P, j, none⟩ = some v := cell_of_block h.1 hj
theorem LB.free {P : Nat} {w0 w : World} {xs : Array Value} (h : LB P w0 xs w) (j : Nat) : w.frozen? ⟨P, j, none⟩ = false := free_of_block h.1
theorem LB.lt {P : Nat} {w0 w : World} {xs : Array Value} (h : LB P w0 xs w) : P < w.heap.size := lt_of_block h.1

/-- The details' error; what they say. -/
def detE (s : ByteArray) : Int :=
  if s.size < 12 then 3 else if 60 < (numv s 10 2).toNat then 3 else if s.size < 12 + (numv s 10 2).toNat * 4 then 2 else 0
def DetPost (s : ByteArray) (P : Nat) (k0 : Int) (g : ByteArray) (w0 : World) (e : Ending) (w' : World) : Prop :=
  e = .returned (.int .i64 (detE s)) ∧ Below P w0 w' ∧ (detE s = 0 → ∃ p cap, LB P w0 #[.int .i64 k0, .int .i64 3, .string g, .int .i64 (decI 4 (byt s 1)).1, .bool (decide (byt s 8 / 8 % 2 = 1)), .int .i64 ((byt s 8 % 8 : Nat) : Int), .int .i64 (decI 4 (byt s 9)).1, .slice p (numv s 10 2).toNat cap, .slice none 0 0] w' ∧ AddrsG (P + 1) true w' (.slice p (numv s 10 2).toNat cap) (addrsL s 12 (numv s 10 2).toNat 4))
theorem DetPost.bad {s : ByteArray} {P : Nat} {k0 : Int} {g : ByteArray} {w0 w' : World} {e : Ending} {c : Int} (h : detE s = c) (hc : c ≠ 0) (he : e = .returned (.int .i64 c)) (hb : Below P w0 w') : DetPost s P k0 g w0 e w' :=
  ⟨by rw [h]; exact he, hb, fun h0 => absurd (h.symm.trans h0) hc⟩

theorem dec8_b (c : Int) (w : World) :
    Calls Tryz.prog 74 #[.int .i64 c] w fun e w' => e = .returned (.tuple #[.int .i64 (decI 4 c).1, .int .i64 (decI 4 c).2]) ∧ Below w.heap.size w w' :=
  (dec8_c c w).mono fun _ _ ⟨h, n, hn⟩ => ⟨h, by rw [hn]; exact below_drewN (Below.refl _ _) _⟩

theorem gnum1_c (s : ByteArray) (A : Nat) (w : World) (hs : s.size ≤ 281474976710000) (h : A < s.size) :
    Calls Tryz.prog 97 #[.string s, .int .i64 A, .int .i64 1] w fun e w' => e = .returned (.int .i64 (byt s A)) ∧ Below w.heap.size w w' := by
  have := gnum_c s A 1 w (by omega) (by omega) (by omega)
  rw [numv_byte s A h, byt_get s A h] at this
  exact this

end Go.Proofs.YtniahpbjfpmmhaaGreat
