/-
  Reading messages: igmp.readOne, readRecords. Contracts over the translated program.
-/
import Derived.Test.YtnfngmclomjimaaIgC
import Derived.Deep.RegionWith
namespace Go.Proofs.Ytnfngmclomjimaa
open Go.RowKit
set_option linter.unusedVariables false

theorem recs_c (s : ByteArray) (n Z : Int) (w : World) (hs : s.size ≤ 281474976710000) (n1 : -9223372036854775808 ≤ n) :
    Calls Try.prog 54 #[.string s, .int .i64 n, .int .i64 Z] w (RecsPost (recsI s n Z) w) := by
  have HZ := Lib.hid fun U => issize_c Z U
  by_cases h0 : n < 0
  · have V := Lib.hid (show recsI s n Z = (1, []) by unfold recsI; rw [if_pos (.inl h0)])
    go_enter Try.func54, Try.ntmps54
    go_wp2_with fail
    go_ret2
    unfold RecsPost
    rw [V.out]
    exact ⟨_, rfl, RecsG.nil _ _ _, Below.refl _ _⟩
  · have h0' : 0 ≤ n := by omega
    rcases hz : sizeB Z with _ | _
    · have V := Lib.hid (show recsI s n Z = (1, []) by unfold recsI; rw [if_pos (.inr (by have := of_decide_eq_false hz; omega))])
      rw [hz] at HZ
      clear h0 hz
      go_enter Try.func54, Try.ntmps54
      go_wp2_with fail
      refine (HZ.out _).mono ?_
      rintro e w1 ⟨rfl, rfl⟩
      go_wp2_with fail
      go_ret2
      unfold RecsPost
      rw [V.out]
      exact ⟨_, rfl, RecsG.nil _ _ _, Below.refl _ _⟩
    · have hZ : Z = 4 ∨ Z = 16 := of_decide_eq_true hz
      by_cases h3 : 30 < n
      · have V := Lib.hid (show recsI s n Z = (3, []) by unfold recsI; rw [if_neg (by omega), if_pos h3])
        rw [hz] at HZ
        clear h0 hz hZ
        go_enter Try.func54, Try.ntmps54
        go_wp2_with fail
        refine (HZ.out _).mono ?_
        rintro e w1 ⟨rfl, rfl⟩
        go_wp2_with fail
        go_ret2
        unfold RecsPost
        rw [V.out]
        exact ⟨_, rfl, RecsG.nil _ _ _, Below.refl _ _⟩
      · obtain ⟨N, rfl⟩ := Int.eq_ofNat_of_zero_le h0'
        obtain ⟨K, rfl⟩ := Int.eq_ofNat_of_zero_le (show 0 ≤ Z by omega)
        have V : recsI s N K = recsGo s K N 0 := by unfold recsI; rw [if_neg (by omega), if_neg h3]; rfl
        rw [V]
        exact recs_go s N K w hs (by omega) (by omega)

/-- What Decode and its parts answer, given as an error and a message. -/
def MsgPost (t : Int × Msg) (w : World) (e : Ending) (w' : World) : Prop :=
  ∃ vs vr, e = .returned (.tuple #[t.2.val vs vr, .int .i64 t.1]) ∧ AddrsG w.heap.size true w' vs t.2.srcs ∧ RecsG w.heap.size true w' vr t.2.recs ∧ Below w.heap.size w w'
theorem RecsG.storeN9 {c : Nat} {ty : Bool} {w : World} {v : Value} {L : List Rec} (h : RecsG (c + 1) ty w v L) (c' : Nat) (hc : c' < c + 1) {u0 u1 u2 u3 u4 u5 u6 u7 u8 : Value} :
    RecsG c ty (((((((((w.setCell ⟨c', 0, none⟩ u0).setCell ⟨c', 1, none⟩ u1).setCell ⟨c', 2, none⟩ u2).setCell ⟨c', 3, none⟩ u3).setCell ⟨c', 4, none⟩ u4).setCell ⟨c', 5, none⟩ u5).setCell ⟨c', 6, none⟩ u6).setCell ⟨c', 7, none⟩ u7).setCell ⟨c', 8, none⟩ u8) v L :=
  (((((((((h.store hc).store hc).store hc).store hc).store hc).store hc).store hc).store hc).store hc).mono (Nat.le_succ _) id
theorem AddrsG.storeN9 {c : Nat} {ty : Bool} {w : World} {v : Value} {L : List ByteArray} (h : AddrsG (c + 1) ty w v L) (c' : Nat) (hc : c' < c + 1) {u0 u1 u2 u3 u4 u5 u6 u7 u8 : Value} :
    AddrsG c ty (((((((((w.setCell ⟨c', 0, none⟩ u0).setCell ⟨c', 1, none⟩ u1).setCell ⟨c', 2, none⟩ u2).setCell ⟨c', 3, none⟩ u3).setCell ⟨c', 4, none⟩ u4).setCell ⟨c', 5, none⟩ u5).setCell ⟨c', 6, none⟩ u6).setCell ⟨c', 7, none⟩ u7).setCell ⟨c', 8, none⟩ u8) v L :=
  (((((((((h.store hc).store hc).store hc).store hc).store hc).store hc).store hc).store hc).store hc).mono (Nat.le_succ _) id
theorem MsgPost.bad {t : Int × Msg} {w w' : World} {e : Ending} {c : Int} (h : t = (c, zeroM)) (he : e = .returned (.tuple #[.agg #[.int .i64 0, .int .i64 0, .string ⟨#[]⟩, .int .i64 0, .bool false, .int .i64 0, .int .i64 0, .slice none 0 0, .slice none 0 0], .int .i64 c])) (hb : Below w.heap.size w w') : MsgPost t w e w' := by
  subst h
  exact ⟨_, _, he, AddrsG.nil _ _ _, RecsG.nil _ _ _, hb⟩

end Go.Proofs.Ytnfngmclomjimaa
