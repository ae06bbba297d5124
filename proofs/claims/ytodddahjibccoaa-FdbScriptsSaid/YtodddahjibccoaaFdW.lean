/-
  siphonlaw13.alike: entries of both. A contract over the translated program.
-/
import Derived.Test.YtodddahjibccoaaFdL
import Derived.Deep.RegionHeld3
namespace Go.Proofs.Ytodddahjibccoaa
open Go Go.Maps Go.WideMaps
open Go.RowKit
set_option linter.unusedVariables false
set_option linter.unusedSimpArgs false

variable {w : World} {B q base : Nat} {room age : Int} {R : List E4} {lv v : Value}
theorem EntF.at' (h : EntF w base v R) : (v = .slice none 0 0 ∧ R = []) ∨ ∃ g cap, v = .slice (some ⟨g, 0, none⟩) R.length cap ∧ ∀ i e, R[i]? = some e → w.cell? ⟨g, i * 4, none⟩ = some (.int .i64 e.1) ∧ w.cell? ⟨g, i * 4 + 1, none⟩ = some (.string e.2.1) ∧ w.cell? ⟨g, i * 4 + 2, none⟩ = some (.int .i64 e.2.2.1) ∧ w.cell? ⟨g, i * 4 + 3, none⟩ = some (.int .i64 e.2.2.2) := by
  rcases h with h | ⟨g, cap, e, _, _, hc⟩
  · exact Or.inl h
  · exact Or.inr ⟨g, cap, e, fun i x hx => (hc i x hx).1⟩

set_option maxHeartbeats 8000000 in
set_option maxRecDepth 100000 in
theorem alike_c (he : EntF w base v R) (h : HasR w B q room age R lv) (hl : R.length < 1000000000) :
    Calls Try.prog 12 #[v, lv] w fun e w' => e = .returned (.bool true) ∧ ∃ n, w' = w.drewN n := by
  obtain ⟨p, off, cap, rfl, hc⟩ := h.rows
  have HC := Lib.hid hc
  clear hc h
  rcases EntF.at' he with ⟨rfl, rfl⟩ | ⟨g, cap2, rfl, hd⟩
  · clear he HC
    simp only [List.length_nil]
    go_enter Try.func12, Try.ntmps12
    go_wp2
    go_loopw [5] (fun s wr => s = .int .i64 0 ∧ ∃ n : Nat, wr = w.drewN n) (fun s _ => 0)
    case atStart => exact ⟨rfl, 0, rfl⟩
    case round =>
      obtain ⟨rfl, n, rfl⟩ := hrel
      go_wp2
      go_ret
      exact ⟨rfl, n, rfl⟩
  · have HD := Lib.hid hd
    clear he hd
    go_enter Try.func12, Try.ntmps12
    go_wp2
    go_loopw [5] (fun s wr => ∃ (k n : Nat), k ≤ R.length ∧ s = .int .i64 k ∧ wr = w.drewN n) (fun s _ => R.length - (intOf s).toNat)
    case atStart => exact ⟨0, 0, Nat.zero_le _, rfl, rfl⟩
    case round =>
      obtain ⟨k, n, hk, rfl, rfl⟩ := hrel
      by_cases hlt : k < R.length
      · obtain ⟨x, hx⟩ := some_at hlt
        obtain ⟨g2, rfl, x0, x1, x2, x3⟩ := HC.out k x hx
        obtain ⟨y0, y1, y2, y3⟩ := HD.out k x hx
        have hlt' : (k : Int) < (R.length : Int) := by omega
        simp only [Option.map_some]
        have g1 := fun t => (show binOp .neq t (.string x.2.1) (.string x.2.1) = pure (.bool false) from sneq_of (decide_eq_true rfl) t)
        have b1 : (x.1 != x.1) = false := by simp
        have b2 : (x.2.2.1 != x.2.2.1) = false := by simp
        have b3 : (x.2.2.2 != x.2.2.2) = false := by simp
        clear hx HC HD
        go_wp2
        go_quiet (fail)
        go_wp2
        go_roundw
        case rel => exact ⟨k + 1, _, by omega, by go_num, rfl⟩
        case measure => simp [intOf] <;> omega
      · obtain rfl : k = R.length := by omega
        have hlt' : decide ((R.length : Int) < (R.length : Int)) = false := by simp
        go_wp2
        go_ret
        exact ⟨rfl, n, rfl⟩

end Go.Proofs.Ytodddahjibccoaa
