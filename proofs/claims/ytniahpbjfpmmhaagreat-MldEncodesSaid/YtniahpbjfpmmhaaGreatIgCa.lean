/-
  Reports of version 3: igmp.tellingMayBe and mayBe, the writer's records, Encode. Contracts over the translated program.
-/
import Derived.Test.YtniahpbjfpmmhaaGreatIgBt
namespace Go.Proofs.YtniahpbjfpmmhaaGreat
open Go.RowKit
set_option linter.unusedVariables false

def tellRB (g : ByteArray) (L : List Rec) : Bool := decide (g.size = 0) && decide ((bodyI L 4).1 = 0)

def mayRepB (g : ByteArray) (mx : Int) (q : Bool) (rob ev : Int) (ns : Nat) (L : List Rec) : Bool := decide (mx = 0) && !detB q rob ev ns && tellRB g L

def repHead (n : Nat) : List UInt8 := [] ++ bytesOf 34 1 ++ bytesOf 0 1 ++ bytesOf 0 4 ++ bytesOf n 2
def repL (L : List Rec) : List UInt8 := repHead L.length ++ L.flatMap recL
theorem repHead_length (n : Nat) : (repHead n).length = 8 := by
  unfold repHead
  simp only [List.length_append, bytesOf_length, List.length_nil]

theorem body_few {L : List Rec} {Z : Int} (h : (bodyI L Z).1 = 0) : L.length ≤ 30 ∧ ∀ r ∈ L, recB r Z = true := by
  unfold bodyI at h
  split at h
  · simp at h
  · rename_i h1
    split at h
    · rename_i h2
      exact ⟨by omega, List.all_eq_true.1 h2⟩
    · simp at h

end Go.Proofs.YtniahpbjfpmmhaaGreat
