/-
  No cell of these rows narrows 'for every input' (looked for: loops, veiled, ifaces, maps, wideKeys, modest, calm, conditions, laid).
  DERIVED. THE GIVEN ROWS OF THIS SEAT. 7 by the template 'for every input the law returns true; each argument reads behind the call as it read before'; 0 by the template 'total and deterministic' (their statements: YtceilgeefegbmaaTotals.lean).
  GIVEN WITH THE SEED: the statements are not yours to turn. If you find one false, say at which input.
  Laid BY PROGRAM, IN A SANDBOX (cutbox-rows.mjs): the forced cells as the released guide's own fill.sh prints them over the translation 91e718f3b3030fa8… (all of the seat's roots in one cut). By AI agents, Wed Nov 11 2026. No macro, syntax, notation, axiom, sorry.
-/
import Derived.Test.YtceilgeefegbmaaChecked
import GoSem.Claim
import GoSem.ClaimJoined
import GoSem.ClaimMapViews
import Derived.JoinedTies
import Derived.KernelRfl
namespace Go.Proofs.Ytceilgeefegbmaa
/- THE CELL 'sum', in the pinned program and in every row, IS THE sha256 OF THE DUMP (.gsa) THAT YtceilgeefegbmaaProg.lean LOADS. Nothing in Lean hashes anything: it is a label: what it is worth is what the hold of that sum in a sandbox is worth. -/
noncomputable def Try.pinned : Pinned := { name := "ytceilgeefegbmaa", sum := "91e718f3b3030fa8e13e6f526dec01c51c663ad0ea95eb92ec45af4a3e537e11", checked := Try.checked }
namespace Rows
def none {H : Type} : Left H := { results := [], args := [] }

/-- 'siphonlaw17.GroupChecks': WHATEVER THE INPUT: true; the input reads as it did. -/
def groupChecksSpec : ChangeSpec := { name := "groupChecks", fn := fun _ => fun
  | [d1, d2, d3] => { results := [.lit (.bool true)], args := [d1, d2, d3] }
  | _ => none }
def groupChecksRow : OpenClaim := { program := "ytceilgeefegbmaa", sum := "91e718f3b3030fa8e13e6f526dec01c51c663ad0ea95eb92ec45af4a3e537e11", func := "siphon/siphonlaw17.GroupChecks", spec := "groupChecks", unfollowed := true, recurses := true, apart := false }
def GroupChecksSaid : Prop := groupChecksRow.holds Try.pinned (OpenSpec.ofChange groupChecksSpec)

/-- ITS FALSE NEIGHBOUR: 'it returns false'. Refute it at one input. -/
def groupChecksWrong : ChangeSpec := { name := "groupChecks", fn := fun _ => fun
  | [d1, d2, d3] => { results := [.lit (.bool false)], args := [d1, d2, d3] }
  | _ => none }
def GroupChecksWrongFalsely : Prop := groupChecksRow.holds Try.pinned (OpenSpec.ofChange groupChecksWrong)

/-- 'siphonlaw17.GroupApplies': WHATEVER THE INPUT: true; the input reads as it did. -/
def groupAppliesSpec : ChangeSpec := { name := "groupApplies", fn := fun _ => fun
  | [d1, d2] => { results := [.lit (.bool true)], args := [d1, d2] }
  | _ => none }
def groupAppliesRow : OpenClaim := { program := "ytceilgeefegbmaa", sum := "91e718f3b3030fa8e13e6f526dec01c51c663ad0ea95eb92ec45af4a3e537e11", func := "siphon/siphonlaw17.GroupApplies", spec := "groupApplies", unfollowed := true, recurses := true, apart := false }
def GroupAppliesSaid : Prop := groupAppliesRow.holds Try.pinned (OpenSpec.ofChange groupAppliesSpec)

/-- ITS FALSE NEIGHBOUR: 'it returns false'. Refute it at one input. -/
def groupAppliesWrong : ChangeSpec := { name := "groupApplies", fn := fun _ => fun
  | [d1, d2] => { results := [.lit (.bool false)], args := [d1, d2] }
  | _ => none }
def GroupAppliesWrongFalsely : Prop := groupAppliesRow.holds Try.pinned (OpenSpec.ofChange groupAppliesWrong)

/-- 'siphonlaw17.GroupForm': WHATEVER THE INPUT: true; the input reads as it did. -/
def groupFormSpec : ChangeSpec := { name := "groupForm", fn := fun _ => fun
  | [d1, d2, d3] => { results := [.lit (.bool true)], args := [d1, d2, d3] }
  | _ => none }
def groupFormRow : OpenClaim := { program := "ytceilgeefegbmaa", sum := "91e718f3b3030fa8e13e6f526dec01c51c663ad0ea95eb92ec45af4a3e537e11", func := "siphon/siphonlaw17.GroupForm", spec := "groupForm", unfollowed := true, recurses := true, apart := false }
def GroupFormSaid : Prop := groupFormRow.holds Try.pinned (OpenSpec.ofChange groupFormSpec)

/-- ITS FALSE NEIGHBOUR: 'it returns false'. Refute it at one input. -/
def groupFormWrong : ChangeSpec := { name := "groupForm", fn := fun _ => fun
  | [d1, d2, d3] => { results := [.lit (.bool false)], args := [d1, d2, d3] }
  | _ => none }
def GroupFormWrongFalsely : Prop := groupFormRow.holds Try.pinned (OpenSpec.ofChange groupFormWrong)

/-- 'siphonlaw17.GroupWants': WHATEVER THE INPUT: true; the input reads as it did. -/
def groupWantsSpec : ChangeSpec := { name := "groupWants", fn := fun _ => fun
  | [d1, d2, d3] => { results := [.lit (.bool true)], args := [d1, d2, d3] }
  | _ => none }
def groupWantsRow : OpenClaim := { program := "ytceilgeefegbmaa", sum := "91e718f3b3030fa8e13e6f526dec01c51c663ad0ea95eb92ec45af4a3e537e11", func := "siphon/siphonlaw17.GroupWants", spec := "groupWants", unfollowed := true, recurses := true, apart := false }
def GroupWantsSaid : Prop := groupWantsRow.holds Try.pinned (OpenSpec.ofChange groupWantsSpec)

/-- ITS FALSE NEIGHBOUR: 'it returns false'. Refute it at one input. -/
def groupWantsWrong : ChangeSpec := { name := "groupWants", fn := fun _ => fun
  | [d1, d2, d3] => { results := [.lit (.bool false)], args := [d1, d2, d3] }
  | _ => none }
def GroupWantsWrongFalsely : Prop := groupWantsRow.holds Try.pinned (OpenSpec.ofChange groupWantsWrong)

/-- 'siphonlaw17.GroupStays': WHATEVER THE INPUT: true; the input reads as it did. -/
def groupStaysSpec : ChangeSpec := { name := "groupStays", fn := fun _ => fun
  | [d1, d2, d3] => { results := [.lit (.bool true)], args := [d1, d2, d3] }
  | _ => none }
def groupStaysRow : OpenClaim := { program := "ytceilgeefegbmaa", sum := "91e718f3b3030fa8e13e6f526dec01c51c663ad0ea95eb92ec45af4a3e537e11", func := "siphon/siphonlaw17.GroupStays", spec := "groupStays", unfollowed := true, recurses := true, apart := false }
def GroupStaysSaid : Prop := groupStaysRow.holds Try.pinned (OpenSpec.ofChange groupStaysSpec)

/-- ITS FALSE NEIGHBOUR: 'it returns false'. Refute it at one input. -/
def groupStaysWrong : ChangeSpec := { name := "groupStays", fn := fun _ => fun
  | [d1, d2, d3] => { results := [.lit (.bool false)], args := [d1, d2, d3] }
  | _ => none }
def GroupStaysWrongFalsely : Prop := groupStaysRow.holds Try.pinned (OpenSpec.ofChange groupStaysWrong)

/-- 'siphonlaw17.GroupEnds': WHATEVER THE INPUT: true; the input reads as it did. -/
def groupEndsSpec : ChangeSpec := { name := "groupEnds", fn := fun _ => fun
  | [d] => { results := [.lit (.bool true)], args := [d] }
  | _ => none }
def groupEndsRow : OpenClaim := { program := "ytceilgeefegbmaa", sum := "91e718f3b3030fa8e13e6f526dec01c51c663ad0ea95eb92ec45af4a3e537e11", func := "siphon/siphonlaw17.GroupEnds", spec := "groupEnds", unfollowed := true, recurses := true, apart := false }
def GroupEndsSaid : Prop := groupEndsRow.holds Try.pinned (OpenSpec.ofChange groupEndsSpec)

/-- ITS FALSE NEIGHBOUR: 'it returns false'. Refute it at one input. -/
def groupEndsWrong : ChangeSpec := { name := "groupEnds", fn := fun _ => fun
  | [d] => { results := [.lit (.bool false)], args := [d] }
  | _ => none }
def GroupEndsWrongFalsely : Prop := groupEndsRow.holds Try.pinned (OpenSpec.ofChange groupEndsWrong)

/-- 'siphonlaw17.GroupTwice': WHATEVER THE INPUT: true; the input reads as it did. -/
def groupTwiceSpec : ChangeSpec := { name := "groupTwice", fn := fun _ => fun
  | [d1, d2] => { results := [.lit (.bool true)], args := [d1, d2] }
  | _ => none }
def groupTwiceRow : OpenClaim := { program := "ytceilgeefegbmaa", sum := "91e718f3b3030fa8e13e6f526dec01c51c663ad0ea95eb92ec45af4a3e537e11", func := "siphon/siphonlaw17.GroupTwice", spec := "groupTwice", unfollowed := true, recurses := true, apart := false }
def GroupTwiceSaid : Prop := groupTwiceRow.holds Try.pinned (OpenSpec.ofChange groupTwiceSpec)

/-- ITS FALSE NEIGHBOUR: 'it returns false'. Refute it at one input. -/
def groupTwiceWrong : ChangeSpec := { name := "groupTwice", fn := fun _ => fun
  | [d1, d2] => { results := [.lit (.bool false)], args := [d1, d2] }
  | _ => none }
def GroupTwiceWrongFalsely : Prop := groupTwiceRow.holds Try.pinned (OpenSpec.ofChange groupTwiceWrong)

/- THE SECOND FORM. 'bulk': how many values and letters a reading holds, each counted each time it is reached (what is shared counts as often as it is met; a slice's spare places count too). A statement '..UptoSaid' is the law's where the arguments, and the package variables that the reading takes, are together of bulk at most 1048576: NARROWER than '..Said'. Prove '..Said' where nothing that the law and all that it calls make is longer than what came in: it says more and counts as full. Else prove '..UptoSaid'. A law counts once. -/
mutual
def uptoBulk {H : Type} : DataW H → Nat
  | .lit (.string bytes) => bytes.length + 1
  | .lit _ => 1
  | .nil => 1
  | .ptr d => uptoBulk d + 1
  | .slice elems spare => uptoBulkAll elems + uptoBulkAll spare + 1
  | .agg parts => uptoBulkAll parts + 1
  | .iface _ d => uptoBulk d + 1
  | .map entries => uptoBulkEntries entries + 1
  | .held _ => 1
def uptoBulkAll {H : Type} : List (DataW H) → Nat
  | [] => 0
  | d :: r => uptoBulk d + uptoBulkAll r
def uptoBulkEntries {H : Type} : List (Lit × DataW H) → Nat
  | [] => 0
  | x :: r => uptoBulkEntry x + uptoBulkEntries r
def uptoBulkEntry {H : Type} : Lit × DataW H → Nat
  | (.string bytes, d) => bytes.length + uptoBulk d + 1
  | (_, d) => uptoBulk d + 1
 end
def uptoSmall : (H : Type) → List (DataW H) → Bool := fun _ ds => decide (uptoBulkAll ds ≤ 1048576)
def OpenSpec.upto (s : _root_.Go.ChangeSpec) : _root_.Go.OpenSpec := { _root_.Go.OpenSpec.ofChange s with cond := some uptoSmall }

/-- 'siphonlaw17.GroupChecks', WHERE WHAT IT READS IS OF BULK AT MOST 1048576: true; the input reads as it did. -/
def groupChecksUptoRow : OpenClaim := { program := "ytceilgeefegbmaa", sum := "91e718f3b3030fa8e13e6f526dec01c51c663ad0ea95eb92ec45af4a3e537e11", func := "siphon/siphonlaw17.GroupChecks", spec := "groupChecks", unfollowed := true, recurses := true, apart := false, narrowed := true }
def GroupChecksUptoSaid : Prop := groupChecksUptoRow.holds Try.pinned (OpenSpec.upto groupChecksSpec)

/-- 'siphonlaw17.GroupApplies', WHERE WHAT IT READS IS OF BULK AT MOST 1048576: true; the input reads as it did. -/
def groupAppliesUptoRow : OpenClaim := { program := "ytceilgeefegbmaa", sum := "91e718f3b3030fa8e13e6f526dec01c51c663ad0ea95eb92ec45af4a3e537e11", func := "siphon/siphonlaw17.GroupApplies", spec := "groupApplies", unfollowed := true, recurses := true, apart := false, narrowed := true }
def GroupAppliesUptoSaid : Prop := groupAppliesUptoRow.holds Try.pinned (OpenSpec.upto groupAppliesSpec)

/-- 'siphonlaw17.GroupForm', WHERE WHAT IT READS IS OF BULK AT MOST 1048576: true; the input reads as it did. -/
def groupFormUptoRow : OpenClaim := { program := "ytceilgeefegbmaa", sum := "91e718f3b3030fa8e13e6f526dec01c51c663ad0ea95eb92ec45af4a3e537e11", func := "siphon/siphonlaw17.GroupForm", spec := "groupForm", unfollowed := true, recurses := true, apart := false, narrowed := true }
def GroupFormUptoSaid : Prop := groupFormUptoRow.holds Try.pinned (OpenSpec.upto groupFormSpec)

/-- 'siphonlaw17.GroupWants', WHERE WHAT IT READS IS OF BULK AT MOST 1048576: true; the input reads as it did. -/
def groupWantsUptoRow : OpenClaim := { program := "ytceilgeefegbmaa", sum := "91e718f3b3030fa8e13e6f526dec01c51c663ad0ea95eb92ec45af4a3e537e11", func := "siphon/siphonlaw17.GroupWants", spec := "groupWants", unfollowed := true, recurses := true, apart := false, narrowed := true }
def GroupWantsUptoSaid : Prop := groupWantsUptoRow.holds Try.pinned (OpenSpec.upto groupWantsSpec)

/-- 'siphonlaw17.GroupStays', WHERE WHAT IT READS IS OF BULK AT MOST 1048576: true; the input reads as it did. -/
def groupStaysUptoRow : OpenClaim := { program := "ytceilgeefegbmaa", sum := "91e718f3b3030fa8e13e6f526dec01c51c663ad0ea95eb92ec45af4a3e537e11", func := "siphon/siphonlaw17.GroupStays", spec := "groupStays", unfollowed := true, recurses := true, apart := false, narrowed := true }
def GroupStaysUptoSaid : Prop := groupStaysUptoRow.holds Try.pinned (OpenSpec.upto groupStaysSpec)

/-- 'siphonlaw17.GroupEnds', WHERE WHAT IT READS IS OF BULK AT MOST 1048576: true; the input reads as it did. -/
def groupEndsUptoRow : OpenClaim := { program := "ytceilgeefegbmaa", sum := "91e718f3b3030fa8e13e6f526dec01c51c663ad0ea95eb92ec45af4a3e537e11", func := "siphon/siphonlaw17.GroupEnds", spec := "groupEnds", unfollowed := true, recurses := true, apart := false, narrowed := true }
def GroupEndsUptoSaid : Prop := groupEndsUptoRow.holds Try.pinned (OpenSpec.upto groupEndsSpec)

/-- 'siphonlaw17.GroupTwice', WHERE WHAT IT READS IS OF BULK AT MOST 1048576: true; the input reads as it did. -/
def groupTwiceUptoRow : OpenClaim := { program := "ytceilgeefegbmaa", sum := "91e718f3b3030fa8e13e6f526dec01c51c663ad0ea95eb92ec45af4a3e537e11", func := "siphon/siphonlaw17.GroupTwice", spec := "groupTwice", unfollowed := true, recurses := true, apart := false, narrowed := true }
def GroupTwiceUptoSaid : Prop := groupTwiceUptoRow.holds Try.pinned (OpenSpec.upto groupTwiceSpec)

end Rows
end Go.Proofs.Ytceilgeefegbmaa
