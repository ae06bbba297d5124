/-
  No cell of these rows narrows 'for every input' (looked for: loops, veiled, ifaces, maps, wideKeys, modest, calm, conditions, laid).
  DERIVED. THE GIVEN ROWS OF THIS SEAT. 6 by the template 'for every input the law returns true; each argument reads behind the call as it read before'; 0 by the template 'total and deterministic' (their statements: YtkjkndpglbcgfaaTotals.lean).
  GIVEN WITH THE SEED: the statements are not yours to turn. If you find one false, say at which input.
  Laid BY PROGRAM, IN A SANDBOX (cutbox-rows.mjs): the forced cells as the released guide's own fill.sh prints them over the translation c48ee35038d645b7… (all of the seat's roots in one cut). By AI agents, Wed Nov 11 2026. No macro, syntax, notation, axiom, sorry.
-/
import Derived.Test.YtkjkndpglbcgfaaChecked
import GoSem.Claim
import GoSem.ClaimJoined
import GoSem.ClaimMapViews
import Derived.JoinedTies
import Derived.KernelRfl
namespace Go.Proofs.Ytkjkndpglbcgfaa
/- THE CELL 'sum', in the pinned program and in every row, IS THE sha256 OF THE DUMP (.gsa) THAT YtkjkndpglbcgfaaProg.lean LOADS. Nothing in Lean hashes anything: it is a label: what it is worth is what the hold of that sum in a sandbox is worth. -/
noncomputable def Try.pinned : Pinned := { name := "ytkjkndpglbcgfaa", sum := "c48ee35038d645b727ca1487d9261a20086a0a3466d0a4404902590bb6cd9243", checked := Try.checked }
namespace Rows
def none {H : Type} : Left H := { results := [], args := [] }

/-- 'siphonlaw11.FilterNorms': WHATEVER THE INPUT: true; the input reads as it did. -/
def filterNormsSpec : ChangeSpec := { name := "filterNorms", fn := fun _ => fun
  | [d1, d2] => { results := [.lit (.bool true)], args := [d1, d2] }
  | _ => none }
def filterNormsRow : OpenClaim := { program := "ytkjkndpglbcgfaa", sum := "c48ee35038d645b727ca1487d9261a20086a0a3466d0a4404902590bb6cd9243", func := "siphon/siphonlaw11.FilterNorms", spec := "filterNorms", unfollowed := true, recurses := true, apart := false }
def FilterNormsSaid : Prop := filterNormsRow.holds Try.pinned (OpenSpec.ofChange filterNormsSpec)

/-- ITS FALSE NEIGHBOUR: 'it returns false'. Refute it at one input. -/
def filterNormsWrong : ChangeSpec := { name := "filterNorms", fn := fun _ => fun
  | [d1, d2] => { results := [.lit (.bool false)], args := [d1, d2] }
  | _ => none }
def FilterNormsWrongFalsely : Prop := filterNormsRow.holds Try.pinned (OpenSpec.ofChange filterNormsWrong)

/-- 'siphonlaw11.FilterMakes': WHATEVER THE INPUT: true; the input reads as it did. -/
def filterMakesSpec : ChangeSpec := { name := "filterMakes", fn := fun _ => fun
  | [d1, d2] => { results := [.lit (.bool true)], args := [d1, d2] }
  | _ => none }
def filterMakesRow : OpenClaim := { program := "ytkjkndpglbcgfaa", sum := "c48ee35038d645b727ca1487d9261a20086a0a3466d0a4404902590bb6cd9243", func := "siphon/siphonlaw11.FilterMakes", spec := "filterMakes", unfollowed := true, recurses := true, apart := false }
def FilterMakesSaid : Prop := filterMakesRow.holds Try.pinned (OpenSpec.ofChange filterMakesSpec)

/-- ITS FALSE NEIGHBOUR: 'it returns false'. Refute it at one input. -/
def filterMakesWrong : ChangeSpec := { name := "filterMakes", fn := fun _ => fun
  | [d1, d2] => { results := [.lit (.bool false)], args := [d1, d2] }
  | _ => none }
def FilterMakesWrongFalsely : Prop := filterMakesRow.holds Try.pinned (OpenSpec.ofChange filterMakesWrong)

/-- 'siphonlaw11.FilterAdmits': WHATEVER THE INPUT: true; the input reads as it did. -/
def filterAdmitsSpec : ChangeSpec := { name := "filterAdmits", fn := fun _ => fun
  | [d1, d2, d3] => { results := [.lit (.bool true)], args := [d1, d2, d3] }
  | _ => none }
def filterAdmitsRow : OpenClaim := { program := "ytkjkndpglbcgfaa", sum := "c48ee35038d645b727ca1487d9261a20086a0a3466d0a4404902590bb6cd9243", func := "siphon/siphonlaw11.FilterAdmits", spec := "filterAdmits", unfollowed := true, recurses := true, apart := false }
def FilterAdmitsSaid : Prop := filterAdmitsRow.holds Try.pinned (OpenSpec.ofChange filterAdmitsSpec)

/-- ITS FALSE NEIGHBOUR: 'it returns false'. Refute it at one input. -/
def filterAdmitsWrong : ChangeSpec := { name := "filterAdmits", fn := fun _ => fun
  | [d1, d2, d3] => { results := [.lit (.bool false)], args := [d1, d2, d3] }
  | _ => none }
def FilterAdmitsWrongFalsely : Prop := filterAdmitsRow.holds Try.pinned (OpenSpec.ofChange filterAdmitsWrong)

/-- 'siphonlaw11.FilterSets': WHATEVER THE INPUT: true; the input reads as it did. -/
def filterSetsSpec : ChangeSpec := { name := "filterSets", fn := fun _ => fun
  | [d1, d2, d3] => { results := [.lit (.bool true)], args := [d1, d2, d3] }
  | _ => none }
def filterSetsRow : OpenClaim := { program := "ytkjkndpglbcgfaa", sum := "c48ee35038d645b727ca1487d9261a20086a0a3466d0a4404902590bb6cd9243", func := "siphon/siphonlaw11.FilterSets", spec := "filterSets", unfollowed := true, recurses := true, apart := false }
def FilterSetsSaid : Prop := filterSetsRow.holds Try.pinned (OpenSpec.ofChange filterSetsSpec)

/-- ITS FALSE NEIGHBOUR: 'it returns false'. Refute it at one input. -/
def filterSetsWrong : ChangeSpec := { name := "filterSets", fn := fun _ => fun
  | [d1, d2, d3] => { results := [.lit (.bool false)], args := [d1, d2, d3] }
  | _ => none }
def FilterSetsWrongFalsely : Prop := filterSetsRow.holds Try.pinned (OpenSpec.ofChange filterSetsWrong)

/-- 'siphonlaw11.FilterDiffs': WHATEVER THE INPUT: true; the input reads as it did. -/
def filterDiffsSpec : ChangeSpec := { name := "filterDiffs", fn := fun _ => fun
  | [d1, d2, d3] => { results := [.lit (.bool true)], args := [d1, d2, d3] }
  | _ => none }
def filterDiffsRow : OpenClaim := { program := "ytkjkndpglbcgfaa", sum := "c48ee35038d645b727ca1487d9261a20086a0a3466d0a4404902590bb6cd9243", func := "siphon/siphonlaw11.FilterDiffs", spec := "filterDiffs", unfollowed := true, recurses := true, apart := false }
def FilterDiffsSaid : Prop := filterDiffsRow.holds Try.pinned (OpenSpec.ofChange filterDiffsSpec)

/-- ITS FALSE NEIGHBOUR: 'it returns false'. Refute it at one input. -/
def filterDiffsWrong : ChangeSpec := { name := "filterDiffs", fn := fun _ => fun
  | [d1, d2, d3] => { results := [.lit (.bool false)], args := [d1, d2, d3] }
  | _ => none }
def FilterDiffsWrongFalsely : Prop := filterDiffsRow.holds Try.pinned (OpenSpec.ofChange filterDiffsWrong)

/-- 'siphonlaw11.FilterLeads': WHATEVER THE INPUT: true; the input reads as it did. -/
def filterLeadsSpec : ChangeSpec := { name := "filterLeads", fn := fun _ => fun
  | [d1, d2] => { results := [.lit (.bool true)], args := [d1, d2] }
  | _ => none }
def filterLeadsRow : OpenClaim := { program := "ytkjkndpglbcgfaa", sum := "c48ee35038d645b727ca1487d9261a20086a0a3466d0a4404902590bb6cd9243", func := "siphon/siphonlaw11.FilterLeads", spec := "filterLeads", unfollowed := true, recurses := true, apart := false }
def FilterLeadsSaid : Prop := filterLeadsRow.holds Try.pinned (OpenSpec.ofChange filterLeadsSpec)

/-- ITS FALSE NEIGHBOUR: 'it returns false'. Refute it at one input. -/
def filterLeadsWrong : ChangeSpec := { name := "filterLeads", fn := fun _ => fun
  | [d1, d2] => { results := [.lit (.bool false)], args := [d1, d2] }
  | _ => none }
def FilterLeadsWrongFalsely : Prop := filterLeadsRow.holds Try.pinned (OpenSpec.ofChange filterLeadsWrong)

/- THE SECOND FORM. 'bulk': how many values and letters a reading holds, each counted each time it is reached (what is shared counts as often as it is met; a slice's spare places count too). A statement '..UptoSaid' is the law's where the arguments, and the package variables that the reading takes, are together of bulk at most 1048576: NARROWER than '..Said'. Prove '..Said' where nothing that the law and all that it calls make is longer than what came in: it says more and counts as full. Else prove '..UptoSaid'. A law counts once. -/
mutual
def uptoBulk {H : Type} : DataW H → Nat
  | .lit (.string bytes) => bytes.length + 1
  | .lit _ => 1
  | .nil => 1
  | .ptr d => uptoBulk d + 1
  | .slice elems spare => uptoBulkAll elems + uptoBulkAll spare + 1
  | .agg parts => uptoBulkAll parts + 1
  | .iface _ d => uptoBulk d + 1
  | .map entries => uptoBulkEntries entries + 1
  | .held _ => 1
def uptoBulkAll {H : Type} : List (DataW H) → Nat
  | [] => 0
  | d :: r => uptoBulk d + uptoBulkAll r
def uptoBulkEntries {H : Type} : List (Lit × DataW H) → Nat
  | [] => 0
  | x :: r => uptoBulkEntry x + uptoBulkEntries r
def uptoBulkEntry {H : Type} : Lit × DataW H → Nat
  | (.string bytes, d) => bytes.length + uptoBulk d + 1
  | (_, d) => uptoBulk d + 1
 end
def uptoSmall : (H : Type) → List (DataW H) → Bool := fun _ ds => decide (uptoBulkAll ds ≤ 1048576)
def OpenSpec.upto (s : _root_.Go.ChangeSpec) : _root_.Go.OpenSpec := { _root_.Go.OpenSpec.ofChange s with cond := some uptoSmall }

/-- 'siphonlaw11.FilterNorms', WHERE WHAT IT READS IS OF BULK AT MOST 1048576: true; the input reads as it did. -/
def filterNormsUptoRow : OpenClaim := { program := "ytkjkndpglbcgfaa", sum := "c48ee35038d645b727ca1487d9261a20086a0a3466d0a4404902590bb6cd9243", func := "siphon/siphonlaw11.FilterNorms", spec := "filterNorms", unfollowed := true, recurses := true, apart := false, narrowed := true }
def FilterNormsUptoSaid : Prop := filterNormsUptoRow.holds Try.pinned (OpenSpec.upto filterNormsSpec)

/-- 'siphonlaw11.FilterMakes', WHERE WHAT IT READS IS OF BULK AT MOST 1048576: true; the input reads as it did. -/
def filterMakesUptoRow : OpenClaim := { program := "ytkjkndpglbcgfaa", sum := "c48ee35038d645b727ca1487d9261a20086a0a3466d0a4404902590bb6cd9243", func := "siphon/siphonlaw11.FilterMakes", spec := "filterMakes", unfollowed := true, recurses := true, apart := false, narrowed := true }
def FilterMakesUptoSaid : Prop := filterMakesUptoRow.holds Try.pinned (OpenSpec.upto filterMakesSpec)

/-- 'siphonlaw11.FilterAdmits', WHERE WHAT IT READS IS OF BULK AT MOST 1048576: true; the input reads as it did. -/
def filterAdmitsUptoRow : OpenClaim := { program := "ytkjkndpglbcgfaa", sum := "c48ee35038d645b727ca1487d9261a20086a0a3466d0a4404902590bb6cd9243", func := "siphon/siphonlaw11.FilterAdmits", spec := "filterAdmits", unfollowed := true, recurses := true, apart := false, narrowed := true }
def FilterAdmitsUptoSaid : Prop := filterAdmitsUptoRow.holds Try.pinned (OpenSpec.upto filterAdmitsSpec)

/-- 'siphonlaw11.FilterSets', WHERE WHAT IT READS IS OF BULK AT MOST 1048576: true; the input reads as it did. -/
def filterSetsUptoRow : OpenClaim := { program := "ytkjkndpglbcgfaa", sum := "c48ee35038d645b727ca1487d9261a20086a0a3466d0a4404902590bb6cd9243", func := "siphon/siphonlaw11.FilterSets", spec := "filterSets", unfollowed := true, recurses := true, apart := false, narrowed := true }
def FilterSetsUptoSaid : Prop := filterSetsUptoRow.holds Try.pinned (OpenSpec.upto filterSetsSpec)

/-- 'siphonlaw11.FilterDiffs', WHERE WHAT IT READS IS OF BULK AT MOST 1048576: true; the input reads as it did. -/
def filterDiffsUptoRow : OpenClaim := { program := "ytkjkndpglbcgfaa", sum := "c48ee35038d645b727ca1487d9261a20086a0a3466d0a4404902590bb6cd9243", func := "siphon/siphonlaw11.FilterDiffs", spec := "filterDiffs", unfollowed := true, recurses := true, apart := false, narrowed := true }
def FilterDiffsUptoSaid : Prop := filterDiffsUptoRow.holds Try.pinned (OpenSpec.upto filterDiffsSpec)

/-- 'siphonlaw11.FilterLeads', WHERE WHAT IT READS IS OF BULK AT MOST 1048576: true; the input reads as it did. -/
def filterLeadsUptoRow : OpenClaim := { program := "ytkjkndpglbcgfaa", sum := "c48ee35038d645b727ca1487d9261a20086a0a3466d0a4404902590bb6cd9243", func := "siphon/siphonlaw11.FilterLeads", spec := "filterLeads", unfollowed := true, recurses := true, apart := false, narrowed := true }
def FilterLeadsUptoSaid : Prop := filterLeadsUptoRow.holds Try.pinned (OpenSpec.upto filterLeadsSpec)

end Rows
end Go.Proofs.Ytkjkndpglbcgfaa
