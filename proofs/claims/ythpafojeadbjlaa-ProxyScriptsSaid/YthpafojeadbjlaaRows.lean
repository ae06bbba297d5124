/-
  No cell of these rows narrows 'for every input' (looked for: loops, veiled, ifaces, maps, wideKeys, modest, calm, conditions, laid).
  DERIVED. THE GIVEN ROWS OF THIS SEAT. 6 by the template 'for every input the law returns true; each argument reads behind the call as it read before'; 0 by the template 'total and deterministic' (their statements: YthpafojeadbjlaaTotals.lean).
  GIVEN WITH THE SEED: the statements are not yours to turn. If you find one false, say at which input.
  Laid BY PROGRAM, IN A SANDBOX (cutbox-rows.mjs): the forced cells as the released guide's own fill.sh prints them over the translation 733be9e099f73311… (all of the seat's roots in one cut). By AI agents, Wed Nov 11 2026. No macro, syntax, notation, axiom, sorry.
-/
import Derived.Test.YthpafojeadbjlaaChecked
import GoSem.Claim
import GoSem.ClaimJoined
import GoSem.ClaimMapViews
import Derived.JoinedTies
import Derived.KernelRfl
namespace Go.Proofs.Ythpafojeadbjlaa
/- THE CELL 'sum', in the pinned program and in every row, IS THE sha256 OF THE DUMP (.gsa) THAT YthpafojeadbjlaaProg.lean LOADS. Nothing in Lean hashes anything: it is a label: what it is worth is what the hold of that sum in a sandbox is worth. -/
noncomputable def Try.pinned : Pinned := { name := "ythpafojeadbjlaa", sum := "733be9e099f73311341ee1916aaef709a4726a289b45fa545fbbe648c07bd33f", checked := Try.checked }
namespace Rows
def none {H : Type} : Left H := { results := [], args := [] }

/-- 'siphonlaw21.ProxyMerges': WHATEVER THE INPUT: true; the input reads as it did. -/
def proxyMergesSpec : ChangeSpec := { name := "proxyMerges", fn := fun _ => fun
  | [d1, d2] => { results := [.lit (.bool true)], args := [d1, d2] }
  | _ => none }
def proxyMergesRow : OpenClaim := { program := "ythpafojeadbjlaa", sum := "733be9e099f73311341ee1916aaef709a4726a289b45fa545fbbe648c07bd33f", func := "siphon/siphonlaw21.ProxyMerges", spec := "proxyMerges", unfollowed := true, recurses := true, plainKeys := false, apart := false }
def ProxyMergesSaid : Prop := proxyMergesRow.holds Try.pinned (OpenSpec.ofChange proxyMergesSpec)

/-- ITS FALSE NEIGHBOUR: 'it returns false'. Refute it at one input. -/
def proxyMergesWrong : ChangeSpec := { name := "proxyMerges", fn := fun _ => fun
  | [d1, d2] => { results := [.lit (.bool false)], args := [d1, d2] }
  | _ => none }
def ProxyMergesWrongFalsely : Prop := proxyMergesRow.holds Try.pinned (OpenSpec.ofChange proxyMergesWrong)

/-- 'siphonlaw21.ProxyAdmits': WHATEVER THE INPUT: true; the input reads as it did. -/
def proxyAdmitsSpec : ChangeSpec := { name := "proxyAdmits", fn := fun _ => fun
  | [d1, d2, d3] => { results := [.lit (.bool true)], args := [d1, d2, d3] }
  | _ => none }
def proxyAdmitsRow : OpenClaim := { program := "ythpafojeadbjlaa", sum := "733be9e099f73311341ee1916aaef709a4726a289b45fa545fbbe648c07bd33f", func := "siphon/siphonlaw21.ProxyAdmits", spec := "proxyAdmits", unfollowed := true, recurses := true, plainKeys := false, apart := false }
def ProxyAdmitsSaid : Prop := proxyAdmitsRow.holds Try.pinned (OpenSpec.ofChange proxyAdmitsSpec)

/-- ITS FALSE NEIGHBOUR: 'it returns false'. Refute it at one input. -/
def proxyAdmitsWrong : ChangeSpec := { name := "proxyAdmits", fn := fun _ => fun
  | [d1, d2, d3] => { results := [.lit (.bool false)], args := [d1, d2, d3] }
  | _ => none }
def ProxyAdmitsWrongFalsely : Prop := proxyAdmitsRow.holds Try.pinned (OpenSpec.ofChange proxyAdmitsWrong)

/-- 'siphonlaw21.ProxyScripts': WHATEVER THE INPUT: true; the input reads as it did. -/
def proxyScriptsSpec : ChangeSpec := { name := "proxyScripts", fn := fun _ => fun
  | [d1, d2] => { results := [.lit (.bool true)], args := [d1, d2] }
  | _ => none }
def proxyScriptsRow : OpenClaim := { program := "ythpafojeadbjlaa", sum := "733be9e099f73311341ee1916aaef709a4726a289b45fa545fbbe648c07bd33f", func := "siphon/siphonlaw21.ProxyScripts", spec := "proxyScripts", unfollowed := true, recurses := true, plainKeys := false, apart := false }
def ProxyScriptsSaid : Prop := proxyScriptsRow.holds Try.pinned (OpenSpec.ofChange proxyScriptsSpec)

/-- ITS FALSE NEIGHBOUR: 'it returns false'. Refute it at one input. -/
def proxyScriptsWrong : ChangeSpec := { name := "proxyScripts", fn := fun _ => fun
  | [d1, d2] => { results := [.lit (.bool false)], args := [d1, d2] }
  | _ => none }
def ProxyScriptsWrongFalsely : Prop := proxyScriptsRow.holds Try.pinned (OpenSpec.ofChange proxyScriptsWrong)

/-- 'siphonlaw21.ProxyLeads': WHATEVER THE INPUT: true; the input reads as it did. -/
def proxyLeadsSpec : ChangeSpec := { name := "proxyLeads", fn := fun _ => fun
  | [d] => { results := [.lit (.bool true)], args := [d] }
  | _ => none }
def proxyLeadsRow : OpenClaim := { program := "ythpafojeadbjlaa", sum := "733be9e099f73311341ee1916aaef709a4726a289b45fa545fbbe648c07bd33f", func := "siphon/siphonlaw21.ProxyLeads", spec := "proxyLeads", unfollowed := true, recurses := true, plainKeys := false, apart := false }
def ProxyLeadsSaid : Prop := proxyLeadsRow.holds Try.pinned (OpenSpec.ofChange proxyLeadsSpec)

/-- ITS FALSE NEIGHBOUR: 'it returns false'. Refute it at one input. -/
def proxyLeadsWrong : ChangeSpec := { name := "proxyLeads", fn := fun _ => fun
  | [d] => { results := [.lit (.bool false)], args := [d] }
  | _ => none }
def ProxyLeadsWrongFalsely : Prop := proxyLeadsRow.holds Try.pinned (OpenSpec.ofChange proxyLeadsWrong)

/-- 'siphonlaw21.ProxyNil': WHATEVER THE INPUT: true; the input reads as it did. -/
def proxyNilSpec : ChangeSpec := { name := "proxyNil", fn := fun _ => fun
  | [d1, d2, d3] => { results := [.lit (.bool true)], args := [d1, d2, d3] }
  | _ => none }
def proxyNilRow : OpenClaim := { program := "ythpafojeadbjlaa", sum := "733be9e099f73311341ee1916aaef709a4726a289b45fa545fbbe648c07bd33f", func := "siphon/siphonlaw21.ProxyNil", spec := "proxyNil", unfollowed := true, recurses := true, plainKeys := false, apart := false }
def ProxyNilSaid : Prop := proxyNilRow.holds Try.pinned (OpenSpec.ofChange proxyNilSpec)

/-- ITS FALSE NEIGHBOUR: 'it returns false'. Refute it at one input. -/
def proxyNilWrong : ChangeSpec := { name := "proxyNil", fn := fun _ => fun
  | [d1, d2, d3] => { results := [.lit (.bool false)], args := [d1, d2, d3] }
  | _ => none }
def ProxyNilWrongFalsely : Prop := proxyNilRow.holds Try.pinned (OpenSpec.ofChange proxyNilWrong)

/-- 'siphonlaw21.ProxyTurned': WHATEVER THE INPUT: true; the input reads as it did. -/
def proxyTurnedSpec : ChangeSpec := { name := "proxyTurned", fn := fun _ => fun
  | [d1, d2] => { results := [.lit (.bool true)], args := [d1, d2] }
  | _ => none }
def proxyTurnedRow : OpenClaim := { program := "ythpafojeadbjlaa", sum := "733be9e099f73311341ee1916aaef709a4726a289b45fa545fbbe648c07bd33f", func := "siphon/siphonlaw21.ProxyTurned", spec := "proxyTurned", unfollowed := true, recurses := true, plainKeys := false, apart := false }
def ProxyTurnedSaid : Prop := proxyTurnedRow.holds Try.pinned (OpenSpec.ofChange proxyTurnedSpec)

/-- ITS FALSE NEIGHBOUR: 'it returns false'. Refute it at one input. -/
def proxyTurnedWrong : ChangeSpec := { name := "proxyTurned", fn := fun _ => fun
  | [d1, d2] => { results := [.lit (.bool false)], args := [d1, d2] }
  | _ => none }
def ProxyTurnedWrongFalsely : Prop := proxyTurnedRow.holds Try.pinned (OpenSpec.ofChange proxyTurnedWrong)

/- THE SECOND FORM. 'bulk': how many values and letters a reading holds, each counted each time it is reached (what is shared counts as often as it is met; a slice's spare places count too). A statement '..UptoSaid' is the law's where the arguments, and the package variables that the reading takes, are together of bulk at most 1048576: NARROWER than '..Said'. Prove '..Said' where nothing that the law and all that it calls make is longer than what came in: it says more and counts as full. Else prove '..UptoSaid'. A law counts once. -/
mutual
def uptoBulk {H : Type} : DataW H → Nat
  | .lit (.string bytes) => bytes.length + 1
  | .lit _ => 1
  | .nil => 1
  | .ptr d => uptoBulk d + 1
  | .slice elems spare => uptoBulkAll elems + uptoBulkAll spare + 1
  | .agg parts => uptoBulkAll parts + 1
  | .iface _ d => uptoBulk d + 1
  | .map entries => uptoBulkEntries entries + 1
  | .held _ => 1
def uptoBulkAll {H : Type} : List (DataW H) → Nat
  | [] => 0
  | d :: r => uptoBulk d + uptoBulkAll r
def uptoBulkEntries {H : Type} : List (Lit × DataW H) → Nat
  | [] => 0
  | x :: r => uptoBulkEntry x + uptoBulkEntries r
def uptoBulkEntry {H : Type} : Lit × DataW H → Nat
  | (.string bytes, d) => bytes.length + uptoBulk d + 1
  | (_, d) => uptoBulk d + 1
 end
def uptoSmall : (H : Type) → List (DataW H) → Bool := fun _ ds => decide (uptoBulkAll ds ≤ 1048576)
def OpenSpec.upto (s : _root_.Go.ChangeSpec) : _root_.Go.OpenSpec := { _root_.Go.OpenSpec.ofChange s with cond := some uptoSmall }

/-- 'siphonlaw21.ProxyMerges', WHERE WHAT IT READS IS OF BULK AT MOST 1048576: true; the input reads as it did. -/
def proxyMergesUptoRow : OpenClaim := { program := "ythpafojeadbjlaa", sum := "733be9e099f73311341ee1916aaef709a4726a289b45fa545fbbe648c07bd33f", func := "siphon/siphonlaw21.ProxyMerges", spec := "proxyMerges", unfollowed := true, recurses := true, plainKeys := false, apart := false, narrowed := true }
def ProxyMergesUptoSaid : Prop := proxyMergesUptoRow.holds Try.pinned (OpenSpec.upto proxyMergesSpec)

/-- 'siphonlaw21.ProxyAdmits', WHERE WHAT IT READS IS OF BULK AT MOST 1048576: true; the input reads as it did. -/
def proxyAdmitsUptoRow : OpenClaim := { program := "ythpafojeadbjlaa", sum := "733be9e099f73311341ee1916aaef709a4726a289b45fa545fbbe648c07bd33f", func := "siphon/siphonlaw21.ProxyAdmits", spec := "proxyAdmits", unfollowed := true, recurses := true, plainKeys := false, apart := false, narrowed := true }
def ProxyAdmitsUptoSaid : Prop := proxyAdmitsUptoRow.holds Try.pinned (OpenSpec.upto proxyAdmitsSpec)

/-- 'siphonlaw21.ProxyScripts', WHERE WHAT IT READS IS OF BULK AT MOST 1048576: true; the input reads as it did. -/
def proxyScriptsUptoRow : OpenClaim := { program := "ythpafojeadbjlaa", sum := "733be9e099f73311341ee1916aaef709a4726a289b45fa545fbbe648c07bd33f", func := "siphon/siphonlaw21.ProxyScripts", spec := "proxyScripts", unfollowed := true, recurses := true, plainKeys := false, apart := false, narrowed := true }
def ProxyScriptsUptoSaid : Prop := proxyScriptsUptoRow.holds Try.pinned (OpenSpec.upto proxyScriptsSpec)

/-- 'siphonlaw21.ProxyLeads', WHERE WHAT IT READS IS OF BULK AT MOST 1048576: true; the input reads as it did. -/
def proxyLeadsUptoRow : OpenClaim := { program := "ythpafojeadbjlaa", sum := "733be9e099f73311341ee1916aaef709a4726a289b45fa545fbbe648c07bd33f", func := "siphon/siphonlaw21.ProxyLeads", spec := "proxyLeads", unfollowed := true, recurses := true, plainKeys := false, apart := false, narrowed := true }
def ProxyLeadsUptoSaid : Prop := proxyLeadsUptoRow.holds Try.pinned (OpenSpec.upto proxyLeadsSpec)

/-- 'siphonlaw21.ProxyNil', WHERE WHAT IT READS IS OF BULK AT MOST 1048576: true; the input reads as it did. -/
def proxyNilUptoRow : OpenClaim := { program := "ythpafojeadbjlaa", sum := "733be9e099f73311341ee1916aaef709a4726a289b45fa545fbbe648c07bd33f", func := "siphon/siphonlaw21.ProxyNil", spec := "proxyNil", unfollowed := true, recurses := true, plainKeys := false, apart := false, narrowed := true }
def ProxyNilUptoSaid : Prop := proxyNilUptoRow.holds Try.pinned (OpenSpec.upto proxyNilSpec)

/-- 'siphonlaw21.ProxyTurned', WHERE WHAT IT READS IS OF BULK AT MOST 1048576: true; the input reads as it did. -/
def proxyTurnedUptoRow : OpenClaim := { program := "ythpafojeadbjlaa", sum := "733be9e099f73311341ee1916aaef709a4726a289b45fa545fbbe648c07bd33f", func := "siphon/siphonlaw21.ProxyTurned", spec := "proxyTurned", unfollowed := true, recurses := true, plainKeys := false, apart := false, narrowed := true }
def ProxyTurnedUptoSaid : Prop := proxyTurnedUptoRow.holds Try.pinned (OpenSpec.upto proxyTurnedSpec)

end Rows
end Go.Proofs.Ythpafojeadbjlaa
