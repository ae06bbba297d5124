/-
  No cell of these rows narrows 'for every input' (looked for: loops, veiled, ifaces, maps, wideKeys, modest, calm, conditions, laid).
  DERIVED. THE GIVEN ROWS OF THIS SEAT. 5 by the template 'for every input the law returns true; each argument reads behind the call as it read before'; 0 by the template 'total and deterministic' (their statements: YtpaehbmhdjnofaaTotals.lean).
  GIVEN WITH THE SEED: the statements are not yours to turn. If you find one false, say at which input.
  Laid BY PROGRAM, IN A SANDBOX (cutbox-rows.mjs): the forced cells as the released guide's own fill.sh prints them over the translation 1fef3717e33a92d1… (all of the seat's roots in one cut). By AI agents, Wed Nov 11 2026. No macro, syntax, notation, axiom, sorry.
-/
import Derived.Test.YtpaehbmhdjnofaaChecked
import GoSem.Claim
import GoSem.ClaimJoined
import GoSem.ClaimMapViews
import Derived.JoinedTies
import Derived.KernelRfl
namespace Go.Proofs.Ytpaehbmhdjnofaa
/- THE CELL 'sum', in the pinned program and in every row, IS THE sha256 OF THE DUMP (.gsa) THAT YtpaehbmhdjnofaaProg.lean LOADS. Nothing in Lean hashes anything: it is a label: what it is worth is what the hold of that sum in a sandbox is worth. -/
noncomputable def Try.pinned : Pinned := { name := "ytpaehbmhdjnofaa", sum := "1fef3717e33a92d15bca2aa0e30d409a2336cf587821e78a48cbe1e1683a91eb", checked := Try.checked }
namespace Rows
def none {H : Type} : Left H := { results := [], args := [] }

/-- 'siphonlaw22.ForwardDecides': WHATEVER THE INPUT: true; the input reads as it did. -/
def forwardDecidesSpec : ChangeSpec := { name := "forwardDecides", fn := fun _ => fun
  | [d] => { results := [.lit (.bool true)], args := [d] }
  | _ => none }
def forwardDecidesRow : OpenClaim := { program := "ytpaehbmhdjnofaa", sum := "1fef3717e33a92d15bca2aa0e30d409a2336cf587821e78a48cbe1e1683a91eb", func := "siphon/siphonlaw22.ForwardDecides", spec := "forwardDecides", unfollowed := true, recurses := true, apart := false }
def ForwardDecidesSaid : Prop := forwardDecidesRow.holds Try.pinned (OpenSpec.ofChange forwardDecidesSpec)

/-- ITS FALSE NEIGHBOUR: 'it returns false'. Refute it at one input. -/
def forwardDecidesWrong : ChangeSpec := { name := "forwardDecides", fn := fun _ => fun
  | [d] => { results := [.lit (.bool false)], args := [d] }
  | _ => none }
def ForwardDecidesWrongFalsely : Prop := forwardDecidesRow.holds Try.pinned (OpenSpec.ofChange forwardDecidesWrong)

/-- 'siphonlaw22.ForwardLocal': WHATEVER THE INPUT: true; the input reads as it did. -/
def forwardLocalSpec : ChangeSpec := { name := "forwardLocal", fn := fun _ => fun
  | [d] => { results := [.lit (.bool true)], args := [d] }
  | _ => none }
def forwardLocalRow : OpenClaim := { program := "ytpaehbmhdjnofaa", sum := "1fef3717e33a92d15bca2aa0e30d409a2336cf587821e78a48cbe1e1683a91eb", func := "siphon/siphonlaw22.ForwardLocal", spec := "forwardLocal", unfollowed := true, recurses := true, apart := false }
def ForwardLocalSaid : Prop := forwardLocalRow.holds Try.pinned (OpenSpec.ofChange forwardLocalSpec)

/-- ITS FALSE NEIGHBOUR: 'it returns false'. Refute it at one input. -/
def forwardLocalWrong : ChangeSpec := { name := "forwardLocal", fn := fun _ => fun
  | [d] => { results := [.lit (.bool false)], args := [d] }
  | _ => none }
def ForwardLocalWrongFalsely : Prop := forwardLocalRow.holds Try.pinned (OpenSpec.ofChange forwardLocalWrong)

/-- 'siphonlaw22.ForwardWithin': WHATEVER THE INPUT: true; the input reads as it did. -/
def forwardWithinSpec : ChangeSpec := { name := "forwardWithin", fn := fun _ => fun
  | [d1, d2] => { results := [.lit (.bool true)], args := [d1, d2] }
  | _ => none }
def forwardWithinRow : OpenClaim := { program := "ytpaehbmhdjnofaa", sum := "1fef3717e33a92d15bca2aa0e30d409a2336cf587821e78a48cbe1e1683a91eb", func := "siphon/siphonlaw22.ForwardWithin", spec := "forwardWithin", unfollowed := true, recurses := true, apart := false }
def ForwardWithinSaid : Prop := forwardWithinRow.holds Try.pinned (OpenSpec.ofChange forwardWithinSpec)

/-- ITS FALSE NEIGHBOUR: 'it returns false'. Refute it at one input. -/
def forwardWithinWrong : ChangeSpec := { name := "forwardWithin", fn := fun _ => fun
  | [d1, d2] => { results := [.lit (.bool false)], args := [d1, d2] }
  | _ => none }
def ForwardWithinWrongFalsely : Prop := forwardWithinRow.holds Try.pinned (OpenSpec.ofChange forwardWithinWrong)

/-- 'siphonlaw22.ForwardMore': WHATEVER THE INPUT: true; the input reads as it did. -/
def forwardMoreSpec : ChangeSpec := { name := "forwardMore", fn := fun _ => fun
  | [d1, d2] => { results := [.lit (.bool true)], args := [d1, d2] }
  | _ => none }
def forwardMoreRow : OpenClaim := { program := "ytpaehbmhdjnofaa", sum := "1fef3717e33a92d15bca2aa0e30d409a2336cf587821e78a48cbe1e1683a91eb", func := "siphon/siphonlaw22.ForwardMore", spec := "forwardMore", unfollowed := true, recurses := true, apart := false }
def ForwardMoreSaid : Prop := forwardMoreRow.holds Try.pinned (OpenSpec.ofChange forwardMoreSpec)

/-- ITS FALSE NEIGHBOUR: 'it returns false'. Refute it at one input. -/
def forwardMoreWrong : ChangeSpec := { name := "forwardMore", fn := fun _ => fun
  | [d1, d2] => { results := [.lit (.bool false)], args := [d1, d2] }
  | _ => none }
def ForwardMoreWrongFalsely : Prop := forwardMoreRow.holds Try.pinned (OpenSpec.ofChange forwardMoreWrong)

/-- 'siphonlaw22.ForwardAll': WHATEVER THE INPUT: true; the input reads as it did. -/
def forwardAllSpec : ChangeSpec := { name := "forwardAll", fn := fun _ => fun
  | [d] => { results := [.lit (.bool true)], args := [d] }
  | _ => none }
def forwardAllRow : OpenClaim := { program := "ytpaehbmhdjnofaa", sum := "1fef3717e33a92d15bca2aa0e30d409a2336cf587821e78a48cbe1e1683a91eb", func := "siphon/siphonlaw22.ForwardAll", spec := "forwardAll", unfollowed := true, recurses := true, apart := false }
def ForwardAllSaid : Prop := forwardAllRow.holds Try.pinned (OpenSpec.ofChange forwardAllSpec)

/-- ITS FALSE NEIGHBOUR: 'it returns false'. Refute it at one input. -/
def forwardAllWrong : ChangeSpec := { name := "forwardAll", fn := fun _ => fun
  | [d] => { results := [.lit (.bool false)], args := [d] }
  | _ => none }
def ForwardAllWrongFalsely : Prop := forwardAllRow.holds Try.pinned (OpenSpec.ofChange forwardAllWrong)

/- THE SECOND FORM. 'bulk': how many values and letters a reading holds, each counted each time it is reached (what is shared counts as often as it is met; a slice's spare places count too). A statement '..UptoSaid' is the law's where the arguments, and the package variables that the reading takes, are together of bulk at most 1048576: NARROWER than '..Said'. Prove '..Said' where nothing that the law and all that it calls make is longer than what came in: it says more and counts as full. Else prove '..UptoSaid'. A law counts once. -/
mutual
def uptoBulk {H : Type} : DataW H → Nat
  | .lit (.string bytes) => bytes.length + 1
  | .lit _ => 1
  | .nil => 1
  | .ptr d => uptoBulk d + 1
  | .slice elems spare => uptoBulkAll elems + uptoBulkAll spare + 1
  | .agg parts => uptoBulkAll parts + 1
  | .iface _ d => uptoBulk d + 1
  | .map entries => uptoBulkEntries entries + 1
  | .held _ => 1
def uptoBulkAll {H : Type} : List (DataW H) → Nat
  | [] => 0
  | d :: r => uptoBulk d + uptoBulkAll r
def uptoBulkEntries {H : Type} : List (Lit × DataW H) → Nat
  | [] => 0
  | x :: r => uptoBulkEntry x + uptoBulkEntries r
def uptoBulkEntry {H : Type} : Lit × DataW H → Nat
  | (.string bytes, d) => bytes.length + uptoBulk d + 1
  | (_, d) => uptoBulk d + 1
 end
def uptoSmall : (H : Type) → List (DataW H) → Bool := fun _ ds => decide (uptoBulkAll ds ≤ 1048576)
def OpenSpec.upto (s : _root_.Go.ChangeSpec) : _root_.Go.OpenSpec := { _root_.Go.OpenSpec.ofChange s with cond := some uptoSmall }

/-- 'siphonlaw22.ForwardDecides', WHERE WHAT IT READS IS OF BULK AT MOST 1048576: true; the input reads as it did. -/
def forwardDecidesUptoRow : OpenClaim := { program := "ytpaehbmhdjnofaa", sum := "1fef3717e33a92d15bca2aa0e30d409a2336cf587821e78a48cbe1e1683a91eb", func := "siphon/siphonlaw22.ForwardDecides", spec := "forwardDecides", unfollowed := true, recurses := true, apart := false, narrowed := true }
def ForwardDecidesUptoSaid : Prop := forwardDecidesUptoRow.holds Try.pinned (OpenSpec.upto forwardDecidesSpec)

/-- 'siphonlaw22.ForwardLocal', WHERE WHAT IT READS IS OF BULK AT MOST 1048576: true; the input reads as it did. -/
def forwardLocalUptoRow : OpenClaim := { program := "ytpaehbmhdjnofaa", sum := "1fef3717e33a92d15bca2aa0e30d409a2336cf587821e78a48cbe1e1683a91eb", func := "siphon/siphonlaw22.ForwardLocal", spec := "forwardLocal", unfollowed := true, recurses := true, apart := false, narrowed := true }
def ForwardLocalUptoSaid : Prop := forwardLocalUptoRow.holds Try.pinned (OpenSpec.upto forwardLocalSpec)

/-- 'siphonlaw22.ForwardWithin', WHERE WHAT IT READS IS OF BULK AT MOST 1048576: true; the input reads as it did. -/
def forwardWithinUptoRow : OpenClaim := { program := "ytpaehbmhdjnofaa", sum := "1fef3717e33a92d15bca2aa0e30d409a2336cf587821e78a48cbe1e1683a91eb", func := "siphon/siphonlaw22.ForwardWithin", spec := "forwardWithin", unfollowed := true, recurses := true, apart := false, narrowed := true }
def ForwardWithinUptoSaid : Prop := forwardWithinUptoRow.holds Try.pinned (OpenSpec.upto forwardWithinSpec)

/-- 'siphonlaw22.ForwardMore', WHERE WHAT IT READS IS OF BULK AT MOST 1048576: true; the input reads as it did. -/
def forwardMoreUptoRow : OpenClaim := { program := "ytpaehbmhdjnofaa", sum := "1fef3717e33a92d15bca2aa0e30d409a2336cf587821e78a48cbe1e1683a91eb", func := "siphon/siphonlaw22.ForwardMore", spec := "forwardMore", unfollowed := true, recurses := true, apart := false, narrowed := true }
def ForwardMoreUptoSaid : Prop := forwardMoreUptoRow.holds Try.pinned (OpenSpec.upto forwardMoreSpec)

/-- 'siphonlaw22.ForwardAll', WHERE WHAT IT READS IS OF BULK AT MOST 1048576: true; the input reads as it did. -/
def forwardAllUptoRow : OpenClaim := { program := "ytpaehbmhdjnofaa", sum := "1fef3717e33a92d15bca2aa0e30d409a2336cf587821e78a48cbe1e1683a91eb", func := "siphon/siphonlaw22.ForwardAll", spec := "forwardAll", unfollowed := true, recurses := true, apart := false, narrowed := true }
def ForwardAllUptoSaid : Prop := forwardAllUptoRow.holds Try.pinned (OpenSpec.upto forwardAllSpec)

end Rows
end Go.Proofs.Ytpaehbmhdjnofaa
