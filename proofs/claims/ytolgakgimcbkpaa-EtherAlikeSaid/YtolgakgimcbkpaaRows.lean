/-
  No cell of these rows narrows 'for every input' (looked for: loops, veiled, ifaces, maps, wideKeys, modest, calm, conditions, laid).
  DERIVED. THE GIVEN ROWS OF THIS SEAT. 3 by the template 'for every input the law returns true; each argument reads behind the call as it read before'; 0 by the template 'total and deterministic' (their statements: YtolgakgimcbkpaaTotals.lean).
  GIVEN WITH THE SEED: the statements are not yours to turn. If you find one false, say at which input.
  Laid BY PROGRAM, IN A SANDBOX (cutbox-rows.mjs): the forced cells as the released guide's own fill.sh prints them over the translation 6035acf8f4ccb920… (all of the seat's roots in one cut). By AI agents, Wed Nov 11 2026. No macro, syntax, notation, axiom, sorry.
-/
import Derived.Test.YtolgakgimcbkpaaChecked
import GoSem.Claim
import GoSem.ClaimJoined
import GoSem.ClaimMapViews
import Derived.JoinedTies
import Derived.KernelRfl
namespace Go.Proofs.Ytolgakgimcbkpaa
/- THE CELL 'sum', in the pinned program and in every row, IS THE sha256 OF THE DUMP (.gsa) THAT YtolgakgimcbkpaaProg.lean LOADS. Nothing in Lean hashes anything: it is a label: what it is worth is what the hold of that sum in a sandbox is worth. -/
noncomputable def Try.pinned : Pinned := { name := "ytolgakgimcbkpaa", sum := "6035acf8f4ccb920177d726b87f99fc989bf0d320da585c98c3a005ffb2b6115", checked := Try.checked }
namespace Rows
def none {H : Type} : Left H := { results := [], args := [] }

/-- 'siphonlaw03.EtherAlike': WHATEVER THE INPUT: true; the input reads as it did. -/
def etherAlikeSpec : ChangeSpec := { name := "etherAlike", fn := fun _ => fun
  | [d] => { results := [.lit (.bool true)], args := [d] }
  | _ => none }
def etherAlikeRow : OpenClaim := { program := "ytolgakgimcbkpaa", sum := "6035acf8f4ccb920177d726b87f99fc989bf0d320da585c98c3a005ffb2b6115", func := "siphon/siphonlaw03.EtherAlike", spec := "etherAlike", inPlace := ["internal/abi.NoEscape"], unfollowed := true, recurses := true, apart := false }
def EtherAlikeSaid : Prop := etherAlikeRow.holds Try.pinned (OpenSpec.ofChange etherAlikeSpec)

/-- ITS FALSE NEIGHBOUR: 'it returns false'. Refute it at one input. -/
def etherAlikeWrong : ChangeSpec := { name := "etherAlike", fn := fun _ => fun
  | [d] => { results := [.lit (.bool false)], args := [d] }
  | _ => none }
def EtherAlikeWrongFalsely : Prop := etherAlikeRow.holds Try.pinned (OpenSpec.ofChange etherAlikeWrong)

/-- 'siphonlaw04.Ipv4Turned': WHATEVER THE INPUT: true; the input reads as it did. -/
def ipv4TurnedSpec : ChangeSpec := { name := "ipv4Turned", fn := fun _ => fun
  | [d1, d2] => { results := [.lit (.bool true)], args := [d1, d2] }
  | _ => none }
def ipv4TurnedRow : OpenClaim := { program := "ytolgakgimcbkpaa", sum := "6035acf8f4ccb920177d726b87f99fc989bf0d320da585c98c3a005ffb2b6115", func := "siphon/siphonlaw04.Ipv4Turned", spec := "ipv4Turned", inPlace := ["internal/abi.NoEscape"], unfollowed := true, recurses := true, apart := false }
def Ipv4TurnedSaid : Prop := ipv4TurnedRow.holds Try.pinned (OpenSpec.ofChange ipv4TurnedSpec)

/-- ITS FALSE NEIGHBOUR: 'it returns false'. Refute it at one input. -/
def ipv4TurnedWrong : ChangeSpec := { name := "ipv4Turned", fn := fun _ => fun
  | [d1, d2] => { results := [.lit (.bool false)], args := [d1, d2] }
  | _ => none }
def Ipv4TurnedWrongFalsely : Prop := ipv4TurnedRow.holds Try.pinned (OpenSpec.ofChange ipv4TurnedWrong)

/-- 'siphonlaw04.Ipv4Free': WHATEVER THE INPUT: true; the input reads as it did. -/
def ipv4FreeSpec : ChangeSpec := { name := "ipv4Free", fn := fun _ => fun
  | [d1, d2] => { results := [.lit (.bool true)], args := [d1, d2] }
  | _ => none }
def ipv4FreeRow : OpenClaim := { program := "ytolgakgimcbkpaa", sum := "6035acf8f4ccb920177d726b87f99fc989bf0d320da585c98c3a005ffb2b6115", func := "siphon/siphonlaw04.Ipv4Free", spec := "ipv4Free", inPlace := ["internal/abi.NoEscape"], unfollowed := true, recurses := true, apart := false }
def Ipv4FreeSaid : Prop := ipv4FreeRow.holds Try.pinned (OpenSpec.ofChange ipv4FreeSpec)

/-- ITS FALSE NEIGHBOUR: 'it returns false'. Refute it at one input. -/
def ipv4FreeWrong : ChangeSpec := { name := "ipv4Free", fn := fun _ => fun
  | [d1, d2] => { results := [.lit (.bool false)], args := [d1, d2] }
  | _ => none }
def Ipv4FreeWrongFalsely : Prop := ipv4FreeRow.holds Try.pinned (OpenSpec.ofChange ipv4FreeWrong)

/- THE SECOND FORM. 'bulk': how many values and letters a reading holds, each counted each time it is reached (what is shared counts as often as it is met; a slice's spare places count too). A statement '..UptoSaid' is the law's where the arguments, and the package variables that the reading takes, are together of bulk at most 1048576: NARROWER than '..Said'. Prove '..Said' where nothing that the law and all that it calls make is longer than what came in: it says more and counts as full. Else prove '..UptoSaid'. A law counts once. -/
mutual
def uptoBulk {H : Type} : DataW H → Nat
  | .lit (.string bytes) => bytes.length + 1
  | .lit _ => 1
  | .nil => 1
  | .ptr d => uptoBulk d + 1
  | .slice elems spare => uptoBulkAll elems + uptoBulkAll spare + 1
  | .agg parts => uptoBulkAll parts + 1
  | .iface _ d => uptoBulk d + 1
  | .map entries => uptoBulkEntries entries + 1
  | .held _ => 1
def uptoBulkAll {H : Type} : List (DataW H) → Nat
  | [] => 0
  | d :: r => uptoBulk d + uptoBulkAll r
def uptoBulkEntries {H : Type} : List (Lit × DataW H) → Nat
  | [] => 0
  | x :: r => uptoBulkEntry x + uptoBulkEntries r
def uptoBulkEntry {H : Type} : Lit × DataW H → Nat
  | (.string bytes, d) => bytes.length + uptoBulk d + 1
  | (_, d) => uptoBulk d + 1
 end
def uptoSmall : (H : Type) → List (DataW H) → Bool := fun _ ds => decide (uptoBulkAll ds ≤ 1048576)
def OpenSpec.upto (s : _root_.Go.ChangeSpec) : _root_.Go.OpenSpec := { _root_.Go.OpenSpec.ofChange s with cond := some uptoSmall }

/-- 'siphonlaw03.EtherAlike', WHERE WHAT IT READS IS OF BULK AT MOST 1048576: true; the input reads as it did. -/
def etherAlikeUptoRow : OpenClaim := { program := "ytolgakgimcbkpaa", sum := "6035acf8f4ccb920177d726b87f99fc989bf0d320da585c98c3a005ffb2b6115", func := "siphon/siphonlaw03.EtherAlike", spec := "etherAlike", inPlace := ["internal/abi.NoEscape"], unfollowed := true, recurses := true, apart := false, narrowed := true }
def EtherAlikeUptoSaid : Prop := etherAlikeUptoRow.holds Try.pinned (OpenSpec.upto etherAlikeSpec)

/-- 'siphonlaw04.Ipv4Turned', WHERE WHAT IT READS IS OF BULK AT MOST 1048576: true; the input reads as it did. -/
def ipv4TurnedUptoRow : OpenClaim := { program := "ytolgakgimcbkpaa", sum := "6035acf8f4ccb920177d726b87f99fc989bf0d320da585c98c3a005ffb2b6115", func := "siphon/siphonlaw04.Ipv4Turned", spec := "ipv4Turned", inPlace := ["internal/abi.NoEscape"], unfollowed := true, recurses := true, apart := false, narrowed := true }
def Ipv4TurnedUptoSaid : Prop := ipv4TurnedUptoRow.holds Try.pinned (OpenSpec.upto ipv4TurnedSpec)

/-- 'siphonlaw04.Ipv4Free', WHERE WHAT IT READS IS OF BULK AT MOST 1048576: true; the input reads as it did. -/
def ipv4FreeUptoRow : OpenClaim := { program := "ytolgakgimcbkpaa", sum := "6035acf8f4ccb920177d726b87f99fc989bf0d320da585c98c3a005ffb2b6115", func := "siphon/siphonlaw04.Ipv4Free", spec := "ipv4Free", inPlace := ["internal/abi.NoEscape"], unfollowed := true, recurses := true, apart := false, narrowed := true }
def Ipv4FreeUptoSaid : Prop := ipv4FreeUptoRow.holds Try.pinned (OpenSpec.upto ipv4FreeSpec)

end Rows
end Go.Proofs.Ytolgakgimcbkpaa
