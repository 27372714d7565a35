/-
  No cell of these rows narrows 'for every input' (looked for: loops, veiled, ifaces, maps, wideKeys, modest, calm, conditions, laid).
  DERIVED. THE GIVEN ROWS OF THIS SEAT. 3 by the template 'for every input the law returns true; each argument reads behind the call as it read before'; 0 by the template 'total and deterministic' (their statements: YtaoomjbkfcbfpaaTotals.lean).
  GIVEN WITH THE SEED: the statements are not yours to turn. If you find one false, say at which input.
  Laid BY PROGRAM, IN A SANDBOX (cutbox-rows.mjs): the forced cells as the released guide's own fill.sh prints them over the translation e281009423056fc5… (all of the seat's roots in one cut). By AI agents, Wed Nov 11 2026. No macro, syntax, notation, axiom, sorry.
-/
import Derived.Test.YtaoomjbkfcbfpaaChecked
import GoSem.Claim
import GoSem.ClaimJoined
import GoSem.ClaimMapViews
import Derived.JoinedTies
import Derived.KernelRfl
namespace Go.Proofs.Ytaoomjbkfcbfpaa
/- THE CELL 'sum', in the pinned program and in every row, IS THE sha256 OF THE DUMP (.gsa) THAT YtaoomjbkfcbfpaaProg.lean LOADS. Nothing in Lean hashes anything: it is a label: what it is worth is what the hold of that sum in a sandbox is worth. -/
noncomputable def Try.pinned : Pinned := { name := "ytaoomjbkfcbfpaa", sum := "e281009423056fc56cf81388922442c6a2adbf4c4f5e45ec06241dbc6f349f63", checked := Try.checked }
namespace Rows
def none {H : Type} : Left H := { results := [], args := [] }

/-- 'nunciolaw12.UnpackReads': WHATEVER THE INPUT: true; the input reads as it did. -/
def unpackReadsSpec : ChangeSpec := { name := "unpackReads", fn := fun _ => fun
  | [d] => { results := [.lit (.bool true)], args := [d] }
  | _ => none }
def unpackReadsRow : OpenClaim := { program := "ytaoomjbkfcbfpaa", sum := "e281009423056fc56cf81388922442c6a2adbf4c4f5e45ec06241dbc6f349f63", func := "nuncio/nunciolaw12.UnpackReads", spec := "unpackReads", inPlace := ["internal/bytealg.IndexByteString", "internal/bytealg.IndexString"], unfollowed := true, recurses := true, named := ["internal/bytealg.MaxLen"], apart := false }
def UnpackReadsSaid : Prop := unpackReadsRow.holds Try.pinned (OpenSpec.ofChange unpackReadsSpec)

/-- ITS FALSE NEIGHBOUR: 'it returns false'. Refute it at one input. -/
def unpackReadsWrong : ChangeSpec := { name := "unpackReads", fn := fun _ => fun
  | [d] => { results := [.lit (.bool false)], args := [d] }
  | _ => none }
def UnpackReadsWrongFalsely : Prop := unpackReadsRow.holds Try.pinned (OpenSpec.ofChange unpackReadsWrong)

/-- 'nunciolaw12.UnpackHolds': WHATEVER THE INPUT: true; the input reads as it did. -/
def unpackHoldsSpec : ChangeSpec := { name := "unpackHolds", fn := fun _ => fun
  | [d] => { results := [.lit (.bool true)], args := [d] }
  | _ => none }
def unpackHoldsRow : OpenClaim := { program := "ytaoomjbkfcbfpaa", sum := "e281009423056fc56cf81388922442c6a2adbf4c4f5e45ec06241dbc6f349f63", func := "nuncio/nunciolaw12.UnpackHolds", spec := "unpackHolds", inPlace := ["internal/bytealg.IndexByteString", "internal/bytealg.IndexString"], unfollowed := true, recurses := true, named := ["internal/bytealg.MaxLen"], apart := false }
def UnpackHoldsSaid : Prop := unpackHoldsRow.holds Try.pinned (OpenSpec.ofChange unpackHoldsSpec)

/-- ITS FALSE NEIGHBOUR: 'it returns false'. Refute it at one input. -/
def unpackHoldsWrong : ChangeSpec := { name := "unpackHolds", fn := fun _ => fun
  | [d] => { results := [.lit (.bool false)], args := [d] }
  | _ => none }
def UnpackHoldsWrongFalsely : Prop := unpackHoldsRow.holds Try.pinned (OpenSpec.ofChange unpackHoldsWrong)

/-- 'nunciolaw12.UnpackParts': WHATEVER THE INPUT: true; the input reads as it did. -/
def unpackPartsSpec : ChangeSpec := { name := "unpackParts", fn := fun _ => fun
  | [d1, d2, d3] => { results := [.lit (.bool true)], args := [d1, d2, d3] }
  | _ => none }
def unpackPartsRow : OpenClaim := { program := "ytaoomjbkfcbfpaa", sum := "e281009423056fc56cf81388922442c6a2adbf4c4f5e45ec06241dbc6f349f63", func := "nuncio/nunciolaw12.UnpackParts", spec := "unpackParts", inPlace := ["internal/bytealg.IndexByteString", "internal/bytealg.IndexString"], unfollowed := true, recurses := true, named := ["internal/bytealg.MaxLen"], apart := false }
def UnpackPartsSaid : Prop := unpackPartsRow.holds Try.pinned (OpenSpec.ofChange unpackPartsSpec)

/-- ITS FALSE NEIGHBOUR: 'it returns false'. Refute it at one input. -/
def unpackPartsWrong : ChangeSpec := { name := "unpackParts", fn := fun _ => fun
  | [d1, d2, d3] => { results := [.lit (.bool false)], args := [d1, d2, d3] }
  | _ => none }
def UnpackPartsWrongFalsely : Prop := unpackPartsRow.holds Try.pinned (OpenSpec.ofChange unpackPartsWrong)

/- THE SECOND FORM. 'bulk': how many values and letters a reading holds, each counted each time it is reached (what is shared counts as often as it is met; a slice's spare places count too). A statement '..UptoSaid' is the law's where the arguments, and the package variables that the reading takes, are together of bulk at most 1048576: NARROWER than '..Said'. Prove '..Said' where nothing that the law and all that it calls make is longer than what came in: it says more and counts as full. Else prove '..UptoSaid'. A law counts once. -/
mutual
def uptoBulk {H : Type} : DataW H → Nat
  | .lit (.string bytes) => bytes.length + 1
  | .lit _ => 1
  | .nil => 1
  | .ptr d => uptoBulk d + 1
  | .slice elems spare => uptoBulkAll elems + uptoBulkAll spare + 1
  | .agg parts => uptoBulkAll parts + 1
  | .iface _ d => uptoBulk d + 1
  | .map entries => uptoBulkEntries entries + 1
  | .held _ => 1
def uptoBulkAll {H : Type} : List (DataW H) → Nat
  | [] => 0
  | d :: r => uptoBulk d + uptoBulkAll r
def uptoBulkEntries {H : Type} : List (Lit × DataW H) → Nat
  | [] => 0
  | x :: r => uptoBulkEntry x + uptoBulkEntries r
def uptoBulkEntry {H : Type} : Lit × DataW H → Nat
  | (.string bytes, d) => bytes.length + uptoBulk d + 1
  | (_, d) => uptoBulk d + 1
 end
def uptoSmall : (H : Type) → List (DataW H) → Bool := fun _ ds => decide (uptoBulkAll ds ≤ 1048576)
def OpenSpec.upto (s : _root_.Go.ChangeSpec) : _root_.Go.OpenSpec := { _root_.Go.OpenSpec.ofChange s with cond := some uptoSmall }

/-- 'nunciolaw12.UnpackReads', WHERE WHAT IT READS IS OF BULK AT MOST 1048576: true; the input reads as it did. -/
def unpackReadsUptoRow : OpenClaim := { program := "ytaoomjbkfcbfpaa", sum := "e281009423056fc56cf81388922442c6a2adbf4c4f5e45ec06241dbc6f349f63", func := "nuncio/nunciolaw12.UnpackReads", spec := "unpackReads", inPlace := ["internal/bytealg.IndexByteString", "internal/bytealg.IndexString"], unfollowed := true, recurses := true, named := ["internal/bytealg.MaxLen"], apart := false, narrowed := true }
def UnpackReadsUptoSaid : Prop := unpackReadsUptoRow.holds Try.pinned (OpenSpec.upto unpackReadsSpec)

/-- 'nunciolaw12.UnpackHolds', WHERE WHAT IT READS IS OF BULK AT MOST 1048576: true; the input reads as it did. -/
def unpackHoldsUptoRow : OpenClaim := { program := "ytaoomjbkfcbfpaa", sum := "e281009423056fc56cf81388922442c6a2adbf4c4f5e45ec06241dbc6f349f63", func := "nuncio/nunciolaw12.UnpackHolds", spec := "unpackHolds", inPlace := ["internal/bytealg.IndexByteString", "internal/bytealg.IndexString"], unfollowed := true, recurses := true, named := ["internal/bytealg.MaxLen"], apart := false, narrowed := true }
def UnpackHoldsUptoSaid : Prop := unpackHoldsUptoRow.holds Try.pinned (OpenSpec.upto unpackHoldsSpec)

/-- 'nunciolaw12.UnpackParts', WHERE WHAT IT READS IS OF BULK AT MOST 1048576: true; the input reads as it did. -/
def unpackPartsUptoRow : OpenClaim := { program := "ytaoomjbkfcbfpaa", sum := "e281009423056fc56cf81388922442c6a2adbf4c4f5e45ec06241dbc6f349f63", func := "nuncio/nunciolaw12.UnpackParts", spec := "unpackParts", inPlace := ["internal/bytealg.IndexByteString", "internal/bytealg.IndexString"], unfollowed := true, recurses := true, named := ["internal/bytealg.MaxLen"], apart := false, narrowed := true }
def UnpackPartsUptoSaid : Prop := unpackPartsUptoRow.holds Try.pinned (OpenSpec.upto unpackPartsSpec)

end Rows
end Go.Proofs.Ytaoomjbkfcbfpaa
