/-
  No cell of these rows narrows 'for every input' (looked for: loops, veiled, ifaces, maps, wideKeys, modest, calm, conditions, laid).
  DERIVED. THE GIVEN ROWS OF THIS SEAT. 5 by the template 'for every input the law returns true; each argument reads behind the call as it read before'; 0 by the template 'total and deterministic' (their statements: YtahemaondkjpiaaTotals.lean).
  GIVEN WITH THE SEED: the statements are not yours to turn. If you find one false, say at which input.
  Laid BY PROGRAM, IN A SANDBOX (cutbox-rows.mjs): the forced cells as the released guide's own fill.sh prints them over the translation 06572ed90f4c3800… (all of the seat's roots in one cut). By AI agents, Wed Nov 11 2026. No macro, syntax, notation, axiom, sorry.
-/
import Derived.Test.YtahemaondkjpiaaChecked
import GoSem.Claim
import GoSem.ClaimJoined
import GoSem.ClaimMapViews
import Derived.JoinedTies
import Derived.KernelRfl
namespace Go.Proofs.Ytahemaondkjpiaa
/- THE CELL 'sum', in the pinned program and in every row, IS THE sha256 OF THE DUMP (.gsa) THAT YtahemaondkjpiaaProg.lean LOADS. Nothing in Lean hashes anything: it is a label: what it is worth is what the hold of that sum in a sandbox is worth. -/
noncomputable def Try.pinned : Pinned := { name := "ytahemaondkjpiaa", sum := "06572ed90f4c3800af41681caccce3955d6c2191d56bbc5793766e0792873d96", checked := Try.checked }
namespace Rows
def none {H : Type} : Left H := { results := [], args := [] }

/-- 'signalbrokerlaw03.FrameEncodes': WHATEVER THE INPUT: true; the input reads as it did. -/
def frameEncodesSpec : ChangeSpec := { name := "frameEncodes", fn := fun _ => fun
  | [d1, d2, d3] => { results := [.lit (.bool true)], args := [d1, d2, d3] }
  | _ => none }
def frameEncodesRow : OpenClaim := { program := "ytahemaondkjpiaa", sum := "06572ed90f4c3800af41681caccce3955d6c2191d56bbc5793766e0792873d96", func := "signalbroker/signalbrokerlaw03.FrameEncodes", spec := "frameEncodes", apart := false }
def FrameEncodesSaid : Prop := frameEncodesRow.holds Try.pinned (OpenSpec.ofChange frameEncodesSpec)

/-- ITS FALSE NEIGHBOUR: 'it returns false'. Refute it at one input. -/
def frameEncodesWrong : ChangeSpec := { name := "frameEncodes", fn := fun _ => fun
  | [d1, d2, d3] => { results := [.lit (.bool false)], args := [d1, d2, d3] }
  | _ => none }
def FrameEncodesWrongFalsely : Prop := frameEncodesRow.holds Try.pinned (OpenSpec.ofChange frameEncodesWrong)

/-- 'signalbrokerlaw03.FrameParses': WHATEVER THE INPUT: true; the input reads as it did. -/
def frameParsesSpec : ChangeSpec := { name := "frameParses", fn := fun _ => fun
  | [d1, d2, d3, d4, d5] => { results := [.lit (.bool true)], args := [d1, d2, d3, d4, d5] }
  | _ => none }
def frameParsesRow : OpenClaim := { program := "ytahemaondkjpiaa", sum := "06572ed90f4c3800af41681caccce3955d6c2191d56bbc5793766e0792873d96", func := "signalbroker/signalbrokerlaw03.FrameParses", spec := "frameParses", apart := false }
def FrameParsesSaid : Prop := frameParsesRow.holds Try.pinned (OpenSpec.ofChange frameParsesSpec)

/-- ITS FALSE NEIGHBOUR: 'it returns false'. Refute it at one input. -/
def frameParsesWrong : ChangeSpec := { name := "frameParses", fn := fun _ => fun
  | [d1, d2, d3, d4, d5] => { results := [.lit (.bool false)], args := [d1, d2, d3, d4, d5] }
  | _ => none }
def FrameParsesWrongFalsely : Prop := frameParsesRow.holds Try.pinned (OpenSpec.ofChange frameParsesWrong)

/-- 'signalbrokerlaw03.FrameDecides': WHATEVER THE INPUT: true; the input reads as it did. -/
def frameDecidesSpec : ChangeSpec := { name := "frameDecides", fn := fun _ => fun
  | [d1, d2, d3, d4, d5, d6, d7] => { results := [.lit (.bool true)], args := [d1, d2, d3, d4, d5, d6, d7] }
  | _ => none }
def frameDecidesRow : OpenClaim := { program := "ytahemaondkjpiaa", sum := "06572ed90f4c3800af41681caccce3955d6c2191d56bbc5793766e0792873d96", func := "signalbroker/signalbrokerlaw03.FrameDecides", spec := "frameDecides", apart := false }
def FrameDecidesSaid : Prop := frameDecidesRow.holds Try.pinned (OpenSpec.ofChange frameDecidesSpec)

/-- ITS FALSE NEIGHBOUR: 'it returns false'. Refute it at one input. -/
def frameDecidesWrong : ChangeSpec := { name := "frameDecides", fn := fun _ => fun
  | [d1, d2, d3, d4, d5, d6, d7] => { results := [.lit (.bool false)], args := [d1, d2, d3, d4, d5, d6, d7] }
  | _ => none }
def FrameDecidesWrongFalsely : Prop := frameDecidesRow.holds Try.pinned (OpenSpec.ofChange frameDecidesWrong)

/-- 'signalbrokerlaw03.FrameBack': WHATEVER THE INPUT: true; the input reads as it did. -/
def frameBackSpec : ChangeSpec := { name := "frameBack", fn := fun _ => fun
  | [d1, d2, d3, d4] => { results := [.lit (.bool true)], args := [d1, d2, d3, d4] }
  | _ => none }
def frameBackRow : OpenClaim := { program := "ytahemaondkjpiaa", sum := "06572ed90f4c3800af41681caccce3955d6c2191d56bbc5793766e0792873d96", func := "signalbroker/signalbrokerlaw03.FrameBack", spec := "frameBack", apart := false }
def FrameBackSaid : Prop := frameBackRow.holds Try.pinned (OpenSpec.ofChange frameBackSpec)

/-- ITS FALSE NEIGHBOUR: 'it returns false'. Refute it at one input. -/
def frameBackWrong : ChangeSpec := { name := "frameBack", fn := fun _ => fun
  | [d1, d2, d3, d4] => { results := [.lit (.bool false)], args := [d1, d2, d3, d4] }
  | _ => none }
def FrameBackWrongFalsely : Prop := frameBackRow.holds Try.pinned (OpenSpec.ofChange frameBackWrong)

/-- 'signalbrokerlaw03.FrameCatches': WHATEVER THE INPUT: true; the input reads as it did. -/
def frameCatchesSpec : ChangeSpec := { name := "frameCatches", fn := fun _ => fun
  | [d1, d2, d3, d4] => { results := [.lit (.bool true)], args := [d1, d2, d3, d4] }
  | _ => none }
def frameCatchesRow : OpenClaim := { program := "ytahemaondkjpiaa", sum := "06572ed90f4c3800af41681caccce3955d6c2191d56bbc5793766e0792873d96", func := "signalbroker/signalbrokerlaw03.FrameCatches", spec := "frameCatches", apart := false }
def FrameCatchesSaid : Prop := frameCatchesRow.holds Try.pinned (OpenSpec.ofChange frameCatchesSpec)

/-- ITS FALSE NEIGHBOUR: 'it returns false'. Refute it at one input. -/
def frameCatchesWrong : ChangeSpec := { name := "frameCatches", fn := fun _ => fun
  | [d1, d2, d3, d4] => { results := [.lit (.bool false)], args := [d1, d2, d3, d4] }
  | _ => none }
def FrameCatchesWrongFalsely : Prop := frameCatchesRow.holds Try.pinned (OpenSpec.ofChange frameCatchesWrong)

/- THE SECOND FORM. 'bulk': how many values and letters a reading holds, each counted each time it is reached (what is shared counts as often as it is met; a slice's spare places count too). A statement '..UptoSaid' is the law's where the arguments, and the package variables that the reading takes, are together of bulk at most 1048576: NARROWER than '..Said'. Prove '..Said' where nothing that the law and all that it calls make is longer than what came in: it says more and counts as full. Else prove '..UptoSaid'. A law counts once. -/
mutual
def uptoBulk {H : Type} : DataW H → Nat
  | .lit (.string bytes) => bytes.length + 1
  | .lit _ => 1
  | .nil => 1
  | .ptr d => uptoBulk d + 1
  | .slice elems spare => uptoBulkAll elems + uptoBulkAll spare + 1
  | .agg parts => uptoBulkAll parts + 1
  | .iface _ d => uptoBulk d + 1
  | .map entries => uptoBulkEntries entries + 1
  | .held _ => 1
def uptoBulkAll {H : Type} : List (DataW H) → Nat
  | [] => 0
  | d :: r => uptoBulk d + uptoBulkAll r
def uptoBulkEntries {H : Type} : List (Lit × DataW H) → Nat
  | [] => 0
  | x :: r => uptoBulkEntry x + uptoBulkEntries r
def uptoBulkEntry {H : Type} : Lit × DataW H → Nat
  | (.string bytes, d) => bytes.length + uptoBulk d + 1
  | (_, d) => uptoBulk d + 1
 end
def uptoSmall : (H : Type) → List (DataW H) → Bool := fun _ ds => decide (uptoBulkAll ds ≤ 1048576)
def OpenSpec.upto (s : _root_.Go.ChangeSpec) : _root_.Go.OpenSpec := { _root_.Go.OpenSpec.ofChange s with cond := some uptoSmall }

/-- 'signalbrokerlaw03.FrameEncodes', WHERE WHAT IT READS IS OF BULK AT MOST 1048576: true; the input reads as it did. -/
def frameEncodesUptoRow : OpenClaim := { program := "ytahemaondkjpiaa", sum := "06572ed90f4c3800af41681caccce3955d6c2191d56bbc5793766e0792873d96", func := "signalbroker/signalbrokerlaw03.FrameEncodes", spec := "frameEncodes", apart := false, narrowed := true }
def FrameEncodesUptoSaid : Prop := frameEncodesUptoRow.holds Try.pinned (OpenSpec.upto frameEncodesSpec)

/-- 'signalbrokerlaw03.FrameParses', WHERE WHAT IT READS IS OF BULK AT MOST 1048576: true; the input reads as it did. -/
def frameParsesUptoRow : OpenClaim := { program := "ytahemaondkjpiaa", sum := "06572ed90f4c3800af41681caccce3955d6c2191d56bbc5793766e0792873d96", func := "signalbroker/signalbrokerlaw03.FrameParses", spec := "frameParses", apart := false, narrowed := true }
def FrameParsesUptoSaid : Prop := frameParsesUptoRow.holds Try.pinned (OpenSpec.upto frameParsesSpec)

/-- 'signalbrokerlaw03.FrameDecides', WHERE WHAT IT READS IS OF BULK AT MOST 1048576: true; the input reads as it did. -/
def frameDecidesUptoRow : OpenClaim := { program := "ytahemaondkjpiaa", sum := "06572ed90f4c3800af41681caccce3955d6c2191d56bbc5793766e0792873d96", func := "signalbroker/signalbrokerlaw03.FrameDecides", spec := "frameDecides", apart := false, narrowed := true }
def FrameDecidesUptoSaid : Prop := frameDecidesUptoRow.holds Try.pinned (OpenSpec.upto frameDecidesSpec)

/-- 'signalbrokerlaw03.FrameBack', WHERE WHAT IT READS IS OF BULK AT MOST 1048576: true; the input reads as it did. -/
def frameBackUptoRow : OpenClaim := { program := "ytahemaondkjpiaa", sum := "06572ed90f4c3800af41681caccce3955d6c2191d56bbc5793766e0792873d96", func := "signalbroker/signalbrokerlaw03.FrameBack", spec := "frameBack", apart := false, narrowed := true }
def FrameBackUptoSaid : Prop := frameBackUptoRow.holds Try.pinned (OpenSpec.upto frameBackSpec)

/-- 'signalbrokerlaw03.FrameCatches', WHERE WHAT IT READS IS OF BULK AT MOST 1048576: true; the input reads as it did. -/
def frameCatchesUptoRow : OpenClaim := { program := "ytahemaondkjpiaa", sum := "06572ed90f4c3800af41681caccce3955d6c2191d56bbc5793766e0792873d96", func := "signalbroker/signalbrokerlaw03.FrameCatches", spec := "frameCatches", apart := false, narrowed := true }
def FrameCatchesUptoSaid : Prop := frameCatchesUptoRow.holds Try.pinned (OpenSpec.upto frameCatchesSpec)

end Rows
end Go.Proofs.Ytahemaondkjpiaa
