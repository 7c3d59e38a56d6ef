/-
  No cell of these rows narrows 'for every input' (looked for: loops, veiled, ifaces, maps, wideKeys, modest, calm, conditions, laid).
  DERIVED. THE GIVEN ROWS OF THIS SEAT. 4 by the template 'for every input the law returns true; each argument reads behind the call as it read before'; 0 by the template 'total and deterministic' (their statements: YtepkpogpekflmaaTotals.lean).
  GIVEN WITH THE SEED: the statements are not yours to turn. If you find one false, say at which input.
  Laid BY PROGRAM, IN A SANDBOX (cutbox-rows.mjs): the forced cells as the released guide's own fill.sh prints them over the translation ed83257139f2805f… (all of the seat's roots in one cut). By AI agents, Wed Nov 11 2026. No macro, syntax, notation, axiom, sorry.
-/
import Derived.Test.YtepkpogpekflmaaChecked
import GoSem.Claim
import GoSem.ClaimJoined
import GoSem.ClaimMapViews
import Derived.JoinedTies
import Derived.KernelRfl
namespace Go.Proofs.Ytepkpogpekflmaa
/- THE CELL 'sum', in the pinned program and in every row, IS THE sha256 OF THE DUMP (.gsa) THAT YtepkpogpekflmaaProg.lean LOADS. Nothing in Lean hashes anything: it is a label: what it is worth is what the hold of that sum in a sandbox is worth. -/
noncomputable def Try.pinned : Pinned := { name := "ytepkpogpekflmaa", sum := "ed83257139f2805f7d915cacb7e1e28fa2b25d41c2d4dc4988222c4419f609dd", checked := Try.checked }
namespace Rows
def none {H : Type} : Left H := { results := [], args := [] }

/-- 'signalbrokerlaw02.VarintCodes': WHATEVER THE INPUT: true; the input reads as it did. -/
def varintCodesSpec : ChangeSpec := { name := "varintCodes", fn := fun _ => fun
  | [d] => { results := [.lit (.bool true)], args := [d] }
  | _ => none }
def varintCodesRow : OpenClaim := { program := "ytepkpogpekflmaa", sum := "ed83257139f2805f7d915cacb7e1e28fa2b25d41c2d4dc4988222c4419f609dd", func := "signalbroker/signalbrokerlaw02.VarintCodes", spec := "varintCodes", apart := false }
def VarintCodesSaid : Prop := varintCodesRow.holds Try.pinned (OpenSpec.ofChange varintCodesSpec)

/-- ITS FALSE NEIGHBOUR: 'it returns false'. Refute it at one input. -/
def varintCodesWrong : ChangeSpec := { name := "varintCodes", fn := fun _ => fun
  | [d] => { results := [.lit (.bool false)], args := [d] }
  | _ => none }
def VarintCodesWrongFalsely : Prop := varintCodesRow.holds Try.pinned (OpenSpec.ofChange varintCodesWrong)

/-- 'signalbrokerlaw02.VarintReads': WHATEVER THE INPUT: true; the input reads as it did. -/
def varintReadsSpec : ChangeSpec := { name := "varintReads", fn := fun _ => fun
  | [d1, d2, d3, d4] => { results := [.lit (.bool true)], args := [d1, d2, d3, d4] }
  | _ => none }
def varintReadsRow : OpenClaim := { program := "ytepkpogpekflmaa", sum := "ed83257139f2805f7d915cacb7e1e28fa2b25d41c2d4dc4988222c4419f609dd", func := "signalbroker/signalbrokerlaw02.VarintReads", spec := "varintReads", apart := false }
def VarintReadsSaid : Prop := varintReadsRow.holds Try.pinned (OpenSpec.ofChange varintReadsSpec)

/-- ITS FALSE NEIGHBOUR: 'it returns false'. Refute it at one input. -/
def varintReadsWrong : ChangeSpec := { name := "varintReads", fn := fun _ => fun
  | [d1, d2, d3, d4] => { results := [.lit (.bool false)], args := [d1, d2, d3, d4] }
  | _ => none }
def VarintReadsWrongFalsely : Prop := varintReadsRow.holds Try.pinned (OpenSpec.ofChange varintReadsWrong)

/-- 'signalbrokerlaw02.VarintBack': WHATEVER THE INPUT: true; the input reads as it did. -/
def varintBackSpec : ChangeSpec := { name := "varintBack", fn := fun _ => fun
  | [d1, d2] => { results := [.lit (.bool true)], args := [d1, d2] }
  | _ => none }
def varintBackRow : OpenClaim := { program := "ytepkpogpekflmaa", sum := "ed83257139f2805f7d915cacb7e1e28fa2b25d41c2d4dc4988222c4419f609dd", func := "signalbroker/signalbrokerlaw02.VarintBack", spec := "varintBack", apart := false }
def VarintBackSaid : Prop := varintBackRow.holds Try.pinned (OpenSpec.ofChange varintBackSpec)

/-- ITS FALSE NEIGHBOUR: 'it returns false'. Refute it at one input. -/
def varintBackWrong : ChangeSpec := { name := "varintBack", fn := fun _ => fun
  | [d1, d2] => { results := [.lit (.bool false)], args := [d1, d2] }
  | _ => none }
def VarintBackWrongFalsely : Prop := varintBackRow.holds Try.pinned (OpenSpec.ofChange varintBackWrong)

/-- 'signalbrokerlaw02.VarintPrefix': WHATEVER THE INPUT: true; the input reads as it did. -/
def varintPrefixSpec : ChangeSpec := { name := "varintPrefix", fn := fun _ => fun
  | [d1, d2] => { results := [.lit (.bool true)], args := [d1, d2] }
  | _ => none }
def varintPrefixRow : OpenClaim := { program := "ytepkpogpekflmaa", sum := "ed83257139f2805f7d915cacb7e1e28fa2b25d41c2d4dc4988222c4419f609dd", func := "signalbroker/signalbrokerlaw02.VarintPrefix", spec := "varintPrefix", apart := false }
def VarintPrefixSaid : Prop := varintPrefixRow.holds Try.pinned (OpenSpec.ofChange varintPrefixSpec)

/-- ITS FALSE NEIGHBOUR: 'it returns false'. Refute it at one input. -/
def varintPrefixWrong : ChangeSpec := { name := "varintPrefix", fn := fun _ => fun
  | [d1, d2] => { results := [.lit (.bool false)], args := [d1, d2] }
  | _ => none }
def VarintPrefixWrongFalsely : Prop := varintPrefixRow.holds Try.pinned (OpenSpec.ofChange varintPrefixWrong)

/- THE SECOND FORM. 'bulk': how many values and letters a reading holds, each counted each time it is reached (what is shared counts as often as it is met; a slice's spare places count too). A statement '..UptoSaid' is the law's where the arguments, and the package variables that the reading takes, are together of bulk at most 1048576: NARROWER than '..Said'. Prove '..Said' where nothing that the law and all that it calls make is longer than what came in: it says more and counts as full. Else prove '..UptoSaid'. A law counts once. -/
mutual
def uptoBulk {H : Type} : DataW H → Nat
  | .lit (.string bytes) => bytes.length + 1
  | .lit _ => 1
  | .nil => 1
  | .ptr d => uptoBulk d + 1
  | .slice elems spare => uptoBulkAll elems + uptoBulkAll spare + 1
  | .agg parts => uptoBulkAll parts + 1
  | .iface _ d => uptoBulk d + 1
  | .map entries => uptoBulkEntries entries + 1
  | .held _ => 1
def uptoBulkAll {H : Type} : List (DataW H) → Nat
  | [] => 0
  | d :: r => uptoBulk d + uptoBulkAll r
def uptoBulkEntries {H : Type} : List (Lit × DataW H) → Nat
  | [] => 0
  | x :: r => uptoBulkEntry x + uptoBulkEntries r
def uptoBulkEntry {H : Type} : Lit × DataW H → Nat
  | (.string bytes, d) => bytes.length + uptoBulk d + 1
  | (_, d) => uptoBulk d + 1
 end
def uptoSmall : (H : Type) → List (DataW H) → Bool := fun _ ds => decide (uptoBulkAll ds ≤ 1048576)
def OpenSpec.upto (s : _root_.Go.ChangeSpec) : _root_.Go.OpenSpec := { _root_.Go.OpenSpec.ofChange s with cond := some uptoSmall }

/-- 'signalbrokerlaw02.VarintCodes', WHERE WHAT IT READS IS OF BULK AT MOST 1048576: true; the input reads as it did. -/
def varintCodesUptoRow : OpenClaim := { program := "ytepkpogpekflmaa", sum := "ed83257139f2805f7d915cacb7e1e28fa2b25d41c2d4dc4988222c4419f609dd", func := "signalbroker/signalbrokerlaw02.VarintCodes", spec := "varintCodes", apart := false, narrowed := true }
def VarintCodesUptoSaid : Prop := varintCodesUptoRow.holds Try.pinned (OpenSpec.upto varintCodesSpec)

/-- 'signalbrokerlaw02.VarintReads', WHERE WHAT IT READS IS OF BULK AT MOST 1048576: true; the input reads as it did. -/
def varintReadsUptoRow : OpenClaim := { program := "ytepkpogpekflmaa", sum := "ed83257139f2805f7d915cacb7e1e28fa2b25d41c2d4dc4988222c4419f609dd", func := "signalbroker/signalbrokerlaw02.VarintReads", spec := "varintReads", apart := false, narrowed := true }
def VarintReadsUptoSaid : Prop := varintReadsUptoRow.holds Try.pinned (OpenSpec.upto varintReadsSpec)

/-- 'signalbrokerlaw02.VarintBack', WHERE WHAT IT READS IS OF BULK AT MOST 1048576: true; the input reads as it did. -/
def varintBackUptoRow : OpenClaim := { program := "ytepkpogpekflmaa", sum := "ed83257139f2805f7d915cacb7e1e28fa2b25d41c2d4dc4988222c4419f609dd", func := "signalbroker/signalbrokerlaw02.VarintBack", spec := "varintBack", apart := false, narrowed := true }
def VarintBackUptoSaid : Prop := varintBackUptoRow.holds Try.pinned (OpenSpec.upto varintBackSpec)

/-- 'signalbrokerlaw02.VarintPrefix', WHERE WHAT IT READS IS OF BULK AT MOST 1048576: true; the input reads as it did. -/
def varintPrefixUptoRow : OpenClaim := { program := "ytepkpogpekflmaa", sum := "ed83257139f2805f7d915cacb7e1e28fa2b25d41c2d4dc4988222c4419f609dd", func := "signalbroker/signalbrokerlaw02.VarintPrefix", spec := "varintPrefix", apart := false, narrowed := true }
def VarintPrefixUptoSaid : Prop := varintPrefixUptoRow.holds Try.pinned (OpenSpec.upto varintPrefixSpec)

end Rows
end Go.Proofs.Ytepkpogpekflmaa
