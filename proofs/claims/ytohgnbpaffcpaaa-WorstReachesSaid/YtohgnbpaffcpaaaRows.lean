/-
  No cell of these rows narrows 'for every input' (looked for: loops, veiled, ifaces, maps, wideKeys, modest, calm, conditions, laid).
  DERIVED. THE GIVEN ROWS OF THIS SEAT. 3 by the template 'for every input the law returns true; each argument reads behind the call as it read before'; 0 by the template 'total and deterministic' (their statements: YtohgnbpaffcpaaaTotals.lean).
  GIVEN WITH THE SEED: the statements are not yours to turn. If you find one false, say at which input.
  Laid BY PROGRAM, IN A SANDBOX (cutbox-rows.mjs): the forced cells as the released guide's own fill.sh prints them over the translation 651b877dffd127d1… (all of the seat's roots in one cut). By AI agents, Wed Nov 11 2026. No macro, syntax, notation, axiom, sorry.
-/
import Derived.Test.YtohgnbpaffcpaaaChecked
import GoSem.Claim
import GoSem.ClaimJoined
import GoSem.ClaimMapViews
import Derived.JoinedTies
import Derived.KernelRfl
namespace Go.Proofs.Ytohgnbpaffcpaaa
/- THE CELL 'sum', in the pinned program and in every row, IS THE sha256 OF THE DUMP (.gsa) THAT YtohgnbpaffcpaaaProg.lean LOADS. Nothing in Lean hashes anything: it is a label: what it is worth is what the hold of that sum in a sandbox is worth. -/
noncomputable def Try.pinned : Pinned := { name := "ytohgnbpaffcpaaa", sum := "651b877dffd127d102187b28210b02733196cf719b560ee14f4eb05068a57ba7", checked := Try.checked }
namespace Rows
def none {H : Type} : Left H := { results := [], args := [] }

/-- 'signalbrokerlaw12.WorstCounts': WHATEVER THE INPUT: true; the input reads as it did. -/
def worstCountsSpec : ChangeSpec := { name := "worstCounts", fn := fun _ => fun
  | [d1, d2, d3] => { results := [.lit (.bool true)], args := [d1, d2, d3] }
  | _ => none }
def worstCountsRow : OpenClaim := { program := "ytohgnbpaffcpaaa", sum := "651b877dffd127d102187b28210b02733196cf719b560ee14f4eb05068a57ba7", func := "signalbroker/signalbrokerlaw12.WorstCounts", spec := "worstCounts", unfollowed := true, recurses := true, apart := false }
def WorstCountsSaid : Prop := worstCountsRow.holds Try.pinned (OpenSpec.ofChange worstCountsSpec)

/-- ITS FALSE NEIGHBOUR: 'it returns false'. Refute it at one input. -/
def worstCountsWrong : ChangeSpec := { name := "worstCounts", fn := fun _ => fun
  | [d1, d2, d3] => { results := [.lit (.bool false)], args := [d1, d2, d3] }
  | _ => none }
def WorstCountsWrongFalsely : Prop := worstCountsRow.holds Try.pinned (OpenSpec.ofChange worstCountsWrong)

/-- 'signalbrokerlaw12.WorstReaches': WHATEVER THE INPUT: true; the input reads as it did. -/
def worstReachesSpec : ChangeSpec := { name := "worstReaches", fn := fun _ => fun
  | [d1, d2, d3] => { results := [.lit (.bool true)], args := [d1, d2, d3] }
  | _ => none }
def worstReachesRow : OpenClaim := { program := "ytohgnbpaffcpaaa", sum := "651b877dffd127d102187b28210b02733196cf719b560ee14f4eb05068a57ba7", func := "signalbroker/signalbrokerlaw12.WorstReaches", spec := "worstReaches", unfollowed := true, recurses := true, apart := false }
def WorstReachesSaid : Prop := worstReachesRow.holds Try.pinned (OpenSpec.ofChange worstReachesSpec)

/-- ITS FALSE NEIGHBOUR: 'it returns false'. Refute it at one input. -/
def worstReachesWrong : ChangeSpec := { name := "worstReaches", fn := fun _ => fun
  | [d1, d2, d3] => { results := [.lit (.bool false)], args := [d1, d2, d3] }
  | _ => none }
def WorstReachesWrongFalsely : Prop := worstReachesRow.holds Try.pinned (OpenSpec.ofChange worstReachesWrong)

/-- 'signalbrokerlaw12.WorstCloser': WHATEVER THE INPUT: true; the input reads as it did. -/
def worstCloserSpec : ChangeSpec := { name := "worstCloser", fn := fun _ => fun
  | [d1, d2, d3] => { results := [.lit (.bool true)], args := [d1, d2, d3] }
  | _ => none }
def worstCloserRow : OpenClaim := { program := "ytohgnbpaffcpaaa", sum := "651b877dffd127d102187b28210b02733196cf719b560ee14f4eb05068a57ba7", func := "signalbroker/signalbrokerlaw12.WorstCloser", spec := "worstCloser", unfollowed := true, recurses := true, apart := false }
def WorstCloserSaid : Prop := worstCloserRow.holds Try.pinned (OpenSpec.ofChange worstCloserSpec)

/-- ITS FALSE NEIGHBOUR: 'it returns false'. Refute it at one input. -/
def worstCloserWrong : ChangeSpec := { name := "worstCloser", fn := fun _ => fun
  | [d1, d2, d3] => { results := [.lit (.bool false)], args := [d1, d2, d3] }
  | _ => none }
def WorstCloserWrongFalsely : Prop := worstCloserRow.holds Try.pinned (OpenSpec.ofChange worstCloserWrong)

/- THE SECOND FORM. 'bulk': how many values and letters a reading holds, each counted each time it is reached (what is shared counts as often as it is met; a slice's spare places count too). A statement '..UptoSaid' is the law's where the arguments, and the package variables that the reading takes, are together of bulk at most 1048576: NARROWER than '..Said'. Prove '..Said' where nothing that the law and all that it calls make is longer than what came in: it says more and counts as full. Else prove '..UptoSaid'. A law counts once. -/
mutual
def uptoBulk {H : Type} : DataW H → Nat
  | .lit (.string bytes) => bytes.length + 1
  | .lit _ => 1
  | .nil => 1
  | .ptr d => uptoBulk d + 1
  | .slice elems spare => uptoBulkAll elems + uptoBulkAll spare + 1
  | .agg parts => uptoBulkAll parts + 1
  | .iface _ d => uptoBulk d + 1
  | .map entries => uptoBulkEntries entries + 1
  | .held _ => 1
def uptoBulkAll {H : Type} : List (DataW H) → Nat
  | [] => 0
  | d :: r => uptoBulk d + uptoBulkAll r
def uptoBulkEntries {H : Type} : List (Lit × DataW H) → Nat
  | [] => 0
  | x :: r => uptoBulkEntry x + uptoBulkEntries r
def uptoBulkEntry {H : Type} : Lit × DataW H → Nat
  | (.string bytes, d) => bytes.length + uptoBulk d + 1
  | (_, d) => uptoBulk d + 1
 end
def uptoSmall : (H : Type) → List (DataW H) → Bool := fun _ ds => decide (uptoBulkAll ds ≤ 1048576)
def OpenSpec.upto (s : _root_.Go.ChangeSpec) : _root_.Go.OpenSpec := { _root_.Go.OpenSpec.ofChange s with cond := some uptoSmall }

/-- 'signalbrokerlaw12.WorstCounts', WHERE WHAT IT READS IS OF BULK AT MOST 1048576: true; the input reads as it did. -/
def worstCountsUptoRow : OpenClaim := { program := "ytohgnbpaffcpaaa", sum := "651b877dffd127d102187b28210b02733196cf719b560ee14f4eb05068a57ba7", func := "signalbroker/signalbrokerlaw12.WorstCounts", spec := "worstCounts", unfollowed := true, recurses := true, apart := false, narrowed := true }
def WorstCountsUptoSaid : Prop := worstCountsUptoRow.holds Try.pinned (OpenSpec.upto worstCountsSpec)

/-- 'signalbrokerlaw12.WorstReaches', WHERE WHAT IT READS IS OF BULK AT MOST 1048576: true; the input reads as it did. -/
def worstReachesUptoRow : OpenClaim := { program := "ytohgnbpaffcpaaa", sum := "651b877dffd127d102187b28210b02733196cf719b560ee14f4eb05068a57ba7", func := "signalbroker/signalbrokerlaw12.WorstReaches", spec := "worstReaches", unfollowed := true, recurses := true, apart := false, narrowed := true }
def WorstReachesUptoSaid : Prop := worstReachesUptoRow.holds Try.pinned (OpenSpec.upto worstReachesSpec)

/-- 'signalbrokerlaw12.WorstCloser', WHERE WHAT IT READS IS OF BULK AT MOST 1048576: true; the input reads as it did. -/
def worstCloserUptoRow : OpenClaim := { program := "ytohgnbpaffcpaaa", sum := "651b877dffd127d102187b28210b02733196cf719b560ee14f4eb05068a57ba7", func := "signalbroker/signalbrokerlaw12.WorstCloser", spec := "worstCloser", unfollowed := true, recurses := true, apart := false, narrowed := true }
def WorstCloserUptoSaid : Prop := worstCloserUptoRow.holds Try.pinned (OpenSpec.upto worstCloserSpec)

end Rows
end Go.Proofs.Ytohgnbpaffcpaaa
