/-
  No cell of these rows narrows 'for every input' (looked for: loops, veiled, ifaces, maps, wideKeys, modest, calm, conditions, laid).
  DERIVED. THE GIVEN ROWS OF THIS SEAT. 4 by the template 'for every input the law returns true; each argument reads behind the call as it read before'; 0 by the template 'total and deterministic' (their statements: YtibcneppmhhgiaaTotals.lean).
  GIVEN WITH THE SEED: the statements are not yours to turn. If you find one false, say at which input.
  Laid BY PROGRAM, IN A SANDBOX (cutbox-rows.mjs): the forced cells as the released guide's own fill.sh prints them over the translation d95eb5d529cdb87a… (all of the seat's roots in one cut). By AI agents, Wed Nov 11 2026. No macro, syntax, notation, axiom, sorry.
-/
import Derived.Test.YtibcneppmhhgiaaChecked
import GoSem.Claim
import GoSem.ClaimJoined
import GoSem.ClaimMapViews
import Derived.JoinedTies
import Derived.KernelRfl
namespace Go.Proofs.Ytibcneppmhhgiaa
/- THE CELL 'sum', in the pinned program and in every row, IS THE sha256 OF THE DUMP (.gsa) THAT YtibcneppmhhgiaaProg.lean LOADS. Nothing in Lean hashes anything: it is a label: what it is worth is what the hold of that sum in a sandbox is worth. -/
noncomputable def Try.pinned : Pinned := { name := "ytibcneppmhhgiaa", sum := "d95eb5d529cdb87ae362eb5b7d3cc1cde39f31c7c140361b625b86d48b58aee9", checked := Try.checked }
namespace Rows
def none {H : Type} : Left H := { results := [], args := [] }

/-- 'signalbrokerlaw06.MatrixValid': WHATEVER THE INPUT: true; the input reads as it did. -/
def matrixValidSpec : ChangeSpec := { name := "matrixValid", fn := fun _ => fun
  | [d1, d2, d3, d4] => { results := [.lit (.bool true)], args := [d1, d2, d3, d4] }
  | _ => none }
def matrixValidRow : OpenClaim := { program := "ytibcneppmhhgiaa", sum := "d95eb5d529cdb87ae362eb5b7d3cc1cde39f31c7c140361b625b86d48b58aee9", func := "signalbroker/signalbrokerlaw06.MatrixValid", spec := "matrixValid", apart := false }
def MatrixValidSaid : Prop := matrixValidRow.holds Try.pinned (OpenSpec.ofChange matrixValidSpec)

/-- ITS FALSE NEIGHBOUR: 'it returns false'. Refute it at one input. -/
def matrixValidWrong : ChangeSpec := { name := "matrixValid", fn := fun _ => fun
  | [d1, d2, d3, d4] => { results := [.lit (.bool false)], args := [d1, d2, d3, d4] }
  | _ => none }
def MatrixValidWrongFalsely : Prop := matrixValidRow.holds Try.pinned (OpenSpec.ofChange matrixValidWrong)

/-- 'signalbrokerlaw06.MatrixSets': WHATEVER THE INPUT: true; the input reads as it did. -/
def matrixSetsSpec : ChangeSpec := { name := "matrixSets", fn := fun _ => fun
  | [d1, d2] => { results := [.lit (.bool true)], args := [d1, d2] }
  | _ => none }
def matrixSetsRow : OpenClaim := { program := "ytibcneppmhhgiaa", sum := "d95eb5d529cdb87ae362eb5b7d3cc1cde39f31c7c140361b625b86d48b58aee9", func := "signalbroker/signalbrokerlaw06.MatrixSets", spec := "matrixSets", apart := false }
def MatrixSetsSaid : Prop := matrixSetsRow.holds Try.pinned (OpenSpec.ofChange matrixSetsSpec)

/-- ITS FALSE NEIGHBOUR: 'it returns false'. Refute it at one input. -/
def matrixSetsWrong : ChangeSpec := { name := "matrixSets", fn := fun _ => fun
  | [d1, d2] => { results := [.lit (.bool false)], args := [d1, d2] }
  | _ => none }
def MatrixSetsWrongFalsely : Prop := matrixSetsRow.holds Try.pinned (OpenSpec.ofChange matrixSetsWrong)

/-- 'signalbrokerlaw06.MatrixAdds': WHATEVER THE INPUT: true; the input reads as it did. -/
def matrixAddsSpec : ChangeSpec := { name := "matrixAdds", fn := fun _ => fun
  | [d1, d2] => { results := [.lit (.bool true)], args := [d1, d2] }
  | _ => none }
def matrixAddsRow : OpenClaim := { program := "ytibcneppmhhgiaa", sum := "d95eb5d529cdb87ae362eb5b7d3cc1cde39f31c7c140361b625b86d48b58aee9", func := "signalbroker/signalbrokerlaw06.MatrixAdds", spec := "matrixAdds", apart := false }
def MatrixAddsSaid : Prop := matrixAddsRow.holds Try.pinned (OpenSpec.ofChange matrixAddsSpec)

/-- ITS FALSE NEIGHBOUR: 'it returns false'. Refute it at one input. -/
def matrixAddsWrong : ChangeSpec := { name := "matrixAdds", fn := fun _ => fun
  | [d1, d2] => { results := [.lit (.bool false)], args := [d1, d2] }
  | _ => none }
def MatrixAddsWrongFalsely : Prop := matrixAddsRow.holds Try.pinned (OpenSpec.ofChange matrixAddsWrong)

/-- 'signalbrokerlaw06.MatrixSubsets': WHATEVER THE INPUT: true; the input reads as it did. -/
def matrixSubsetsSpec : ChangeSpec := { name := "matrixSubsets", fn := fun _ => fun
  | [d1, d2, d3] => { results := [.lit (.bool true)], args := [d1, d2, d3] }
  | _ => none }
def matrixSubsetsRow : OpenClaim := { program := "ytibcneppmhhgiaa", sum := "d95eb5d529cdb87ae362eb5b7d3cc1cde39f31c7c140361b625b86d48b58aee9", func := "signalbroker/signalbrokerlaw06.MatrixSubsets", spec := "matrixSubsets", apart := false }
def MatrixSubsetsSaid : Prop := matrixSubsetsRow.holds Try.pinned (OpenSpec.ofChange matrixSubsetsSpec)

/-- ITS FALSE NEIGHBOUR: 'it returns false'. Refute it at one input. -/
def matrixSubsetsWrong : ChangeSpec := { name := "matrixSubsets", fn := fun _ => fun
  | [d1, d2, d3] => { results := [.lit (.bool false)], args := [d1, d2, d3] }
  | _ => none }
def MatrixSubsetsWrongFalsely : Prop := matrixSubsetsRow.holds Try.pinned (OpenSpec.ofChange matrixSubsetsWrong)

/- THE SECOND FORM. 'bulk': how many values and letters a reading holds, each counted each time it is reached (what is shared counts as often as it is met; a slice's spare places count too). A statement '..UptoSaid' is the law's where the arguments, and the package variables that the reading takes, are together of bulk at most 1048576: NARROWER than '..Said'. Prove '..Said' where nothing that the law and all that it calls make is longer than what came in: it says more and counts as full. Else prove '..UptoSaid'. A law counts once. -/
mutual
def uptoBulk {H : Type} : DataW H → Nat
  | .lit (.string bytes) => bytes.length + 1
  | .lit _ => 1
  | .nil => 1
  | .ptr d => uptoBulk d + 1
  | .slice elems spare => uptoBulkAll elems + uptoBulkAll spare + 1
  | .agg parts => uptoBulkAll parts + 1
  | .iface _ d => uptoBulk d + 1
  | .map entries => uptoBulkEntries entries + 1
  | .held _ => 1
def uptoBulkAll {H : Type} : List (DataW H) → Nat
  | [] => 0
  | d :: r => uptoBulk d + uptoBulkAll r
def uptoBulkEntries {H : Type} : List (Lit × DataW H) → Nat
  | [] => 0
  | x :: r => uptoBulkEntry x + uptoBulkEntries r
def uptoBulkEntry {H : Type} : Lit × DataW H → Nat
  | (.string bytes, d) => bytes.length + uptoBulk d + 1
  | (_, d) => uptoBulk d + 1
 end
def uptoSmall : (H : Type) → List (DataW H) → Bool := fun _ ds => decide (uptoBulkAll ds ≤ 1048576)
def OpenSpec.upto (s : _root_.Go.ChangeSpec) : _root_.Go.OpenSpec := { _root_.Go.OpenSpec.ofChange s with cond := some uptoSmall }

/-- 'signalbrokerlaw06.MatrixValid', WHERE WHAT IT READS IS OF BULK AT MOST 1048576: true; the input reads as it did. -/
def matrixValidUptoRow : OpenClaim := { program := "ytibcneppmhhgiaa", sum := "d95eb5d529cdb87ae362eb5b7d3cc1cde39f31c7c140361b625b86d48b58aee9", func := "signalbroker/signalbrokerlaw06.MatrixValid", spec := "matrixValid", apart := false, narrowed := true }
def MatrixValidUptoSaid : Prop := matrixValidUptoRow.holds Try.pinned (OpenSpec.upto matrixValidSpec)

/-- 'signalbrokerlaw06.MatrixSets', WHERE WHAT IT READS IS OF BULK AT MOST 1048576: true; the input reads as it did. -/
def matrixSetsUptoRow : OpenClaim := { program := "ytibcneppmhhgiaa", sum := "d95eb5d529cdb87ae362eb5b7d3cc1cde39f31c7c140361b625b86d48b58aee9", func := "signalbroker/signalbrokerlaw06.MatrixSets", spec := "matrixSets", apart := false, narrowed := true }
def MatrixSetsUptoSaid : Prop := matrixSetsUptoRow.holds Try.pinned (OpenSpec.upto matrixSetsSpec)

/-- 'signalbrokerlaw06.MatrixAdds', WHERE WHAT IT READS IS OF BULK AT MOST 1048576: true; the input reads as it did. -/
def matrixAddsUptoRow : OpenClaim := { program := "ytibcneppmhhgiaa", sum := "d95eb5d529cdb87ae362eb5b7d3cc1cde39f31c7c140361b625b86d48b58aee9", func := "signalbroker/signalbrokerlaw06.MatrixAdds", spec := "matrixAdds", apart := false, narrowed := true }
def MatrixAddsUptoSaid : Prop := matrixAddsUptoRow.holds Try.pinned (OpenSpec.upto matrixAddsSpec)

/-- 'signalbrokerlaw06.MatrixSubsets', WHERE WHAT IT READS IS OF BULK AT MOST 1048576: true; the input reads as it did. -/
def matrixSubsetsUptoRow : OpenClaim := { program := "ytibcneppmhhgiaa", sum := "d95eb5d529cdb87ae362eb5b7d3cc1cde39f31c7c140361b625b86d48b58aee9", func := "signalbroker/signalbrokerlaw06.MatrixSubsets", spec := "matrixSubsets", apart := false, narrowed := true }
def MatrixSubsetsUptoSaid : Prop := matrixSubsetsUptoRow.holds Try.pinned (OpenSpec.upto matrixSubsetsSpec)

end Rows
end Go.Proofs.Ytibcneppmhhgiaa
