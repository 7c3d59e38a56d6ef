/-
  No cell of these rows narrows 'for every input' (looked for: loops, veiled, ifaces, maps, wideKeys, modest, calm, conditions, laid).
  DERIVED. THE GIVEN ROWS OF THIS SEAT. 4 by the template 'for every input the law returns true; each argument reads behind the call as it read before'; 0 by the template 'total and deterministic' (their statements: YtikffoepndpfjaaTotals.lean).
  GIVEN WITH THE SEED: the statements are not yours to turn. If you find one false, say at which input.
  Laid BY PROGRAM, IN A SANDBOX (cutbox-rows.mjs): the forced cells as the released guide's own fill.sh prints them over the translation 3c44027f3fd0eba7… (all of the seat's roots in one cut). By AI agents, Wed Nov 11 2026. No macro, syntax, notation, axiom, sorry.
-/
import Derived.Test.YtikffoepndpfjaaChecked
import GoSem.Claim
import GoSem.ClaimJoined
import GoSem.ClaimMapViews
import Derived.JoinedTies
import Derived.KernelRfl
namespace Go.Proofs.Ytikffoepndpfjaa
/- THE CELL 'sum', in the pinned program and in every row, IS THE sha256 OF THE DUMP (.gsa) THAT YtikffoepndpfjaaProg.lean LOADS. Nothing in Lean hashes anything: it is a label: what it is worth is what the hold of that sum in a sandbox is worth. -/
noncomputable def Try.pinned : Pinned := { name := "ytikffoepndpfjaa", sum := "3c44027f3fd0eba74f267741dd77db0f1a14f42c8599dd19480986264a7a745f", checked := Try.checked }
namespace Rows
def none {H : Type} : Left H := { results := [], args := [] }

/-- 'signalbrokerlaw21.ArbiterDecides': WHATEVER THE INPUT: true; the input reads as it did. -/
def arbiterDecidesSpec : ChangeSpec := { name := "arbiterDecides", fn := fun _ => fun
  | [d1, d2, d3, d4, d5] => { results := [.lit (.bool true)], args := [d1, d2, d3, d4, d5] }
  | _ => none }
def arbiterDecidesRow : OpenClaim := { program := "ytikffoepndpfjaa", sum := "3c44027f3fd0eba74f267741dd77db0f1a14f42c8599dd19480986264a7a745f", func := "signalbroker/signalbrokerlaw21.ArbiterDecides", spec := "arbiterDecides", unfollowed := true, recurses := true, apart := false }
def ArbiterDecidesSaid : Prop := arbiterDecidesRow.holds Try.pinned (OpenSpec.ofChange arbiterDecidesSpec)

/-- ITS FALSE NEIGHBOUR: 'it returns false'. Refute it at one input. -/
def arbiterDecidesWrong : ChangeSpec := { name := "arbiterDecides", fn := fun _ => fun
  | [d1, d2, d3, d4, d5] => { results := [.lit (.bool false)], args := [d1, d2, d3, d4, d5] }
  | _ => none }
def ArbiterDecidesWrongFalsely : Prop := arbiterDecidesRow.holds Try.pinned (OpenSpec.ofChange arbiterDecidesWrong)

/-- 'signalbrokerlaw21.ArbiterServes': WHATEVER THE INPUT: true; the input reads as it did. -/
def arbiterServesSpec : ChangeSpec := { name := "arbiterServes", fn := fun _ => fun
  | [d] => { results := [.lit (.bool true)], args := [d] }
  | _ => none }
def arbiterServesRow : OpenClaim := { program := "ytikffoepndpfjaa", sum := "3c44027f3fd0eba74f267741dd77db0f1a14f42c8599dd19480986264a7a745f", func := "signalbroker/signalbrokerlaw21.ArbiterServes", spec := "arbiterServes", unfollowed := true, recurses := true, apart := false }
def ArbiterServesSaid : Prop := arbiterServesRow.holds Try.pinned (OpenSpec.ofChange arbiterServesSpec)

/-- ITS FALSE NEIGHBOUR: 'it returns false'. Refute it at one input. -/
def arbiterServesWrong : ChangeSpec := { name := "arbiterServes", fn := fun _ => fun
  | [d] => { results := [.lit (.bool false)], args := [d] }
  | _ => none }
def ArbiterServesWrongFalsely : Prop := arbiterServesRow.holds Try.pinned (OpenSpec.ofChange arbiterServesWrong)

/-- 'signalbrokerlaw21.ArbiterEnds': WHATEVER THE INPUT: true; the input reads as it did. -/
def arbiterEndsSpec : ChangeSpec := { name := "arbiterEnds", fn := fun _ => fun
  | [d] => { results := [.lit (.bool true)], args := [d] }
  | _ => none }
def arbiterEndsRow : OpenClaim := { program := "ytikffoepndpfjaa", sum := "3c44027f3fd0eba74f267741dd77db0f1a14f42c8599dd19480986264a7a745f", func := "signalbroker/signalbrokerlaw21.ArbiterEnds", spec := "arbiterEnds", unfollowed := true, recurses := true, apart := false }
def ArbiterEndsSaid : Prop := arbiterEndsRow.holds Try.pinned (OpenSpec.ofChange arbiterEndsSpec)

/-- ITS FALSE NEIGHBOUR: 'it returns false'. Refute it at one input. -/
def arbiterEndsWrong : ChangeSpec := { name := "arbiterEnds", fn := fun _ => fun
  | [d] => { results := [.lit (.bool false)], args := [d] }
  | _ => none }
def ArbiterEndsWrongFalsely : Prop := arbiterEndsRow.holds Try.pinned (OpenSpec.ofChange arbiterEndsWrong)

/-- 'signalbrokerlaw21.ArbiterAlone': WHATEVER THE INPUT: true; the input reads as it did. -/
def arbiterAloneSpec : ChangeSpec := { name := "arbiterAlone", fn := fun _ => fun
  | [d1, d2] => { results := [.lit (.bool true)], args := [d1, d2] }
  | _ => none }
def arbiterAloneRow : OpenClaim := { program := "ytikffoepndpfjaa", sum := "3c44027f3fd0eba74f267741dd77db0f1a14f42c8599dd19480986264a7a745f", func := "signalbroker/signalbrokerlaw21.ArbiterAlone", spec := "arbiterAlone", unfollowed := true, recurses := true, apart := false }
def ArbiterAloneSaid : Prop := arbiterAloneRow.holds Try.pinned (OpenSpec.ofChange arbiterAloneSpec)

/-- ITS FALSE NEIGHBOUR: 'it returns false'. Refute it at one input. -/
def arbiterAloneWrong : ChangeSpec := { name := "arbiterAlone", fn := fun _ => fun
  | [d1, d2] => { results := [.lit (.bool false)], args := [d1, d2] }
  | _ => none }
def ArbiterAloneWrongFalsely : Prop := arbiterAloneRow.holds Try.pinned (OpenSpec.ofChange arbiterAloneWrong)

/- THE SECOND FORM. 'bulk': how many values and letters a reading holds, each counted each time it is reached (what is shared counts as often as it is met; a slice's spare places count too). A statement '..UptoSaid' is the law's where the arguments, and the package variables that the reading takes, are together of bulk at most 1048576: NARROWER than '..Said'. Prove '..Said' where nothing that the law and all that it calls make is longer than what came in: it says more and counts as full. Else prove '..UptoSaid'. A law counts once. -/
mutual
def uptoBulk {H : Type} : DataW H → Nat
  | .lit (.string bytes) => bytes.length + 1
  | .lit _ => 1
  | .nil => 1
  | .ptr d => uptoBulk d + 1
  | .slice elems spare => uptoBulkAll elems + uptoBulkAll spare + 1
  | .agg parts => uptoBulkAll parts + 1
  | .iface _ d => uptoBulk d + 1
  | .map entries => uptoBulkEntries entries + 1
  | .held _ => 1
def uptoBulkAll {H : Type} : List (DataW H) → Nat
  | [] => 0
  | d :: r => uptoBulk d + uptoBulkAll r
def uptoBulkEntries {H : Type} : List (Lit × DataW H) → Nat
  | [] => 0
  | x :: r => uptoBulkEntry x + uptoBulkEntries r
def uptoBulkEntry {H : Type} : Lit × DataW H → Nat
  | (.string bytes, d) => bytes.length + uptoBulk d + 1
  | (_, d) => uptoBulk d + 1
 end
def uptoSmall : (H : Type) → List (DataW H) → Bool := fun _ ds => decide (uptoBulkAll ds ≤ 1048576)
def OpenSpec.upto (s : _root_.Go.ChangeSpec) : _root_.Go.OpenSpec := { _root_.Go.OpenSpec.ofChange s with cond := some uptoSmall }

/-- 'signalbrokerlaw21.ArbiterDecides', WHERE WHAT IT READS IS OF BULK AT MOST 1048576: true; the input reads as it did. -/
def arbiterDecidesUptoRow : OpenClaim := { program := "ytikffoepndpfjaa", sum := "3c44027f3fd0eba74f267741dd77db0f1a14f42c8599dd19480986264a7a745f", func := "signalbroker/signalbrokerlaw21.ArbiterDecides", spec := "arbiterDecides", unfollowed := true, recurses := true, apart := false, narrowed := true }
def ArbiterDecidesUptoSaid : Prop := arbiterDecidesUptoRow.holds Try.pinned (OpenSpec.upto arbiterDecidesSpec)

/-- 'signalbrokerlaw21.ArbiterServes', WHERE WHAT IT READS IS OF BULK AT MOST 1048576: true; the input reads as it did. -/
def arbiterServesUptoRow : OpenClaim := { program := "ytikffoepndpfjaa", sum := "3c44027f3fd0eba74f267741dd77db0f1a14f42c8599dd19480986264a7a745f", func := "signalbroker/signalbrokerlaw21.ArbiterServes", spec := "arbiterServes", unfollowed := true, recurses := true, apart := false, narrowed := true }
def ArbiterServesUptoSaid : Prop := arbiterServesUptoRow.holds Try.pinned (OpenSpec.upto arbiterServesSpec)

/-- 'signalbrokerlaw21.ArbiterEnds', WHERE WHAT IT READS IS OF BULK AT MOST 1048576: true; the input reads as it did. -/
def arbiterEndsUptoRow : OpenClaim := { program := "ytikffoepndpfjaa", sum := "3c44027f3fd0eba74f267741dd77db0f1a14f42c8599dd19480986264a7a745f", func := "signalbroker/signalbrokerlaw21.ArbiterEnds", spec := "arbiterEnds", unfollowed := true, recurses := true, apart := false, narrowed := true }
def ArbiterEndsUptoSaid : Prop := arbiterEndsUptoRow.holds Try.pinned (OpenSpec.upto arbiterEndsSpec)

/-- 'signalbrokerlaw21.ArbiterAlone', WHERE WHAT IT READS IS OF BULK AT MOST 1048576: true; the input reads as it did. -/
def arbiterAloneUptoRow : OpenClaim := { program := "ytikffoepndpfjaa", sum := "3c44027f3fd0eba74f267741dd77db0f1a14f42c8599dd19480986264a7a745f", func := "signalbroker/signalbrokerlaw21.ArbiterAlone", spec := "arbiterAlone", unfollowed := true, recurses := true, apart := false, narrowed := true }
def ArbiterAloneUptoSaid : Prop := arbiterAloneUptoRow.holds Try.pinned (OpenSpec.upto arbiterAloneSpec)

end Rows
end Go.Proofs.Ytikffoepndpfjaa
