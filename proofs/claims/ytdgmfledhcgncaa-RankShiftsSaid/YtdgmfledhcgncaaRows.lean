/-
  No cell of these rows narrows 'for every input' (looked for: loops, veiled, ifaces, maps, wideKeys, modest, calm, conditions, laid).
  DERIVED. THE GIVEN ROWS OF THIS SEAT. 5 by the template 'for every input the law returns true; each argument reads behind the call as it read before'; 0 by the template 'total and deterministic' (their statements: YtdgmfledhcgncaaTotals.lean).
  GIVEN WITH THE SEED: the statements are not yours to turn. If you find one false, say at which input.
  Laid BY PROGRAM, IN A SANDBOX (cutbox-rows.mjs): the forced cells as the released guide's own fill.sh prints them over the translation e4bdf3f8f5606c26… (all of the seat's roots in one cut). By AI agents, Wed Nov 11 2026. No macro, syntax, notation, axiom, sorry.
-/
import Derived.Test.YtdgmfledhcgncaaChecked
import GoSem.Claim
import GoSem.ClaimJoined
import GoSem.ClaimMapViews
import Derived.JoinedTies
import Derived.KernelRfl
namespace Go.Proofs.Ytdgmfledhcgncaa
/- THE CELL 'sum', in the pinned program and in every row, IS THE sha256 OF THE DUMP (.gsa) THAT YtdgmfledhcgncaaProg.lean LOADS. Nothing in Lean hashes anything: it is a label: what it is worth is what the hold of that sum in a sandbox is worth. -/
noncomputable def Try.pinned : Pinned := { name := "ytdgmfledhcgncaa", sum := "e4bdf3f8f5606c266cf8587ead698dc0309b5d95e337f0599b541ea20a636ae2", checked := Try.checked }
namespace Rows
def none {H : Type} : Left H := { results := [], args := [] }

/-- 'signalbrokerlaw20.RankOrders': WHATEVER THE INPUT: true; the input reads as it did. -/
def rankOrdersSpec : ChangeSpec := { name := "rankOrders", fn := fun _ => fun
  | [d1, d2] => { results := [.lit (.bool true)], args := [d1, d2] }
  | _ => none }
def rankOrdersRow : OpenClaim := { program := "ytdgmfledhcgncaa", sum := "e4bdf3f8f5606c266cf8587ead698dc0309b5d95e337f0599b541ea20a636ae2", func := "signalbroker/signalbrokerlaw20.RankOrders", spec := "rankOrders", apart := false }
def RankOrdersSaid : Prop := rankOrdersRow.holds Try.pinned (OpenSpec.ofChange rankOrdersSpec)

/-- ITS FALSE NEIGHBOUR: 'it returns false'. Refute it at one input. -/
def rankOrdersWrong : ChangeSpec := { name := "rankOrders", fn := fun _ => fun
  | [d1, d2] => { results := [.lit (.bool false)], args := [d1, d2] }
  | _ => none }
def RankOrdersWrongFalsely : Prop := rankOrdersRow.holds Try.pinned (OpenSpec.ofChange rankOrdersWrong)

/-- 'signalbrokerlaw20.RankStrict': WHATEVER THE INPUT: true; the input reads as it did. -/
def rankStrictSpec : ChangeSpec := { name := "rankStrict", fn := fun _ => fun
  | [d1, d2] => { results := [.lit (.bool true)], args := [d1, d2] }
  | _ => none }
def rankStrictRow : OpenClaim := { program := "ytdgmfledhcgncaa", sum := "e4bdf3f8f5606c266cf8587ead698dc0309b5d95e337f0599b541ea20a636ae2", func := "signalbroker/signalbrokerlaw20.RankStrict", spec := "rankStrict", apart := false }
def RankStrictSaid : Prop := rankStrictRow.holds Try.pinned (OpenSpec.ofChange rankStrictSpec)

/-- ITS FALSE NEIGHBOUR: 'it returns false'. Refute it at one input. -/
def rankStrictWrong : ChangeSpec := { name := "rankStrict", fn := fun _ => fun
  | [d1, d2] => { results := [.lit (.bool false)], args := [d1, d2] }
  | _ => none }
def RankStrictWrongFalsely : Prop := rankStrictRow.holds Try.pinned (OpenSpec.ofChange rankStrictWrong)

/-- 'signalbrokerlaw20.RankRises': WHATEVER THE INPUT: true; the input reads as it did. -/
def rankRisesSpec : ChangeSpec := { name := "rankRises", fn := fun _ => fun
  | [d1, d2, d3] => { results := [.lit (.bool true)], args := [d1, d2, d3] }
  | _ => none }
def rankRisesRow : OpenClaim := { program := "ytdgmfledhcgncaa", sum := "e4bdf3f8f5606c266cf8587ead698dc0309b5d95e337f0599b541ea20a636ae2", func := "signalbroker/signalbrokerlaw20.RankRises", spec := "rankRises", apart := false }
def RankRisesSaid : Prop := rankRisesRow.holds Try.pinned (OpenSpec.ofChange rankRisesSpec)

/-- ITS FALSE NEIGHBOUR: 'it returns false'. Refute it at one input. -/
def rankRisesWrong : ChangeSpec := { name := "rankRises", fn := fun _ => fun
  | [d1, d2, d3] => { results := [.lit (.bool false)], args := [d1, d2, d3] }
  | _ => none }
def RankRisesWrongFalsely : Prop := rankRisesRow.holds Try.pinned (OpenSpec.ofChange rankRisesWrong)

/-- 'signalbrokerlaw20.RankBest': WHATEVER THE INPUT: true; the input reads as it did. -/
def rankBestSpec : ChangeSpec := { name := "rankBest", fn := fun _ => fun
  | [d1, d2] => { results := [.lit (.bool true)], args := [d1, d2] }
  | _ => none }
def rankBestRow : OpenClaim := { program := "ytdgmfledhcgncaa", sum := "e4bdf3f8f5606c266cf8587ead698dc0309b5d95e337f0599b541ea20a636ae2", func := "signalbroker/signalbrokerlaw20.RankBest", spec := "rankBest", apart := false }
def RankBestSaid : Prop := rankBestRow.holds Try.pinned (OpenSpec.ofChange rankBestSpec)

/-- ITS FALSE NEIGHBOUR: 'it returns false'. Refute it at one input. -/
def rankBestWrong : ChangeSpec := { name := "rankBest", fn := fun _ => fun
  | [d1, d2] => { results := [.lit (.bool false)], args := [d1, d2] }
  | _ => none }
def RankBestWrongFalsely : Prop := rankBestRow.holds Try.pinned (OpenSpec.ofChange rankBestWrong)

/-- 'signalbrokerlaw20.RankShifts': WHATEVER THE INPUT: true; the input reads as it did. -/
def rankShiftsSpec : ChangeSpec := { name := "rankShifts", fn := fun _ => fun
  | [d1, d2, d3] => { results := [.lit (.bool true)], args := [d1, d2, d3] }
  | _ => none }
def rankShiftsRow : OpenClaim := { program := "ytdgmfledhcgncaa", sum := "e4bdf3f8f5606c266cf8587ead698dc0309b5d95e337f0599b541ea20a636ae2", func := "signalbroker/signalbrokerlaw20.RankShifts", spec := "rankShifts", apart := false }
def RankShiftsSaid : Prop := rankShiftsRow.holds Try.pinned (OpenSpec.ofChange rankShiftsSpec)

/-- ITS FALSE NEIGHBOUR: 'it returns false'. Refute it at one input. -/
def rankShiftsWrong : ChangeSpec := { name := "rankShifts", fn := fun _ => fun
  | [d1, d2, d3] => { results := [.lit (.bool false)], args := [d1, d2, d3] }
  | _ => none }
def RankShiftsWrongFalsely : Prop := rankShiftsRow.holds Try.pinned (OpenSpec.ofChange rankShiftsWrong)

/- THE SECOND FORM. 'bulk': how many values and letters a reading holds, each counted each time it is reached (what is shared counts as often as it is met; a slice's spare places count too). A statement '..UptoSaid' is the law's where the arguments, and the package variables that the reading takes, are together of bulk at most 1048576: NARROWER than '..Said'. Prove '..Said' where nothing that the law and all that it calls make is longer than what came in: it says more and counts as full. Else prove '..UptoSaid'. A law counts once. -/
mutual
def uptoBulk {H : Type} : DataW H → Nat
  | .lit (.string bytes) => bytes.length + 1
  | .lit _ => 1
  | .nil => 1
  | .ptr d => uptoBulk d + 1
  | .slice elems spare => uptoBulkAll elems + uptoBulkAll spare + 1
  | .agg parts => uptoBulkAll parts + 1
  | .iface _ d => uptoBulk d + 1
  | .map entries => uptoBulkEntries entries + 1
  | .held _ => 1
def uptoBulkAll {H : Type} : List (DataW H) → Nat
  | [] => 0
  | d :: r => uptoBulk d + uptoBulkAll r
def uptoBulkEntries {H : Type} : List (Lit × DataW H) → Nat
  | [] => 0
  | x :: r => uptoBulkEntry x + uptoBulkEntries r
def uptoBulkEntry {H : Type} : Lit × DataW H → Nat
  | (.string bytes, d) => bytes.length + uptoBulk d + 1
  | (_, d) => uptoBulk d + 1
 end
def uptoSmall : (H : Type) → List (DataW H) → Bool := fun _ ds => decide (uptoBulkAll ds ≤ 1048576)
def OpenSpec.upto (s : _root_.Go.ChangeSpec) : _root_.Go.OpenSpec := { _root_.Go.OpenSpec.ofChange s with cond := some uptoSmall }

/-- 'signalbrokerlaw20.RankOrders', WHERE WHAT IT READS IS OF BULK AT MOST 1048576: true; the input reads as it did. -/
def rankOrdersUptoRow : OpenClaim := { program := "ytdgmfledhcgncaa", sum := "e4bdf3f8f5606c266cf8587ead698dc0309b5d95e337f0599b541ea20a636ae2", func := "signalbroker/signalbrokerlaw20.RankOrders", spec := "rankOrders", apart := false, narrowed := true }
def RankOrdersUptoSaid : Prop := rankOrdersUptoRow.holds Try.pinned (OpenSpec.upto rankOrdersSpec)

/-- 'signalbrokerlaw20.RankStrict', WHERE WHAT IT READS IS OF BULK AT MOST 1048576: true; the input reads as it did. -/
def rankStrictUptoRow : OpenClaim := { program := "ytdgmfledhcgncaa", sum := "e4bdf3f8f5606c266cf8587ead698dc0309b5d95e337f0599b541ea20a636ae2", func := "signalbroker/signalbrokerlaw20.RankStrict", spec := "rankStrict", apart := false, narrowed := true }
def RankStrictUptoSaid : Prop := rankStrictUptoRow.holds Try.pinned (OpenSpec.upto rankStrictSpec)

/-- 'signalbrokerlaw20.RankRises', WHERE WHAT IT READS IS OF BULK AT MOST 1048576: true; the input reads as it did. -/
def rankRisesUptoRow : OpenClaim := { program := "ytdgmfledhcgncaa", sum := "e4bdf3f8f5606c266cf8587ead698dc0309b5d95e337f0599b541ea20a636ae2", func := "signalbroker/signalbrokerlaw20.RankRises", spec := "rankRises", apart := false, narrowed := true }
def RankRisesUptoSaid : Prop := rankRisesUptoRow.holds Try.pinned (OpenSpec.upto rankRisesSpec)

/-- 'signalbrokerlaw20.RankBest', WHERE WHAT IT READS IS OF BULK AT MOST 1048576: true; the input reads as it did. -/
def rankBestUptoRow : OpenClaim := { program := "ytdgmfledhcgncaa", sum := "e4bdf3f8f5606c266cf8587ead698dc0309b5d95e337f0599b541ea20a636ae2", func := "signalbroker/signalbrokerlaw20.RankBest", spec := "rankBest", apart := false, narrowed := true }
def RankBestUptoSaid : Prop := rankBestUptoRow.holds Try.pinned (OpenSpec.upto rankBestSpec)

/-- 'signalbrokerlaw20.RankShifts', WHERE WHAT IT READS IS OF BULK AT MOST 1048576: true; the input reads as it did. -/
def rankShiftsUptoRow : OpenClaim := { program := "ytdgmfledhcgncaa", sum := "e4bdf3f8f5606c266cf8587ead698dc0309b5d95e337f0599b541ea20a636ae2", func := "signalbroker/signalbrokerlaw20.RankShifts", spec := "rankShifts", apart := false, narrowed := true }
def RankShiftsUptoSaid : Prop := rankShiftsUptoRow.holds Try.pinned (OpenSpec.upto rankShiftsSpec)

end Rows
end Go.Proofs.Ytdgmfledhcgncaa
