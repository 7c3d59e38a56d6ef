/-
  Worlds that only grew, as an order.
-/
import Derived.Test.YtkpbkahmbbkcdaaMg

namespace Go.Proofs.Ytkpbkahmbbkcdaa
open Go.ChangeShapes Go.WideShapes Go.RowKit

def Bl (w w' : World) : Prop := Below w.heap.size w w'
theorem Bl.refl (w : World) : Bl w w := Below.refl _ _
theorem Bl.trans {a b c : World} (h1 : Bl a b) (h2 : Bl b c) : Bl a c := Below.trans h1 (Below.mono h2 h1.size)
theorem Bl.drew (w : World) (n : Nat) : Bl w (w.drewN n) := below_drewN (Below.refl _ _)
end Go.Proofs.Ytkpbkahmbbkcdaa
