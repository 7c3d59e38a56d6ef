/-
  Conflict of layer 6, at every pair. Conditions: none.
-/
import Derived.Test.YtmgifmdpjlefcaaK
import Derived.Test.YtmgifmdpjlefcaaG
import Derived.LoopTactic
namespace Go.Proofs.Ytmgifmdpjlefcaa
open Go.ChangeShapes Go.WideShapes Go.RowKit
set_option linter.unusedVariables false

/-- Is the element k in the set x? -/
def hasB (x : Int) (k : Nat) : Bool := decide (x / 2 ^ k % 2 = 1)
theorem and_1 (y : Int) : (bits .and .i64 y 1 == 1) = decide (y % 2 = 1) := by
  have h : bits .and .i64 y 1 = y % 2 := by
    show IntKind.i64.wrap (((BitVec.ofInt 64 y) &&& (BitVec.ofInt 64 1)).toNat : Int) = y % 2
    rw [BitVec.toNat_and, BitVec.toNat_ofInt, BitVec.toNat_ofInt, show ((1 : Int) % ((2 ^ 64 : Nat) : Int)).toNat = 1 by decide, Nat.and_one_is_mod]
    have e : ((2 ^ 64 : Nat) : Int) = 18446744073709551616 := by decide
    rw [e, IntKind.wrap_i64]
    omega
  rw [h]; rfl
def isRowB (c : List Int) (p : Int) : Bool := decide (0 ≤ p ∧ p < (c.length : Int))
def conB (c : List Int) (p q : Int) : Bool := isRowB c p && (isRowB c q && hasB (at_ c p.toNat) q.toNat)
end Go.Proofs.Ytmgifmdpjlefcaa
