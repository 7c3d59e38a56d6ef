/-
  The bits of a set; the rows of conflicts that the laws of layer 6 draw. Conditions: none.
-/
import Derived.Test.YtibcneppmhhgiaaD
import Derived.Test.YtibcneppmhhgiaaG
import Derived.LoopTactic
namespace Go.Proofs.Ytibcneppmhhgiaa
open Go.ChangeShapes Go.WideShapes Go.RowKit
set_option linter.unusedVariables false

/-- Is the element k in the set x? -/
def hasB (x : Int) (k : Nat) : Bool := decide (x / 2 ^ k % 2 = 1)
theorem and_1 (y : Int) : (bits .and .i64 y 1 == 1) = decide (y % 2 = 1) := by
  have h : bits .and .i64 y 1 = y % 2 := by
    show IntKind.i64.wrap (((BitVec.ofInt 64 y) &&& (BitVec.ofInt 64 1)).toNat : Int) = y % 2
    rw [BitVec.toNat_and, BitVec.toNat_ofInt, BitVec.toNat_ofInt, show ((1 : Int) % ((2 ^ 64 : Nat) : Int)).toNat = 1 by decide, Nat.and_one_is_mod]
    have e : ((2 ^ 64 : Nat) : Int) = 18446744073709551616 := by decide
    rw [e, IntKind.wrap_i64]
    omega
  rw [h]; rfl
theorem has_any (x : Int) (k : Nat) (hk : k < 64) (w : World) : Calls Try.prog 21 #[.int .i64 x, .int .i64 k] w fun e w' => e = .returned (.bool (hasB x k)) ∧ w = w' := by
  go_enter Try.func21, Try.ntmps21
  go_wp2
  go_ret
  exact ⟨by simp [hasB, and_1], rfl⟩
theorem has_nat (n k : Nat) : hasB (n : Int) k = n.testBit k := by
  unfold hasB
  rw [Nat.testBit_eq_decide_div_mod_eq]
  have : ((n : Int) / 2 ^ k % 2 = 1) ↔ (n / 2 ^ k % 2 = 1) := by
    have e : (n : Int) / 2 ^ k % 2 = ((n / 2 ^ k % 2 : Nat) : Int) := by simp
    rw [e]; omega
  exact decide_eq_decide.2 this
end Go.Proofs.Ytibcneppmhhgiaa
