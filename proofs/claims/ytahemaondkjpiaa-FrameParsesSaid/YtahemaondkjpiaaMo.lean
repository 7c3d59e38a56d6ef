/-
  The helpers of the laws that draw from a list of numbers: the remainder, the deck and its next number. Conditions: the divisors are positive.
-/
import Derived.Test.YtahemaondkjpiaaK
import Derived.BigQuiet
import Derived.Deep.QuietTactic
namespace Go.Proofs.Ytahemaondkjpiaa
open Go.ChangeShapes Go.WideShapes Go.RowKit
set_option linter.unusedVariables false

/-- The remainder that is never negative, of a positive divisor. -/
def modI (a m : Int) : Int := if a.tmod m < 0 then a.tmod m + m else a.tmod m
theorem modI_bd (a m : Int) (h : 0 < m) : 0 ≤ modI a m ∧ modI a m < m := by
  have h1 := Int.tmod_lt_of_pos a h
  have h2 : -m < a.tmod m := by have := Int.lt_tmod_of_pos a h; omega
  unfold modI; split <;> omega
theorem mod_any (a m : Int) (h0 : 0 < m) (h1 : m ≤ 4294967296) (ha : -9223372036854775808 ≤ a) (hb : a ≤ 9223372036854775807) (w : World) : Calls Try.prog 10 #[.int .i64 a, .int .i64 m] w fun e w' => e = .returned (.int .i64 (modI a m)) ∧ w = w' := by
  have g1 := Int.tmod_lt_of_pos a h0
  have g2 : -m < a.tmod m := by have := Int.lt_tmod_of_pos a h0; omega
  have g0 : (m == 0) = false := by simp; omega
  go_enter Try.func10, Try.ntmps10
  go_wp2
  all_goals go_ret
  all_goals exact ⟨by simp_all [modI]; try omega, rfl⟩
theorem mod_q (a m : Int) (h0 : 0 < m) (h1 : m ≤ 4294967296) (ha : -9223372036854775808 ≤ a) (hb : a ≤ 9223372036854775807) (w : World) : Calls Try.prog 10 #[.int .i64 a, .int .i64 m] w fun e w' => e = .returned (.int .i64 (modI a m)) ∧ w' = w :=
  (mod_any a m h0 h1 ha hb w).mono fun _ _ h => ⟨h.1, h.2.symm⟩
end Go.Proofs.Ytahemaondkjpiaa
