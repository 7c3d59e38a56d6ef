/-
  The law RightsHold answers true for all arguments: its walk. Conditions: none.
-/
import Derived.Test.YtfkdkkjbmknhjaaA
import Derived.Test.YtfkdkkjbmknhjaaK
import Derived.LoopTactic
import Derived.BigQuiet
import Derived.Deep.QuietTactic
import Derived.Lib.Hide
namespace Go.Proofs.Ytfkdkkjbmknhjaa
open Go.ChangeShapes Go.WideShapes Go.RowKit
set_option linter.unusedVariables false

theorem ne_self_b (b : Bool) : (b != b) = false := by cases b <;> rfl
theorem ne_self_i (b : Int) : (b != b) = false := by simp
theorem valid_q (r : Int) (w : World) : Calls Try.prog 7 #[.int .i64 r] w fun e w' => e = .returned (.bool (validB r)) ∧ w' = w :=
  (valid_any r w).mono fun _ _ h => ⟨h.1, h.2.symm⟩
theorem rvalid_q (r : Int) (w : World) : Calls Try.prog 8 #[.int .i64 r] w fun e w' => e = .returned (.bool (validB r)) ∧ w' = w :=
  (rvalid_any r w).mono fun _ _ h => ⟨h.1, h.2.symm⟩
theorem within_q (a b : Int) (w : World) : Calls Try.prog 9 #[.int .i64 a, .int .i64 b] w fun e w' => e = .returned (.bool (withinB a b)) ∧ w' = w :=
  (within_any a b w).mono fun _ _ h => ⟨h.1, h.2.symm⟩
theorem rwithin_q (a b : Int) (w : World) : Calls Try.prog 10 #[.int .i64 a, .int .i64 b] w fun e w' => e = .returned (.bool (withinB a b)) ∧ w' = w :=
  (rwithin_any a b w).mono fun _ _ h => ⟨h.1, h.2.symm⟩
theorem needed_q (r : Int) (w : World) : Calls Try.prog 11 #[.int .i64 r] w fun e w' => e = .returned (.int .i64 (needed r)) ∧ w' = w :=
  (needed_any r w).mono fun _ _ h => ⟨h.1, h.2.symm⟩
theorem rneeded_q (r : Int) (w : World) : Calls Try.prog 12 #[.int .i64 r] w fun e w' => e = .returned (.int .i64 (needed r)) ∧ w' = w :=
  (rneeded_any r w).mono fun _ _ h => ⟨h.1, h.2.symm⟩
theorem permits_q (a b : Int) (w : World) : Calls Try.prog 13 #[.int .i64 a, .int .i64 b] w fun e w' => e = .returned (.bool (permitsB a b)) ∧ w' = w :=
  (permits_any a b w).mono fun _ _ h => ⟨h.1, h.2.symm⟩
theorem rpermits_q (a b : Int) (w : World) : Calls Try.prog 14 #[.int .i64 a, .int .i64 b] w fun e w' => e = .returned (.bool (permitsB a b)) ∧ w' = w :=
  (rpermits_any a b w).mono fun _ _ h => ⟨h.1, h.2.symm⟩

set_option maxHeartbeats 1000000 in
theorem hold_any (a b c : Int) (a1 : -9223372036854775808 ≤ a) (a2 : a ≤ 9223372036854775807) (b1 : -9223372036854775808 ≤ b) (b2 : b ≤ 9223372036854775807) (c1 : -9223372036854775808 ≤ c) (c2 : c ≤ 9223372036854775807) (w : World) : Calls Try.prog 3 #[.int .i64 a, .int .i64 b, .int .i64 c] w fun e w' => e = .returned (.bool true) ∧ Below w.heap.size w w' := by
  have g1 := modI_bd a 66 (by decide)
  have g2 := modI_bd b 66 (by decide)
  have g3 := modI_bd c 25 (by decide)
  have g4 := modI_bd a 64 (by decide)
  have g5 := modI_bd b 64 (by decide)
  have g6 := modI_bd c 13 (by decide)
  go_enter Try.func3, Try.ntmps3
  go_wp2_with (go_at_call 6; refine (mod_any _ _ (by omega) (by omega) (by omega) (by omega) _).mono ?_; rintro e w' ⟨rfl, rfl⟩)
  refine wp_loop_rounds 4 ?_
  rw [rounds_succ]
  go_wp2_with fail
  go_quiet ((first | (go_at_call 7; exact Calls.quiet_of_same (valid_q _ _)) | (go_at_call 8; exact Calls.quiet_of_same (rvalid_q _ _)) | (go_at_call 9; exact Calls.quiet_of_same (within_q _ _ _)) | (go_at_call 10; exact Calls.quiet_of_same (rwithin_q _ _ _)) | (go_at_call 11; exact Calls.quiet_of_same (needed_q _ _)) | (go_at_call 12; exact Calls.quiet_of_same (rneeded_q _ _)) | (go_at_call 13; exact Calls.quiet_of_same (permits_q _ _ _)) | (go_at_call 14; exact Calls.quiet_of_same (rpermits_q _ _ _))))
  go_wp2_with fail
  rw [rounds_succ]
  go_wp2_with fail
  go_quiet ((first | (go_at_call 7; exact Calls.quiet_of_same (valid_q _ _)) | (go_at_call 8; exact Calls.quiet_of_same (rvalid_q _ _)) | (go_at_call 9; exact Calls.quiet_of_same (within_q _ _ _)) | (go_at_call 10; exact Calls.quiet_of_same (rwithin_q _ _ _)) | (go_at_call 11; exact Calls.quiet_of_same (needed_q _ _)) | (go_at_call 12; exact Calls.quiet_of_same (rneeded_q _ _)) | (go_at_call 13; exact Calls.quiet_of_same (permits_q _ _ _)) | (go_at_call 14; exact Calls.quiet_of_same (rpermits_q _ _ _))))
  go_wp2_with fail
  rw [rounds_succ]
  go_wp2_with fail
  go_quiet ((first | (go_at_call 7; exact Calls.quiet_of_same (valid_q _ _)) | (go_at_call 8; exact Calls.quiet_of_same (rvalid_q _ _)) | (go_at_call 9; exact Calls.quiet_of_same (within_q _ _ _)) | (go_at_call 10; exact Calls.quiet_of_same (rwithin_q _ _ _)) | (go_at_call 11; exact Calls.quiet_of_same (needed_q _ _)) | (go_at_call 12; exact Calls.quiet_of_same (rneeded_q _ _)) | (go_at_call 13; exact Calls.quiet_of_same (permits_q _ _ _)) | (go_at_call 14; exact Calls.quiet_of_same (rpermits_q _ _ _))))
  go_wp2_with fail
  rw [rounds_succ]
  go_wp2_with (go_at_call 15; refine (awake_any _).mono ?_; rintro e w' ⟨rfl, rfl⟩)
  go_ret
  refine ⟨rfl, ?_⟩
  repeat (first | exact Below.refl _ _ | apply below_drewN | apply Below.drew | (refine lat_alloc ?_ _))
end Go.Proofs.Ytfkdkkjbmknhjaa
