/-
  The functions of layer 2 and of its reference answer what the plain functions on numbers and lists of bytes say.
-/
import Derived.Test.YtepkpogpekflmaaG
import Derived.LoopTactic
import Derived.LoopN
namespace Go.Proofs.Ytepkpogpekflmaa
open Go.ChangeShapes Go.WideShapes Go.RowKit
set_option linter.unusedVariables false

def sz (n : Nat) : Nat := if n < 128 then 1 else if n < 16384 then 2 else if n < 2097152 then 3 else if n < 268435456 then 4 else 5
def sizeI (n : Int) : Int := if n < 0 then 0 else if 4294967295 < n then 0 else (sz n.toNat : Int)

theorem size_any (n : Int) (w : World) : Calls Try.prog 11 #[.int .i64 n] w fun e w' => e = .returned (.int .i64 (sizeI n)) ∧ w = w' := by
  by_cases h0 : n < 0
  · have E := Lib.hid (show sizeI n = 0 by unfold sizeI; rw [if_pos h0])
    go_enter Try.func11, Try.ntmps11
    go_wp2
    go_ret
    exact ⟨by rw [E.out]; rfl, rfl⟩
  · by_cases h1 : 4294967295 < n
    · have E := Lib.hid (show sizeI n = 0 by unfold sizeI; rw [if_neg h0, if_pos h1])
      go_enter Try.func11, Try.ntmps11
      go_wp2
      go_ret
      exact ⟨by rw [E.out]; rfl, rfl⟩
    · have hc : (n < 128 ∧ sizeI n = 1) ∨ (128 ≤ n ∧ n < 16384 ∧ sizeI n = 2) ∨ (16384 ≤ n ∧ n < 2097152 ∧ sizeI n = 3) ∨ (2097152 ≤ n ∧ n < 268435456 ∧ sizeI n = 4) ∨ (268435456 ≤ n ∧ sizeI n = 5) := by
        unfold sizeI; rw [if_neg h0, if_neg h1]; unfold sz
        repeat' split
        all_goals omega
      rcases hc with ⟨c2, hE⟩ | ⟨c1, c2, hE⟩ | ⟨c1, c2, hE⟩ | ⟨c1, c2, hE⟩ | ⟨c1, hE⟩
      all_goals
        have E := Lib.hid hE
        clear hE
        go_enter Try.func11, Try.ntmps11
        go_wp2
        refine wp_loop_rounds 6 ?_
        rw [rounds_succ]
        go_wp2
        try (rw [rounds_succ]; go_wp2)
        try (rw [rounds_succ]; go_wp2)
        try (rw [rounds_succ]; go_wp2)
        try (rw [rounds_succ]; go_wp2)
        go_ret
        exact ⟨by rw [E.out]; rfl, rfl⟩
theorem rsize_any (n : Int) (w : World) : Calls Try.prog 12 #[.int .i64 n] w fun e w' => e = .returned (.int .i64 (sizeI n)) ∧ w = w' := by
  by_cases h0 : n < 0
  · have E := Lib.hid (show sizeI n = 0 by unfold sizeI; rw [if_pos h0])
    go_enter Try.func12, Try.ntmps12
    go_wp2
    go_ret
    exact ⟨by rw [E.out]; rfl, rfl⟩
  · by_cases h1 : 4294967295 < n
    · have E := Lib.hid (show sizeI n = 0 by unfold sizeI; rw [if_neg h0, if_pos h1])
      go_enter Try.func12, Try.ntmps12
      go_wp2
      go_ret
      exact ⟨by rw [E.out]; rfl, rfl⟩
    · have hc : (n < 128 ∧ sizeI n = 1) ∨ (128 ≤ n ∧ n < 16384 ∧ sizeI n = 2) ∨ (16384 ≤ n ∧ n < 2097152 ∧ sizeI n = 3) ∨ (2097152 ≤ n ∧ n < 268435456 ∧ sizeI n = 4) ∨ (268435456 ≤ n ∧ sizeI n = 5) := by
        unfold sizeI; rw [if_neg h0, if_neg h1]; unfold sz
        repeat' split
        all_goals omega
      rcases hc with ⟨c2, hE⟩ | ⟨c1, c2, hE⟩ | ⟨c1, c2, hE⟩ | ⟨c1, c2, hE⟩ | ⟨c1, hE⟩
      all_goals
        have E := Lib.hid hE
        clear hE
        go_enter Try.func12, Try.ntmps12
        go_wp2
        refine wp_loop_rounds 6 ?_
        rw [rounds_succ]
        go_wp2
        try (rw [rounds_succ]; go_wp2)
        try (rw [rounds_succ]; go_wp2)
        try (rw [rounds_succ]; go_wp2)
        try (rw [rounds_succ]; go_wp2)
        go_ret
        exact ⟨by rw [E.out]; rfl, rfl⟩
theorem size_cases {n : Int} (h0 : 0 ≤ n) (h1 : n ≤ 4294967295) : (n < 128 ∧ sizeI n = 1) ∨ (128 ≤ n ∧ n < 16384 ∧ sizeI n = 2) ∨ (16384 ≤ n ∧ n < 2097152 ∧ sizeI n = 3) ∨ (2097152 ≤ n ∧ n < 268435456 ∧ sizeI n = 4) ∨ (268435456 ≤ n ∧ sizeI n = 5) := by
  unfold sizeI; rw [if_neg (by omega), if_neg (by omega)]; unfold sz
  repeat' split
  all_goals omega
end Go.Proofs.Ytepkpogpekflmaa
