/-
  The law RightsFree answers true for every argument: its walk. Conditions: none.
-/
import Derived.Test.YtfkdkkjbmknhjaaA
import Derived.LoopTactic
namespace Go.Proofs.Ytfkdkkjbmknhjaa
open Go.ChangeShapes Go.WideShapes Go.RowKit
set_option linter.unusedVariables false

/-- The rights that the kinds below k need. -/
def orTo : Nat → Int
  | 0 => 0
  | k + 1 => bits .or .i64 (orTo k) (needed k)
theorem need_one : ∀ k < 13, bits .and .i64 (needed (k : Nat)) (wrap64 (needed (k : Nat) - 1)) = 0 ∧ decide (needed (k : Nat) < 0) = false := by decide +kernel
theorem or_all : orTo 13 = 63 := by decide +kernel
theorem needed_big (k : Int) (h : 13 ≤ k ∨ k < 0) : needed k = 0 := by
  unfold needed; repeat' (first | (rw [if_neg (by omega)]) )

theorem free_any (kind : Int) (ha : -9223372036854775808 ≤ kind) (hb : kind ≤ 9223372036854775807) (w : World) : Calls Try.prog 5 #[.int .i64 kind] w fun e w' => e = .returned (.bool true) ∧ w = w' := by
  have hm := modI_bd kind 1000 (by decide)
  go_enter Try.func5, Try.ntmps5
  go_wp2
  go_loop [3, 7] (fun o i => ∃ k : Nat, k ≤ 13 ∧ i = .int .i64 k ∧ o = .int .i64 (orTo k)) (fun _ i => 13 - (intOf i).toNat)
  case atStart => exact ⟨0, by omega, rfl, rfl⟩
  case round =>
    obtain ⟨k, hk, rfl, rfl⟩ := hrel
    by_cases hlt : k < 13
    · obtain ⟨e1, e2⟩ := need_one k hlt
      go_wp2_with (go_at_call 11; refine (needed_any _ _).mono ?_; rintro e w' ⟨rfl, rfl⟩)
      go_round
      case rel => exact ⟨k + 1, by omega, by go_num, rfl⟩
      case measure => simp [intOf]; omega
    · obtain rfl : k = 13 := by omega
      have e0 : (orTo 13 == 63) = true := by decide +kernel
      have e1 : (needed (13 + modI kind 1000) == 0) = true := by rw [needed_big _ (by omega)]; rfl
      have e2 : (needed (-(13 + modI kind 1000)) == 0) = true := by rw [needed_big _ (by omega)]; rfl
      have e3 : permitsB 0 (13 + modI kind 1000) = true := by unfold permitsB; rw [needed_big _ (by omega)]; decide +kernel
      have e4 : permitsB 64 1 = false := by decide +kernel
      go_wp2_with (first
        | (go_at_call 11; refine (needed_any _ _).mono ?_; rintro e w' ⟨rfl, rfl⟩)
        | (go_at_call 6; refine (mod_any _ _ (by omega) (by omega) (by omega) (by omega) _).mono ?_; rintro e w' ⟨rfl, rfl⟩)
        | (go_at_call 13; refine (permits_any _ _ _).mono ?_; rintro e w' ⟨rfl, rfl⟩)
        | (go_at_call 15; refine (awake_any _).mono ?_; rintro e w' ⟨rfl, rfl⟩))
      go_ways
      all_goals go_ret
      all_goals exact ⟨rfl, rfl⟩
end Go.Proofs.Ytfkdkkjbmknhjaa
