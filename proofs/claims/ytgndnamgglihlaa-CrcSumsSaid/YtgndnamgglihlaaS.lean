/-
  The law CrcSums answers true for all arguments: its walk. Conditions: none.
-/
import Derived.Test.YtgndnamgglihlaaW
namespace Go.Proofs.Ytgndnamgglihlaa
open Go.ChangeShapes Go.WideShapes Go.RowKit
set_option linter.unusedVariables false

theorem sums_any (A : Option Addr) (c : Nat) (a : List Int) (A' : Option Addr) (c' : Nat) (b : List Int) (sum : Int) (w : World)
    (hs : Ints .u8 w w.heap.size A a) (hb : Byte a) (hl : a.length ≤ 9223372036854775807)
    (hs' : Ints .u8 w w.heap.size A' b) (hb' : Byte b) (hl' : b.length ≤ 9223372036854775807) (s0 : 0 ≤ sum) (s1 : sum ≤ 4294967295) :
    Calls Try.prog 3 #[.slice A a.length c, .slice A' b.length c', .int .u32 sum] w fun e w' => e = .returned (.bool true) ∧ Below w.heap.size w w' := by
  obtain ⟨v, rfl⟩ := un_of s0 s1
  have e1 : (un (upd 0#32 a) == un (upd 0#32 a)) = true := by simp
  have e2 : (un (upd v b) == un (upd v b)) = true := by simp
  have e3 : (un (upd 0#32 []) == 0) = true := by decide +kernel
  clear s0 s1
  by_cases h1 : a.length ≤ 600
  · by_cases h2 : b.length ≤ 600
    · go_enter Try.func3, Try.ntmps3
      go_wp2_with fail
      refine (short_any _ _ _ _ hl).mono ?_; rintro e w' ⟨rfl, rfl⟩
      go_wp2_with fail
      refine (short_any _ _ _ _ hl').mono ?_; rintro e w' ⟨rfl, rfl⟩
      go_wp2_with fail
      refine (sum_any _ _ _ _ hs hb hl).mono ?_; rintro e w' ⟨rfl, rfl⟩
      go_wp2_with fail
      refine (rsum_any _ _ _ _ hs hb hl).mono ?_; rintro e w' ⟨rfl, rfl⟩
      go_wp2_with fail
      refine (update_any _ _ _ _ _ hs' hb' hl').mono ?_; rintro e w' ⟨rfl, rfl⟩
      go_wp2_with fail
      refine (rupdate_any _ _ _ _ _ hs' hb' hl').mono ?_; rintro e w' ⟨rfl, rfl⟩
      go_wp2_with fail
      refine (sum_any none 0 [] _ Ints.nil_ (by unfold Byte; simp) (by simp)).mono ?_; rintro e w' ⟨rfl, rfl⟩
      go_wp2_with fail
      refine (awake_any _).mono ?_; rintro e w' ⟨rfl, hw⟩
      go_wp2
      go_ret
      exact ⟨rfl, hw⟩
    · have h2' : decide (b.length ≤ 600) = false := by simpa using h2
      go_enter Try.func3, Try.ntmps3
      go_wp2_with (first
        | (go_at_call 8; refine (short_any _ _ _ _ (by assumption)).mono ?_; rintro e w' ⟨rfl, rfl⟩)
        | (go_at_call 9; refine (awake_any _).mono ?_; rintro e w' ⟨rfl, hw⟩))
      go_ret
      exact ⟨rfl, hw⟩
  · have h1' : decide (a.length ≤ 600) = false := by simpa using h1
    go_enter Try.func3, Try.ntmps3
    go_wp2_with (first
      | (go_at_call 8; refine (short_any _ _ _ _ (by assumption)).mono ?_; rintro e w' ⟨rfl, rfl⟩)
      | (go_at_call 9; refine (awake_any _).mono ?_; rintro e w' ⟨rfl, hw⟩))
    go_ret
    exact ⟨rfl, hw⟩
end Go.Proofs.Ytgndnamgglihlaa
