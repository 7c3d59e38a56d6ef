/-
  The functions of layer 13 and of its reference answer what the plain functions of this text say (contracts, for all arguments; the remainder for a positive divisor up to a thousand million).
-/
import Derived.Test.YtfkdkkjbmknhjaaRows
import Derived.WalkKit
namespace Go.Proofs.Ytfkdkkjbmknhjaa
open Go.ChangeShapes Go.WideShapes Go.RowKit
set_option linter.unusedVariables false

def needed (k : Int) : Int :=
  if k = 6 then 1 else if k = 7 then 1 else if k = 8 then 1 else if k = 4 then 2 else if k = 5 then 2 else if k = 2 then 4 else if k = 3 then 8 else if k = 10 then 16 else if k = 11 then 32 else 0

def validB (r : Int) : Bool := decide (0 ≤ r) && decide (r ≤ 63)
def withinB (a b : Int) : Bool := validB a && (validB b && (bits .andNot .i64 a b == 0))
def permitsB (r k : Int) : Bool := withinB (needed k) r
/-- The remainder that is never negative, of a positive divisor. -/
def modI (a m : Int) : Int := if a.tmod m < 0 then a.tmod m + m else a.tmod m
theorem modI_bd (a m : Int) (h : 0 < m) : 0 ≤ modI a m ∧ modI a m < m := by
  have h1 := Int.tmod_lt_of_pos a h
  have h2 : -m < a.tmod m := by have := Int.lt_tmod_of_pos a h; omega
  unfold modI; split <;> omega

theorem valid_any (r : Int) (w : World) : Calls Try.prog 7 #[.int .i64 r] w fun e w' => e = .returned (.bool (validB r)) ∧ w = w' := by
  go_enter Try.func7, Try.ntmps7
  go_wp2
  all_goals go_ret
  all_goals exact ⟨by simp [validB]; try omega, rfl⟩
theorem rvalid_any (r : Int) (w : World) : Calls Try.prog 8 #[.int .i64 r] w fun e w' => e = .returned (.bool (validB r)) ∧ w = w' := by
  go_enter Try.func8, Try.ntmps8
  go_wp2
  all_goals go_ret
  all_goals exact ⟨by simp [validB]; try omega, rfl⟩

theorem within_any (a b : Int) (w : World) : Calls Try.prog 9 #[.int .i64 a, .int .i64 b] w fun e w' => e = .returned (.bool (withinB a b)) ∧ w = w' := by
  go_enter Try.func9, Try.ntmps9
  go_wp2_with (go_at_call 7; refine (valid_any _ _).mono ?_; rintro e w' ⟨rfl, rfl⟩)
  all_goals go_ret
  all_goals exact ⟨by simp_all [withinB], rfl⟩

theorem bits64 : ∀ a < 64, ∀ b < 64, (bits .andNot .i64 (a : Nat) (b : Nat) == 0) = (bits .and .i64 (a : Nat) (b : Nat) == (a : Nat)) := by decide +kernel
theorem bitsV {a b : Int} (ha : validB a = true) (hb : validB b = true) : (bits .andNot .i64 a b == 0) = (bits .and .i64 a b == a) := by
  simp [validB] at ha hb
  obtain ⟨n, rfl⟩ := Int.eq_ofNat_of_zero_le ha.1
  obtain ⟨m, rfl⟩ := Int.eq_ofNat_of_zero_le hb.1
  exact bits64 n (by omega) m (by omega)
theorem rwithin_any (a b : Int) (w : World) : Calls Try.prog 10 #[.int .i64 a, .int .i64 b] w fun e w' => e = .returned (.bool (withinB a b)) ∧ w = w' := by
  go_enter Try.func10, Try.ntmps10
  go_wp2_with (go_at_call 8; refine (rvalid_any _ _).mono ?_; rintro e w' ⟨rfl, rfl⟩)
  all_goals go_ret
  · rename_i h1 h2; exact ⟨by simp [withinB, h1, h2, bitsV h1 h2], rfl⟩
  all_goals exact ⟨by simp_all [withinB], rfl⟩

theorem needed_any (r : Int) (w : World) : Calls Try.prog 11 #[.int .i64 r] w fun e w' => e = .returned (.int .i64 (needed r)) ∧ w = w' := by
  go_enter Try.func11, Try.ntmps11
  go_wp2
  all_goals go_ret
  all_goals exact ⟨by simp_all [needed], rfl⟩
theorem rneeded_any (r : Int) (w : World) : Calls Try.prog 12 #[.int .i64 r] w fun e w' => e = .returned (.int .i64 (needed r)) ∧ w = w' := by
  go_enter Try.func12, Try.ntmps12
  go_wp2
  all_goals go_ret
  all_goals exact ⟨by simp_all [needed], rfl⟩
theorem needed_valid (k : Int) : validB (needed k) = true := by
  unfold needed; repeat' split
  all_goals decide

theorem permits_any (r k : Int) (w : World) : Calls Try.prog 13 #[.int .i64 r, .int .i64 k] w fun e w' => e = .returned (.bool (permitsB r k)) ∧ w = w' := by
  go_enter Try.func13, Try.ntmps13
  go_wp2_with (first
    | (go_at_call 11; refine (needed_any _ _).mono ?_; rintro e w' ⟨rfl, rfl⟩)
    | (go_at_call 9; refine (within_any _ _ _).mono ?_; rintro e w' ⟨rfl, rfl⟩))
  all_goals go_ret
  all_goals exact ⟨rfl, rfl⟩
theorem and_comm64 : ∀ a < 64, ∀ b < 64, bits .and .i64 (a : Nat) (b : Nat) = bits .and .i64 (b : Nat) (a : Nat) := by decide +kernel
theorem rpermits_any (r k : Int) (w : World) : Calls Try.prog 14 #[.int .i64 r, .int .i64 k] w fun e w' => e = .returned (.bool (permitsB r k)) ∧ w = w' := by
  go_enter Try.func14, Try.ntmps14
  go_wp2_with (first
    | (go_at_call 12; refine (rneeded_any _ _).mono ?_; rintro e w' ⟨rfl, rfl⟩)
    | (go_at_call 8; refine (rvalid_any _ _).mono ?_; rintro e w' ⟨rfl, rfl⟩))
  all_goals go_ret
  · rename_i h1
    refine ⟨?_, rfl⟩
    have hv := needed_valid k
    have hc : bits .and .i64 r (needed k) = bits .and .i64 (needed k) r := by
      simp [validB] at h1 hv
      obtain ⟨n, rfl⟩ := Int.eq_ofNat_of_zero_le h1.1
      obtain ⟨m, hm⟩ := Int.eq_ofNat_of_zero_le hv.1
      rw [hm] at hv ⊢
      exact and_comm64 n (by omega) m (by omega)
    simp [permitsB, withinB, h1, hv, bitsV hv h1, hc]
  · exact ⟨by simp_all [permitsB, withinB], rfl⟩
theorem mod_any (a m : Int) (h0 : 0 < m) (h1 : m ≤ 1000000000) (ha : -9223372036854775808 ≤ a) (hb : a ≤ 9223372036854775807) (w : World) : Calls Try.prog 6 #[.int .i64 a, .int .i64 m] w fun e w' => e = .returned (.int .i64 (modI a m)) ∧ w = w' := by
  have g1 := Int.tmod_lt_of_pos a h0
  have g2 : -m < a.tmod m := by have := Int.lt_tmod_of_pos a h0; omega
  have g0 : (m == 0) = false := by simp; omega
  go_enter Try.func6, Try.ntmps6
  go_wp2
  all_goals go_ret
  all_goals exact ⟨by simp_all [modI]; try omega, rfl⟩
theorem awake_any (w : World) : Calls Try.prog 15 #[] w fun e w' => e = .returned (.bool true) ∧ w = w' := by
  have h1 : permitsB 2 5 = true := by decide +kernel
  have h2 : permitsB 2 8 = false := by decide +kernel
  have h3 : permitsB 0 1 = true := by decide +kernel
  have h4 : withinB 1 3 = true := by decide +kernel
  go_enter Try.func15, Try.ntmps15
  go_wp2_with (first
    | (go_at_call 13; refine (permits_any _ _ _).mono ?_; rintro e w' ⟨rfl, rfl⟩)
    | (go_at_call 9; refine (within_any _ _ _).mono ?_; rintro e w' ⟨rfl, rfl⟩))
  all_goals go_ret
  all_goals exact ⟨rfl, rfl⟩
end Go.Proofs.Ytfkdkkjbmknhjaa
