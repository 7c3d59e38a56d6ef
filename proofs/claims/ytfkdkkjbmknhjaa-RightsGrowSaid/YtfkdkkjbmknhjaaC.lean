/-
  The law RightsGrow answers true for all arguments: its walk. Conditions: none.
-/
import Derived.Test.YtfkdkkjbmknhjaaA
import Derived.LoopTactic
import Derived.Lib.Hide
namespace Go.Proofs.Ytfkdkkjbmknhjaa
open Go.ChangeShapes Go.WideShapes Go.RowKit
set_option linter.unusedVariables false

theorem meet_all : ∀ a < 64, ∀ b < 64, withinB (bits .and .i64 (a : Nat) (b : Nat)) (a : Nat) = true ∧ withinB (bits .and .i64 (a : Nat) (b : Nat)) (b : Nat) = true := by decide +kernel
theorem join_all : ∀ a < 64, ∀ b < 64, withinB (a : Nat) (bits .or .i64 (a : Nat) (b : Nat)) = true := by decide +kernel
theorem self_all : ∀ a < 64, withinB (a : Nat) (a : Nat) = true := by decide +kernel
theorem anti_all : ∀ a < 64, ∀ b < 64, withinB (a : Nat) (b : Nat) = true → withinB (b : Nat) (a : Nat) = true → a = b := by decide +kernel
theorem top_all : ∀ a < 64, withinB (a : Nat) 63 = true := by decide +kernel
theorem nat64 {x : Int} (h : 0 ≤ x ∧ x < 64) : ∃ n : Nat, n < 64 ∧ x = n := by
  obtain ⟨n, rfl⟩ := Int.eq_ofNat_of_zero_le h.1
  exact ⟨n, by omega, rfl⟩
theorem and_nat64 (n m : Nat) (hn : n < 64) (hm : m < 64) : bits .and .i64 (n : Nat) (m : Nat) = ((n &&& m : Nat) : Int) :=
  (bits_nat .i64 6 (by decide) (fun n h0 h1 => by rw [IntKind.wrap_i64]; omega) n m (by omega) (by omega)).1
theorem within_nat {n m : Nat} (hn : n < 64) (hm : m < 64) : withinB n m = true ↔ n &&& m = n := by
  have v1 : validB n = true := by simp [validB]; omega
  have v2 : validB m = true := by simp [validB]; omega
  simp only [withinB, v1, v2, Bool.true_and, bitsV v1 v2, and_nat64 n m hn hm]
  simp; omega
theorem valid_lt {x : Int} (h : validB x = true) : 0 ≤ x ∧ x < 64 := by simp [validB] at h; omega
theorem within_val {a b : Int} (h : withinB a b = true) : (0 ≤ a ∧ a < 64) ∧ 0 ≤ b ∧ b < 64 := by
  unfold withinB at h; rw [Bool.and_eq_true, Bool.and_eq_true] at h; exact ⟨valid_lt h.1, valid_lt h.2.1⟩
theorem within_trans {a b c : Int} (h1 : withinB a b = true) (h2 : withinB b c = true) : withinB a c = true := by
  obtain ⟨n, hn, rfl⟩ := nat64 (within_val h1).1
  obtain ⟨m, hm, rfl⟩ := nat64 (within_val h1).2
  obtain ⟨k, hk, rfl⟩ := nat64 (within_val h2).2
  rw [within_nat hn hm] at h1
  rw [within_nat hm hk] at h2
  rw [within_nat hn hk]
  calc n &&& k = (n &&& m) &&& k := by rw [h1]
    _ = n &&& (m &&& k) := Nat.and_assoc ..
    _ = n := by rw [h2, h1]
theorem within_anti {a b : Int} (h1 : withinB a b = true) (h2 : withinB b a = true) : a = b := by
  obtain ⟨n, hn, rfl⟩ := nat64 (within_val h1).1
  obtain ⟨m, hm, rfl⟩ := nat64 (within_val h1).2
  exact congrArg _ (anti_all n hn m hm h1 h2)
theorem within_meet {a b : Int} (ha : 0 ≤ a ∧ a < 64) (hb : 0 ≤ b ∧ b < 64) : withinB (bits .and .i64 a b) a = true ∧ withinB (bits .and .i64 a b) b = true := by
  obtain ⟨n, hn, rfl⟩ := nat64 ha
  obtain ⟨m, hm, rfl⟩ := nat64 hb
  exact meet_all n hn m hm
theorem within_join {a b : Int} (ha : 0 ≤ a ∧ a < 64) (hb : 0 ≤ b ∧ b < 64) : withinB a (bits .or .i64 a b) = true := by
  obtain ⟨n, hn, rfl⟩ := nat64 ha
  obtain ⟨m, hm, rfl⟩ := nat64 hb
  exact join_all n hn m hm
theorem within_self {a : Int} (ha : 0 ≤ a ∧ a < 64) : withinB a a = true := by
  obtain ⟨n, hn, rfl⟩ := nat64 ha
  exact self_all n hn
theorem permits_top (k : Int) : permitsB 63 k = true := by
  obtain ⟨n, hn, e⟩ := nat64 (valid_lt (needed_valid k))
  unfold permitsB; rw [e]; exact top_all n hn

set_option maxHeartbeats 1000000 in
theorem grow_any (a b c kind : Int) (a1 : -9223372036854775808 ≤ a) (a2 : a ≤ 9223372036854775807) (b1 : -9223372036854775808 ≤ b) (b2 : b ≤ 9223372036854775807) (c1 : -9223372036854775808 ≤ c) (c2 : c ≤ 9223372036854775807) (k1 : -9223372036854775808 ≤ kind) (k2 : kind ≤ 9223372036854775807) (w : World) : Calls Try.prog 4 #[.int .i64 a, .int .i64 b, .int .i64 c, .int .i64 kind] w fun e w' => e = .returned (.bool true) ∧ w = w' := by
  have hx := modI_bd a 64 (by decide)
  have hy := modI_bd b 64 (by decide)
  have hz := modI_bd c 64 (by decide)
  obtain ⟨m1, m2⟩ := within_meet hx hy
  have m3 := within_self hx
  have m4 := within_join hx hy
  have m5 := permits_top kind
  have HP : ∀ k, permitsB (bits .and .i64 (modI a 64) (modI b 64)) k = true → permitsB (modI a 64) k = true := fun k h => within_trans h m1
  have HJ : ∀ k, permitsB (modI a 64) k = true → permitsB (bits .or .i64 (modI a 64) (modI b 64)) k = true := fun k h => within_trans h m4
  have HC : (withinB (modI a 64) (modI b 64) = false) ∨ (withinB (modI a 64) (modI b 64) = true ∧ withinB (modI b 64) (modI a 64) = false ∧ withinB (modI b 64) (modI c 64) = false) ∨ (withinB (modI a 64) (modI b 64) = true ∧ withinB (modI b 64) (modI a 64) = false ∧ withinB (modI b 64) (modI c 64) = true ∧ withinB (modI a 64) (modI c 64) = true) ∨ (withinB (modI a 64) (modI b 64) = true ∧ withinB (modI b 64) (modI a 64) = true ∧ (modI a 64 != modI b 64) = false ∧ ((withinB (modI b 64) (modI c 64) = true ∧ withinB (modI a 64) (modI c 64) = true) ∨ withinB (modI b 64) (modI c 64) = false)) := by
    by_cases h1 : withinB (modI a 64) (modI b 64) = true
    · by_cases h2 : withinB (modI b 64) (modI a 64) = true
      · exact .inr (.inr (.inr ⟨h1, h2, by rw [within_anti h1 h2]; simp, by
          by_cases h3 : withinB (modI b 64) (modI c 64) = true
          · exact .inl ⟨h3, within_trans h1 h3⟩
          · exact .inr (by simpa using h3)⟩))
      · by_cases h3 : withinB (modI b 64) (modI c 64) = true
        · exact .inr (.inr (.inl ⟨h1, by simpa using h2, h3, within_trans h1 h3⟩))
        · exact .inr (.inl ⟨h1, by simpa using h2, by simpa using h3⟩)
    · exact .inl (by simpa using h1)
  generalize hX : modI a 64 = x at *
  generalize hY : modI b 64 = y at *
  generalize hZ : modI c 64 = z at *
  have HX := Lib.hid hX
  have HY := Lib.hid hY
  have HZ := Lib.hid hZ
  have HP' := Lib.hid HP
  have HJ' := Lib.hid HJ
  clear hX hY hZ HP HJ
  rcases HC with h1 | ⟨h1, h2, h3⟩ | ⟨h1, h2, h3, h4⟩ | ⟨h1, h2, h4, ⟨h5, h6⟩ | h5⟩
  all_goals
    go_enter Try.func4, Try.ntmps4
    go_wp2_with (first
      | (go_at_call 9; refine (within_any _ _ _).mono ?_; rintro e w' ⟨rfl, rfl⟩)
      | (go_at_call 6; refine (mod_any _ _ (by omega) (by omega) (by omega) (by omega) _).mono ?_; rintro e w' ⟨rfl, rfl⟩; first | rw [HX.out] | rw [HY.out] | rw [HZ.out]))
    go_loop [70] (fun i => ∃ k : Nat, k ≤ 14 ∧ i = .int .i64 k) (fun i => 14 - (intOf i).toNat)
    case atStart => exact ⟨0, by omega, rfl⟩
    case round =>
      obtain ⟨k, hk, rfl⟩ := hrel
      by_cases hlt : k < 14
      · have HD : (permitsB x k = false ∧ permitsB (bits .and .i64 x y) k = false) ∨ (permitsB (bits .and .i64 x y) k = false ∧ permitsB x k = true ∧ permitsB (bits .or .i64 x y) k = true) ∨ (permitsB (bits .and .i64 x y) k = true ∧ permitsB x k = true ∧ permitsB (bits .or .i64 x y) k = true) := by
          by_cases p2 : permitsB x k = true
          · by_cases p1 : permitsB (bits .and .i64 x y) k = true
            · exact .inr (.inr ⟨p1, p2, HJ'.out k p2⟩)
            · exact .inr (.inl ⟨by simpa using p1, p2, HJ'.out k p2⟩)
          · refine .inl ⟨by simpa using p2, ?_⟩
            by_cases p1 : permitsB (bits .and .i64 x y) k = true
            · exact absurd (HP'.out k p1) p2
            · simpa using p1
        rcases HD with ⟨p1, p2⟩ | ⟨p1, p2, p3⟩ | ⟨p1, p2, p3⟩
        all_goals
          go_wp2_with (go_at_call 13; refine (permits_any _ _ _).mono ?_; rintro e w' ⟨rfl, rfl⟩)
          go_round
          case rel => exact ⟨k + 1, by omega, by go_num⟩
          case measure => simp [intOf]; omega
      · obtain rfl : k = 14 := by omega
        go_wp2_with (first
          | (go_at_call 13; refine (permits_any _ _ _).mono ?_; rintro e w' ⟨rfl, rfl⟩)
          | (go_at_call 15; refine (awake_any _).mono ?_; rintro e w' ⟨rfl, rfl⟩))
        all_goals go_ret
        all_goals exact ⟨rfl, rfl⟩
end Go.Proofs.Ytfkdkkjbmknhjaa
