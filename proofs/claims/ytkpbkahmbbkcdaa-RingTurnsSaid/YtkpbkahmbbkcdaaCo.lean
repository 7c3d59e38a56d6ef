/-
  Conflict of layer 6, at every pair. Conditions: none.
-/
import Derived.Test.YtkpbkahmbbkcdaaK
import Derived.Test.YtkpbkahmbbkcdaaG
import Derived.LoopTactic
namespace Go.Proofs.Ytkpbkahmbbkcdaa
open Go.ChangeShapes Go.WideShapes Go.RowKit
set_option linter.unusedVariables false

/-- Is the element k in the set x? -/
def hasB (x : Int) (k : Nat) : Bool := decide (x / 2 ^ k % 2 = 1)
theorem and_1 (y : Int) : (bits .and .i64 y 1 == 1) = decide (y % 2 = 1) := by
  have h : bits .and .i64 y 1 = y % 2 := by
    show IntKind.i64.wrap (((BitVec.ofInt 64 y) &&& (BitVec.ofInt 64 1)).toNat : Int) = y % 2
    rw [BitVec.toNat_and, BitVec.toNat_ofInt, BitVec.toNat_ofInt, show ((1 : Int) % ((2 ^ 64 : Nat) : Int)).toNat = 1 by decide, Nat.and_one_is_mod]
    have e : ((2 ^ 64 : Nat) : Int) = 18446744073709551616 := by decide
    rw [e, IntKind.wrap_i64]
    omega
  rw [h]; rfl
theorem has_any (x : Int) (k : Nat) (hk : k < 64) (w : World) : Calls Try.prog 65 #[.int .i64 x, .int .i64 k] w fun e w' => e = .returned (.bool (hasB x k)) ∧ w = w' := by
  go_enter Try.func65, Try.ntmps65
  go_wp2
  go_ret
  exact ⟨by simp [hasB, and_1], rfl⟩
def isRowB (c : List Int) (p : Int) : Bool := decide (0 ≤ p ∧ p < (c.length : Int))
def conB (c : List Int) (p q : Int) : Bool := isRowB c p && (isRowB c q && hasB (at_ c p.toNat) q.toNat)
theorem isRow_any (A : Option Addr) (l : List Int) (c : Nat) (p : Int) (w : World) : Calls Try.prog 73 #[.slice A l.length c, .int .i64 p] w fun e w' => e = .returned (.bool (isRowB l p)) ∧ w = w' := by
  go_enter Try.func73, Try.ntmps73
  by_cases h : 0 ≤ p
  · go_wp2
    go_ret
    exact ⟨by simp [isRowB, h], rfl⟩
  · go_wp2
    go_ret
    exact ⟨by simp [isRowB]; omega, rfl⟩
theorem conflict_any (A : Option Addr) (l : List Int) (c B : Nat) (p q : Int) (w : World) (hs : Ints .i64 w B A l) (hl : l.length ≤ 60) : Calls Try.prog 66 #[.slice A l.length c, .int .i64 p, .int .i64 q] w fun e w' => e = .returned (.bool (conB l p q)) ∧ w = w' := by
  go_enter Try.func66, Try.ntmps66
  by_cases hp : 0 ≤ p ∧ p < (l.length : Int)
  · have e1 : isRowB l p = true := by simp [isRowB, hp]
    obtain ⟨n, rfl⟩ : ∃ n : Nat, p = n := ⟨p.toNat, by omega⟩
    have hn : n < l.length := by omega
    by_cases hq : 0 ≤ q ∧ q < (l.length : Int)
    · have e2 : isRowB l q = true := by simp [isRowB, hq]
      obtain ⟨k, rfl⟩ : ∃ k : Nat, q = k := ⟨q.toNat, by omega⟩
      obtain ⟨b, off, rfl, hbB, hc⟩ := hs (by omega)
      have hcell := hc n hn
      clear hc hs
      go_wp2_with fail
      refine (isRow_any _ l c _ _).mono ?_; rw [e1]; rintro e w' ⟨rfl, rfl⟩
      go_wp2_with fail
      refine (isRow_any _ l c _ _).mono ?_; rw [e2]; rintro e w' ⟨rfl, rfl⟩
      go_wp2_with fail
      refine (has_any _ k (by omega) _).mono ?_; rintro e w' ⟨rfl, rfl⟩
      go_wp2
      go_ret
      exact ⟨by simp [conB, e1, e2], rfl⟩
    · have e2 : isRowB l q = false := by simpa [isRowB] using hq
      go_wp2_with fail
      refine (isRow_any _ l c _ _).mono ?_; rw [e1]; rintro e w' ⟨rfl, rfl⟩
      go_wp2_with fail
      refine (isRow_any _ l c _ _).mono ?_; rw [e2]; rintro e w' ⟨rfl, rfl⟩
      go_wp2
      go_ret
      exact ⟨by simp [conB, e1, e2], rfl⟩
  · have e1 : isRowB l p = false := by simpa [isRowB] using hp
    go_wp2_with fail
    refine (isRow_any _ l c _ _).mono ?_; rw [e1]; rintro e w' ⟨rfl, rfl⟩
    go_wp2
    go_ret
    exact ⟨by simp [conB, e1], rfl⟩
end Go.Proofs.Ytkpbkahmbbkcdaa
