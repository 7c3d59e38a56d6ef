/-
  The rows of conflicts that the laws of layer 6 draw from a list of numbers. Conditions: none.
-/
import Derived.Test.YtibcneppmhhgiaaCl
namespace Go.Proofs.Ytibcneppmhhgiaa
open Go.ChangeShapes Go.WideShapes Go.RowKit
set_option linter.unusedVariables false

structure RowsOk (n : Nat) (c : List Int) : Prop where
  len : c.length = n
  lo : ∀ p : Nat, p < n → 0 ≤ at_ c p ∧ at_ c p < 2 ^ n
  self : ∀ p : Nat, p < n → hasB (at_ c p) p = false
  both : ∀ p q : Nat, p < n → q < n → hasB (at_ c p) q = hasB (at_ c q) p
theorem at_set {l : List Int} {i : Nat} (hi : i < l.length) (x : Int) (j : Nat) : at_ (l.set i x) j = if j = i then x else at_ l j := by
  unfold at_
  rw [List.getD_eq_getElem?_getD, List.getD_eq_getElem?_getD]
  by_cases h : j = i
  · subst h; rw [if_pos rfl, List.getElem?_set_self hi]; rfl
  · rw [if_neg h, List.getElem?_set_ne (fun e => h e.symm)]
theorem has_or (a k q : Nat) : hasB ((a ||| 2 ^ k : Nat) : Int) q = (hasB (a : Int) q || decide (q = k)) := by
  rw [has_nat, has_nat, Nat.testBit_or, Nat.testBit_two_pow]
  congr 1
  exact decide_eq_decide.2 ⟨fun h => h.symm, fun h => h.symm⟩
/-- x with the element k. -/
def withB (x : Int) (k : Nat) : Int := ((x.toNat ||| 2 ^ k : Nat) : Int)
theorem has_with {x : Int} (hx : 0 ≤ x) (k q : Nat) : hasB (withB x k) q = (hasB x q || decide (q = k)) := by
  rw [withB, has_or, Int.toNat_of_nonneg hx]
theorem with_bd {x : Int} {n k : Nat} (hx : 0 ≤ x ∧ x < 2 ^ n) (hk : k < n) : 0 ≤ withB x k ∧ withB x k < 2 ^ n := by
  have h1 : x.toNat < 2 ^ n := by
    have e : ((2 ^ n : Nat) : Int) = (2 : Int) ^ n := by simp
    rw [← e] at hx; omega
  have h2 : 2 ^ k < 2 ^ n := Nat.pow_lt_pow_right (by decide) hk
  have h3 := Nat.or_lt_two_pow h1 h2
  refine ⟨by unfold withB; omega, ?_⟩
  have e : ((2 ^ n : Nat) : Int) = (2 : Int) ^ n := by simp
  rw [← e]; unfold withB; omega
theorem or_with {x : Int} {n k : Nat} (hx : 0 ≤ x ∧ x < 2 ^ n) (hn : n ≤ 8) (hk : k < n) : bits .or .i64 x (wrap64 (2 ^ k)) = withB x k := by
  have hp : (2 : Nat) ^ n ≤ 256 := Nat.pow_le_pow_right (n := 2) (by decide) hn
  have h1 : x.toNat < 2 ^ n := by
    have e : ((2 ^ n : Nat) : Int) = (2 : Int) ^ n := by simp
    rw [← e] at hx; omega
  have h2 : 2 ^ k < 2 ^ n := Nat.pow_lt_pow_right (by decide) hk
  have e8 : (2 : Nat) ^ 8 = 256 := by decide
  rw [wrap_pow (by omega)]
  have := (bits_nat .i64 8 (by decide) (fun n h0 h1 => by rw [IntKind.wrap_i64]; omega) x.toNat (2 ^ k) (by omega) (by omega)).2
  rw [Int.toNat_of_nonneg hx.1] at this
  exact this
theorem RowsOk.join {n : Nat} {c : List Int} (h : RowsOk n c) {i k : Nat} (hi : i < n) (hk : k < n) (hne : k ≠ i) : RowsOk n ((c.set i (withB (at_ c i) k)).set k (withB (at_ c k) i)) := by
  have hl := h.len
  have hat : ∀ j, at_ ((c.set i (withB (at_ c i) k)).set k (withB (at_ c k) i)) j = if j = k then withB (at_ c k) i else if j = i then withB (at_ c i) k else at_ c j := fun j => by
    rw [at_set (by rw [List.length_set]; omega), at_set (by omega)]
  have hhas : ∀ p q : Nat, p < n → hasB (at_ ((c.set i (withB (at_ c i) k)).set k (withB (at_ c k) i)) p) q = (hasB (at_ c p) q || decide (p = k ∧ q = i ∨ p = i ∧ q = k)) := fun p q hp => by
    rw [hat]
    by_cases h1 : p = k
    · subst h1; rw [if_pos rfl, has_with (h.lo _ hk).1]; simp [hne]
    · by_cases h2 : p = i
      · subst h2; rw [if_neg h1, if_pos rfl, has_with (h.lo _ hi).1]; simp [h1]
      · rw [if_neg h1, if_neg h2]; simp [h1, h2]
  refine ⟨by rw [List.length_set, List.length_set, hl], fun p hp => ?_, fun p hp => ?_, fun p q hp hq => ?_⟩
  · rw [hat]; split
    · exact with_bd (h.lo _ hk) hi
    · split
      · exact with_bd (h.lo _ hi) hk
      · exact h.lo _ hp
  · rw [hhas p p hp, h.self p hp]; simp; omega
  · rw [hhas p q hp, hhas q p hq, h.both p q hp hq]
    congr 1
    exact decide_eq_decide.2 (by omega)
theorem RowsOk.none_ (n : Nat) : RowsOk n (List.replicate n 0) := by
  have h0 : ∀ p, at_ (List.replicate n 0) p = 0 := fun p => by
    unfold at_; rw [List.getD_eq_getElem?_getD, List.getElem?_replicate]; split <;> rfl
  refine ⟨by simp, fun p hp => ?_, fun p hp => ?_, fun p q hp hq => ?_⟩
  · rw [h0]; exact ⟨by omega, Int.pow_pos (by decide)⟩
  · rw [h0]; simp [hasB]
  · rw [h0, h0]; simp [hasB]
end Go.Proofs.Ytibcneppmhhgiaa
