/-
  Plain facts about sets, clashes and what is allowed. Conditions: rows as the laws draw them.
-/
import Derived.Test.YtibcneppmhhgiaaVa
namespace Go.Proofs.Ytibcneppmhhgiaa
open Go.ChangeShapes Go.WideShapes Go.RowKit
set_option linter.unusedVariables false

theorem alw_bit (l : List Int) (s : Int) (k p : Nat) : (alw l s k).testBit p = (decide (p < k) && freeB l s p) := by
  induction k with
  | zero => simp [alw]
  | succ k ih =>
    have hl := alw_lt l s k
    rw [alw]
    by_cases hf : freeB l s k = true
    · have e := Nat.two_pow_add_eq_or_of_lt hl 1
      rw [Nat.mul_one] at e
      rw [if_pos hf, Nat.add_comm, e, Nat.testBit_or, Nat.testBit_two_pow, ih]
      rcases Nat.lt_trichotomy p k with g | g | g
      · simp [g, show ¬ k = p by omega, show p < k + 1 by omega]
      · subst g; simp [hf]
      · simp [show ¬ k = p by omega, show ¬ p < k by omega, show ¬ p < k + 1 by omega]
    · rw [if_neg hf, Nat.add_zero, ih]
      rcases Nat.lt_trichotomy p k with g | g | g
      · simp [g, show p < k + 1 by omega]
      · subst g; simp [eq_false_of_ne_true hf]
      · simp [show ¬ p < k by omega, show ¬ p < k + 1 by omega]
theorem sub_none {l : List Int} {S P : Int} (hsub : ∀ k, hasB P k = true → hasB S k = true) (h : Clashes l S (-1) (-1)) : Clashes l P (-1) (-1) := by
  rcases h with ⟨_, _, h⟩ | ⟨i, j, e, _⟩
  · refine .inl ⟨rfl, rfl, fun i j hi hj => ?_⟩
    have := h i j hi hj
    unfold pairB at this ⊢
    cases h1 : hasB P i <;> cases h2 : hasB P j <;> simp_all
  · omega
theorem free_sub {l : List Int} {S P : Int} (hsub : ∀ k, hasB P k = true → hasB S k = true) {p : Nat} (h : freeB l S p = true) : freeB l P p = true := by
  unfold freeB at h ⊢
  simp only [Bool.and_eq_true, Bool.not_eq_true'] at h ⊢
  refine ⟨?_, ?_⟩
  · cases h1 : hasB P p
    · rfl
    · rw [hsub p h1] at h; simp at h
  · cases h1 : meetTo l P p l.length
    · rfl
    · simp only [meetTo, List.any_eq_true, List.mem_range, hitB, Bool.and_eq_true] at h1
      obtain ⟨q, hq, h2, h3⟩ := h1
      have : meetTo l S p l.length = true := by
        simp only [meetTo, List.any_eq_true, List.mem_range, hitB, Bool.and_eq_true]
        exact ⟨q, hq, hsub q h2, h3⟩
      rw [this] at h; simp at h
theorem conf_nat {l : List Int} {p q : Nat} (hp : p < l.length) (hq : q < l.length) : confB l p q = hasB (at_ l p) q := by
  unfold confB isRowB
  rw [decide_eq_true (by omega), decide_eq_true (by omega)]
  simp
theorem clash_lt {n : Nat} {l : List Int} (h : RowsOk n l) {S : Int} {i j : Nat} (hi : i < l.length) (hj : j < l.length) (ht : pairB l S i j = true) (hb : ∀ i' j' : Nat, i' < i → j' < l.length → pairB l S i' j' = false) : i < j := by
  have hl := h.len
  rcases Nat.lt_trichotomy i j with g | g | g
  · exact g
  · subst g
    rw [pairB, conf_nat hi hi, h.self i (by omega)] at ht; simp at ht
  · have := hb j i g hi
    rw [pairB, conf_nat hj hi, h.both j i (by omega) (by omega), ← conf_nat hi hj] at this
    rw [pairB] at ht
    simp only [Bool.and_eq_true] at ht
    rw [ht.1, ht.2.1, ht.2.2] at this
    cases this
theorem andNot_zero {a b : Nat} (ha : a < 2 ^ 60) (hb : b < 2 ^ 60) (h : ∀ p, a.testBit p = true → b.testBit p = true) : bits .andNot .i64 (a : Int) (b : Int) = 0 := by
  have e : BitVec.ofInt 64 (a : Int) &&& ~~~ BitVec.ofInt 64 (b : Int) = 0#64 := by
    apply BitVec.eq_of_getLsbD_eq
    intro i hi
    rw [BitVec.getLsbD_and, BitVec.getLsbD_not, BitVec.ofInt_natCast, BitVec.ofInt_natCast, BitVec.getLsbD_ofNat, BitVec.getLsbD_ofNat]
    have := h i
    cases h1 : a.testBit i <;> cases h2 : b.testBit i <;> simp_all
  show IntKind.i64.wrap (((BitVec.ofInt 64 (a : Int)) &&& ~~~ (BitVec.ofInt 64 (b : Int))).toNat : Int) = 0
  rw [e]; decide
theorem and_sub (P S : Int) (hS : 0 ≤ S ∧ S < 256) : 0 ≤ bits .and .i64 P S ∧ bits .and .i64 P S < 256 ∧ ∀ k, hasB (bits .and .i64 P S) k = true → hasB S k = true := by
  obtain ⟨m, rfl⟩ : ∃ m : Nat, S = m := ⟨S.toNat, by omega⟩
  have e : bits .and .i64 P (m : Int) = (((BitVec.ofInt 64 P).toNat &&& m : Nat) : Int) := by
    show IntKind.i64.wrap (((BitVec.ofInt 64 P) &&& (BitVec.ofInt 64 (m : Int))).toNat : Int) = _
    have hm : (BitVec.ofInt 64 (m : Int)).toNat = m := by rw [BitVec.ofInt_natCast, BitVec.toNat_ofNat]; omega
    have hle : (BitVec.ofInt 64 P).toNat &&& m ≤ m := Nat.and_le_right
    rw [BitVec.toNat_and, hm, IntKind.wrap_i64]
    omega
  have hle : (BitVec.ofInt 64 P).toNat &&& m ≤ m := Nat.and_le_right
  rw [e]
  refine ⟨by omega, by omega, fun k hk => ?_⟩
  rw [has_nat, Nat.testBit_and, Bool.and_eq_true] at hk
  rw [has_nat]; exact hk.2
end Go.Proofs.Ytibcneppmhhgiaa
