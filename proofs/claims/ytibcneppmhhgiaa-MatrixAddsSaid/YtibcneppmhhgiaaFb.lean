/-
  Plain facts: what may be added to a set without a clash. Conditions: rows as the laws draw them.
-/
import Derived.Test.YtibcneppmhhgiaaFa
namespace Go.Proofs.Ytibcneppmhhgiaa
open Go.ChangeShapes Go.WideShapes Go.RowKit
set_option linter.unusedVariables false

theorem pair_conf {l : List Int} {S : Int} {i j : Nat} : pairB l S i j = true ↔ hasB S i = true ∧ hasB S j = true ∧ confB l i j = true := by simp [pairB]
/-- Where a set has no clash, the set with p has none just where p is in the set or may be added. -/
theorem add_free {n : Nat} {l : List Int} (h : RowsOk n l) {S T : Int} {p : Nat} (hp : p < l.length) (hT : ∀ k, hasB T k = (hasB S k || decide (k = p)))
    (h0 : Clashes l S (-1) (-1)) {x y : Int} (h1 : Clashes l T x y) : freeB l S p = (decide (x < 0) && !hasB S p) := by
  have hl := h.len
  have h0' : ∀ i j : Nat, i < l.length → j < l.length → pairB l S i j = false := by
    rcases h0 with ⟨_, _, h⟩ | ⟨i, j, e, _⟩
    · exact h
    · omega
  rw [Bool.eq_iff_iff]
  simp only [freeB, Bool.and_eq_true, Bool.not_eq_true', decide_eq_true_eq]
  constructor
  · rintro ⟨g1, g2⟩
    refine ⟨?_, g1⟩
    have g2' : ∀ q : Nat, q < l.length → hasB S q = true → confB l p q = true → False := fun q hq a b => by
      have : meetTo l S p l.length = true := by
        simp only [meetTo, List.any_eq_true, List.mem_range, hitB, Bool.and_eq_true]
        exact ⟨q, hq, a, b⟩
      rw [this] at g2; cases g2
    rcases h1 with ⟨rfl, _, _⟩ | ⟨i, j, rfl, rfl, hi, hj, ht, _⟩
    · omega
    · exfalso
      rw [pair_conf, hT, hT] at ht
      simp only [Bool.or_eq_true, decide_eq_true_eq] at ht
      obtain ⟨a | e1, b | e2, cf⟩ := ht
      · have := h0' i j hi hj
        rw [pair_conf.2 ⟨a, b, cf⟩] at this; cases this
      · rw [e2, conf_nat hi hp, h.both i p (by omega) (by omega), ← conf_nat hp hi] at cf
        exact g2' i hi a cf
      · rw [e1] at cf
        exact g2' j hj b cf
      · rw [e1, e2, conf_nat hp hp, h.self p (by omega)] at cf; cases cf
  · rintro ⟨g1, g2⟩
    refine ⟨g2, ?_⟩
    cases hm : meetTo l S p l.length
    · rfl
    · exfalso
      simp only [meetTo, List.any_eq_true, List.mem_range, hitB, Bool.and_eq_true] at hm
      obtain ⟨q, hq, a, b⟩ := hm
      have hpair : pairB l T p q = true := pair_conf.2 ⟨by rw [hT]; simp, by rw [hT, a]; rfl, b⟩
      rcases h1 with ⟨_, _, h⟩ | ⟨i, j, rfl, rfl, _⟩
      · rw [h p q hp hq] at hpair; cases hpair
      · omega
theorem alw_meet {l : List Int} {m k : Nat} (hk : k ≤ 60) (hm : m < 2 ^ k) : bits .and .i64 (alw l (m : Int) k : Nat) (m : Int) = 0 := by
  have hl := alw_lt l (m : Int) k
  have h3 := pow_60 hk
  have e62 : (2 : Nat) ^ 62 = 4611686018427387904 := by decide
  rw [(bits_nat .i64 62 (by decide) (fun n h0 h1 => by rw [IntKind.wrap_i64]; omega) _ m (by omega) (by omega)).1]
  have : alw l (m : Int) k &&& m = 0 := Nat.eq_of_testBit_eq fun p => by
    rw [Nat.testBit_and, alw_bit, freeB, has_nat]
    cases m.testBit p <;> simp
  rw [this]; rfl
end Go.Proofs.Ytibcneppmhhgiaa
