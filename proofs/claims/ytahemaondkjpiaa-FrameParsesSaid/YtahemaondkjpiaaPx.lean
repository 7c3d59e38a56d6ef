/-
  Plain facts: what has been decided does not change with more bytes; so many bytes are used; something is decided of 210 bytes. No Go function is walked here.
-/
import Derived.Test.YtahemaondkjpiaaPp
namespace Go.Proofs.Ytahemaondkjpiaa
open Go.ChangeShapes Go.WideShapes Go.RowKit
set_option linter.unusedVariables false

theorem at_app {b more : List Int} {i : Nat} (h : i < b.length) : at_ (b ++ more) i = at_ b i := by
  unfold at_
  rw [List.getD_eq_getElem?_getD, List.getElem?_append_left h, List.getD_eq_getElem?_getD]
theorem jud_used (l : List Int) (h : 10 ≤ l.length) : 1 ≤ (jud l).2.2.2 ∧ (jud l).2.2.2 ≤ l.length := by
  unfold jud
  split
  · exact ⟨by simp, by simp; omega⟩
  · split
    · exact ⟨by simp; omega, by simp⟩
    · split
      · exact ⟨by simp; omega, by simp⟩
      · exact ⟨by simp; omega, by simp⟩
theorem par_more {b more : List Int} (hb : Byte b) (hok : (par b).2.2.2.2 = true) : par (b ++ more) = par b ∧ 1 ≤ (par b).2.2.2.1 ∧ (par b).2.2.2.1 ≤ b.length := by
  have hl : (b ++ more).length = b.length + more.length := List.length_append
  unfold par at hok ⊢
  by_cases c0 : b.length = 0
  · rw [if_pos c0] at hok; cases hok
  rw [if_neg c0] at hok ⊢
  rw [if_neg (show ¬ (b ++ more).length = 0 by omega), at_app (show 0 < b.length by omega)]
  by_cases c1 : at_ b 0 ≠ 90 ∨ (1 < b.length ∧ at_ b 1 ≠ 165)
  · rw [if_pos c1]
    have c1' : at_ b 0 ≠ 90 ∨ (1 < (b ++ more).length ∧ at_ (b ++ more) 1 ≠ 165) := by
      rcases c1 with h | ⟨h, h'⟩
      · exact .inl h
      · exact .inr ⟨by omega, by rw [at_app h]; exact h'⟩
    rw [if_pos c1']
    exact ⟨rfl, by simp, by simp; omega⟩
  rw [if_neg c1] at hok ⊢
  by_cases c2 : b.length < 6
  · rw [if_pos c2] at hok; cases hok
  rw [if_neg c2] at hok ⊢
  have c1' : ¬ (at_ b 0 ≠ 90 ∨ (1 < (b ++ more).length ∧ at_ (b ++ more) 1 ≠ 165)) := by
    rw [at_app (show 1 < b.length by omega)]
    intro h
    rcases h with h | ⟨_, h⟩
    · exact c1 (.inl h)
    · exact c1 (.inr ⟨by omega, h⟩)
  rw [if_neg c1', if_neg (show ¬ (b ++ more).length < 6 by omega), at_app (show 4 < b.length by omega), at_app (show 5 < b.length by omega)]
  by_cases c3 : 200 < at_ b 4 * 256 + at_ b 5
  · rw [if_pos c3, if_pos c3]
    exact ⟨rfl, by simp, by simp; omega⟩
  rw [if_neg c3] at hok ⊢
  rw [if_neg c3]
  by_cases c4 : (b.length : Int) < at_ b 4 * 256 + at_ b 5 + 10
  · rw [if_pos c4] at hok; cases hok
  rw [if_neg c4]
  have x4 := hb _ (at_mem (show 4 < b.length by omega))
  have x5 := hb _ (at_mem (show 5 < b.length by omega))
  rw [if_neg (show ¬ ((b ++ more).length : Int) < at_ b 4 * 256 + at_ b 5 + 10 by rw [hl]; push_cast; omega)]
  have ht : (b ++ more).take (at_ b 4 * 256 + at_ b 5 + 10).toNat = b.take (at_ b 4 * 256 + at_ b 5 + 10).toNat := List.take_append_of_le_length (by omega)
  rw [ht]
  have hlen : (b.take (at_ b 4 * 256 + at_ b 5 + 10).toNat).length = (at_ b 4 * 256 + at_ b 5 + 10).toNat := by rw [List.length_take]; omega
  have hj := jud_used (b.take (at_ b 4 * 256 + at_ b 5 + 10).toNat) (by rw [hlen]; omega)
  rw [hlen] at hj
  exact ⟨rfl, hj.1, by have := hj.2; show (jud _).2.2.2 ≤ _; omega⟩
theorem par_long {b : List Int} (hb : Byte b) (h : 210 ≤ b.length) : (par b).2.2.2.2 = true := by
  unfold par
  rw [if_neg (by omega)]
  by_cases c1 : at_ b 0 ≠ 90 ∨ (1 < b.length ∧ at_ b 1 ≠ 165)
  · rw [if_pos c1]
  rw [if_neg c1, if_neg (by omega)]
  by_cases c3 : 200 < at_ b 4 * 256 + at_ b 5
  · rw [if_pos c3]
  rw [if_neg c3, if_neg (by omega)]
end Go.Proofs.Ytahemaondkjpiaa
