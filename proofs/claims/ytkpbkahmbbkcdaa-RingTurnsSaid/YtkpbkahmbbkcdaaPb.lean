/-
  Plain facts about the rows of conflicts, rings and groups of a drawn junction. Conditions: none.
-/
import Derived.Test.YtkpbkahmbbkcdaaJn
import Derived.Test.YtkpbkahmbbkcdaaCo
import Derived.Laws.BitsLemmas
namespace Go.Proofs.Ytkpbkahmbbkcdaa
open Go.ChangeShapes Go.WideShapes Go.RowKit
set_option linter.unusedVariables false

theorem hasB_nat (a k : Nat) : hasB (a : Int) k = a.testBit k := by
  unfold hasB
  rw [Nat.testBit_eq_decide_div_mod_eq]
  apply decide_eq_decide.2
  have e : ((2 ^ k : Nat) : Int) = (2 : Int) ^ k := by simp
  rw [← e]
  generalize 2 ^ k = m
  rw [← Int.natCast_ediv]
  omega
theorem rowV_bit (P : List Ph) (ex : Bool) (i k p : Nat) : (rowV P ex i k).testBit p = (decide (p < k) && confB P ex i p) := by
  induction k with
  | zero => simp [rowV]
  | succ k ih =>
    have hl := rowV_lt P ex i k
    rw [rowV]
    by_cases hf : confB P ex i k = true
    · have e := Nat.two_pow_add_eq_or_of_lt hl 1
      rw [Nat.mul_one] at e
      rw [if_pos hf, Nat.add_comm, e, Nat.testBit_or, Nat.testBit_two_pow, ih]
      rcases Nat.lt_trichotomy p k with g | g | g
      · simp [g, show ¬ k = p by omega, show p < k + 1 by omega]
      · subst g; simp [hf]
      · simp [show ¬ k = p by omega, show ¬ p < k by omega, show ¬ p < k + 1 by omega]
    · rw [if_neg hf, Nat.add_zero, ih]
      rcases Nat.lt_trichotomy p k with g | g | g
      · simp [g, show p < k + 1 by omega]
      · subst g; simp [eq_false_of_ne_true hf]
      · simp [show ¬ p < k by omega, show ¬ p < k + 1 by omega]
theorem rows_len (P : List Ph) (ex : Bool) : (rowsL P ex).length = P.length := by simp [rowsL]
theorem rows_at (P : List Ph) (ex : Bool) {i : Nat} (h : i < P.length) : at_ (rowsL P ex) i = ((rowV P ex i P.length : Nat) : Int) := by
  unfold at_ rowsL
  simp [List.getD_eq_getElem?_getD, h]
theorem rows_bit (P : List Ph) (ex : Bool) {i k : Nat} (h : i < P.length) (hk : k < P.length) : hasB (at_ (rowsL P ex) i) k = confB P ex i k := by
  rw [rows_at P ex h, hasB_nat, rowV_bit]; simp [hk]
/-- Must the phases i and k conflict? -/
def needB (P : List Ph) (i k : Nat) : Bool := decide ((phAt P i).ri = (phAt P k).ri) || !decide ((phAt P i).gr = (phAt P k).gr)
/-- One more than the greatest group of the first k phases. -/
def groupsI (P : List Ph) : Nat → Int
  | 0 => 0
  | k + 1 => if groupsI P k < (phAt P k).gr + 1 then (phAt P k).gr + 1 else groupsI P k
/-- Where the phases of a drawn junction are. -/
theorem sh_bd (q i : Nat) : 0 ≤ (prAt (shapeL q) i).1 ∧ (prAt (shapeL q) i).1 ≤ 1 ∧ 0 ≤ (prAt (shapeL q) i).2 ∧ (prAt (shapeL q) i).2 ≤ 2 := by
  rcases q with _ | _ | _ | _ | _ | q <;> rcases i with _ | _ | _ | _ | _ | _ | _ | _ | i <;> simp [shapeL, prAt]
def shG (S : List (Int × Int)) : Nat → Int
  | 0 => 0
  | k + 1 => if shG S k < (prAt S k).2 + 1 then (prAt S k).2 + 1 else shG S k
theorem groups_sh {q : Nat} {st : Int} {ex : Bool} {P : List Ph} (h : JunOk q st ex P) : ∀ k, k ≤ P.length → groupsI P k = shG (shapeL q) k
  | 0, _ => rfl
  | k + 1, hk => by rw [groupsI, shG, groups_sh h k (by omega), (h.sh k (by omega)).2]
def shDense (S : List (Int × Int)) : Bool := (List.range 4).all fun g => !decide ((g : Int) < shG S S.length) || (List.range S.length).any fun i => decide ((prAt S i).2 = g)
theorem sh_dense (q : Nat) : shDense (shapeL q) = true ∧ shG (shapeL q) (shapeL q).length ≤ 4 := by
  rcases q with _ | _ | _ | _ | _ | q <;> first | (constructor <;> decide) | (show shDense [(0, 0)] = true ∧ shG [(0, 0)] 1 ≤ 4; constructor <;> decide)
theorem conf_sym (P : List Ph) (ex : Bool) (i k : Nat) : confB P ex i k = confB P ex k i := by
  unfold confB
  rw [Nat.add_comm i k]
  have e1 : decide (i = k) = decide (k = i) := decide_eq_decide.2 ⟨Eq.symm, Eq.symm⟩
  have e2 : decide ((phAt P i).ri = (phAt P k).ri) = decide ((phAt P k).ri = (phAt P i).ri) := decide_eq_decide.2 ⟨Eq.symm, Eq.symm⟩
  have e3 : decide ((phAt P i).gr = (phAt P k).gr) = decide ((phAt P k).gr = (phAt P i).gr) := decide_eq_decide.2 ⟨Eq.symm, Eq.symm⟩
  rw [e1, e2, e3]
theorem conf_self (P : List Ph) (ex : Bool) (i : Nat) : confB P ex i i = false := by simp [confB]
theorem conf_need {P : List Ph} {ex : Bool} {i k : Nat} (hne : i ≠ k) (h : needB P i k = true) : confB P ex i k = true := by
  unfold needB at h; unfold confB
  rw [decide_eq_false hne]
  cases e : decide ((phAt P i).ri = (phAt P k).ri)
  · rw [e] at h
    rw [Bool.false_or] at h
    rw [h]; rfl
  · rfl
theorem at_set {l : List Int} {i : Nat} (hi : i < l.length) (x : Int) (j : Nat) : at_ (l.set i x) j = if j = i then x else at_ l j := by
  unfold at_
  rw [List.getD_eq_getElem?_getD, List.getD_eq_getElem?_getD]
  by_cases h : j = i
  · subst h; rw [if_pos rfl, List.getElem?_set_self hi]; rfl
  · rw [if_neg h, List.getElem?_set_ne (fun e => h e.symm)]
theorem rows_bd (P : List Ph) (ex : Bool) {i : Nat} (hi : i < P.length) : 0 ≤ at_ (rowsL P ex) i ∧ at_ (rowsL P ex) i < 2 ^ P.length := by
  rw [rows_at P ex hi]
  have := rowV_lt P ex i P.length
  have e : ((2 ^ P.length : Nat) : Int) = (2 : Int) ^ P.length := by simp
  rw [← e]; omega
/-- The phases of a ring in a group, of the first k. -/
def ofL (P : List Ph) (r g : Int) : Nat → List Int
  | 0 => []
  | k + 1 => if (phAt P k).ri = r ∧ (phAt P k).gr = g then ofL P r g k ++ [(k : Int)] else ofL P r g k
theorem of_le (P : List Ph) (r g : Int) : ∀ k, (ofL P r g k).length ≤ k
  | 0 => by simp [ofL]
  | k + 1 => by
    have := of_le P r g k
    rw [ofL]; split
    · rw [List.length_append, List.length_singleton]; omega
    · omega
end Go.Proofs.Ytkpbkahmbbkcdaa
