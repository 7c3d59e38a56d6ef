/-
  One pair of a drawn junction's conflicts turned round; the numbers of phases of rings and groups. Conditions: none.
-/
import Derived.Test.YtngdaieopnadbaaPm
import Derived.Laws.BitsLemmas
namespace Go.Proofs.Ytngdaieopnadbaa
open Go.ChangeShapes Go.WideShapes Go.RowKit
set_option linter.unusedVariables false

theorem i64_xor (a b : Nat) (ha : a < 2 ^ 60) (hb : b < 2 ^ 60) : bits .xor .i64 (a : Int) (b : Int) = ((a ^^^ b : Nat) : Int) := by
  have hx := Nat.xor_lt_two_pow ha hb
  have e60 : (2 : Nat) ^ 60 = 1152921504606846976 := by decide
  show IntKind.i64.wrap (((BitVec.ofInt 64 (a : Int)) ^^^ (BitVec.ofInt 64 (b : Int))).toNat : Int) = _
  rw [BitVec.ofInt_natCast, BitVec.ofInt_natCast, BitVec.toNat_xor, BitVec.toNat_ofNat, BitVec.toNat_ofNat, Nat.mod_eq_of_lt (by omega), Nat.mod_eq_of_lt (by omega), IntKind.wrap_i64]
  omega
theorem at_set {l : List Int} {i : Nat} (hi : i < l.length) (x : Int) (j : Nat) : at_ (l.set i x) j = if j = i then x else at_ l j := by
  unfold at_
  rw [List.getD_eq_getElem?_getD, List.getD_eq_getElem?_getD]
  by_cases h : j = i
  · subst h; rw [if_pos rfl, List.getElem?_set_self hi]; rfl
  · rw [if_neg h, List.getElem?_set_ne (fun e => h e.symm)]
/-- x with the element k turned round. -/
def turnB (x : Int) (k : Nat) : Int := ((x.toNat ^^^ 2 ^ k : Nat) : Int)
theorem has_turn {x : Int} (hx : 0 ≤ x) (k q : Nat) : hasB (turnB x k) q = (hasB x q ^^ decide (k = q)) := by
  rw [turnB, hasB_nat, Nat.testBit_xor, Nat.testBit_two_pow, ← hasB_nat, Int.toNat_of_nonneg hx]
theorem turn_bd {x : Int} {n k : Nat} (hx : 0 ≤ x ∧ x < 2 ^ n) (hk : k < n) : 0 ≤ turnB x k ∧ turnB x k < 2 ^ n := by
  have e : ((2 ^ n : Nat) : Int) = (2 : Int) ^ n := by simp
  have h1 : x.toNat < 2 ^ n := by rw [← e] at hx; omega
  have h2 : 2 ^ k < 2 ^ n := Nat.pow_lt_pow_right (by decide) hk
  have h3 := Nat.xor_lt_two_pow h1 h2
  refine ⟨by unfold turnB; omega, ?_⟩
  rw [← e]; unfold turnB; omega
theorem xor_turn {x : Int} {n k : Nat} (hx : 0 ≤ x ∧ x < 2 ^ n) (hn : n ≤ 8) (hk : k < n) : bits .xor .i64 x (wrap64 (2 ^ k)) = turnB x k := by
  have hp : (2 : Nat) ^ n ≤ 256 := Nat.pow_le_pow_right (n := 2) (by decide) hn
  have e : ((2 ^ n : Nat) : Int) = (2 : Int) ^ n := by simp
  have h1 : x.toNat < 2 ^ n := by rw [← e] at hx; omega
  have h2 : 2 ^ k < 2 ^ n := Nat.pow_lt_pow_right (by decide) hk
  have e60 : (2 : Nat) ^ 60 = 1152921504606846976 := by decide
  rw [wrap_pow (by omega)]
  have := i64_xor x.toNat (2 ^ k) (by omega) (by omega)
  rw [Int.toNat_of_nonneg hx.1] at this
  exact this
theorem rows_bd (P : List Ph) (ex : Bool) {i : Nat} (hi : i < P.length) : 0 ≤ at_ (rowsL P ex) i ∧ at_ (rowsL P ex) i < 2 ^ P.length := by
  rw [rows_at P ex hi]
  have := rowV_lt P ex i P.length
  have e : ((2 ^ P.length : Nat) : Int) = (2 : Int) ^ P.length := by simp
  rw [← e]; omega
/-- The rows with the pair of p and k turned round. -/
def flipL (C : List Int) (p k : Nat) : List Int := (C.set p (turnB (at_ C p) k)).set k (turnB (at_ C k) p)
theorem need_sym (P : List Ph) (i k : Nat) : needB P i k = needB P k i := by
  unfold needB
  have e2 : decide ((phAt P i).ri = (phAt P k).ri) = decide ((phAt P k).ri = (phAt P i).ri) := decide_eq_decide.2 ⟨Eq.symm, Eq.symm⟩
  have e3 : decide ((phAt P i).gr = (phAt P k).gr) = decide ((phAt P k).gr = (phAt P i).gr) := decide_eq_decide.2 ⟨Eq.symm, Eq.symm⟩
  rw [e2, e3]
theorem jun_flip {q : Nat} {st : Int} {ex : Bool} {P : List Ph} (h : JunOk q st ex P) {p k : Nat} (hp : p < P.length) (hk : k < P.length) (hne : p ≠ k) :
    JunV P (flipL (rowsL P ex) p k) st ↔ needB P p k = false := by
  have hl := rows_len P ex
  have hat : ∀ j, at_ (flipL (rowsL P ex) p k) j = if j = k then turnB (at_ (rowsL P ex) k) p else if j = p then turnB (at_ (rowsL P ex) p) k else at_ (rowsL P ex) j := fun j => by
    unfold flipL
    rw [at_set (by rw [List.length_set]; omega), at_set (by omega)]
  have hX := jun_of (f := fun i j => confB P ex i j ^^ decide ((i = p ∧ j = k) ∨ (i = k ∧ j = p))) h (C := flipL (rowsL P ex) p k) (by unfold flipL; rw [List.length_set, List.length_set, hl])
    (fun i hi => by
      rw [hat]
      split
      · exact turn_bd (rows_bd P ex hk) hp
      · split
        · exact turn_bd (rows_bd P ex hp) hk
        · exact rows_bd P ex hi)
    (fun i hi j hj => by
      show hasB _ j = (confB P ex i j ^^ decide ((i = p ∧ j = k) ∨ (i = k ∧ j = p)))
      rw [hat]
      by_cases h1 : i = k
      · subst h1
        rw [if_pos rfl, has_turn (rows_bd P ex hk).1, rows_bit P ex hk hj]
        congr 1
        exact decide_eq_decide.2 ⟨fun e => .inr ⟨rfl, e.symm⟩, fun e => by rcases e with ⟨e, _⟩ | ⟨_, e⟩ <;> omega⟩
      · rw [if_neg h1]
        by_cases h2 : i = p
        · subst h2
          rw [if_pos rfl, has_turn (rows_bd P ex hp).1, rows_bit P ex hp hj]
          congr 1
          exact decide_eq_decide.2 ⟨fun e => .inl ⟨rfl, e.symm⟩, fun e => by rcases e with ⟨_, e⟩ | ⟨e, _⟩ <;> omega⟩
        · rw [if_neg h2, rows_bit P ex hi hj, decide_eq_false (by omega), Bool.xor_false])
    (fun i j => by
      show (confB P ex i j ^^ decide ((i = p ∧ j = k) ∨ (i = k ∧ j = p))) = (confB P ex j i ^^ decide ((j = p ∧ i = k) ∨ (j = k ∧ i = p)))
      rw [conf_sym]
      congr 1
      exact decide_eq_decide.2 (by omega))
    (fun i => by
      show (confB P ex i i ^^ decide ((i = p ∧ i = k) ∨ (i = k ∧ i = p))) = false
      rw [conf_self, decide_eq_false (by omega), Bool.xor_false])
  rw [hX]
  constructor
  · intro hf
    by_cases hn : needB P p k = true
    · exfalso
      rcases Nat.lt_trichotomy p k with g | g | g
      · have := hf k hk p g (by rw [need_sym]; exact hn)
        rw [conf_need (by omega) (by rw [need_sym]; exact hn), decide_eq_true (.inr ⟨rfl, rfl⟩)] at this
        cases this
      · omega
      · have := hf p hp k g hn
        rw [conf_need hne hn, decide_eq_true (.inl ⟨rfl, rfl⟩)] at this
        cases this
    · exact eq_false_of_ne_true hn
  · intro hn i hi j hj hh
    rw [conf_need (by omega) hh, decide_eq_false, Bool.xor_false]
    rintro (⟨rfl, rfl⟩ | ⟨rfl, rfl⟩)
    · rw [hn] at hh; cases hh
    · rw [need_sym, hn] at hh; cases hh
/-- The phases of a ring in a group, of the first k. -/
def ofL (P : List Ph) (r g : Int) : Nat → List Int
  | 0 => []
  | k + 1 => if (phAt P k).ri = r ∧ (phAt P k).gr = g then ofL P r g k ++ [(k : Int)] else ofL P r g k
def shOf (S : List (Int × Int)) (r g : Int) : Nat → Nat
  | 0 => 0
  | k + 1 => shOf S r g k + if (prAt S k).1 = r ∧ (prAt S k).2 = g then 1 else 0
theorem of_sh {q : Nat} {st : Int} {ex : Bool} {P : List Ph} (h : JunOk q st ex P) (r g : Int) : ∀ k, k ≤ P.length → (ofL P r g k).length = shOf (shapeL q) r g k
  | 0, _ => rfl
  | k + 1, hk => by
    rw [ofL, shOf, ← (h.sh k (by omega)).1, ← (h.sh k (by omega)).2, ← of_sh h r g k (by omega)]
    split
    · rw [List.length_append]; rfl
    · rfl
theorem of_le (P : List Ph) (r g : Int) : ∀ k, (ofL P r g k).length ≤ k
  | 0 => by simp [ofL]
  | k + 1 => by
    have := of_le P r g k
    rw [ofL]; split
    · rw [List.length_append, List.length_singleton]; omega
    · omega
/-- All phases of the first k groups of a ring. -/
def shSum (S : List (Int × Int)) (r : Int) : Nat → Nat
  | 0 => 0
  | k + 1 => shSum S r k + shOf S r k S.length
theorem sh_sum (q : Nat) : shSum (shapeL q) 0 (shG (shapeL q) (shapeL q).length).toNat + shSum (shapeL q) 1 (shG (shapeL q) (shapeL q).length).toNat = (shapeL q).length := by
  rcases q with _ | _ | _ | _ | _ | q <;> first | decide | (show shSum [(0, 0)] 0 (shG [(0, 0)] 1).toNat + shSum [(0, 0)] 1 (shG [(0, 0)] 1).toNat = 1; decide)
end Go.Proofs.Ytngdaieopnadbaa
