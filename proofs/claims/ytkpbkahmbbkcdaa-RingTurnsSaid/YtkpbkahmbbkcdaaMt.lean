/-
  What the reference makes of a control. Conditions: none.
-/
import Derived.Test.YtkpbkahmbbkcdaaIt
import Derived.Test.YtkpbkahmbbkcdaaLm
namespace Go.Proofs.Ytkpbkahmbbkcdaa
open Go.ChangeShapes Go.WideShapes Go.RowKit
set_option linter.unusedVariables false

def lmp (L : List (Int × Int)) (p : Nat) : Int := (prAt L p).1
def tck (L : List (Int × Int)) (p : Nat) : Int := (prAt L p).2
/-- Are all phases of a ring red? -/
def IdleP (P : List Ph) (L : List (Int × Int)) (n : Nat) (r : Int) : Prop := ∀ p, p < n → (phAt P p).ri = r → lmp L p = 0
instance (P : List Ph) (L : List (Int × Int)) (n : Nat) (r : Int) : Decidable (IdleP P L n r) := inferInstanceAs (Decidable (∀ p, p < n → _))
def idleB (P : List Ph) (L : List (Int × Int)) (n : Nat) (r : Int) : Bool := decide (IdleP P L n r)
/-- The phase that a ring is to begin with a target, from q on. -/
def candF (P : List Ph) (C : List Int) (nx r : Int) (t : Nat) : Nat → Nat → Int → Int
  | _, 0, first => first
  | q, k + 1, first => if (phAt P q).ri ≠ r ∨ hasB (at_ C q) t = true then candF P C nx r t (q + 1) k first
      else if 0 ≤ nx ∧ nx ≤ (q : Int) then (q : Int) else candF P C nx r t (q + 1) k (if first < 0 then (q : Int) else first)
def candV (P : List Ph) (C : List Int) (n : Nat) (nx r : Int) (t : Nat) : Int := if (phAt P t).ri = r then (t : Int) else candF P C nx r t 0 n (-1)
/-- Does a phase that is not red conflict with q? -/
def HinP (C : List Int) (L : List (Int × Int)) (n q : Nat) : Prop := ∃ p, p < n ∧ lmp L p ≠ 0 ∧ hasB (at_ C p) q = true
instance (C : List Int) (L : List (Int × Int)) (n q : Nat) : Decidable (HinP C L n q) := inferInstanceAs (Decidable (∃ p, p < n ∧ _))
def beginC (P : List Ph) (C : List Int) (n : Nat) (c : Ct) (q : Nat) : Ct :=
  if HinP C c.li n q then c else
    ⟨c.li.set q (1, 0), (phAt P q).gr, (if c.gr ≠ (phAt P q).gr then nxL P n (phAt P q).gr 2 else c.nx).set (phAt P q).ri.toNat (firstGt (ofL P (phAt P q).ri (phAt P q).gr n) q), c.wt⟩
/-- The set of the phases that are not red, of the first k. -/
def setV (L : List (Int × Int)) : Nat → Nat
  | 0 => 0
  | k + 1 => setV L k + if lmp L k ≠ 0 then 2 ^ k else 0
def leaveB (P : List Ph) (C : List Int) (L : List (Int × Int)) (n : Nat) (t : Int) (p : Nat) : Bool :=
  if 0 ≤ t ∧ t < n then !decide ((p : Int) = t) && (decide ((phAt P p).mx ≤ tck L p + 1) || hasB (at_ C p) t.toNat) else decide ((phAt P p).mx ≤ tck L p + 1)
/-- The lights of the first k phases stepped. -/
def lightsL (P : List Ph) (C : List Int) (L : List (Int × Int)) (n : Nat) (t : Int) : Nat → List (Int × Int)
  | 0 => L
  | k + 1 => (lightsL P C L n t k).set k (stepV (phAt P k) (lmp L k) (tck L k) (leaveB P C L n t k))
/-- With a target: the rings before r begin what they can. -/
def onC (P : List Ph) (C : List Int) (n : Nat) (t : Nat) (c : Ct) : Nat → Ct
  | 0 => c
  | r + 1 => let d := onC P C n t c r; let q := candV P C n (at_ d.nx r) r t; if 0 ≤ q ∧ IdleP P d.li n r then beginC P C n d q.toNat else d
def offC (P : List Ph) (C : List Int) (n : Nat) (c : Ct) : Nat → Ct
  | 0 => c
  | r + 1 => let d := offC P C n c r; if IdleP P d.li n r ∧ 0 ≤ at_ d.nx r then beginC P C n d (at_ d.nx r).toNat else d
def stepC (P : List Ph) (C : List Int) (n : Nat) (c : Ct) (t : Int) : Ct :=
  if 0 < c.wt then ⟨c.li, c.gr, c.nx, c.wt - 1⟩ else
    let d : Ct := ⟨lightsL P C c.li n t n, c.gr, c.nx, c.wt⟩
    if 0 ≤ t ∧ t < n then onC P C n t.toNat d 2 else
      let e : Ct := if setV d.li n = 0 ∧ at_ d.nx 0 < 0 ∧ at_ d.nx 1 < 0 then ⟨d.li, (d.gr + 1) % groupsI P n, nxL P n ((d.gr + 1) % groupsI P n) 2, d.wt⟩ else d
      offC P C n e 2
theorem lights_len (P : List Ph) (C : List Int) (L : List (Int × Int)) (n : Nat) (t : Int) : ∀ k, (lightsL P C L n t k).length = L.length
  | 0 => rfl
  | k + 1 => by rw [lightsL, List.length_set, lights_len P C L n t k]
theorem lights_at (P : List Ph) (C : List Int) (L : List (Int × Int)) (n : Nat) (t : Int) : ∀ k, k ≤ L.length → ∀ p, prAt (lightsL P C L n t k) p = if p < k then stepV (phAt P p) (lmp L p) (tck L p) (leaveB P C L n t p) else prAt L p
  | 0, _, p => by rw [if_neg (by omega)]; rfl
  | k + 1, hk, p => by
    rw [lightsL, prAt_set (by rw [lights_len]; omega), lights_at P C L n t k (by omega)]
    by_cases e : p = k
    · subst e; rw [if_pos rfl, if_pos (by omega)]
    · rw [if_neg e]
      by_cases h : p < k
      · rw [if_pos h, if_pos (by omega)]
      · rw [if_neg h, if_neg (by omega)]
theorem begin_len (P : List Ph) (C : List Int) (n : Nat) (c : Ct) (q : Nat) (h : c.nx.length = 2) : (beginC P C n c q).li.length = c.li.length ∧ (beginC P C n c q).nx.length = 2 := by
  unfold beginC
  split
  · exact ⟨rfl, h⟩
  · refine ⟨List.length_set, ?_⟩
    show (List.set _ _ _).length = 2
    rw [List.length_set]
    split
    · exact nxL_len _ _ _ _
    · exact h
theorem setV_lt (L : List (Int × Int)) : ∀ k, setV L k < 2 ^ k
  | 0 => by simp [setV]
  | k + 1 => by
    have := setV_lt L k
    rw [setV, Nat.pow_succ]
    split <;> omega
theorem setV_bit (L : List (Int × Int)) (k p : Nat) : (setV L k).testBit p = (decide (p < k) && decide (lmp L p ≠ 0)) := by
  induction k with
  | zero => simp [setV]
  | succ k ih =>
    have hl := setV_lt L k
    rw [setV]
    by_cases hf : lmp L k ≠ 0
    · have e := Nat.two_pow_add_eq_or_of_lt hl 1
      rw [Nat.mul_one] at e
      rw [if_pos hf, Nat.add_comm, e, Nat.testBit_or, Nat.testBit_two_pow, ih]
      rcases Nat.lt_trichotomy p k with g | g | g
      · simp [g, show ¬ k = p by omega, show p < k + 1 by omega]
      · subst g; simp [hf]
      · simp [show ¬ k = p by omega, show ¬ p < k by omega, show ¬ p < k + 1 by omega]
    · rw [if_neg hf, Nat.add_zero, ih]
      rcases Nat.lt_trichotomy p k with g | g | g
      · simp [g, show p < k + 1 by omega]
      · subst g; simp [hf]
      · simp [show ¬ p < k by omega, show ¬ p < k + 1 by omega]
theorem setV_zero (L : List (Int × Int)) : ∀ k, setV L k = 0 ↔ ∀ p, p < k → lmp L p = 0
  | 0 => by simp [setV]
  | k + 1 => by
    have ih := setV_zero L k
    have h2 : 0 < 2 ^ k := Nat.two_pow_pos k
    rw [setV]
    constructor
    · intro h p hp
      have h1 : setV L k = 0 := by omega
      by_cases e : p = k
      · subst e
        by_cases hz : lmp L p = 0
        · exact hz
        · rw [if_pos hz] at h; omega
      · exact ih.1 h1 p (by omega)
    · intro h
      rw [ih.2 (fun p hp => h p (by omega)), if_neg (by have := h k (by omega); simpa using this)]
end Go.Proofs.Ytkpbkahmbbkcdaa
