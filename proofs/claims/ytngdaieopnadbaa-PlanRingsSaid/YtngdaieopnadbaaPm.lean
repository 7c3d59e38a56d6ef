/-
  Plain facts about the rows of conflicts of a drawn junction, and what a valid junction is. Conditions: none.
-/
import Derived.Test.YtngdaieopnadbaaVa
namespace Go.Proofs.Ytngdaieopnadbaa
open Go.ChangeShapes Go.WideShapes Go.RowKit
set_option linter.unusedVariables false

theorem hasB_nat (a k : Nat) : hasB (a : Int) k = a.testBit k := by
  unfold hasB
  rw [Nat.testBit_eq_decide_div_mod_eq]
  apply decide_eq_decide.2
  have e : ((2 ^ k : Nat) : Int) = (2 : Int) ^ k := by simp
  rw [← e]
  generalize 2 ^ k = m
  rw [← Int.natCast_ediv]
  omega
theorem rowV_bit (P : List Ph) (ex : Bool) (i k p : Nat) : (rowV P ex i k).testBit p = (decide (p < k) && confB P ex i p) := by
  induction k with
  | zero => simp [rowV]
  | succ k ih =>
    have hl := rowV_lt P ex i k
    rw [rowV]
    by_cases hf : confB P ex i k = true
    · have e := Nat.two_pow_add_eq_or_of_lt hl 1
      rw [Nat.mul_one] at e
      rw [if_pos hf, Nat.add_comm, e, Nat.testBit_or, Nat.testBit_two_pow, ih]
      rcases Nat.lt_trichotomy p k with g | g | g
      · simp [g, show ¬ k = p by omega, show p < k + 1 by omega]
      · subst g; simp [hf]
      · simp [show ¬ k = p by omega, show ¬ p < k by omega, show ¬ p < k + 1 by omega]
    · rw [if_neg hf, Nat.add_zero, ih]
      rcases Nat.lt_trichotomy p k with g | g | g
      · simp [g, show p < k + 1 by omega]
      · subst g; simp [eq_false_of_ne_true hf]
      · simp [show ¬ p < k by omega, show ¬ p < k + 1 by omega]
theorem rows_len (P : List Ph) (ex : Bool) : (rowsL P ex).length = P.length := by simp [rowsL]
theorem rows_at (P : List Ph) (ex : Bool) {i : Nat} (h : i < P.length) : at_ (rowsL P ex) i = ((rowV P ex i P.length : Nat) : Int) := by
  unfold at_ rowsL
  simp [List.getD_eq_getElem?_getD, h]
theorem rows_bit (P : List Ph) (ex : Bool) {i k : Nat} (h : i < P.length) (hk : k < P.length) : hasB (at_ (rowsL P ex) i) k = confB P ex i k := by
  rw [rows_at P ex h, hasB_nat, rowV_bit]; simp [hk]
/-- A number from a to b. -/
def inR (n a b : Int) : Bool := decide (a ≤ n) && decide (n ≤ b)
def placeB (p : Ph) : Bool := inR p.ri 0 1 && inR p.gr 0 3
def timB (p : Ph) : Bool := inR p.mx 1 60 && (inR p.mn 1 p.mx && (inR p.yl 1 60 && (inR p.rd 0 60 && (inR p.wk 0 60 && (inR p.cl 0 60 && (decide (p.wk + p.cl ≤ p.mx) && decide (p.wk = 0 ↔ p.cl = 0)))))))
/-- Must the phases i and k conflict? -/
def needB (P : List Ph) (i k : Nat) : Bool := decide ((phAt P i).ri = (phAt P k).ri) || !decide ((phAt P i).gr = (phAt P k).gr)
/-- One more than the greatest group of the first k phases. -/
def groupsI (P : List Ph) : Nat → Int
  | 0 => 0
  | k + 1 => if groupsI P k < (phAt P k).gr + 1 then (phAt P k).gr + 1 else groupsI P k
structure JunV (P : List Ph) (C : List Int) (st : Int) : Prop where
  n : 1 ≤ P.length ∧ P.length ≤ 8
  c : C.length = P.length
  v : Valid6 C
  st : 0 ≤ st ∧ st ≤ 60
  ph : ∀ i, i < P.length → placeB (phAt P i) = true ∧ timB (phAt P i) = true
  ap : ∀ p, p < P.length → ∀ q, q < p → needB P p q = true → hasB (at_ C p) q = true
  de : ∀ g : Nat, (g : Int) < groupsI P P.length → ∃ i, i < P.length ∧ (phAt P i).gr = g
open Classical in
noncomputable def junB (P : List Ph) (C : List Int) (st : Int) : Bool := decide (JunV P C st)
open Classical in
theorem jun_t {P : List Ph} {C : List Int} {st : Int} (h : JunV P C st) : junB P C st = true := by unfold junB; exact decide_eq_true h
open Classical in
theorem jun_f {P : List Ph} {C : List Int} {st : Int} (h : ¬ JunV P C st) : junB P C st = false := by unfold junB; exact decide_eq_false h
open Classical in
theorem jun_iff {P : List Ph} {C : List Int} {st : Int} : junB P C st = true ↔ JunV P C st := by unfold junB; exact decide_eq_true_iff
/-- Where the phases of a drawn junction are. -/
theorem sh_bd (q i : Nat) : 0 ≤ (prAt (shapeL q) i).1 ∧ (prAt (shapeL q) i).1 ≤ 1 ∧ 0 ≤ (prAt (shapeL q) i).2 ∧ (prAt (shapeL q) i).2 ≤ 2 := by
  rcases q with _ | _ | _ | _ | _ | q <;> rcases i with _ | _ | _ | _ | _ | _ | _ | _ | i <;> simp [shapeL, prAt]
def shG (S : List (Int × Int)) : Nat → Int
  | 0 => 0
  | k + 1 => if shG S k < (prAt S k).2 + 1 then (prAt S k).2 + 1 else shG S k
theorem groups_sh {q : Nat} {st : Int} {ex : Bool} {P : List Ph} (h : JunOk q st ex P) : ∀ k, k ≤ P.length → groupsI P k = shG (shapeL q) k
  | 0, _ => rfl
  | k + 1, hk => by rw [groupsI, shG, groups_sh h k (by omega), (h.sh k (by omega)).2]
def shDense (S : List (Int × Int)) : Bool := (List.range 4).all fun g => !decide ((g : Int) < shG S S.length) || (List.range S.length).any fun i => decide ((prAt S i).2 = g)
theorem sh_dense (q : Nat) : shDense (shapeL q) = true ∧ shG (shapeL q) (shapeL q).length ≤ 4 := by
  rcases q with _ | _ | _ | _ | _ | q <;> first | (constructor <;> decide) | (show shDense [(0, 0)] = true ∧ shG [(0, 0)] 1 ≤ 4; constructor <;> decide)
theorem ph_ok {p : Ph} (h : PhOk p) (h0 : 0 ≤ p.ri ∧ p.ri ≤ 1 ∧ 0 ≤ p.gr ∧ p.gr ≤ 2) : placeB p = true ∧ timB p = true := by
  have h1 := h.mn; have h2 := h.yl; have h3 := h.rd; have h4 := h.wk; have h5 := h.mx
  simp only [placeB, timB, inR, Bool.and_eq_true, decide_eq_true_eq]
  refine ⟨⟨⟨?_, ?_⟩, ?_, ?_⟩, ⟨?_, ?_⟩, ⟨?_, ?_⟩, ⟨?_, ?_⟩, ⟨?_, ?_⟩, ⟨?_, ?_⟩, ⟨?_, ?_⟩, ?_, ?_⟩ <;> omega
theorem conf_sym (P : List Ph) (ex : Bool) (i k : Nat) : confB P ex i k = confB P ex k i := by
  unfold confB
  rw [Nat.add_comm i k]
  have e1 : decide (i = k) = decide (k = i) := decide_eq_decide.2 ⟨Eq.symm, Eq.symm⟩
  have e2 : decide ((phAt P i).ri = (phAt P k).ri) = decide ((phAt P k).ri = (phAt P i).ri) := decide_eq_decide.2 ⟨Eq.symm, Eq.symm⟩
  have e3 : decide ((phAt P i).gr = (phAt P k).gr) = decide ((phAt P k).gr = (phAt P i).gr) := decide_eq_decide.2 ⟨Eq.symm, Eq.symm⟩
  rw [e1, e2, e3]
theorem conf_self (P : List Ph) (ex : Bool) (i : Nat) : confB P ex i i = false := by simp [confB]
theorem conf_need {P : List Ph} {ex : Bool} {i k : Nat} (hne : i ≠ k) (h : needB P i k = true) : confB P ex i k = true := by
  unfold needB at h; unfold confB
  rw [decide_eq_false hne]
  cases e : decide ((phAt P i).ri = (phAt P k).ri)
  · rw [e] at h
    rw [Bool.false_or] at h
    rw [h]; rfl
  · rfl
/-- Rows that come from bits that are symmetric. -/
theorem jun_of {q : Nat} {st : Int} {ex : Bool} {P : List Ph} {C : List Int} {f : Nat → Nat → Bool} (h : JunOk q st ex P) (hC : C.length = P.length) (hr : ∀ i, i < P.length → 0 ≤ at_ C i ∧ at_ C i < 2 ^ P.length)
    (hb : ∀ i, i < P.length → ∀ k, k < P.length → hasB (at_ C i) k = f i k) (hs : ∀ i k, f i k = f k i) (h0 : ∀ i, f i i = false) :
    JunV P C st ↔ ∀ p, p < P.length → ∀ q, q < p → needB P p q = true → f p q = true := by
  have hq := shapeL_len q
  have hl := h.len
  constructor
  · intro hv p hp q hq hn
    rw [← hb p hp q (by omega)]
    exact hv.ap p hp q hq hn
  · intro hf
    refine ⟨by omega, hC, ⟨by omega, by omega, fun p hp => ?_⟩, by have := h.st; omega, fun i hi => ?_, fun p hp k hk hn => by rw [hb p hp k (by omega)]; exact hf p hp k hk hn, fun g hg => ?_⟩
    · rw [hC] at hp ⊢
      refine ⟨(hr p hp).1, (hr p hp).2, by rw [hb p hp p hp, h0], fun k hk hh => ?_⟩
      rw [hb p hp k hk] at hh
      rw [hb k hk p hp, hs]; exact hh
    · refine ph_ok (h.ok _ (phAt_mem hi)) ?_
      rw [(h.sh i hi).1, (h.sh i hi).2]; exact sh_bd q i
    · rw [groups_sh h _ (Nat.le_refl _), hl] at hg
      have hd := sh_dense q
      have hg4 : g < 4 := by omega
      have := hd.1
      unfold shDense at this
      rw [List.all_eq_true] at this
      have := this g (List.mem_range.2 hg4)
      rw [decide_eq_true hg, Bool.not_true, Bool.false_or, List.any_eq_true] at this
      obtain ⟨i, hi, he⟩ := this
      have hi := List.mem_range.1 hi
      exact ⟨i, by omega, by rw [(h.sh i (by omega)).2]; exact of_decide_eq_true he⟩
theorem jun_drawn {q : Nat} {st : Int} {ex : Bool} {P : List Ph} (h : JunOk q st ex P) : JunV P (rowsL P ex) st :=
  (jun_of h (rows_len P ex) (fun i hi => by
    rw [rows_at P ex hi]
    have := rowV_lt P ex i P.length
    have e : ((2 ^ P.length : Nat) : Int) = (2 : Int) ^ P.length := by simp
    rw [← e]; omega) (fun i hi k hk => rows_bit P ex hi hk) (conf_sym P ex) (conf_self P ex)).2 fun p hp k hk hn => conf_need (by omega) hn
end Go.Proofs.Ytngdaieopnadbaa
