/-
  What a step does to one phase; with a target. Conditions: a valid junction.
-/
import Derived.Test.YtkpbkahmbbkcdaaGv
namespace Go.Proofs.Ytkpbkahmbbkcdaa
open Go.ChangeShapes Go.WideShapes Go.RowKit
set_option linter.unusedVariables false

theorem candF_ri (P : List Ph) (C : List Int) (nx r : Int) (t : Nat) : ∀ (k q : Nat) (f : Int), (f < 0 ∨ ∃ i : Nat, f = i ∧ (phAt P i).ri = r ∧ hasB (at_ C i) t = false) → candF P C nx r t q k f < 0 ∨ ∃ i : Nat, candF P C nx r t q k f = i ∧ (phAt P i).ri = r ∧ hasB (at_ C i) t = false
  | 0, _, _, h => h
  | k + 1, q, f, h => by
    rw [candF]
    by_cases h1 : (phAt P q).ri ≠ r ∨ hasB (at_ C q) t = true
    · rw [if_pos h1]; exact candF_ri P C nx r t k (q + 1) f h
    · rw [if_neg h1]
      have h2 : (phAt P q).ri = r := by
        by_cases e : (phAt P q).ri = r
        · exact e
        · exact absurd (.inl e) h1
      have h3 : hasB (at_ C q) t = false := by
        cases hb : hasB (at_ C q) t with
        | false => rfl
        | true => exact absurd (.inr hb) h1
      by_cases h4 : 0 ≤ nx ∧ nx ≤ (q : Int)
      · rw [if_pos h4]; exact .inr ⟨q, rfl, h2, h3⟩
      · rw [if_neg h4]
        refine candF_ri P C nx r t k (q + 1) _ ?_
        split
        · exact .inr ⟨q, rfl, h2, h3⟩
        · exact h
theorem candV_ri (P : List Ph) (C : List Int) (n : Nat) (nx r : Int) (t : Nat) : candV P C n nx r t < 0 ∨ ∃ i : Nat, candV P C n nx r t = i ∧ (phAt P i).ri = r ∧ (i = t ∨ hasB (at_ C i) t = false) := by
  unfold candV
  by_cases h : (phAt P t).ri = r
  · rw [if_pos h]; exact .inr ⟨t, rfl, h, .inl rfl⟩
  · rw [if_neg h]
    rcases candF_ri P C nx r t n 0 (-1) (.inl (by omega)) with h1 | ⟨i, h1, h2, h3⟩
    · exact .inl h1
    · exact .inr ⟨i, h1, h2, .inr h3⟩
/-- The phases of d that are not as they were in d0 were red there, and are green now, as G allows. -/
def BegR (n : Nat) (G : Nat → Prop) (d0 d : Ct) : Prop := ∀ p, p < n → prAt d.li p = prAt d0.li p ∨ (prAt d.li p = (1, 0) ∧ lmp d0.li p = 0 ∧ G p)
theorem begin_r {P : List Ph} {C : List Int} {n : Nat} {G : Nat → Prop} {d0 d : Ct} (h : BegR n G d0 d) (hli : d.li.length = n) {q : Nat} (hq : q < n) {r : Int} (hr : (phAt P q).ri = r) (hi : IdleP P d.li n r) (hG : G q) : BegR n G d0 (beginC P C n d q) := by
  unfold beginC
  by_cases hh : HinP C d.li n q
  · rw [if_pos hh]; exact h
  · rw [if_neg hh]
    intro p hp
    show prAt (d.li.set q (1, 0)) p = _ ∨ _
    rw [prAt_set (by omega)]
    by_cases e : p = q
    · subst e
      rw [if_pos rfl]
      right
      have h0 : lmp d.li p = 0 := hi p hp hr
      refine ⟨by first | rfl | (rw [if_pos rfl]), ?_, hG⟩
      rcases h p hp with h1 | ⟨h1, h2, _⟩
      · unfold lmp at h0 ⊢; rw [h1] at h0; exact h0
      · exact h2
    · rw [if_neg e]
      rcases h p hp with h1 | h1
      · exact .inl h1
      · exact .inr ⟨h1.1, h1.2⟩
theorem onC_r {P : List Ph} {C : List Int} {n t : Nat} {st : Int} {c : Ct} (hj : JunC P C n st) (hv : CtV P C n st c) (hw : c.wt = 0) (ht : t < n) : ∀ r, BegR n (fun p => p = t ∨ hasB (at_ C p) t = false) c (onC P C n t c r)
  | 0 => fun p hp => .inl rfl
  | r + 1 => by
    have ih := onC_r hj hv hw ht r
    have hc := (onC_v hj.rows hv hw ht hj.ri hj.gr r).1
    have hb := candV_bd P C n (at_ (onC P C n t c r).nx r) r t ht
    rw [on_succ]
    split
    · rename_i h2
      rcases candV_ri P C n (at_ (onC P C n t c r).nx r) r t with h3 | ⟨i, h3, h4, h5⟩
      · omega
      · rw [h3] at hb ⊢
        exact begin_r ih hc.li (by simp only [Int.toNat_natCast]; omega) (by rw [Int.toNat_natCast]; exact h4) h2.2 (by rw [Int.toNat_natCast]; exact h5)
    · exact ih
theorem offC_r {P : List Ph} {C : List Int} {n : Nat} {st : Int} {c : Ct} (hj : JunC P C n st) (hv : CtV P C n st c) (hw : c.wt = 0) : ∀ r, r ≤ 2 → BegR n (fun _ => True) c (offC P C n c r)
  | 0, _ => fun p hp => .inl rfl
  | r + 1, h => by
    have ih := offC_r hj hv hw r (by omega)
    have hc := (offC_v hj.rows hv hw hj.h1 hj.ri hj.gr r).1
    rw [off_succ]
    split
    · rename_i h2
      rcases hc.nxt r (by omega) with h3 | ⟨i, hi, h3, h4, _⟩
      · omega
      · rw [h3, Int.toNat_natCast]
        exact begin_r ih hc.li hi h4 h2.1 trivial
    · exact ih
/-- What a step makes of the light of a phase. -/
def stepL (P : List Ph) (C : List Int) (n : Nat) (c : Ct) (t : Int) (p : Nat) : Int × Int := stepV (phAt P p) (lmp c.li p) (tck c.li p) (leaveB P C c.li n t p)
theorem step_cases {P : List Ph} {C : List Int} {n : Nat} {st : Int} {c : Ct} (hj : JunC P C n st) (hv : CtV P C n st c) (hw : c.wt = 0) (t : Int) {p : Nat} (hp : p < n) :
    (lmp (stepC P C n c t).li p = (stepL P C n c t p).1 ∧ tck (stepC P C n c t).li p = (stepL P C n c t p).2) ∨ (lmp (stepC P C n c t).li p = 1 ∧ tck (stepC P C n c t).li p = 0 ∧ (stepL P C n c t p).1 = 0 ∧ (0 ≤ t ∧ t < n → p = t.toNat ∨ hasB (at_ C p) t.toNat = false)) := by
  have hd := lights_v hv hw hj.pok t
  have hl := lights_lmp hv t hp
  have key : ∀ (G : Nat → Prop) (d : Ct), BegR n G ⟨lightsL P C c.li n t n, c.gr, c.nx, c.wt⟩ d → (lmp d.li p = (stepL P C n c t p).1 ∧ tck d.li p = (stepL P C n c t p).2) ∨ (lmp d.li p = 1 ∧ tck d.li p = 0 ∧ (stepL P C n c t p).1 = 0 ∧ G p) := by
    intro G d h
    rcases h p hp with h1 | ⟨h1, h2, h3⟩
    · left
      have e : prAt d.li p = prAt (lightsL P C c.li n t n) p := h1
      unfold lmp tck at hl ⊢
      rw [e]; exact hl
    · right
      refine ⟨by unfold lmp; rw [h1], by unfold tck; rw [h1], ?_, h3⟩
      rw [← h2]; exact hl.1.symm
  unfold stepC
  rw [if_neg (by omega)]
  by_cases ht : 0 ≤ t ∧ t < n
  · rw [if_pos ht]
    rcases key _ _ (onC_r (t := t.toNat) hj hd hw (by omega) 2) with h | ⟨h1, h2, h3, h4⟩
    · exact .inl h
    · exact .inr ⟨h1, h2, h3, fun _ => h4⟩
  · rw [if_neg ht]
    by_cases hf : setV (lightsL P C c.li n t n) n = 0 ∧ at_ c.nx 0 < 0 ∧ at_ c.nx 1 < 0
    · simp only [if_pos hf]
      have hgp := groups_pos (P := P) (n := n) hj.h1 (fun i hi => (hj.gr i hi).1)
      have h2 := Int.emod_nonneg (c.gr + 1) (show groupsI P n ≠ 0 by omega)
      have h3 := Int.emod_lt_of_pos (c.gr + 1) hgp
      have hv2 : CtV P C n st ⟨lightsL P C c.li n t n, (c.gr + 1) % groupsI P n, nxL P n ((c.gr + 1) % groupsI P n) 2, c.wt⟩ := ⟨hd.li, nxL_len _ _ _ _, ⟨h2, h3⟩, hd.wt, hd.ok, fun r hr => nxL_val P n _ r hr, hd.no, hd.red⟩
      have h5 := offC_r hj hv2 hw 2 (Nat.le_refl 2)
      rcases key (fun _ => True) _ (fun q hq => h5 q hq) with h | ⟨a, b, d, _⟩
      · exact .inl h
      · exact .inr ⟨a, b, d, fun h => absurd h ht⟩
    · simp only [if_neg hf]
      rcases key _ _ (offC_r hj hd hw 2 (Nat.le_refl 2)) with h | ⟨a, b, d, _⟩
      · exact .inl h
      · exact .inr ⟨a, b, d, fun h => absurd h ht⟩
end Go.Proofs.Ytkpbkahmbbkcdaa
