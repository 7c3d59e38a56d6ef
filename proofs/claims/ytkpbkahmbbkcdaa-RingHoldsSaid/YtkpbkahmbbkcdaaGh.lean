/-
  A target becomes green and stays green, and nothing that conflicts with it begins. Conditions: a valid junction, a valid control.
-/
import Derived.Test.YtkpbkahmbbkcdaaGw
namespace Go.Proofs.Ytkpbkahmbbkcdaa
open Go.ChangeShapes Go.WideShapes Go.RowKit
set_option linter.unusedVariables false

/-- The lights that a light will still have, when it is told to leave. -/
def remV (p : Ph) (lm tk : Int) : Int := if lm = 1 then max 1 (needV p - tk) + p.yl + p.rd else if lm = 2 then p.yl - tk + p.rd else if lm = 3 then p.rd - tk else 0
theorem rem_bd {p : Ph} (hp : PhOk p) {lm tk : Int} (h : LiOk p lm tk) : 0 ≤ remV p lm tk ∧ remV p lm tk ≤ 8 ∧ (lm ≠ 0 → 1 ≤ remV p lm tk) := by
  have h1 := needV_bd hp
  have h2 := hp.yl
  have h3 := hp.rd
  unfold remV
  unfold LiOk at h
  rcases h with ⟨rfl, a, b⟩ | ⟨rfl, a, b⟩ | ⟨rfl, a, b⟩ | ⟨rfl, rfl⟩
  · simp only [if_true]; omega
  · simp only [show ¬ (2 : Int) = 1 by decide, if_false, if_true]; omega
  · simp only [show ¬ (3 : Int) = 1 by decide, show ¬ (3 : Int) = 2 by decide, if_false, if_true]; omega
  · simp only [show ¬ (0 : Int) = 1 by decide, show ¬ (0 : Int) = 2 by decide, show ¬ (0 : Int) = 3 by decide, if_false]; omega
theorem rem_step {p : Ph} (hp : PhOk p) {lm tk : Int} (lv : Bool) (h : LiOk p lm tk) (hl : lm = 1 → lv = true) {m : Int} (hm : remV p lm tk ≤ m) (h1 : 1 ≤ m) : remV p (stepV p lm tk lv).1 (stepV p lm tk lv).2 ≤ m - 1 ∧ (m = 1 → (stepV p lm tk lv).1 = 0) ∧ (lm ≠ 1 → (stepV p lm tk lv).1 ≠ 1) := by
  have hn := needV_bd hp
  have h2 := hp.yl
  have h3 := hp.rd
  unfold LiOk at h
  rcases h with ⟨rfl, a, b⟩ | ⟨rfl, a, b⟩ | ⟨rfl, a, b⟩ | ⟨rfl, rfl⟩
  · have hlv := hl rfl
    subst hlv
    simp only [remV, if_true] at hm
    by_cases hq : needV p ≤ tk + 1
    · have e : stepV p 1 tk true = (2, 0) := by simp [stepV, hq]
      rw [e]
      refine ⟨?_, fun h => ?_, fun h => absurd rfl h⟩
      · simp only [remV, show ¬ (2 : Int) = 1 by decide, if_false, if_true]; omega
      · omega
    · have e : stepV p 1 tk true = (1, min (tk + 1) 1073741824) := by simp [stepV, hq]
      rw [e]
      refine ⟨?_, fun h => ?_, fun h => absurd rfl h⟩
      · simp only [remV, if_true]; omega
      · omega
  · simp only [remV, show ¬ (2 : Int) = 1 by decide, if_false, if_true] at hm
    by_cases hq : tk + 1 < p.yl
    · have e : stepV p 2 tk lv = (2, tk + 1) := by simp [stepV, hq]
      rw [e]
      refine ⟨?_, fun h => ?_, fun _ => by simp⟩
      · simp only [remV, show ¬ (2 : Int) = 1 by decide, if_false, if_true]; omega
      · omega
    · by_cases hr : 0 < p.rd
      · have e : stepV p 2 tk lv = (3, 0) := by simp [stepV, hq, hr]
        rw [e]
        refine ⟨?_, fun h => ?_, fun _ => by simp⟩
        · simp only [remV, show ¬ (3 : Int) = 1 by decide, show ¬ (3 : Int) = 2 by decide, if_false, if_true]; omega
        · omega
      · have e : stepV p 2 tk lv = (0, 0) := by simp [stepV, hq, hr]
        rw [e]
        refine ⟨?_, fun h => rfl, fun _ => by simp⟩
        simp only [remV, show ¬ (0 : Int) = 1 by decide, show ¬ (0 : Int) = 2 by decide, show ¬ (0 : Int) = 3 by decide, if_false]; omega
  · simp only [remV, show ¬ (3 : Int) = 1 by decide, show ¬ (3 : Int) = 2 by decide, if_false, if_true] at hm
    by_cases hq : tk + 1 < p.rd
    · have e : stepV p 3 tk lv = (3, tk + 1) := by simp [stepV, hq]
      rw [e]
      refine ⟨?_, fun h => ?_, fun _ => by simp⟩
      · simp only [remV, show ¬ (3 : Int) = 1 by decide, show ¬ (3 : Int) = 2 by decide, if_false, if_true]; omega
      · omega
    · have e : stepV p 3 tk lv = (0, 0) := by simp [stepV, hq]
      rw [e]
      refine ⟨?_, fun h => rfl, fun _ => by simp⟩
      simp only [remV, show ¬ (0 : Int) = 1 by decide, show ¬ (0 : Int) = 2 by decide, show ¬ (0 : Int) = 3 by decide, if_false]; omega
  · have e : stepV p 0 0 lv = (0, 0) := by simp [stepV]
    rw [e]
    refine ⟨?_, fun h => rfl, fun _ => by simp⟩
    simp only [remV, show ¬ (0 : Int) = 1 by decide, show ¬ (0 : Int) = 2 by decide, show ¬ (0 : Int) = 3 by decide, if_false]; omega
section
variable {P : List Ph} {C : List Int} {n : Nat} {st : Int} {c : Ct} {t : Nat}
/-- A target that is green stays green. -/
theorem hold_green (hj : JunC P C n st) (hv : CtV P C n st c) (ht : t < n) (hg : lmp c.li t = 1) : lmp (stepC P C n c t).li t = 1 := by
  have hw : c.wt = 0 := by
    rcases hv.red with h | h
    · exact h
    · have := h t ht; omega
  have hl : leaveB P C c.li n (t : Int) t = false := by unfold leaveB; rw [if_pos (by omega)]; simp
  have e : (stepL P C n c t t).1 = 1 := by unfold stepL; rw [hg, hl]; simp [stepV]
  rcases step_cases hj hv hw (t : Int) ht with h | h
  · rw [h.1, e]
  · exact h.1
/-- Nothing that conflicts with the target begins. -/
theorem hold_begin (hj : JunC P C n st) (hv : CtV P C n st c) (ht : t < n) {p : Nat} (hp : p < n) (h1 : lmp (stepC P C n c t).li p = 1) (h2 : lmp c.li p ≠ 1) : hasB (at_ C p) t = false := by
  have hwb := hv.wt
  by_cases hw : 0 < c.wt
  · have e : (stepC P C n c t).li = c.li := by unfold stepC; rw [if_pos hw]
    rw [e] at h1; exact absurd h1 h2
  · have hw0 : c.wt = 0 := by omega
    have hb := rem_bd (hj.pok p hp) (hv.ok p hp)
    rcases step_cases hj hv hw0 (t : Int) hp with h | ⟨_, _, _, h⟩
    · have h3 := (rem_step (hj.pok p hp) (leaveB P C c.li n (t : Int) p) (hv.ok p hp) (fun e => absurd e h2) (m := 9) (by omega) (by omega)).2.2 h2
      rw [h.1] at h1
      exact absurd h1 h3
    · rcases h ⟨by omega, by omega⟩ with e | e
      · rw [Int.toNat_natCast] at e; rw [e]; exact hj.rows.self t ht
      · rw [Int.toNat_natCast] at e; exact e
/-- What keeps the target from being green has at most m lights left. -/
def FinR (P : List Ph) (C : List Int) (n t : Nat) (c : Ct) (m : Int) : Prop := ∀ p, p < n → (p = t ∨ hasB (at_ C p) t = true) → remV (phAt P p) (lmp c.li p) (tck c.li p) ≤ m
theorem fin_8 (hj : JunC P C n st) (hv : CtV P C n st c) : FinR P C n t c 8 := fun p hp _ => (rem_bd (hj.pok p hp) (hv.ok p hp)).2.1
/-- If all that keeps it is red after the lights' step, it begins. -/
theorem on_green (hj : JunC P C n st) (hjv : JunV P C st) (hv : CtV P C n st c) (hw : c.wt = 0) (ht : t < n) (hr : ∀ p, p < n → (p = t ∨ hasB (at_ C p) t = true) → lmp c.li p = 0) : lmp (onC P C n t c 2).li t = 1 := by
  have hin : ∀ r, ∀ p, p < n → (p = t ∨ hasB (at_ C p) t = true) → lmp (onC P C n t c r).li p = 0 ∨ lmp (onC P C n t c r).li t = 1 := by
    intro r p hp hpt
    rcases onC_r hj hv hw ht r p hp with h | ⟨h, _, h3⟩
    · left; unfold lmp; rw [h]; exact hr p hp hpt
    · rcases h3 with h3 | h3
      · right; rw [h3] at h; unfold lmp; rw [h]
      · rcases hpt with h4 | h4
        · right; rw [h4] at h; unfold lmp; rw [h]
        · rw [h3] at h4; cases h4
  have keep : ∀ r, lmp (onC P C n t c r).li t = 1 → lmp (onC P C n t c (r + 1)).li t = 1 := by
    intro r h
    have hc := (onC_v hj.rows hv hw ht hj.ri hj.gr r).1
    rw [on_succ]
    split
    · unfold beginC
      split
      · exact h
      · have hl := hc.li
        show lmp (List.set _ _ _) t = 1
        unfold lmp
        rw [prAt_set]
        · split
          · rfl
          · exact h
        · have hb := candV_bd P C n (at_ (onC P C n t c r).nx r) r t ht
          rename_i h2 _
          omega
    · exact h
  have hrt := hj.ri t ht
  have go : ∀ r : Nat, (phAt P t).ri = (r : Int) → lmp (onC P C n t c (r + 1)).li t = 1 := by
    intro r hri
    by_cases hg : lmp (onC P C n t c r).li t = 1
    · exact keep r hg
    · have hc := (onC_v hj.rows hv hw ht hj.ri hj.gr r).1
      have hz : ∀ p, p < n → (p = t ∨ hasB (at_ C p) t = true) → lmp (onC P C n t c r).li p = 0 := fun p hp h => (hin r p hp h).resolve_right hg
      have hcv : candV P C n (at_ (onC P C n t c r).nx r) r t = t := by unfold candV; rw [if_pos hri]
      have hid : IdleP P (onC P C n t c r).li n r := fun p hp hpr => by
        by_cases e : p = t
        · exact hz p hp (.inl e)
        · refine hz p hp (.inr (need_con hj hjv hp ht e ?_))
          unfold needB; rw [hpr, hri]; simp
      rw [on_succ, hcv, if_pos ⟨by omega, hid⟩, Int.toNat_natCast]
      unfold beginC
      rw [if_neg (fun ⟨p, hp, h1, h2⟩ => h1 (hz p hp (.inr h2)))]
      show lmp (List.set _ _ _) t = 1
      unfold lmp
      rw [prAt_set (by have := hc.li; omega), if_pos rfl]
  rcases (by omega : (phAt P t).ri = 0 ∨ (phAt P t).ri = 1) with e | e
  · exact keep 1 (go 0 e)
  · exact go 1 e
theorem fin_step (hj : JunC P C n st) (hjv : JunV P C st) (hv : CtV P C n st c) (hw : c.wt = 0) (ht : t < n) {m : Int} (h1 : 1 ≤ m) (hm : FinR P C n t c m) : lmp (stepC P C n c t).li t = 1 ∨ (1 ≤ m - 1 ∧ FinR P C n t (stepC P C n c t) (m - 1)) := by
  by_cases hg : lmp (stepC P C n c t).li t = 1
  · exact .inl hg
  · right
    have hgt : lmp c.li t ≠ 1 := fun h => hg (hold_green hj hv ht h)
    have hlv : ∀ p, p < n → (p = t ∨ hasB (at_ C p) t = true) → lmp c.li p = 1 → leaveB P C c.li n (t : Int) p = true := by
      intro p hp hpt hl
      rcases hpt with h | h
      · rw [h] at hl; exact absurd hl hgt
      · have hne : p ≠ t := fun e => by rw [e, hj.rows.self t ht] at h; cases h
        unfold leaveB
        rw [if_pos (by omega), Int.toNat_natCast, h]
        have : ¬ (p : Int) = t := by omega
        simp [this]
    have hst := fun p hp hpt => rem_step (hj.pok p hp) (leaveB P C c.li n (t : Int) p) (hv.ok p hp) (hlv p hp hpt) (hm p hp hpt) h1
    refine ⟨?_, ?_⟩
    · by_cases e : m = 1
      · exfalso
        apply hg
        have hd := lights_v hv hw hj.pok (t : Int)
        have := on_green hj hjv hd hw ht (fun p hp hpt => by rw [(lights_lmp hv (t : Int) hp).1]; exact (hst p hp hpt).2.1 e)
        unfold stepC
        rw [if_neg (by omega), if_pos ⟨by omega, by omega⟩, Int.toNat_natCast]
        exact this
      · omega
    · intro p hp hpt
      rcases step_cases hj hv hw (t : Int) hp with h | ⟨a, b, d, h⟩
      · rw [h.1, h.2]; exact (hst p hp hpt).1
      · rcases h ⟨by omega, by omega⟩ with e | e
        · rw [Int.toNat_natCast] at e; rw [e] at a; exact absurd a hg
        · rw [Int.toNat_natCast] at e
          rcases hpt with h' | h'
          · rw [h'] at a; exact absurd a hg
          · rw [e] at h'; cases h'
/-- k steps with a target. -/
def iterC (P : List Ph) (C : List Int) (n : Nat) (c : Ct) (t : Int) : Nat → Ct
  | 0 => c
  | k + 1 => stepC P C n (iterC P C n c t k) t
/-- How far the target is from green. -/
def Far (P : List Ph) (C : List Int) (n t : Nat) (c : Ct) (k : Int) : Prop := lmp c.li t = 1 ∨ ∃ m, 1 ≤ m ∧ FinR P C n t c m ∧ c.wt + m ≤ k
theorem far_0 (hj : JunC P C n st) (hv : CtV P C n st c) : Far P C n t c 10 := .inr ⟨8, by omega, fin_8 hj hv, by have := hv.wt; have := hj.st; omega⟩
theorem far_step (hj : JunC P C n st) (hjv : JunV P C st) (hv : CtV P C n st c) (ht : t < n) {k : Int} (h : Far P C n t c k) : Far P C n t (stepC P C n c t) (k - 1) := by
  rcases h with h | ⟨m, h1, h2, h3⟩
  · exact .inl (hold_green hj hv ht h)
  · have hwb := hv.wt
    by_cases hw : 0 < c.wt
    · right
      refine ⟨m, h1, ?_, ?_⟩
      · have e : (stepC P C n c t).li = c.li := by unfold stepC; rw [if_pos hw]
        intro p hp hpt
        rw [e]; exact h2 p hp hpt
      · have e : (stepC P C n c t).wt = c.wt - 1 := by unfold stepC; rw [if_pos hw]
        rw [e]; omega
    · have hw0 : c.wt = 0 := by omega
      rcases fin_step hj hjv hv hw0 ht h1 h2 with h | ⟨h4, h5⟩
      · exact .inl h
      · refine .inr ⟨m - 1, h4, h5, ?_⟩
        have e : (stepC P C n c t).wt = 0 := by
          have hd := lights_v hv hw0 hj.pok (t : Int)
          have := (onC_v hj.rows hd hw0 ht hj.ri hj.gr 2).2
          unfold stepC
          rw [if_neg hw, if_pos ⟨by omega, by omega⟩, Int.toNat_natCast]
          exact this
        omega
theorem far_end (hv : CtV P C n st c) {k : Int} (h : Far P C n t c k) (hk : k ≤ 0) : lmp c.li t = 1 := by
  rcases h with h | ⟨m, h1, _, h3⟩
  · exact h
  · have := hv.wt; omega
end
end Go.Proofs.Ytkpbkahmbbkcdaa
