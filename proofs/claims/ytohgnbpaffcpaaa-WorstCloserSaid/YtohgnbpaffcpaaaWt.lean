/-
  The phases that are not red are of the control's group, and the steps keep that. Conditions: a valid junction.
-/
import Derived.Test.YtohgnbpaffcpaaaLc
namespace Go.Proofs.Ytohgnbpaffcpaaa
open Go.ChangeShapes Go.WideShapes Go.RowKit
set_option linter.unusedVariables false

theorem need_sym' (P : List Ph) (i k : Nat) : needB P i k = needB P k i := by
  unfold needB
  rw [show decide ((phAt P i).ri = (phAt P k).ri) = decide ((phAt P k).ri = (phAt P i).ri) from decide_eq_decide.2 ⟨fun h => h.symm, fun h => h.symm⟩,
    show decide ((phAt P i).gr = (phAt P k).gr) = decide ((phAt P k).gr = (phAt P i).gr) from decide_eq_decide.2 ⟨fun h => h.symm, fun h => h.symm⟩]
theorem need_con {P : List Ph} {C : List Int} {n : Nat} {st : Int} (hj : JunC P C n st) (hv : JunV P C st) {p q : Nat} (hp : p < n) (hq : q < n) (hne : p ≠ q) (h : needB P p q = true) : hasB (at_ C p) q = true := by
  have hn := hj.len
  rcases Nat.lt_or_gt_of_ne hne with hl | hl
  · rw [hj.rows.sym p q hp hq]
    exact hv.ap q (by omega) p hl (by rw [need_sym']; exact h)
  · exact hv.ap p (by omega) q hl h
/-- Two phases that do not conflict are of different rings and one group. -/
theorem apart_of {P : List Ph} {C : List Int} {n : Nat} {st : Int} (hj : JunC P C n st) (hv : JunV P C st) {p q : Nat} (hp : p < n) (hq : q < n) (hne : p ≠ q) (h : hasB (at_ C p) q = false) : (phAt P p).ri ≠ (phAt P q).ri ∧ (phAt P p).gr = (phAt P q).gr := by
  have h1 : ¬ needB P p q = true := fun h2 => by rw [need_con hj hv hp hq hne h2] at h; cases h
  unfold needB at h1
  simpa using h1
def GrV (P : List Ph) (n : Nat) (c : Ct) : Prop := ∀ p, p < n → lmp c.li p ≠ 0 → (phAt P p).gr = c.gr
theorem init_g (P : List Ph) (n : Nat) (st : Int) : GrV P n (initC P n st) := fun p hp h => by
  exfalso; apply h
  show lmp (List.replicate n ((0, 0) : Int × Int)) p = 0
  unfold lmp; rw [prAt_rep hp]
theorem begin_g {P : List Ph} {C : List Int} {n : Nat} {st : Int} {c : Ct} (hj : JunC P C n st) (hv : JunV P C st) (hli : c.li.length = n) (h : GrV P n c) {q : Nat} (hq : q < n) : GrV P n (beginC P C n c q) := by
  unfold beginC
  by_cases hh : HinP C c.li n q
  · rw [if_pos hh]; exact h
  · rw [if_neg hh]
    intro p hp hl
    show (phAt P p).gr = (phAt P q).gr
    by_cases e : p = q
    · rw [e]
    · have hl2 : lmp (c.li.set q (1, 0)) p = lmp c.li p := by unfold lmp; rw [prAt_set (by omega), if_neg e]
      have hl3 : lmp c.li p ≠ 0 := by rw [← hl2]; exact hl
      have hc : hasB (at_ C p) q = false := by
        cases hb : hasB (at_ C p) q with
        | false => rfl
        | true => exact absurd ⟨p, hp, hl3, hb⟩ hh
      exact (apart_of hj hv hp hq e hc).2
theorem onC_g {P : List Ph} {C : List Int} {n t : Nat} {st : Int} {c : Ct} (hj : JunC P C n st) (hjv : JunV P C st) (hv : CtV P C n st c) (hw : c.wt = 0) (ht : t < n) (h : GrV P n c) : ∀ r, GrV P n (onC P C n t c r)
  | 0 => h
  | r + 1 => by
    have ih := onC_g hj hjv hv hw ht h r
    have hc := (onC_v hj.rows hv hw ht hj.ri hj.gr r).1
    have hb := candV_bd P C n (at_ (onC P C n t c r).nx r) r t ht
    rw [on_succ]
    split
    · rename_i h2
      exact begin_g hj hjv hc.li ih (by omega)
    · exact ih
theorem offC_g {P : List Ph} {C : List Int} {n : Nat} {st : Int} {c : Ct} (hj : JunC P C n st) (hjv : JunV P C st) (hv : CtV P C n st c) (hw : c.wt = 0) (h : GrV P n c) : ∀ r, GrV P n (offC P C n c r)
  | 0 => h
  | r + 1 => by
    have ih := offC_g hj hjv hv hw h r
    have hc := (offC_v hj.rows hv hw hj.h1 hj.ri hj.gr r).1
    have hb := hc.nxin hj.h1 r
    rw [off_succ]
    split
    · rename_i h2
      exact begin_g hj hjv hc.li ih (by omega)
    · exact ih
theorem lights_lmp {P : List Ph} {C : List Int} {n : Nat} {st : Int} {c : Ct} (hv : CtV P C n st c) (t : Int) {p : Nat} (hp : p < n) : lmp (lightsL P C c.li n t n) p = (stepV (phAt P p) (lmp c.li p) (tck c.li p) (leaveB P C c.li n t p)).1 ∧ tck (lightsL P C c.li n t n) p = (stepV (phAt P p) (lmp c.li p) (tck c.li p) (leaveB P C c.li n t p)).2 := by
  have hat := lights_at P C c.li n t n (by have := hv.li; omega) p
  rw [if_pos hp] at hat
  unfold lmp tck
  rw [hat]
  exact ⟨rfl, rfl⟩
theorem step_g {P : List Ph} {C : List Int} {n : Nat} {st : Int} {c : Ct} (hj : JunC P C n st) (hjv : JunV P C st) (hv : CtV P C n st c) (h : GrV P n c) (t : Int) : GrV P n (stepC P C n c t) := by
  have hwb := hv.wt
  unfold stepC
  by_cases hw : 0 < c.wt
  · rw [if_pos hw]; exact h
  · rw [if_neg hw]
    have hw0 : c.wt = 0 := by omega
    have hd := lights_v hv hw0 hj.pok t
    have hg : GrV P n ⟨lightsL P C c.li n t n, c.gr, c.nx, c.wt⟩ := fun p hp hl => by
      have h1 := (lights_lmp hv t hp).1
      have h2 := (step_ok (hj.pok p hp) (leaveB P C c.li n t p) (hv.ok p hp)).2
      exact h p hp (h2 (by rw [← h1]; exact hl))
    by_cases ht : 0 ≤ t ∧ t < n
    · rw [if_pos ht]
      exact onC_g hj hjv hd hw0 (by omega) hg 2
    · rw [if_neg ht]
      by_cases hf : setV (lightsL P C c.li n t n) n = 0 ∧ at_ c.nx 0 < 0 ∧ at_ c.nx 1 < 0
      · simp only [if_pos hf]
        have hgp := groups_pos (P := P) (n := n) hj.h1 (fun i hi => (hj.gr i hi).1)
        have hgr := hv.gr
        have h2 := Int.emod_nonneg (c.gr + 1) (show groupsI P n ≠ 0 by omega)
        have h3 := Int.emod_lt_of_pos (c.gr + 1) hgp
        have hv2 : CtV P C n st ⟨lightsL P C c.li n t n, (c.gr + 1) % groupsI P n, nxL P n ((c.gr + 1) % groupsI P n) 2, c.wt⟩ := ⟨hd.li, nxL_len _ _ _ _, ⟨h2, h3⟩, hd.wt, hd.ok, fun r hr => nxL_val P n _ r hr, hd.no, hd.red⟩
        exact offC_g hj hjv hv2 hw0 (fun p hp hl => absurd ((setV_zero _ n).1 hf.1 p hp) hl) 2
      · simp only [if_neg hf]
        exact offC_g hj hjv hd hw0 hg 2
end Go.Proofs.Ytohgnbpaffcpaaa
namespace Go.Proofs.Ytohgnbpaffcpaaa
open Go.ChangeShapes Go.WideShapes Go.RowKit
set_option linter.unusedVariables false

theorem candF_ri (P : List Ph) (C : List Int) (nx r : Int) (t : Nat) : ∀ (k q : Nat) (f : Int), (f < 0 ∨ ∃ i : Nat, f = i ∧ (phAt P i).ri = r ∧ hasB (at_ C i) t = false) → candF P C nx r t q k f < 0 ∨ ∃ i : Nat, candF P C nx r t q k f = i ∧ (phAt P i).ri = r ∧ hasB (at_ C i) t = false
  | 0, _, _, h => h
  | k + 1, q, f, h => by
    rw [candF]
    by_cases h1 : (phAt P q).ri ≠ r ∨ hasB (at_ C q) t = true
    · rw [if_pos h1]; exact candF_ri P C nx r t k (q + 1) f h
    · rw [if_neg h1]
      have h2 : (phAt P q).ri = r := by
        by_cases e : (phAt P q).ri = r
        · exact e
        · exact absurd (.inl e) h1
      have h3 : hasB (at_ C q) t = false := by
        cases hb : hasB (at_ C q) t with
        | false => rfl
        | true => exact absurd (.inr hb) h1
      by_cases h4 : 0 ≤ nx ∧ nx ≤ (q : Int)
      · rw [if_pos h4]; exact .inr ⟨q, rfl, h2, h3⟩
      · rw [if_neg h4]
        refine candF_ri P C nx r t k (q + 1) _ ?_
        split
        · exact .inr ⟨q, rfl, h2, h3⟩
        · exact h
theorem candV_ri (P : List Ph) (C : List Int) (n : Nat) (nx r : Int) (t : Nat) : candV P C n nx r t < 0 ∨ ∃ i : Nat, candV P C n nx r t = i ∧ (phAt P i).ri = r ∧ (i = t ∨ hasB (at_ C i) t = false) := by
  unfold candV
  by_cases h : (phAt P t).ri = r
  · rw [if_pos h]; exact .inr ⟨t, rfl, h, .inl rfl⟩
  · rw [if_neg h]
    rcases candF_ri P C nx r t n 0 (-1) (.inl (by omega)) with h1 | ⟨i, h1, h2, h3⟩
    · exact .inl h1
    · exact .inr ⟨i, h1, h2, .inr h3⟩
/-- The phases of d that are not as they were in d0 were red there, and are green now, as G allows. -/
def BegR (n : Nat) (G : Nat → Prop) (d0 d : Ct) : Prop := ∀ p, p < n → prAt d.li p = prAt d0.li p ∨ (prAt d.li p = (1, 0) ∧ lmp d0.li p = 0 ∧ G p)
theorem begin_r {P : List Ph} {C : List Int} {n : Nat} {G : Nat → Prop} {d0 d : Ct} (h : BegR n G d0 d) (hli : d.li.length = n) {q : Nat} (hq : q < n) {r : Int} (hr : (phAt P q).ri = r) (hi : IdleP P d.li n r) (hG : G q) : BegR n G d0 (beginC P C n d q) := by
  unfold beginC
  by_cases hh : HinP C d.li n q
  · rw [if_pos hh]; exact h
  · rw [if_neg hh]
    intro p hp
    show prAt (d.li.set q (1, 0)) p = _ ∨ _
    rw [prAt_set (by omega)]
    by_cases e : p = q
    · subst e
      rw [if_pos rfl]
      right
      have h0 : lmp d.li p = 0 := hi p hp hr
      refine ⟨by first | rfl | (rw [if_pos rfl]), ?_, hG⟩
      rcases h p hp with h1 | ⟨h1, h2, _⟩
      · unfold lmp at h0 ⊢; rw [h1] at h0; exact h0
      · exact h2
    · rw [if_neg e]
      rcases h p hp with h1 | h1
      · exact .inl h1
      · exact .inr ⟨h1.1, h1.2⟩
theorem onC_r {P : List Ph} {C : List Int} {n t : Nat} {st : Int} {c : Ct} (hj : JunC P C n st) (hv : CtV P C n st c) (hw : c.wt = 0) (ht : t < n) : ∀ r, BegR n (fun p => p = t ∨ hasB (at_ C p) t = false) c (onC P C n t c r)
  | 0 => fun p hp => .inl rfl
  | r + 1 => by
    have ih := onC_r hj hv hw ht r
    have hc := (onC_v hj.rows hv hw ht hj.ri hj.gr r).1
    have hb := candV_bd P C n (at_ (onC P C n t c r).nx r) r t ht
    rw [on_succ]
    split
    · rename_i h2
      rcases candV_ri P C n (at_ (onC P C n t c r).nx r) r t with h3 | ⟨i, h3, h4, h5⟩
      · omega
      · rw [h3] at hb ⊢
        exact begin_r ih hc.li (by simp only [Int.toNat_natCast]; omega) (by rw [Int.toNat_natCast]; exact h4) h2.2 (by rw [Int.toNat_natCast]; exact h5)
    · exact ih
theorem offC_r {P : List Ph} {C : List Int} {n : Nat} {st : Int} {c : Ct} (hj : JunC P C n st) (hv : CtV P C n st c) (hw : c.wt = 0) : ∀ r, r ≤ 2 → BegR n (fun _ => True) c (offC P C n c r)
  | 0, _ => fun p hp => .inl rfl
  | r + 1, h => by
    have ih := offC_r hj hv hw r (by omega)
    have hc := (offC_v hj.rows hv hw hj.h1 hj.ri hj.gr r).1
    rw [off_succ]
    split
    · rename_i h2
      rcases hc.nxt r (by omega) with h3 | ⟨i, hi, h3, h4, _⟩
      · omega
      · rw [h3, Int.toNat_natCast]
        exact begin_r ih hc.li hi h4 h2.1 trivial
    · exact ih
/-- What a step makes of the light of a phase. -/
def stepL (P : List Ph) (C : List Int) (n : Nat) (c : Ct) (t : Int) (p : Nat) : Int × Int := stepV (phAt P p) (lmp c.li p) (tck c.li p) (leaveB P C c.li n t p)
theorem step_cases {P : List Ph} {C : List Int} {n : Nat} {st : Int} {c : Ct} (hj : JunC P C n st) (hv : CtV P C n st c) (hw : c.wt = 0) (t : Int) {p : Nat} (hp : p < n) :
    (lmp (stepC P C n c t).li p = (stepL P C n c t p).1 ∧ tck (stepC P C n c t).li p = (stepL P C n c t p).2) ∨ (lmp (stepC P C n c t).li p = 1 ∧ tck (stepC P C n c t).li p = 0 ∧ (stepL P C n c t p).1 = 0 ∧ (0 ≤ t ∧ t < n → p = t.toNat ∨ hasB (at_ C p) t.toNat = false)) := by
  have hd := lights_v hv hw hj.pok t
  have hl := lights_lmp hv t hp
  have key : ∀ (G : Nat → Prop) (d : Ct), BegR n G ⟨lightsL P C c.li n t n, c.gr, c.nx, c.wt⟩ d → (lmp d.li p = (stepL P C n c t p).1 ∧ tck d.li p = (stepL P C n c t p).2) ∨ (lmp d.li p = 1 ∧ tck d.li p = 0 ∧ (stepL P C n c t p).1 = 0 ∧ G p) := by
    intro G d h
    rcases h p hp with h1 | ⟨h1, h2, h3⟩
    · left
      have e : prAt d.li p = prAt (lightsL P C c.li n t n) p := h1
      unfold lmp tck at hl ⊢
      rw [e]; exact hl
    · right
      refine ⟨by unfold lmp; rw [h1], by unfold tck; rw [h1], ?_, h3⟩
      rw [← h2]; exact hl.1.symm
  unfold stepC
  rw [if_neg (by omega)]
  by_cases ht : 0 ≤ t ∧ t < n
  · rw [if_pos ht]
    rcases key _ _ (onC_r (t := t.toNat) hj hd hw (by omega) 2) with h | ⟨h1, h2, h3, h4⟩
    · exact .inl h
    · exact .inr ⟨h1, h2, h3, fun _ => h4⟩
  · rw [if_neg ht]
    by_cases hf : setV (lightsL P C c.li n t n) n = 0 ∧ at_ c.nx 0 < 0 ∧ at_ c.nx 1 < 0
    · simp only [if_pos hf]
      have hgp := groups_pos (P := P) (n := n) hj.h1 (fun i hi => (hj.gr i hi).1)
      have h2 := Int.emod_nonneg (c.gr + 1) (show groupsI P n ≠ 0 by omega)
      have h3 := Int.emod_lt_of_pos (c.gr + 1) hgp
      have hv2 : CtV P C n st ⟨lightsL P C c.li n t n, (c.gr + 1) % groupsI P n, nxL P n ((c.gr + 1) % groupsI P n) 2, c.wt⟩ := ⟨hd.li, nxL_len _ _ _ _, ⟨h2, h3⟩, hd.wt, hd.ok, fun r hr => nxL_val P n _ r hr, hd.no, hd.red⟩
      have h5 := offC_r hj hv2 hw 2 (Nat.le_refl 2)
      rcases key (fun _ => True) _ (fun q hq => h5 q hq) with h | ⟨a, b, d, _⟩
      · exact .inl h
      · exact .inr ⟨a, b, d, fun h => absurd h ht⟩
    · simp only [if_neg hf]
      rcases key _ _ (offC_r hj hd hw 2 (Nat.le_refl 2)) with h | ⟨a, b, d, _⟩
      · exact .inl h
      · exact .inr ⟨a, b, d, fun h => absurd h ht⟩
end Go.Proofs.Ytohgnbpaffcpaaa
namespace Go.Proofs.Ytohgnbpaffcpaaa
open Go.ChangeShapes Go.WideShapes Go.RowKit
set_option linter.unusedVariables false

/-- The lights that a light will still have, when it is told to leave. -/
def remV (p : Ph) (lm tk : Int) : Int := if lm = 1 then max 1 (needV p - tk) + p.yl + p.rd else if lm = 2 then p.yl - tk + p.rd else if lm = 3 then p.rd - tk else 0
theorem rem_bd {p : Ph} (hp : PhOk p) {lm tk : Int} (h : LiOk p lm tk) : 0 ≤ remV p lm tk ∧ remV p lm tk ≤ 8 ∧ (lm ≠ 0 → 1 ≤ remV p lm tk) := by
  have h1 := needV_bd hp
  have h2 := hp.yl
  have h3 := hp.rd
  unfold remV
  unfold LiOk at h
  rcases h with ⟨rfl, a, b⟩ | ⟨rfl, a, b⟩ | ⟨rfl, a, b⟩ | ⟨rfl, rfl⟩
  · simp only [if_true]; omega
  · simp only [show ¬ (2 : Int) = 1 by decide, if_false, if_true]; omega
  · simp only [show ¬ (3 : Int) = 1 by decide, show ¬ (3 : Int) = 2 by decide, if_false, if_true]; omega
  · simp only [show ¬ (0 : Int) = 1 by decide, show ¬ (0 : Int) = 2 by decide, show ¬ (0 : Int) = 3 by decide, if_false]; omega
theorem rem_step {p : Ph} (hp : PhOk p) {lm tk : Int} (lv : Bool) (h : LiOk p lm tk) (hl : lm = 1 → lv = true) {m : Int} (hm : remV p lm tk ≤ m) (h1 : 1 ≤ m) : remV p (stepV p lm tk lv).1 (stepV p lm tk lv).2 ≤ m - 1 ∧ (m = 1 → (stepV p lm tk lv).1 = 0) ∧ (lm ≠ 1 → (stepV p lm tk lv).1 ≠ 1) := by
  have hn := needV_bd hp
  have h2 := hp.yl
  have h3 := hp.rd
  unfold LiOk at h
  rcases h with ⟨rfl, a, b⟩ | ⟨rfl, a, b⟩ | ⟨rfl, a, b⟩ | ⟨rfl, rfl⟩
  · have hlv := hl rfl
    subst hlv
    simp only [remV, if_true] at hm
    by_cases hq : needV p ≤ tk + 1
    · have e : stepV p 1 tk true = (2, 0) := by simp [stepV, hq]
      rw [e]
      refine ⟨?_, fun h => ?_, fun h => absurd rfl h⟩
      · simp only [remV, show ¬ (2 : Int) = 1 by decide, if_false, if_true]; omega
      · omega
    · have e : stepV p 1 tk true = (1, min (tk + 1) 1073741824) := by simp [stepV, hq]
      rw [e]
      refine ⟨?_, fun h => ?_, fun h => absurd rfl h⟩
      · simp only [remV, if_true]; omega
      · omega
  · simp only [remV, show ¬ (2 : Int) = 1 by decide, if_false, if_true] at hm
    by_cases hq : tk + 1 < p.yl
    · have e : stepV p 2 tk lv = (2, tk + 1) := by simp [stepV, hq]
      rw [e]
      refine ⟨?_, fun h => ?_, fun _ => by simp⟩
      · simp only [remV, show ¬ (2 : Int) = 1 by decide, if_false, if_true]; omega
      · omega
    · by_cases hr : 0 < p.rd
      · have e : stepV p 2 tk lv = (3, 0) := by simp [stepV, hq, hr]
        rw [e]
        refine ⟨?_, fun h => ?_, fun _ => by simp⟩
        · simp only [remV, show ¬ (3 : Int) = 1 by decide, show ¬ (3 : Int) = 2 by decide, if_false, if_true]; omega
        · omega
      · have e : stepV p 2 tk lv = (0, 0) := by simp [stepV, hq, hr]
        rw [e]
        refine ⟨?_, fun h => rfl, fun _ => by simp⟩
        simp only [remV, show ¬ (0 : Int) = 1 by decide, show ¬ (0 : Int) = 2 by decide, show ¬ (0 : Int) = 3 by decide, if_false]; omega
  · simp only [remV, show ¬ (3 : Int) = 1 by decide, show ¬ (3 : Int) = 2 by decide, if_false, if_true] at hm
    by_cases hq : tk + 1 < p.rd
    · have e : stepV p 3 tk lv = (3, tk + 1) := by simp [stepV, hq]
      rw [e]
      refine ⟨?_, fun h => ?_, fun _ => by simp⟩
      · simp only [remV, show ¬ (3 : Int) = 1 by decide, show ¬ (3 : Int) = 2 by decide, if_false, if_true]; omega
      · omega
    · have e : stepV p 3 tk lv = (0, 0) := by simp [stepV, hq]
      rw [e]
      refine ⟨?_, fun h => rfl, fun _ => by simp⟩
      simp only [remV, show ¬ (0 : Int) = 1 by decide, show ¬ (0 : Int) = 2 by decide, show ¬ (0 : Int) = 3 by decide, if_false]; omega
  · have e : stepV p 0 0 lv = (0, 0) := by simp [stepV]
    rw [e]
    refine ⟨?_, fun h => rfl, fun _ => by simp⟩
    simp only [remV, show ¬ (0 : Int) = 1 by decide, show ¬ (0 : Int) = 2 by decide, show ¬ (0 : Int) = 3 by decide, if_false]; omega
section
variable {P : List Ph} {C : List Int} {n : Nat} {st : Int} {c : Ct} {t : Nat}
/-- A target that is green stays green. -/
theorem hold_green (hj : JunC P C n st) (hv : CtV P C n st c) (ht : t < n) (hg : lmp c.li t = 1) : lmp (stepC P C n c t).li t = 1 := by
  have hw : c.wt = 0 := by
    rcases hv.red with h | h
    · exact h
    · have := h t ht; omega
  have hl : leaveB P C c.li n (t : Int) t = false := by unfold leaveB; rw [if_pos (by omega)]; simp
  have e : (stepL P C n c t t).1 = 1 := by unfold stepL; rw [hg, hl]; simp [stepV]
  rcases step_cases hj hv hw (t : Int) ht with h | h
  · rw [h.1, e]
  · exact h.1
/-- Nothing that conflicts with the target begins. -/
theorem hold_begin (hj : JunC P C n st) (hv : CtV P C n st c) (ht : t < n) {p : Nat} (hp : p < n) (h1 : lmp (stepC P C n c t).li p = 1) (h2 : lmp c.li p ≠ 1) : hasB (at_ C p) t = false := by
  have hwb := hv.wt
  by_cases hw : 0 < c.wt
  · have e : (stepC P C n c t).li = c.li := by unfold stepC; rw [if_pos hw]
    rw [e] at h1; exact absurd h1 h2
  · have hw0 : c.wt = 0 := by omega
    have hb := rem_bd (hj.pok p hp) (hv.ok p hp)
    rcases step_cases hj hv hw0 (t : Int) hp with h | ⟨_, _, _, h⟩
    · have h3 := (rem_step (hj.pok p hp) (leaveB P C c.li n (t : Int) p) (hv.ok p hp) (fun e => absurd e h2) (m := 9) (by omega) (by omega)).2.2 h2
      rw [h.1] at h1
      exact absurd h1 h3
    · rcases h ⟨by omega, by omega⟩ with e | e
      · rw [Int.toNat_natCast] at e; rw [e]; exact hj.rows.self t ht
      · rw [Int.toNat_natCast] at e; exact e
/-- What keeps the target from being green has at most m lights left. -/
def FinR (P : List Ph) (C : List Int) (n t : Nat) (c : Ct) (m : Int) : Prop := ∀ p, p < n → (p = t ∨ hasB (at_ C p) t = true) → remV (phAt P p) (lmp c.li p) (tck c.li p) ≤ m
theorem fin_8 (hj : JunC P C n st) (hv : CtV P C n st c) : FinR P C n t c 8 := fun p hp _ => (rem_bd (hj.pok p hp) (hv.ok p hp)).2.1
/-- If all that keeps it is red after the lights' step, it begins. -/
theorem on_green (hj : JunC P C n st) (hjv : JunV P C st) (hv : CtV P C n st c) (hw : c.wt = 0) (ht : t < n) (hr : ∀ p, p < n → (p = t ∨ hasB (at_ C p) t = true) → lmp c.li p = 0) : lmp (onC P C n t c 2).li t = 1 := by
  have hin : ∀ r, ∀ p, p < n → (p = t ∨ hasB (at_ C p) t = true) → lmp (onC P C n t c r).li p = 0 ∨ lmp (onC P C n t c r).li t = 1 := by
    intro r p hp hpt
    rcases onC_r hj hv hw ht r p hp with h | ⟨h, _, h3⟩
    · left; unfold lmp; rw [h]; exact hr p hp hpt
    · rcases h3 with h3 | h3
      · right; rw [h3] at h; unfold lmp; rw [h]
      · rcases hpt with h4 | h4
        · right; rw [h4] at h; unfold lmp; rw [h]
        · rw [h3] at h4; cases h4
  have keep : ∀ r, lmp (onC P C n t c r).li t = 1 → lmp (onC P C n t c (r + 1)).li t = 1 := by
    intro r h
    have hc := (onC_v hj.rows hv hw ht hj.ri hj.gr r).1
    rw [on_succ]
    split
    · unfold beginC
      split
      · exact h
      · have hl := hc.li
        show lmp (List.set _ _ _) t = 1
        unfold lmp
        rw [prAt_set]
        · split
          · rfl
          · exact h
        · have hb := candV_bd P C n (at_ (onC P C n t c r).nx r) r t ht
          rename_i h2 _
          omega
    · exact h
  have hrt := hj.ri t ht
  have go : ∀ r : Nat, (phAt P t).ri = (r : Int) → lmp (onC P C n t c (r + 1)).li t = 1 := by
    intro r hri
    by_cases hg : lmp (onC P C n t c r).li t = 1
    · exact keep r hg
    · have hc := (onC_v hj.rows hv hw ht hj.ri hj.gr r).1
      have hz : ∀ p, p < n → (p = t ∨ hasB (at_ C p) t = true) → lmp (onC P C n t c r).li p = 0 := fun p hp h => (hin r p hp h).resolve_right hg
      have hcv : candV P C n (at_ (onC P C n t c r).nx r) r t = t := by unfold candV; rw [if_pos hri]
      have hid : IdleP P (onC P C n t c r).li n r := fun p hp hpr => by
        by_cases e : p = t
        · exact hz p hp (.inl e)
        · refine hz p hp (.inr (need_con hj hjv hp ht e ?_))
          unfold needB; rw [hpr, hri]; simp
      rw [on_succ, hcv, if_pos ⟨by omega, hid⟩, Int.toNat_natCast]
      unfold beginC
      rw [if_neg (fun ⟨p, hp, h1, h2⟩ => h1 (hz p hp (.inr h2)))]
      show lmp (List.set _ _ _) t = 1
      unfold lmp
      rw [prAt_set (by have := hc.li; omega), if_pos rfl]
  rcases (by omega : (phAt P t).ri = 0 ∨ (phAt P t).ri = 1) with e | e
  · exact keep 1 (go 0 e)
  · exact go 1 e
theorem fin_step (hj : JunC P C n st) (hjv : JunV P C st) (hv : CtV P C n st c) (hw : c.wt = 0) (ht : t < n) {m : Int} (h1 : 1 ≤ m) (hm : FinR P C n t c m) : lmp (stepC P C n c t).li t = 1 ∨ (1 ≤ m - 1 ∧ FinR P C n t (stepC P C n c t) (m - 1)) := by
  by_cases hg : lmp (stepC P C n c t).li t = 1
  · exact .inl hg
  · right
    have hgt : lmp c.li t ≠ 1 := fun h => hg (hold_green hj hv ht h)
    have hlv : ∀ p, p < n → (p = t ∨ hasB (at_ C p) t = true) → lmp c.li p = 1 → leaveB P C c.li n (t : Int) p = true := by
      intro p hp hpt hl
      rcases hpt with h | h
      · rw [h] at hl; exact absurd hl hgt
      · have hne : p ≠ t := fun e => by rw [e, hj.rows.self t ht] at h; cases h
        unfold leaveB
        rw [if_pos (by omega), Int.toNat_natCast, h]
        have : ¬ (p : Int) = t := by omega
        simp [this]
    have hst := fun p hp hpt => rem_step (hj.pok p hp) (leaveB P C c.li n (t : Int) p) (hv.ok p hp) (hlv p hp hpt) (hm p hp hpt) h1
    refine ⟨?_, ?_⟩
    · by_cases e : m = 1
      · exfalso
        apply hg
        have hd := lights_v hv hw hj.pok (t : Int)
        have := on_green hj hjv hd hw ht (fun p hp hpt => by rw [(lights_lmp hv (t : Int) hp).1]; exact (hst p hp hpt).2.1 e)
        unfold stepC
        rw [if_neg (by omega), if_pos ⟨by omega, by omega⟩, Int.toNat_natCast]
        exact this
      · omega
    · intro p hp hpt
      rcases step_cases hj hv hw (t : Int) hp with h | ⟨a, b, d, h⟩
      · rw [h.1, h.2]; exact (hst p hp hpt).1
      · rcases h ⟨by omega, by omega⟩ with e | e
        · rw [Int.toNat_natCast] at e; rw [e] at a; exact absurd a hg
        · rw [Int.toNat_natCast] at e
          rcases hpt with h' | h'
          · rw [h'] at a; exact absurd a hg
          · rw [e] at h'; cases h'
/-- k steps with a target. -/
def iterC (P : List Ph) (C : List Int) (n : Nat) (c : Ct) (t : Int) : Nat → Ct
  | 0 => c
  | k + 1 => stepC P C n (iterC P C n c t k) t
/-- How far the target is from green. -/
def Far (P : List Ph) (C : List Int) (n t : Nat) (c : Ct) (k : Int) : Prop := lmp c.li t = 1 ∨ ∃ m, 1 ≤ m ∧ FinR P C n t c m ∧ c.wt + m ≤ k
theorem far_0 (hj : JunC P C n st) (hv : CtV P C n st c) : Far P C n t c 10 := .inr ⟨8, by omega, fin_8 hj hv, by have := hv.wt; have := hj.st; omega⟩
theorem far_step (hj : JunC P C n st) (hjv : JunV P C st) (hv : CtV P C n st c) (ht : t < n) {k : Int} (h : Far P C n t c k) : Far P C n t (stepC P C n c t) (k - 1) := by
  rcases h with h | ⟨m, h1, h2, h3⟩
  · exact .inl (hold_green hj hv ht h)
  · have hwb := hv.wt
    by_cases hw : 0 < c.wt
    · right
      refine ⟨m, h1, ?_, ?_⟩
      · have e : (stepC P C n c t).li = c.li := by unfold stepC; rw [if_pos hw]
        intro p hp hpt
        rw [e]; exact h2 p hp hpt
      · have e : (stepC P C n c t).wt = c.wt - 1 := by unfold stepC; rw [if_pos hw]
        rw [e]; omega
    · have hw0 : c.wt = 0 := by omega
      rcases fin_step hj hjv hv hw0 ht h1 h2 with h | ⟨h4, h5⟩
      · exact .inl h
      · refine .inr ⟨m - 1, h4, h5, ?_⟩
        have e : (stepC P C n c t).wt = 0 := by
          have hd := lights_v hv hw0 hj.pok (t : Int)
          have := (onC_v hj.rows hd hw0 ht hj.ri hj.gr 2).2
          unfold stepC
          rw [if_neg hw, if_pos ⟨by omega, by omega⟩, Int.toNat_natCast]
          exact this
        omega
theorem far_end (hv : CtV P C n st c) {k : Int} (h : Far P C n t c k) (hk : k ≤ 0) : lmp c.li t = 1 := by
  rcases h with h | ⟨m, h1, _, h3⟩
  · exact h
  · have := hv.wt; omega
end
end Go.Proofs.Ytohgnbpaffcpaaa
namespace Go.Proofs.Ytohgnbpaffcpaaa
open Go.ChangeShapes Go.WideShapes Go.RowKit
set_option linter.unusedVariables false

/-- The longest of the first k phases' transitions. -/
def longV (P : List Ph) : Nat → Int
  | 0 => 0
  | k + 1 => max (longV P k) (needV (phAt P k) + (phAt P k).yl + (phAt P k).rd)
theorem long_ge (P : List Ph) : ∀ k i, i < k → needV (phAt P i) + (phAt P i).yl + (phAt P i).rd ≤ longV P k
  | 0, _, h => absurd h (by omega)
  | k + 1, i, h => by
    rw [longV]
    by_cases e : i = k
    · subst e; omega
    · have := long_ge P k i (by omega); omega
theorem long_bd {P : List Ph} {n : Nat} (h : ∀ p, p < n → PhOk (phAt P p)) : ∀ k, k ≤ n → 0 ≤ longV P k ∧ longV P k ≤ 1000
  | 0, _ => by simp [longV]
  | k + 1, hk => by
    have ih := long_bd h k (by omega)
    have h1 := needV_bd (h k (by omega))
    have h2 := (h k (by omega)).yl
    have h3 := (h k (by omega)).rd
    rw [longV]
    omega
def transV (P : List Ph) (n : Nat) (st : Int) : Int := st + longV P n
/-- From step i on, for k more steps: when the target is green. -/
def reachF (P : List Ph) (C : List Int) (n t : Nat) : Nat → Int → Ct → Int
  | 0, _, _ => -1
  | k + 1, i, c => if lmp c.li t = 1 then i else reachF P C n t k (i + 1) (stepC P C n c t)
def reachV (P : List Ph) (C : List Int) (n : Nat) (st : Int) (c : Ct) (t : Nat) : Int := reachF P C n t (transV P n st + 1).toNat 0 c
def Rn (P : List Ph) (C : List Int) (n t : Nat) : Nat → Ct → Prop
  | 0, c => lmp c.li t = 1
  | m + 1, c => lmp c.li t ≠ 1 ∧ Rn P C n t m (stepC P C n c t)
section
variable {P : List Ph} {C : List Int} {n : Nat} {st : Int} {c : Ct} {t : Nat}
theorem rn_reach : ∀ (m k : Nat) (i : Int) (c : Ct), Rn P C n t m c → m < k → reachF P C n t k i c = i + m
  | 0, k, i, c, h, hk => by
    obtain ⟨k, rfl⟩ : ∃ q, k = q + 1 := ⟨k - 1, by omega⟩
    have h : lmp c.li t = 1 := h
    rw [reachF, if_pos h]; simp
  | m + 1, k, i, c, h, hk => by
    obtain ⟨k, rfl⟩ : ∃ q, k = q + 1 := ⟨k - 1, by omega⟩
    rw [reachF, if_neg h.1, rn_reach m k (i + 1) _ h.2 (by omega)]
    push_cast; omega
theorem far_long (hj : JunC P C n st) (hv : CtV P C n st c) (ht : t < n) : Far P C n t c (transV P n st) := by
  refine .inr ⟨longV P n, ?_, fun p hp _ => ?_, ?_⟩
  · have h1 := long_ge P n t ht
    have h2 := needV_bd (hj.pok t ht)
    have h3 := (hj.pok t ht).yl
    have h4 := (hj.pok t ht).rd
    omega
  · have h1 := long_ge P n p hp
    have h2 := needV_bd (hj.pok p hp)
    have h3 := (hj.pok p hp).yl
    have h4 := (hj.pok p hp).rd
    have h5 := hv.ok p hp
    unfold LiOk at h5
    rcases h5 with ⟨e, a, b⟩ | ⟨e, a, b⟩ | ⟨e, a, b⟩ | ⟨e, a⟩ <;> rw [e] <;> unfold remV
    · simp only [if_true]; omega
    · simp only [show ¬ (2 : Int) = 1 by decide, if_false, if_true]; omega
    · simp only [show ¬ (3 : Int) = 1 by decide, show ¬ (3 : Int) = 2 by decide, if_false, if_true]; omega
    · simp only [show ¬ (0 : Int) = 1 by decide, show ¬ (0 : Int) = 2 by decide, show ¬ (0 : Int) = 3 by decide, if_false]; omega
  · have := hv.wt
    unfold transV; omega
theorem far_rn (hj : JunC P C n st) (hjv : JunV P C st) (ht : t < n) : ∀ (k : Nat) (c : Ct), CtV P C n st c → Far P C n t c k → ∃ m, m ≤ k ∧ Rn P C n t m c
  | 0, c, hv, h => ⟨0, by omega, far_end hv h (by omega)⟩
  | k + 1, c, hv, h => by
    by_cases hg : lmp c.li t = 1
    · exact ⟨0, by omega, hg⟩
    · have h2 := far_step hj hjv hv ht h
      have e : ((k + 1 : Nat) : Int) - 1 = (k : Nat) := by omega
      rw [e] at h2
      obtain ⟨m, hm, hr⟩ := far_rn hj hjv ht k (stepC P C n c t) (step_v hj.rows hv hj.h1 hj.pok hj.ri hj.gr t) h2
      exact ⟨m + 1, by omega, hg, hr⟩
theorem trans_pos (hj : JunC P C n st) : 0 ≤ transV P n st ∧ transV P n st ≤ 1002 := by
  have h1 := long_bd hj.pok n (Nat.le_refl n)
  have h2 := hj.st
  unfold transV; omega
theorem reach_rn (hj : JunC P C n st) (hjv : JunV P C st) (hv : CtV P C n st c) (ht : t < n) : ∃ m : Nat, (m : Int) ≤ transV P n st ∧ Rn P C n t m c ∧ reachV P C n st c t = m := by
  have hp := trans_pos hj
  obtain ⟨m, hm, hr⟩ := far_rn hj hjv ht (transV P n st).toNat c hv (by rw [Int.toNat_of_nonneg hp.1]; exact far_long hj hv ht)
  exact ⟨m, by omega, hr, by unfold reachV; rw [rn_reach m _ 0 c hr (by omega)]; omega⟩
/-- Every step with the target brings it closer by one. -/
theorem reach_step (hj : JunC P C n st) (hjv : JunV P C st) (hv : CtV P C n st c) (ht : t < n) : reachV P C n st (stepC P C n c t) t = max 0 (reachV P C n st c t - 1) := by
  have hv2 := step_v hj.rows hv hj.h1 hj.pok hj.ri hj.gr (t : Int)
  have hp := trans_pos hj
  obtain ⟨m, hm, hr, he⟩ := reach_rn hj hjv hv ht
  rw [he]
  cases m with
  | zero =>
    have : Rn P C n t 0 (stepC P C n c t) := hold_green hj hv ht hr
    unfold reachV; rw [rn_reach 0 _ 0 _ this (by omega)]; rfl
  | succ m =>
    unfold reachV; rw [rn_reach m _ 0 _ hr.2 (by omega)]; omega
theorem reach_bd (hj : JunC P C n st) (hjv : JunV P C st) (hv : CtV P C n st c) (ht : t < n) : 0 ≤ reachV P C n st c t ∧ reachV P C n st c t ≤ transV P n st := by
  obtain ⟨m, hm, hr, he⟩ := reach_rn hj hjv hv ht
  omega
end
/-- With any target. -/
def reachT (P : List Ph) (C : List Int) (n : Nat) (st : Int) (c : Ct) (t : Int) : Int := if 0 ≤ t ∧ t < n then reachV P C n st c t.toNat else -1
end Go.Proofs.Ytohgnbpaffcpaaa
