/-
  The phases that are not red are of the control's group, and the steps keep that. Conditions: a valid junction.
-/
import Derived.Test.YtkpbkahmbbkcdaaLc
namespace Go.Proofs.Ytkpbkahmbbkcdaa
open Go.ChangeShapes Go.WideShapes Go.RowKit
set_option linter.unusedVariables false

theorem need_sym' (P : List Ph) (i k : Nat) : needB P i k = needB P k i := by
  unfold needB
  rw [show decide ((phAt P i).ri = (phAt P k).ri) = decide ((phAt P k).ri = (phAt P i).ri) from decide_eq_decide.2 ⟨fun h => h.symm, fun h => h.symm⟩,
    show decide ((phAt P i).gr = (phAt P k).gr) = decide ((phAt P k).gr = (phAt P i).gr) from decide_eq_decide.2 ⟨fun h => h.symm, fun h => h.symm⟩]
theorem need_con {P : List Ph} {C : List Int} {n : Nat} {st : Int} (hj : JunC P C n st) (hv : JunV P C st) {p q : Nat} (hp : p < n) (hq : q < n) (hne : p ≠ q) (h : needB P p q = true) : hasB (at_ C p) q = true := by
  have hn := hj.len
  rcases Nat.lt_or_gt_of_ne hne with hl | hl
  · rw [hj.rows.sym p q hp hq]
    exact hv.ap q (by omega) p hl (by rw [need_sym']; exact h)
  · exact hv.ap p (by omega) q hl h
/-- Two phases that do not conflict are of different rings and one group. -/
theorem apart_of {P : List Ph} {C : List Int} {n : Nat} {st : Int} (hj : JunC P C n st) (hv : JunV P C st) {p q : Nat} (hp : p < n) (hq : q < n) (hne : p ≠ q) (h : hasB (at_ C p) q = false) : (phAt P p).ri ≠ (phAt P q).ri ∧ (phAt P p).gr = (phAt P q).gr := by
  have h1 : ¬ needB P p q = true := fun h2 => by rw [need_con hj hv hp hq hne h2] at h; cases h
  unfold needB at h1
  simpa using h1
def GrV (P : List Ph) (n : Nat) (c : Ct) : Prop := ∀ p, p < n → lmp c.li p ≠ 0 → (phAt P p).gr = c.gr
theorem init_g (P : List Ph) (n : Nat) (st : Int) : GrV P n (initC P n st) := fun p hp h => by
  exfalso; apply h
  show lmp (List.replicate n ((0, 0) : Int × Int)) p = 0
  unfold lmp; rw [prAt_rep hp]
theorem begin_g {P : List Ph} {C : List Int} {n : Nat} {st : Int} {c : Ct} (hj : JunC P C n st) (hv : JunV P C st) (hli : c.li.length = n) (h : GrV P n c) {q : Nat} (hq : q < n) : GrV P n (beginC P C n c q) := by
  unfold beginC
  by_cases hh : HinP C c.li n q
  · rw [if_pos hh]; exact h
  · rw [if_neg hh]
    intro p hp hl
    show (phAt P p).gr = (phAt P q).gr
    by_cases e : p = q
    · rw [e]
    · have hl2 : lmp (c.li.set q (1, 0)) p = lmp c.li p := by unfold lmp; rw [prAt_set (by omega), if_neg e]
      have hl3 : lmp c.li p ≠ 0 := by rw [← hl2]; exact hl
      have hc : hasB (at_ C p) q = false := by
        cases hb : hasB (at_ C p) q with
        | false => rfl
        | true => exact absurd ⟨p, hp, hl3, hb⟩ hh
      exact (apart_of hj hv hp hq e hc).2
theorem onC_g {P : List Ph} {C : List Int} {n t : Nat} {st : Int} {c : Ct} (hj : JunC P C n st) (hjv : JunV P C st) (hv : CtV P C n st c) (hw : c.wt = 0) (ht : t < n) (h : GrV P n c) : ∀ r, GrV P n (onC P C n t c r)
  | 0 => h
  | r + 1 => by
    have ih := onC_g hj hjv hv hw ht h r
    have hc := (onC_v hj.rows hv hw ht hj.ri hj.gr r).1
    have hb := candV_bd P C n (at_ (onC P C n t c r).nx r) r t ht
    rw [on_succ]
    split
    · rename_i h2
      exact begin_g hj hjv hc.li ih (by omega)
    · exact ih
theorem offC_g {P : List Ph} {C : List Int} {n : Nat} {st : Int} {c : Ct} (hj : JunC P C n st) (hjv : JunV P C st) (hv : CtV P C n st c) (hw : c.wt = 0) (h : GrV P n c) : ∀ r, GrV P n (offC P C n c r)
  | 0 => h
  | r + 1 => by
    have ih := offC_g hj hjv hv hw h r
    have hc := (offC_v hj.rows hv hw hj.h1 hj.ri hj.gr r).1
    have hb := hc.nxin hj.h1 r
    rw [off_succ]
    split
    · rename_i h2
      exact begin_g hj hjv hc.li ih (by omega)
    · exact ih
theorem lights_lmp {P : List Ph} {C : List Int} {n : Nat} {st : Int} {c : Ct} (hv : CtV P C n st c) (t : Int) {p : Nat} (hp : p < n) : lmp (lightsL P C c.li n t n) p = (stepV (phAt P p) (lmp c.li p) (tck c.li p) (leaveB P C c.li n t p)).1 ∧ tck (lightsL P C c.li n t n) p = (stepV (phAt P p) (lmp c.li p) (tck c.li p) (leaveB P C c.li n t p)).2 := by
  have hat := lights_at P C c.li n t n (by have := hv.li; omega) p
  rw [if_pos hp] at hat
  unfold lmp tck
  rw [hat]
  exact ⟨rfl, rfl⟩
theorem step_g {P : List Ph} {C : List Int} {n : Nat} {st : Int} {c : Ct} (hj : JunC P C n st) (hjv : JunV P C st) (hv : CtV P C n st c) (h : GrV P n c) (t : Int) : GrV P n (stepC P C n c t) := by
  have hwb := hv.wt
  unfold stepC
  by_cases hw : 0 < c.wt
  · rw [if_pos hw]; exact h
  · rw [if_neg hw]
    have hw0 : c.wt = 0 := by omega
    have hd := lights_v hv hw0 hj.pok t
    have hg : GrV P n ⟨lightsL P C c.li n t n, c.gr, c.nx, c.wt⟩ := fun p hp hl => by
      have h1 := (lights_lmp hv t hp).1
      have h2 := (step_ok (hj.pok p hp) (leaveB P C c.li n t p) (hv.ok p hp)).2
      exact h p hp (h2 (by rw [← h1]; exact hl))
    by_cases ht : 0 ≤ t ∧ t < n
    · rw [if_pos ht]
      exact onC_g hj hjv hd hw0 (by omega) hg 2
    · rw [if_neg ht]
      by_cases hf : setV (lightsL P C c.li n t n) n = 0 ∧ at_ c.nx 0 < 0 ∧ at_ c.nx 1 < 0
      · simp only [if_pos hf]
        have hgp := groups_pos (P := P) (n := n) hj.h1 (fun i hi => (hj.gr i hi).1)
        have hgr := hv.gr
        have h2 := Int.emod_nonneg (c.gr + 1) (show groupsI P n ≠ 0 by omega)
        have h3 := Int.emod_lt_of_pos (c.gr + 1) hgp
        have hv2 : CtV P C n st ⟨lightsL P C c.li n t n, (c.gr + 1) % groupsI P n, nxL P n ((c.gr + 1) % groupsI P n) 2, c.wt⟩ := ⟨hd.li, nxL_len _ _ _ _, ⟨h2, h3⟩, hd.wt, hd.ok, fun r hr => nxL_val P n _ r hr, hd.no, hd.red⟩
        exact offC_g hj hjv hv2 hw0 (fun p hp hl => absurd ((setV_zero _ n).1 hf.1 p hp) hl) 2
      · simp only [if_neg hf]
        exact offC_g hj hjv hd hw0 hg 2
end Go.Proofs.Ytkpbkahmbbkcdaa
