/-
  Valid controls of a drawn junction, and that the reference's steps keep them so. Conditions: none.
-/
import Derived.Test.YtkpbkahmbbkcdaaSf
namespace Go.Proofs.Ytkpbkahmbbkcdaa
open Go.ChangeShapes Go.WideShapes Go.RowKit
set_option linter.unusedVariables false

/-- What the rows of conflicts of a drawn junction keep. -/
structure RowsC (C : List Int) (n : Nat) : Prop where
  len : C.length = n
  sym : ∀ p q, p < n → q < n → hasB (at_ C p) q = hasB (at_ C q) p
  self : ∀ p, p < n → hasB (at_ C p) p = false
structure CtV (P : List Ph) (C : List Int) (n : Nat) (st : Int) (c : Ct) : Prop where
  li : c.li.length = n
  nx : c.nx.length = 2
  gr : 0 ≤ c.gr ∧ c.gr < groupsI P n
  wt : 0 ≤ c.wt ∧ c.wt ≤ st
  ok : ∀ p, p < n → LiOk (phAt P p) (lmp c.li p) (tck c.li p)
  nxt : ∀ r : Nat, r < 2 → at_ c.nx r = -1 ∨ ∃ i : Nat, i < n ∧ at_ c.nx r = i ∧ (phAt P i).ri = r ∧ (phAt P i).gr = c.gr
  no : ∀ p q, p < n → q < n → lmp c.li p ≠ 0 → lmp c.li q ≠ 0 → hasB (at_ C p) q = false
  red : c.wt = 0 ∨ ∀ p, p < n → lmp c.li p = 0
theorem gr_lt {P : List Ph} : ∀ n i, i < n → (phAt P i).gr < groupsI P n
  | 0, _, h => absurd h (by omega)
  | n + 1, i, h => by
    rw [groupsI]
    by_cases e : i = n
    · subst e; split <;> omega
    · have := gr_lt (P := P) n i (by omega)
      split <;> omega
theorem step_ok {p : Ph} (hp : PhOk p) {lm tk : Int} (lv : Bool) (h : LiOk p lm tk) : LiOk p (stepV p lm tk lv).1 (stepV p lm tk lv).2 ∧ ((stepV p lm tk lv).1 ≠ 0 → lm ≠ 0) := by
  have hy := hp.yl; have hr := hp.rd
  unfold LiOk at h
  rcases h with ⟨rfl, h0, h1⟩ | ⟨rfl, h0, h1⟩ | ⟨rfl, h0, h1⟩ | ⟨rfl, rfl⟩
  · simp only [stepV, if_true]
    split
    · exact ⟨by unfold LiOk; simp; omega, by simp⟩
    · exact ⟨by unfold LiOk; simp; omega, by simp⟩
  · simp only [stepV, show ¬ (2 : Int) = 1 by decide, if_false, if_true]
    split
    · exact ⟨by unfold LiOk; simp; omega, by simp⟩
    · split
      · exact ⟨by unfold LiOk; simp; omega, by simp⟩
      · exact ⟨by unfold LiOk; simp, by simp⟩
  · simp only [stepV, show ¬ (3 : Int) = 1 by decide, show ¬ (3 : Int) = 2 by decide, if_false, if_true]
    split
    · exact ⟨by unfold LiOk; simp; omega, by simp⟩
    · exact ⟨by unfold LiOk; simp, by simp⟩
  · simp only [stepV, show ¬ (0 : Int) = 1 by decide, show ¬ (0 : Int) = 2 by decide, show ¬ (0 : Int) = 3 by decide, if_false]
    exact ⟨by unfold LiOk; simp, by simp⟩
theorem nxL_val (P : List Ph) (n : Nat) (g : Int) (r : Nat) (hr : r < 2) : at_ (nxL P n g 2) r = -1 ∨ ∃ i : Nat, i < n ∧ at_ (nxL P n g 2) r = i ∧ (phAt P i).ri = r ∧ (phAt P i).gr = g := by
  have e : nxL P n g 2 = [firstGt (ofL P ((0 : Nat) : Int) g n) (-1), firstGt (ofL P ((1 : Nat) : Int) g n) (-1)] := rfl
  rw [e]
  rcases (by omega : r = 0 ∨ r = 1) with rfl | rfl
  · rcases firstGt_mem (-1) (ofL P ((0 : Nat) : Int) g n) with h | h
    · exact .inl h
    · obtain ⟨i, h1, h2, h3, h4⟩ := ofL_mem P _ g _ n h
      exact .inr ⟨i, h1, h2, h3, h4⟩
  · rcases firstGt_mem (-1) (ofL P ((1 : Nat) : Int) g n) with h | h
    · exact .inl h
    · obtain ⟨i, h1, h2, h3, h4⟩ := ofL_mem P _ g _ n h
      exact .inr ⟨i, h1, h2, h3, h4⟩
/-- A control of a tick in which nothing waits. -/
theorem CtV.nxin {P : List Ph} {C : List Int} {n : Nat} {st : Int} {c : Ct} (h : CtV P C n st c) (h1 : 0 < n) : NxIn n c.nx := fun r => by
  rcases Nat.lt_or_ge r 2 with hr | hr
  · rcases h.nxt r hr with e | ⟨i, hi, e, _⟩
    · rw [e]; omega
    · rw [e]; omega
  · have hl := h.nx
    have : at_ c.nx r = 0 := by unfold at_; simp [hl, hr]
    rw [this]; omega
theorem begin_v {P : List Ph} {C : List Int} {n : Nat} {st : Int} {c : Ct} (hC : RowsC C n) (h : CtV P C n st c) (hw : c.wt = 0) {q : Nat} (hq : q < n) (hri : ∀ p, p < n → 0 ≤ (phAt P p).ri ∧ (phAt P p).ri ≤ 1) (hgr : ∀ p, p < n → 0 ≤ (phAt P p).gr ∧ (phAt P p).gr ≤ 3) : CtV P C n st (beginC P C n c q) ∧ (beginC P C n c q).wt = 0 := by
  have hlen := begin_len P C n c q h.nx
  unfold beginC at hlen ⊢
  by_cases hh : HinP C c.li n q
  · rw [if_pos hh]; exact ⟨h, hw⟩
  rw [if_neg hh] at hlen ⊢
  have hrq := hri q hq
  have hgq := hgr q hq
  have hqL : q < c.li.length := by rw [h.li]; exact hq
  have hlm : ∀ p, lmp (c.li.set q (1, 0)) p = if p = q then 1 else lmp c.li p := fun p => by
    unfold lmp; rw [prAt_set hqL]; split <;> rfl
  have htk : ∀ p, tck (c.li.set q (1, 0)) p = if p = q then 0 else tck c.li p := fun p => by
    unfold tck; rw [prAt_set hqL]; split <;> rfl
  have hno : ∀ p, p < n → lmp c.li p ≠ 0 → hasB (at_ C p) q = false := fun p hp hl => by
    cases hx : hasB (at_ C p) q with
    | false => rfl
    | true => exact absurd ⟨p, hp, hl, hx⟩ hh
  refine ⟨⟨hlen.1.trans h.li, hlen.2, ⟨hgq.1, gr_lt n q hq⟩, h.wt, fun p hp => ?_, fun r hr => ?_, fun a b ha hb h1 h2 => ?_, .inl hw⟩, hw⟩
  · show LiOk _ (lmp (c.li.set q (1, 0)) p) (tck (c.li.set q (1, 0)) p)
    rw [hlm, htk]
    by_cases e : p = q
    · rw [if_pos e, if_pos e]; exact .inl ⟨rfl, by omega, by omega⟩
    · rw [if_neg e, if_neg e]; exact h.ok p hp
  · show at_ (List.set _ _ _) r = -1 ∨ ∃ i : Nat, i < n ∧ at_ (List.set _ _ _) r = i ∧ (phAt P i).ri = r ∧ (phAt P i).gr = (phAt P q).gr
    have hl2 : (if c.gr ≠ (phAt P q).gr then nxL P n (phAt P q).gr 2 else c.nx).length = 2 := by
      split
      · exact nxL_len _ _ _ _
      · exact h.nx
    rw [at_set (by rw [hl2]; omega)]
    by_cases e : r = (phAt P q).ri.toNat
    · rw [if_pos e]
      rcases firstGt_mem q (ofL P (phAt P q).ri (phAt P q).gr n) with h' | h'
      · exact .inl h'
      · obtain ⟨i, h1, h2, h3, h4⟩ := ofL_mem P _ _ _ n h'
        exact .inr ⟨i, h1, h2, by rw [h3]; omega, h4⟩
    · rw [if_neg e]
      split
      · exact nxL_val P n _ r hr
      · rename_i hg
        have hg : c.gr = (phAt P q).gr := by simpa using hg
        rw [← hg]; exact h.nxt r hr
  · have h1 : lmp (c.li.set q (1, 0)) a ≠ 0 := h1
    have h2 : lmp (c.li.set q (1, 0)) b ≠ 0 := h2
    rw [hlm] at h1 h2
    by_cases ea : a = q
    · by_cases eb : b = q
      · rw [ea, eb]; exact hC.self q hq
      · rw [if_neg eb] at h2
        rw [ea, hC.sym q b hq hb]; exact hno b hb h2
    · rw [if_neg ea] at h1
      by_cases eb : b = q
      · rw [eb]; exact hno a ha h1
      · rw [if_neg eb] at h2
        exact h.no a b ha hb h1 h2
theorem onC_v {P : List Ph} {C : List Int} {n t : Nat} {st : Int} {c : Ct} (hC : RowsC C n) (h : CtV P C n st c) (hw : c.wt = 0) (ht : t < n) (hri : ∀ p, p < n → 0 ≤ (phAt P p).ri ∧ (phAt P p).ri ≤ 1) (hgr : ∀ p, p < n → 0 ≤ (phAt P p).gr ∧ (phAt P p).gr ≤ 3) : ∀ r, CtV P C n st (onC P C n t c r) ∧ (onC P C n t c r).wt = 0
  | 0 => ⟨h, hw⟩
  | r + 1 => by
    obtain ⟨h1, h2⟩ := onC_v hC h hw ht hri hgr r
    have hb := candV_bd P C n (at_ (onC P C n t c r).nx r) r t ht
    rw [on_succ]
    split
    · exact begin_v hC h1 h2 (by omega) hri hgr
    · exact ⟨h1, h2⟩
theorem offC_v {P : List Ph} {C : List Int} {n : Nat} {st : Int} {c : Ct} (hC : RowsC C n) (h : CtV P C n st c) (hw : c.wt = 0) (h1 : 0 < n) (hri : ∀ p, p < n → 0 ≤ (phAt P p).ri ∧ (phAt P p).ri ≤ 1) (hgr : ∀ p, p < n → 0 ≤ (phAt P p).gr ∧ (phAt P p).gr ≤ 3) : ∀ r, CtV P C n st (offC P C n c r) ∧ (offC P C n c r).wt = 0
  | 0 => ⟨h, hw⟩
  | r + 1 => by
    obtain ⟨a, b⟩ := offC_v hC h hw h1 hri hgr r
    have hb := a.nxin h1 r
    rw [off_succ]
    split
    · exact begin_v hC a b (by omega) hri hgr
    · exact ⟨a, b⟩
theorem lights_v {P : List Ph} {C : List Int} {n : Nat} {st : Int} {c : Ct} (h : CtV P C n st c) (hw : c.wt = 0) (hpok : ∀ p, p < n → PhOk (phAt P p)) (t : Int) : CtV P C n st ⟨lightsL P C c.li n t n, c.gr, c.nx, c.wt⟩ := by
  have hl := h.li
  have hat := lights_at P C c.li n t n (by omega)
  have hs := fun p (hp : p < n) => step_ok (hpok p hp) (leaveB P C c.li n t p) (h.ok p hp)
  have hlm : ∀ p, p < n → lmp (lightsL P C c.li n t n) p = (stepV (phAt P p) (lmp c.li p) (tck c.li p) (leaveB P C c.li n t p)).1 := fun p hp => by unfold lmp; rw [hat p, if_pos hp]; rfl
  have htk : ∀ p, p < n → tck (lightsL P C c.li n t n) p = (stepV (phAt P p) (lmp c.li p) (tck c.li p) (leaveB P C c.li n t p)).2 := fun p hp => by unfold tck; rw [hat p, if_pos hp]; rfl
  refine ⟨by show (lightsL P C c.li n t n).length = n; rw [lights_len, hl], h.nx, h.gr, h.wt, fun p hp => ?_, h.nxt, fun a b ha hb h1 h2 => ?_, .inl hw⟩
  · show LiOk _ (lmp (lightsL P C c.li n t n) p) (tck (lightsL P C c.li n t n) p)
    rw [hlm p hp, htk p hp]; exact (hs p hp).1
  · have h1 : lmp (lightsL P C c.li n t n) a ≠ 0 := h1
    have h2 : lmp (lightsL P C c.li n t n) b ≠ 0 := h2
    rw [hlm a ha] at h1
    rw [hlm b hb] at h2
    exact h.no a b ha hb ((hs a ha).2 h1) ((hs b hb).2 h2)
theorem step_v {P : List Ph} {C : List Int} {n : Nat} {st : Int} {c : Ct} (hC : RowsC C n) (h : CtV P C n st c) (h1 : 0 < n) (hpok : ∀ p, p < n → PhOk (phAt P p)) (hri : ∀ p, p < n → 0 ≤ (phAt P p).ri ∧ (phAt P p).ri ≤ 1) (hgr : ∀ p, p < n → 0 ≤ (phAt P p).gr ∧ (phAt P p).gr ≤ 3) (t : Int) : CtV P C n st (stepC P C n c t) := by
  have hwb := h.wt
  unfold stepC
  by_cases hw : 0 < c.wt
  · rw [if_pos hw]
    refine ⟨h.li, h.nx, h.gr, ⟨?_, ?_⟩, h.ok, h.nxt, h.no, .inr ?_⟩
    · show 0 ≤ c.wt - 1; omega
    · show c.wt - 1 ≤ st; omega
    · rcases h.red with e | e
      · omega
      · exact e
  rw [if_neg hw]
  have hw0 : c.wt = 0 := by omega
  have hd := lights_v h hw0 hpok t
  by_cases ht : 0 ≤ t ∧ t < n
  · show CtV P C n st (if 0 ≤ t ∧ t < n then _ else _)
    rw [if_pos ht]
    exact (onC_v hC hd hw0 (by omega) hri hgr 2).1
  · show CtV P C n st (if 0 ≤ t ∧ t < n then _ else _)
    rw [if_neg ht]
    have hg0 := groups_pos (P := P) h1 (fun i hi => (hgr i hi).1)
    show CtV P C n st (offC P C n (if _ then _ else _) 2)
    split
    · refine (offC_v (c := ⟨lightsL P C c.li n t n, (c.gr + 1) % groupsI P n, nxL P n ((c.gr + 1) % groupsI P n) 2, c.wt⟩) hC ⟨hd.li, nxL_len _ _ _ _, ⟨Int.emod_nonneg _ (by omega), Int.emod_lt_of_pos _ hg0⟩, hd.wt, hd.ok, fun r hr => nxL_val P n _ r hr, hd.no, .inl hw0⟩ hw0 h1 hri hgr 2).1
    · exact (offC_v hC hd hw0 h1 hri hgr 2).1
theorem init_v {P : List Ph} {C : List Int} {n : Nat} {st : Int} (h1 : 0 < n) (hst : 0 ≤ st) (hgr : ∀ p, p < n → 0 ≤ (phAt P p).gr ∧ (phAt P p).gr ≤ 3) : CtV P C n st (initC P n st) := by
  have hlm : ∀ p, p < n → lmp (List.replicate n ((0, 0) : Int × Int)) p = 0 := fun p hp => by unfold lmp; rw [prAt_rep hp]
  have htk : ∀ p, p < n → tck (List.replicate n ((0, 0) : Int × Int)) p = 0 := fun p hp => by unfold tck; rw [prAt_rep hp]
  refine ⟨List.length_replicate, nxL_len _ _ _ _, ⟨Int.le_refl _, groups_pos h1 (fun i hi => (hgr i hi).1)⟩, ⟨hst, Int.le_refl _⟩, fun p hp => ?_, fun r hr => nxL_val P n 0 r hr, fun a b ha hb h2 _ => absurd (hlm a ha) h2, .inr hlm⟩
  show LiOk _ (lmp (List.replicate n ((0, 0) : Int × Int)) p) (tck (List.replicate n ((0, 0) : Int × Int)) p)
  rw [hlm p hp, htk p hp]
  exact .inr (.inr (.inr ⟨rfl, rfl⟩))
theorem rowsC_drawn {q : Nat} {st : Int} {ex : Bool} {P : List Ph} (h : JunOk q st ex P) : RowsC (rowsL P ex) P.length :=
  ⟨rows_len P ex, fun a b ha hb => by rw [rows_bit P ex ha hb, rows_bit P ex hb ha, conf_sym], fun a ha => by rw [rows_bit P ex ha ha, conf_self]⟩
end Go.Proofs.Ytkpbkahmbbkcdaa
