/-
  A phase keeps its color for as long as its count says. Conditions: a valid control of a drawn junction.
-/
import Derived.Test.YtmgifmdpjlefcaaVm
import Derived.Test.YtmgifmdpjlefcaaLn
namespace Go.Proofs.Ytmgifmdpjlefcaa
open Go.ChangeShapes Go.WideShapes Go.RowKit
set_option linter.unusedVariables false

def colV (lm : Int) : Int := if lm = 1 ∨ lm = 2 then lm else 0
theorem stay_lamp {p : Ph} (hp : PhOk p) {lm tk : Int} (h : LiOk p lm tk) (hc : 0 < countV p lm tk) (lv : Bool) : (stepV p lm tk lv).1 = lm ∧ lm ≠ 0 := by
  unfold LiOk at h
  rcases h with ⟨rfl, h0, h1⟩ | ⟨rfl, h0, h1⟩ | ⟨rfl, h0, h1⟩ | ⟨rfl, rfl⟩
  · have hn : tk + 1 < needV p := by simp only [countV, if_true] at hc; omega
    simp only [stepV, if_true]
    rw [if_neg (by omega)]
    exact ⟨rfl, by decide⟩
  · have hn : tk + 1 < p.yl := by simp only [countV, show ¬ (2 : Int) = 1 by decide, if_false, if_true] at hc; omega
    simp only [stepV, show ¬ (2 : Int) = 1 by decide, if_false, if_true]
    rw [if_pos hn]
    exact ⟨rfl, by decide⟩
  · have hn : tk + 1 < p.rd := by simp only [countV, show ¬ (3 : Int) = 1 by decide, show ¬ (3 : Int) = 2 by decide, if_false, if_true] at hc; omega
    simp only [stepV, show ¬ (3 : Int) = 1 by decide, show ¬ (3 : Int) = 2 by decide, if_false, if_true]
    rw [if_pos hn]
    exact ⟨rfl, by decide⟩
  · simp [countV] at hc
theorem candF_ri (P : List Ph) (C : List Int) (nx r : Int) (t n : Nat) : ∀ (k q : Nat) (f : Int), q + k = n → (f < 0 ∨ (phAt P f.toNat).ri = r) → candF P C nx r t q k f < 0 ∨ (phAt P (candF P C nx r t q k f).toNat).ri = r
  | 0, q, f, _, h => h
  | k + 1, q, f, hq, h => by
    rw [candF]
    split
    · exact candF_ri P C nx r t n k (q + 1) f (by omega) h
    · rename_i hh
      have hr : (phAt P q).ri = r := Classical.byContradiction fun e => hh (.inl e)
      split
      · exact .inr (by rw [Int.toNat_natCast]; exact hr)
      · refine candF_ri P C nx r t n k (q + 1) _ (by omega) ?_
        split
        · exact .inr (by rw [Int.toNat_natCast]; exact hr)
        · exact h
theorem candV_ri (P : List Ph) (C : List Int) (n : Nat) (nx r : Int) (t : Nat) (h : 0 ≤ candV P C n nx r t) : (phAt P (candV P C n nx r t).toNat).ri = r := by
  unfold candV at h ⊢
  by_cases e : (phAt P t).ri = r
  · rw [if_pos e, Int.toNat_natCast]; exact e
  · rw [if_neg e] at h ⊢
    rcases candF_ri P C nx r t n n 0 (-1) (by omega) (.inl (by omega)) with h' | h'
    · omega
    · exact h'
theorem begin_keep {P : List Ph} {C : List Int} {n q p : Nat} {c : Ct} (hq : q < c.li.length) (hp : lmp c.li p ≠ 0) (h0 : lmp c.li q = 0) : lmp (beginC P C n c q).li p = lmp c.li p := by
  unfold beginC
  split
  · rfl
  · show lmp (c.li.set q (1, 0)) p = lmp c.li p
    unfold lmp at *
    rw [prAt_set hq, if_neg]
    rintro rfl
    exact hp h0
theorem onC_keep {P : List Ph} {C : List Int} {n t p : Nat} {st : Int} {c : Ct} (hC : RowsC C n) (h : CtV P C n st c) (hw : c.wt = 0) (ht : t < n) (hri : ∀ p, p < n → 0 ≤ (phAt P p).ri ∧ (phAt P p).ri ≤ 1) (hgr : ∀ p, p < n → 0 ≤ (phAt P p).gr ∧ (phAt P p).gr ≤ 3) (hp : lmp c.li p ≠ 0) : ∀ r, lmp (onC P C n t c r).li p = lmp c.li p
  | 0 => rfl
  | r + 1 => by
    have ih := onC_keep hC h hw ht hri hgr hp r
    obtain ⟨h1, h2⟩ := onC_v hC h hw ht hri hgr r
    have hb := candV_bd P C n (at_ (onC P C n t c r).nx r) r t ht
    rw [on_succ]
    split
    · rename_i hh
      have hqn : (candV P C n (at_ (onC P C n t c r).nx r) r t).toNat < n := by omega
      rw [begin_keep (by rw [h1.li]; exact hqn) (by rw [ih]; exact hp) (hh.2 _ hqn (candV_ri P C n _ r t hh.1)), ih]
    · exact ih
theorem offC_keep {P : List Ph} {C : List Int} {n p : Nat} {st : Int} {c : Ct} (hC : RowsC C n) (h : CtV P C n st c) (hw : c.wt = 0) (h0 : 0 < n) (hri : ∀ p, p < n → 0 ≤ (phAt P p).ri ∧ (phAt P p).ri ≤ 1) (hgr : ∀ p, p < n → 0 ≤ (phAt P p).gr ∧ (phAt P p).gr ≤ 3) (hp : lmp c.li p ≠ 0) : ∀ r, r ≤ 2 → lmp (offC P C n c r).li p = lmp c.li p
  | 0, _ => rfl
  | r + 1, hr => by
    have ih := offC_keep hC h hw h0 hri hgr hp r (by omega)
    obtain ⟨h1, h2⟩ := offC_v hC h hw h0 hri hgr r
    rw [off_succ]
    split
    · rename_i hh
      rcases h1.nxt r (by omega) with e | ⟨i, hi, e, e2, _⟩
      · have := hh.2; omega
      · rw [e, Int.toNat_natCast, begin_keep (by rw [h1.li]; exact hi) (by rw [ih]; exact hp) (hh.1 i hi e2), ih]
    · exact ih
theorem step_keep {P : List Ph} {C : List Int} {n p : Nat} {st : Int} {c : Ct} (hC : RowsC C n) (h : CtV P C n st c) (h1 : 0 < n) (hpok : ∀ p, p < n → PhOk (phAt P p)) (hri : ∀ p, p < n → 0 ≤ (phAt P p).ri ∧ (phAt P p).ri ≤ 1) (hgr : ∀ p, p < n → 0 ≤ (phAt P p).gr ∧ (phAt P p).gr ≤ 3) (t : Int) (hp : p < n) (hc : 0 < countV (phAt P p) (lmp c.li p) (tck c.li p)) : lmp (stepC P C n c t).li p = lmp c.li p := by
  suffices hM : ∀ M : Ct → Prop, (∀ x : Ct, lmp x.li p = lmp c.li p → M x) → M (stepC P C n c t) from hM (fun x => lmp x.li p = lmp c.li p) (fun _ h => h)
  intro M hM
  unfold stepC
  by_cases hw : 0 < c.wt
  · rw [if_pos hw]; exact hM _ rfl
  rw [if_neg hw]
  have hwb := h.wt
  have hw0 : c.wt = 0 := by omega
  have hd := lights_v h hw0 hpok t
  have hs := stay_lamp (hpok p hp) (h.ok p hp) hc (leaveB P C c.li n t p)
  have hl : lmp (lightsL P C c.li n t n) p = lmp c.li p := by
    have hat := lights_at P C c.li n t n (by rw [h.li]; omega) p
    rw [if_pos hp] at hat
    show (prAt (lightsL P C c.li n t n) p).1 = _
    rw [hat]; exact hs.1
  have hne : lmp (lightsL P C c.li n t n) p ≠ 0 := by rw [hl]; exact hs.2
  by_cases ht : 0 ≤ t ∧ t < n
  · show M (if 0 ≤ t ∧ t < n then _ else _)
    rw [if_pos ht]
    exact hM _ ((onC_keep hC hd hw0 (by omega) hri hgr hne 2).trans hl)
  · show M (if 0 ≤ t ∧ t < n then _ else _)
    rw [if_neg ht]
    have hg0 := groups_pos (P := P) h1 (fun i hi => (hgr i hi).1)
    show M (offC P C n (if _ then _ else _) 2)
    split
    · exact hM _ ((offC_keep (c := ⟨lightsL P C c.li n t n, (c.gr + 1) % groupsI P n, nxL P n ((c.gr + 1) % groupsI P n) 2, c.wt⟩) hC ⟨hd.li, nxL_len _ _ _ _, ⟨Int.emod_nonneg _ (by omega), Int.emod_lt_of_pos _ hg0⟩, hd.wt, hd.ok, fun r hr => nxL_val P n _ r hr, hd.no, .inl hw0⟩ hw0 h1 hri hgr hne 2 (by omega)).trans hl)
    · exact hM _ ((offC_keep hC hd hw0 h1 hri hgr hne 2 (by omega)).trans hl)
end Go.Proofs.Ytmgifmdpjlefcaa
