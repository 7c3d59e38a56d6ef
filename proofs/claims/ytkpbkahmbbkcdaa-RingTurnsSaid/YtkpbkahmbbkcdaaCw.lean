/-
  Without a target every phase becomes green: what is left to be done becomes less with every step. Conditions: a valid junction.
-/
import Derived.Test.YtkpbkahmbbkcdaaGo
import Derived.Test.YtkpbkahmbbkcdaaCn
import Derived.Test.YtkpbkahmbbkcdaaMs
namespace Go.Proofs.Ytkpbkahmbbkcdaa
open Go.ChangeShapes Go.WideShapes Go.RowKit
set_option linter.unusedVariables false

/-- Next lies behind the phases that are not red. -/
def NxV (P : List Ph) (n : Nat) (c : Ct) : Prop := ∀ p, p < n → lmp c.li p ≠ 0 → ∀ r : Nat, (phAt P p).ri = r → at_ c.nx r = -1 ∨ (p : Int) < at_ c.nx r
structure CtW (P : List Ph) (C : List Int) (n : Nat) (st : Int) (c : Ct) : Prop where
  v : CtV P C n st c
  g : GrV P n c
  x : NxV P n c
theorem begin_n {P : List Ph} {C : List Int} {n : Nat} {st : Int} {c : Ct} (hj : JunC P C n st) (hjv : JunV P C st) (hli : c.li.length = n) (hnl : c.nx.length = 2) (hg : GrV P n c) (h : NxV P n c) {q : Nat} (hq : q < n) (hi : IdleP P c.li n (phAt P q).ri) : NxV P n (beginC P C n c q) := by
  unfold beginC
  by_cases hh : HinP C c.li n q
  · rw [if_pos hh]; exact h
  · rw [if_neg hh]
    have hrq := hj.ri q hq
    intro p hp hl r hr
    show at_ (List.set _ _ _) r = -1 ∨ (p : Int) < at_ (List.set _ _ _) r
    have hl2 : (if c.gr ≠ (phAt P q).gr then nxL P n (phAt P q).gr 2 else c.nx).length = 2 := by
      split
      · exact nxL_len _ _ _ _
      · exact hnl
    rw [at_set (by rw [hl2]; omega)]
    by_cases e : p = q
    · subst e
      rw [if_pos (by omega)]
      exact firstGt_gt _ _
    · have hl3 : lmp c.li p ≠ 0 := by
        have : lmp (c.li.set q (1, 0)) p = lmp c.li p := by unfold lmp; rw [prAt_set (by omega), if_neg e]
        rw [← this]; exact hl
      have hne : (phAt P p).ri ≠ (phAt P q).ri := fun e2 => hl3 (hi p hp e2)
      have hc : hasB (at_ C p) q = false := by
        cases hb : hasB (at_ C p) q with
        | false => rfl
        | true => exact absurd ⟨p, hp, hl3, hb⟩ hh
      have hgr := (apart_of hj hjv hp hq e hc).2
      rw [if_neg (by omega), if_neg (by rw [← hgr, hg p hp hl3]; simp)]
      exact h p hp hl3 r hr
theorem onC_n {P : List Ph} {C : List Int} {n t : Nat} {st : Int} {c : Ct} (hj : JunC P C n st) (hjv : JunV P C st) (hv : CtV P C n st c) (hw : c.wt = 0) (ht : t < n) (hg : GrV P n c) (h : NxV P n c) : ∀ r, NxV P n (onC P C n t c r)
  | 0 => h
  | r + 1 => by
    have ih := onC_n hj hjv hv hw ht hg h r
    have hc := (onC_v hj.rows hv hw ht hj.ri hj.gr r).1
    have hb := candV_bd P C n (at_ (onC P C n t c r).nx r) r t ht
    rw [on_succ]
    split
    · rename_i h2
      rcases candV_ri P C n (at_ (onC P C n t c r).nx r) r t with h3 | ⟨i, h3, h4, h5⟩
      · omega
      · rw [h3] at hb ⊢
        rw [Int.toNat_natCast]
        exact begin_n hj hjv hc.li hc.nx (onC_g hj hjv hv hw ht hg r) ih (by omega) (by rw [h4]; exact h2.2)
    · exact ih
theorem offC_n {P : List Ph} {C : List Int} {n : Nat} {st : Int} {c : Ct} (hj : JunC P C n st) (hjv : JunV P C st) (hv : CtV P C n st c) (hw : c.wt = 0) (hg : GrV P n c) (h : NxV P n c) : ∀ r, r ≤ 2 → NxV P n (offC P C n c r)
  | 0, _ => h
  | r + 1, hr => by
    have ih := offC_n hj hjv hv hw hg h r (by omega)
    have hc := (offC_v hj.rows hv hw hj.h1 hj.ri hj.gr r).1
    rw [off_succ]
    split
    · rename_i h2
      rcases hc.nxt r (by omega) with h3 | ⟨i, hi, h3, h4, _⟩
      · omega
      · rw [h3, Int.toNat_natCast]
        exact begin_n hj hjv hc.li hc.nx (offC_g hj hjv hv hw hg r) ih hi (by rw [h4]; exact h2.1)
    · exact ih
theorem lights_n {P : List Ph} {C : List Int} {n : Nat} {st : Int} {c : Ct} (hj : JunC P C n st) (hv : CtV P C n st c) (h : NxV P n c) (t : Int) : NxV P n ⟨lightsL P C c.li n t n, c.gr, c.nx, c.wt⟩ := fun p hp hl r hr => by
  have h1 := (lights_lmp hv t hp).1
  have h2 := (step_ok (hj.pok p hp) (leaveB P C c.li n t p) (hv.ok p hp)).2
  exact h p hp (h2 (by rw [← h1]; exact hl)) r hr
theorem step_w {P : List Ph} {C : List Int} {n : Nat} {st : Int} {c : Ct} (hj : JunC P C n st) (hjv : JunV P C st) (h : CtW P C n st c) (t : Int) : CtW P C n st (stepC P C n c t) := by
  refine ⟨step_v hj.rows h.v hj.h1 hj.pok hj.ri hj.gr t, step_g hj hjv h.v h.g t, ?_⟩
  have hv := h.v
  have hwb := hv.wt
  unfold stepC
  by_cases hw : 0 < c.wt
  · rw [if_pos hw]; exact h.x
  · rw [if_neg hw]
    have hw0 : c.wt = 0 := by omega
    have hd := lights_v hv hw0 hj.pok t
    have hn := lights_n hj hv h.x t
    have hg : GrV P n ⟨lightsL P C c.li n t n, c.gr, c.nx, c.wt⟩ := fun p hp hl => by
      have h1 := (lights_lmp hv t hp).1
      have h2 := (step_ok (hj.pok p hp) (leaveB P C c.li n t p) (hv.ok p hp)).2
      exact h.g p hp (h2 (by rw [← h1]; exact hl))
    by_cases ht : 0 ≤ t ∧ t < n
    · rw [if_pos ht]
      exact onC_n hj hjv hd hw0 (by omega) hg hn 2
    · rw [if_neg ht]
      by_cases hf : setV (lightsL P C c.li n t n) n = 0 ∧ at_ c.nx 0 < 0 ∧ at_ c.nx 1 < 0
      · simp only [if_pos hf]
        have hgp := groups_pos (P := P) (n := n) hj.h1 (fun i hi => (hj.gr i hi).1)
        have h2 := Int.emod_nonneg (c.gr + 1) (show groupsI P n ≠ 0 by omega)
        have h3 := Int.emod_lt_of_pos (c.gr + 1) hgp
        have hv2 : CtV P C n st ⟨lightsL P C c.li n t n, (c.gr + 1) % groupsI P n, nxL P n ((c.gr + 1) % groupsI P n) 2, c.wt⟩ := ⟨hd.li, nxL_len _ _ _ _, ⟨h2, h3⟩, hd.wt, hd.ok, fun r hr => nxL_val P n _ r hr, hd.no, hd.red⟩
        exact offC_n hj hjv hv2 hw0 (fun p hp hl => absurd ((setV_zero _ n).1 hf.1 p hp) hl) (fun p hp hl => absurd ((setV_zero _ n).1 hf.1 p hp) hl) 2 (Nat.le_refl 2)
      · simp only [if_neg hf]
        exact offC_n hj hjv hd hw0 hg hn 2 (Nat.le_refl 2)
theorem init_w {P : List Ph} {C : List Int} {n : Nat} {st : Int} (hj : JunC P C n st) : CtW P C n st (initC P n st) := by
  refine ⟨init_v hj.h1 hj.st.1 hj.gr, init_g P n st, fun p hp h => absurd ?_ h⟩
  show lmp (List.replicate n ((0, 0) : Int × Int)) p = 0
  unfold lmp; rw [prAt_rep hp]
/-- Sums over the first k phases. -/
def sumF (f : Nat → Int) : Nat → Int
  | 0 => 0
  | k + 1 => sumF f k + f k
theorem sum_le {f g : Nat → Int} : ∀ k, (∀ p, p < k → f p ≤ g p) → sumF f k ≤ sumF g k
  | 0, _ => Int.le_refl _
  | k + 1, h => by
    have h1 := sum_le k (fun p hp => h p (by omega))
    have h2 := h k (by omega)
    rw [sumF, sumF]; omega
theorem sum_lt {f g : Nat → Int} : ∀ k, (∀ p, p < k → f p ≤ g p) → (∃ q, q < k ∧ f q ≤ g q - 1) → sumF f k ≤ sumF g k - 1
  | 0, _, ⟨q, hq, _⟩ => absurd hq (by omega)
  | k + 1, h, ⟨q, hq, h3⟩ => by
    rw [sumF, sumF]
    by_cases e : q = k
    · subst e
      have h1 := sum_le q (fun p hp => h p (by omega))
      omega
    · have h1 := sum_lt k (fun p hp => h p (by omega)) ⟨q, by omega, h3⟩
      have h2 := h k (by omega)
      omega
theorem sum_add {f g : Nat → Int} : ∀ k, sumF (fun p => f p + g p) k = sumF f k + sumF g k
  | 0 => rfl
  | k + 1 => by rw [sumF, sumF, sumF, sum_add k]; omega
theorem sum_nn {f : Nat → Int} : ∀ k, (∀ p, p < k → 0 ≤ f p) → 0 ≤ sumF f k
  | 0, _ => Int.le_refl _
  | k + 1, h => by
    have h1 := sum_nn k (fun p hp => h p (by omega))
    have h2 := h k (by omega)
    rw [sumF]; omega
def durV (p : Ph) : Int := p.mx + p.yl + p.rd
theorem need_mx {p : Ph} (h : PhOk p) : needV p ≤ p.mx ∧ 1 ≤ p.mx ∧ p.mx ≤ 7 := by
  have h1 := h.mx
  have h2 := h.mn
  unfold needV; omega
/-- The steps that a light has still to go. -/
def remO (p : Ph) (lm tk : Int) : Int := if lm = 1 then max 1 (p.mx - tk) + p.yl + p.rd else if lm = 2 then p.yl - tk + p.rd else if lm = 3 then p.rd - tk else 0
theorem remO_bd {p : Ph} (hp : PhOk p) {lm tk : Int} (h : LiOk p lm tk) : 0 ≤ remO p lm tk ∧ remO p lm tk ≤ durV p ∧ (lm ≠ 0 → 1 ≤ remO p lm tk) := by
  have h1 := need_mx hp
  have h2 := hp.yl
  have h3 := hp.rd
  unfold remO durV
  unfold LiOk at h
  rcases h with ⟨rfl, a, b⟩ | ⟨rfl, a, b⟩ | ⟨rfl, a, b⟩ | ⟨rfl, rfl⟩
  · simp only [if_true]; omega
  · simp only [show ¬ (2 : Int) = 1 by decide, if_false, if_true]; omega
  · simp only [show ¬ (3 : Int) = 1 by decide, show ¬ (3 : Int) = 2 by decide, if_false, if_true]; omega
  · simp only [show ¬ (0 : Int) = 1 by decide, show ¬ (0 : Int) = 2 by decide, show ¬ (0 : Int) = 3 by decide, if_false]; omega
theorem remO_step {p : Ph} (hp : PhOk p) {lm tk : Int} {lv : Bool} (h : LiOk p lm tk) (hlv : lv = decide (p.mx ≤ tk + 1)) : (lm ≠ 0 → remO p (stepV p lm tk lv).1 (stepV p lm tk lv).2 ≤ remO p lm tk - 1) ∧ (lm = 0 → (stepV p lm tk lv).1 = 0) := by
  have hn := need_mx hp
  have h2 := hp.yl
  have h3 := hp.rd
  subst hlv
  unfold LiOk at h
  rcases h with ⟨rfl, a, b⟩ | ⟨rfl, a, b⟩ | ⟨rfl, a, b⟩ | ⟨rfl, rfl⟩
  · refine ⟨fun _ => ?_, fun h => absurd h (by decide)⟩
    by_cases hq : p.mx ≤ tk + 1
    · have e : stepV p 1 tk (decide (p.mx ≤ tk + 1)) = (2, 0) := by simp [stepV, hq]; omega
      rw [e]
      simp only [remO, show ¬ (2 : Int) = 1 by decide, if_false, if_true]; omega
    · have e : stepV p 1 tk (decide (p.mx ≤ tk + 1)) = (1, min (tk + 1) 1073741824) := by simp [stepV, hq]
      rw [e]
      simp only [remO, if_true]; omega
  · refine ⟨fun _ => ?_, fun h => absurd h (by decide)⟩
    by_cases hq : tk + 1 < p.yl
    · have e : ∀ lv, stepV p 2 tk lv = (2, tk + 1) := fun lv => by simp [stepV, hq]
      rw [e]
      simp only [remO, show ¬ (2 : Int) = 1 by decide, if_false, if_true]; omega
    · by_cases hr : 0 < p.rd
      · have e : ∀ lv, stepV p 2 tk lv = (3, 0) := fun lv => by simp [stepV, hq, hr]
        rw [e]
        simp only [remO, show ¬ (3 : Int) = 1 by decide, show ¬ (3 : Int) = 2 by decide, show ¬ (2 : Int) = 1 by decide, if_false, if_true]; omega
      · have e : ∀ lv, stepV p 2 tk lv = (0, 0) := fun lv => by simp [stepV, hq, hr]
        rw [e]
        simp only [remO, show ¬ (0 : Int) = 1 by decide, show ¬ (0 : Int) = 2 by decide, show ¬ (0 : Int) = 3 by decide, show ¬ (2 : Int) = 1 by decide, if_false, if_true]; omega
  · refine ⟨fun _ => ?_, fun h => absurd h (by decide)⟩
    by_cases hq : tk + 1 < p.rd
    · have e : ∀ lv, stepV p 3 tk lv = (3, tk + 1) := fun lv => by simp [stepV, hq]
      rw [e]
      simp only [remO, show ¬ (3 : Int) = 1 by decide, show ¬ (3 : Int) = 2 by decide, if_false, if_true]; omega
    · have e : ∀ lv, stepV p 3 tk lv = (0, 0) := fun lv => by simp [stepV, hq]
      rw [e]
      simp only [remO, show ¬ (0 : Int) = 1 by decide, show ¬ (0 : Int) = 2 by decide, show ¬ (0 : Int) = 3 by decide, show ¬ (3 : Int) = 1 by decide, show ¬ (3 : Int) = 2 by decide, if_false, if_true]; omega
  · refine ⟨fun h => absurd rfl h, fun _ => by simp [stepV]⟩
/-- The phase is still to begin in this pass of the group. -/
def PendP (P : List Ph) (c : Ct) (p : Nat) : Prop := (phAt P p).gr = c.gr ∧ 0 ≤ at_ c.nx (phAt P p).ri.toNat ∧ at_ c.nx (phAt P p).ri.toNat ≤ (p : Int)
instance (P : List Ph) (c : Ct) (p : Nat) : Decidable (PendP P c p) := inferInstanceAs (Decidable (_ ∧ _))
def wgt (P : List Ph) (c : Ct) (p : Nat) : Int := if lmp c.li p ≠ 0 then remO (phAt P p) (lmp c.li p) (tck c.li p) else if PendP P c p then durV (phAt P p) + 1 else 0
/-- How many groups are passed before group g comes. -/
def dis (G g0 g : Int) : Int := (g - g0 - 1) % G
def cycF (P : List Ph) (n : Nat) (c : Ct) (x p : Nat) : Int := if dis (groupsI P n) c.gr (phAt P p).gr ≤ dis (groupsI P n) c.gr (phAt P x).gr then durV (phAt P p) + 1 else 0
def psi (P : List Ph) (n : Nat) (c : Ct) (x : Nat) : Int := sumF (wgt P c) n + if PendP P c x then 0 else sumF (cycF P n c x) n
section
variable {P : List Ph} {C : List Int} {n : Nat} {st : Int} {c : Ct}
theorem dur_bd (hj : JunC P C n st) {p : Nat} (hp : p < n) : 2 ≤ durV (phAt P p) ∧ durV (phAt P p) ≤ 11 := by
  have h1 := need_mx (hj.pok p hp)
  have h2 := (hj.pok p hp).yl
  have h3 := (hj.pok p hp).rd
  unfold durV; omega
theorem wgt_bd (hj : JunC P C n st) (hv : CtV P C n st c) {p : Nat} (hp : p < n) : 0 ≤ wgt P c p ∧ wgt P c p ≤ durV (phAt P p) + 1 := by
  have h1 := dur_bd hj hp
  have h2 := remO_bd (hj.pok p hp) (hv.ok p hp)
  unfold wgt
  split
  · omega
  · split <;> omega
theorem psi_bd (hj : JunC P C n st) (hv : CtV P C n st c) (x : Nat) : 0 ≤ psi P n c x ∧ psi P n c x ≤ 2 * sumF (fun p => durV (phAt P p) + 1) n := by
  have h1 : sumF (wgt P c) n ≤ sumF (fun p => durV (phAt P p) + 1) n := sum_le n fun p hp => (wgt_bd hj hv hp).2
  have h2 : 0 ≤ sumF (wgt P c) n := sum_nn n fun p hp => (wgt_bd hj hv hp).1
  have h3 : sumF (cycF P n c x) n ≤ sumF (fun p => durV (phAt P p) + 1) n := sum_le n fun p hp => by
    have := dur_bd hj hp
    unfold cycF; split <;> omega
  have h4 : 0 ≤ sumF (cycF P n c x) n := sum_nn n fun p hp => by
    have := dur_bd hj hp
    unfold cycF; split <;> omega
  unfold psi
  split <;> omega
theorem firstGt_left (q : Int) (B : List Int) : ∀ A : List Int, (∃ y ∈ A, q < y) → firstGt (A ++ B) q = firstGt A q
  | [], h => by obtain ⟨y, hy, _⟩ := h; exact absurd hy (by simp)
  | a :: A, h => by
    rw [List.cons_append, firstGt, firstGt]
    by_cases e : q < a
    · rw [if_pos e, if_pos e]
    · rw [if_neg e, if_neg e]
      obtain ⟨y, hy, hq⟩ := h
      rcases List.mem_cons.1 hy with rfl | h2
      · exact absurd hq e
      · exact firstGt_left q B A ⟨y, h2, hq⟩
theorem firstGt_le (P : List Ph) (r g q : Int) : ∀ (k : Nat) (x : Int), x ∈ ofL P r g k → q < x → q < firstGt (ofL P r g k) q ∧ firstGt (ofL P r g k) q ≤ x
  | 0, x, h, _ => by simp [ofL] at h
  | k + 1, x, h, hq => by
    refine ⟨firstGt_ex q _ ⟨x, h, hq⟩, ?_⟩
    rw [ofL] at h ⊢
    by_cases hc : (phAt P k).ri = r ∧ (phAt P k).gr = g
    · rw [if_pos hc] at h ⊢
      by_cases he : ∃ y ∈ ofL P r g k, q < y
      · rw [firstGt_left q _ _ he]
        obtain ⟨y, hy, hqy⟩ := he
        rcases List.mem_append.1 h with h1 | h1
        · exact (firstGt_le P r g q k x h1 hq).2
        · have hx : x = (k : Int) := by simpa using h1
          have h2 := (firstGt_le P r g q k y hy hqy).2
          obtain ⟨i, hi, he, _⟩ := ofL_mem P r g y k hy
          omega
      · rcases List.mem_append.1 h with h1 | h1
        · exact absurd ⟨x, h1, hq⟩ he
        · have hx : x = (k : Int) := by simpa using h1
          rw [firstGt_app q (k : Int) [] (ofL P r g k) (fun y hy hqy => he ⟨y, hy, hqy⟩) (by omega)]
          omega
    · rw [if_neg hc] at h ⊢
      exact (firstGt_le P r g q k x h hq).2
/-- A phase begins: one step less is left. -/
theorem begin_psi (hj : JunC P C n st) (hv : CtV P C n st c) {r q : Nat} (hr : r < 2) (hq : q < n) (hnx : at_ c.nx r = q) (hri : (phAt P q).ri = r) (hgr : (phAt P q).gr = c.gr) (hi : IdleP P c.li n r) (hh : ¬ HinP C c.li n q) {x : Nat} (hx : x < n) :
    lmp (beginC P C n c q).li x = 1 ∨ psi P n (beginC P C n c q) x ≤ psi P n c x - 1 := by
  have hlen := hv.li
  have hnl := hv.nx
  have hl0 : lmp c.li q = 0 := hi q hq hri
  have hd := dur_bd hj hq
  have hb : beginC P C n c q = ⟨c.li.set q (1, 0), (phAt P q).gr, c.nx.set r (firstGt (ofL P (phAt P q).ri (phAt P q).gr n) q), c.wt⟩ := by
    unfold beginC
    rw [if_neg hh]
    rw [if_neg (by rw [hgr]; simp), hri]
    simp
  rw [hb]
  have hlm : ∀ p, prAt (c.li.set q (1, 0)) p = if p = q then (1, 0) else prAt c.li p := fun p => prAt_set (by omega) _ _
  have hat : ∀ k, at_ (c.nx.set r (firstGt (ofL P (phAt P q).ri (phAt P q).gr n) q)) k = if k = r then firstGt (ofL P (phAt P q).ri (phAt P q).gr n) q else at_ c.nx k := fun k => at_set (by omega) _ _
  have hfg := firstGt_gt (q : Int) (ofL P (phAt P q).ri (phAt P q).gr n)
  have hpend : ∀ p, p < n → PendP P ⟨c.li.set q (1, 0), (phAt P q).gr, c.nx.set r (firstGt (ofL P (phAt P q).ri (phAt P q).gr n) q), c.wt⟩ p → PendP P c p := by
    intro p hp ⟨h1, h2, h3⟩
    have h1 : (phAt P p).gr = (phAt P q).gr := h1
    have h2 : 0 ≤ at_ (c.nx.set r (firstGt (ofL P (phAt P q).ri (phAt P q).gr n) q)) (phAt P p).ri.toNat := h2
    have h3 : at_ (c.nx.set r (firstGt (ofL P (phAt P q).ri (phAt P q).gr n) q)) (phAt P p).ri.toNat ≤ (p : Int) := h3
    rw [hat] at h2 h3
    refine ⟨by rw [h1, hgr], ?_⟩
    by_cases e : (phAt P p).ri.toNat = r
    · rw [if_pos e] at h2 h3
      rw [e, hnx]; omega
    · rw [if_neg e] at h2 h3
      exact ⟨h2, h3⟩
  by_cases e : x = q
  · subst e
    left
    show lmp (c.li.set x (1, 0)) x = 1
    unfold lmp; rw [hlm, if_pos rfl]
  · right
    have hM : sumF (wgt P ⟨c.li.set q (1, 0), (phAt P q).gr, c.nx.set r (firstGt (ofL P (phAt P q).ri (phAt P q).gr n) q), c.wt⟩) n ≤ sumF (wgt P c) n - 1 := by
      refine sum_lt n (fun p hp => ?_) ⟨q, hq, ?_⟩
      · by_cases e2 : p = q
        · subst e2
          have h1 : wgt P c p = durV (phAt P p) + 1 := by
            unfold wgt
            rw [if_neg (by rw [hl0]; simp), if_pos ⟨hgr, by rw [hri, Int.toNat_natCast, hnx]; omega, by rw [hri, Int.toNat_natCast, hnx]; omega⟩]
          have h2 : wgt P ⟨c.li.set p (1, 0), (phAt P p).gr, c.nx.set r (firstGt (ofL P (phAt P p).ri (phAt P p).gr n) p), c.wt⟩ p = durV (phAt P p) := by
            have h3 : lmp (c.li.set p (1, 0)) p = 1 := by unfold lmp; rw [hlm, if_pos rfl]
            have h4 : tck (c.li.set p (1, 0)) p = 0 := by unfold tck; rw [hlm, if_pos rfl]
            unfold wgt
            show (if lmp (c.li.set p (1, 0)) p ≠ 0 then remO (phAt P p) (lmp (c.li.set p (1, 0)) p) (tck (c.li.set p (1, 0)) p) else _) = _
            rw [h3, h4, if_pos (by decide)]
            have h5 := need_mx (hj.pok p hp)
            unfold remO durV
            simp only [if_true]; omega
          rw [h1, h2]; omega
        · have h3 : lmp (c.li.set q (1, 0)) p = lmp c.li p := by unfold lmp; rw [hlm, if_neg e2]
          have h4 : tck (c.li.set q (1, 0)) p = tck c.li p := by unfold tck; rw [hlm, if_neg e2]
          have h6 := dur_bd hj hp
          unfold wgt
          show (if lmp (c.li.set q (1, 0)) p ≠ 0 then remO (phAt P p) (lmp (c.li.set q (1, 0)) p) (tck (c.li.set q (1, 0)) p) else _) ≤ _
          rw [h3, h4]
          by_cases h5 : lmp c.li p ≠ 0
          · rw [if_pos h5, if_pos h5]; exact Int.le_refl _
          · rw [if_neg h5, if_neg h5]
            by_cases h7 : PendP P ⟨c.li.set q (1, 0), (phAt P q).gr, c.nx.set r (firstGt (ofL P (phAt P q).ri (phAt P q).gr n) q), c.wt⟩ p
            · rw [if_pos h7, if_pos (hpend p hp h7)]; exact Int.le_refl _
            · rw [if_neg h7]; split <;> omega
      · have h1 : wgt P c q = durV (phAt P q) + 1 := by
          unfold wgt
          rw [if_neg (by rw [hl0]; simp), if_pos ⟨hgr, by rw [hri, Int.toNat_natCast, hnx]; omega, by rw [hri, Int.toNat_natCast, hnx]; omega⟩]
        have h2 : wgt P ⟨c.li.set q (1, 0), (phAt P q).gr, c.nx.set r (firstGt (ofL P (phAt P q).ri (phAt P q).gr n) q), c.wt⟩ q = durV (phAt P q) := by
          have h3 : lmp (c.li.set q (1, 0)) q = 1 := by unfold lmp; rw [hlm, if_pos rfl]
          have h4 : tck (c.li.set q (1, 0)) q = 0 := by unfold tck; rw [hlm, if_pos rfl]
          unfold wgt
          show (if lmp (c.li.set q (1, 0)) q ≠ 0 then remO (phAt P q) (lmp (c.li.set q (1, 0)) q) (tck (c.li.set q (1, 0)) q) else _) = _
          rw [h3, h4, if_pos (by decide)]
          have h5 := need_mx (hj.pok q hq)
          unfold remO durV
          simp only [if_true]; omega
        rw [h1, h2]; omega
    have hcy : sumF (cycF P n ⟨c.li.set q (1, 0), (phAt P q).gr, c.nx.set r (firstGt (ofL P (phAt P q).ri (phAt P q).gr n) q), c.wt⟩ x) n = sumF (cycF P n c x) n := by
      unfold cycF
      show sumF (fun p => if dis (groupsI P n) (phAt P q).gr (phAt P p).gr ≤ dis (groupsI P n) (phAt P q).gr (phAt P x).gr then _ else _) n = _
      rw [hgr]
    have h4 : 0 ≤ sumF (cycF P n c x) n := sum_nn n fun p hp => by
      have := dur_bd hj hp
      unfold cycF; split <;> omega
    unfold psi
    by_cases hp : PendP P c x
    · have hp' : PendP P ⟨c.li.set q (1, 0), (phAt P q).gr, c.nx.set r (firstGt (ofL P (phAt P q).ri (phAt P q).gr n) q), c.wt⟩ x := by
        obtain ⟨h1, h2, h3⟩ := hp
        refine ⟨by show (phAt P x).gr = (phAt P q).gr; rw [h1, hgr], ?_⟩
        show 0 ≤ at_ (c.nx.set r (firstGt (ofL P (phAt P q).ri (phAt P q).gr n) q)) (phAt P x).ri.toNat ∧ at_ (c.nx.set r (firstGt (ofL P (phAt P q).ri (phAt P q).gr n) q)) (phAt P x).ri.toNat ≤ (x : Int)
        rw [hat]
        by_cases e2 : (phAt P x).ri.toNat = r
        · rw [if_pos e2]
          rw [e2, hnx] at h3
          have hxr := hj.ri x hx
          have := firstGt_le P (phAt P q).ri (phAt P q).gr (q : Int) n x (ofL_has P _ _ (by omega) (by rw [h1, hgr]) n hx) (by omega)
          omega
        · rw [if_neg e2]; exact ⟨h2, h3⟩
      rw [if_pos hp, if_pos hp']; omega
    · rw [if_neg hp]
      split
      · omega
      · rw [hcy]; omega
end
end Go.Proofs.Ytkpbkahmbbkcdaa
namespace Go.Proofs.Ytkpbkahmbbkcdaa
open Go.ChangeShapes Go.WideShapes Go.RowKit
set_option linter.unusedVariables false

section
variable {P : List Ph} {C : List Int} {n : Nat} {st : Int} {c : Ct}
theorem begin_one (hli : c.li.length = n) {q x : Nat} (hq : q < n) (h : lmp c.li x = 1) : lmp (beginC P C n c q).li x = 1 := by
  unfold beginC
  split
  · exact h
  · show lmp (List.set _ _ _) x = 1
    unfold lmp
    rw [prAt_set (by omega)]
    split
    · rfl
    · exact h
/-- What the rings before r do with x. -/
theorem off_one (hj : JunC P C n st) (hv : CtV P C n st c) (hw : c.wt = 0) {x : Nat} (hx : x < n) : ∀ r, r ≤ 2 → lmp (offC P C n c r).li x = 1 ∨ psi P n (offC P C n c r) x ≤ psi P n c x
  | 0, _ => .inr (Int.le_refl _)
  | r + 1, hr => by
    have ih := off_one hj hv hw hx r (by omega)
    have hc := (offC_v hj.rows hv hw hj.h1 hj.ri hj.gr r).1
    rw [off_succ]
    split
    · rename_i h2
      rcases hc.nxt r (by omega) with h3 | ⟨q, hq, h3, h4, h5⟩
      · omega
      · rw [h3, Int.toNat_natCast]
        rcases ih with ih | ih
        · exact .inl (begin_one hc.li hq ih)
        · by_cases hh : HinP C (offC P C n c r).li n q
          · unfold beginC; rw [if_pos hh]; exact .inr ih
          · rcases begin_psi hj hc (by omega) hq h3 h4 h5 h2.1 hh hx with h6 | h6
            · exact .inl h6
            · exact .inr (by omega)
    · exact ih
/-- If all is red and a phase is to begin, one does. -/
theorem off_red (hj : JunC P C n st) (hv : CtV P C n st c) (hw : c.wt = 0) {x : Nat} (hx : x < n) (hz : ∀ p, p < n → lmp c.li p = 0) (hk : ∃ k, k < 2 ∧ 0 ≤ at_ c.nx k) : lmp (offC P C n c 2).li x = 1 ∨ psi P n (offC P C n c 2) x ≤ psi P n c x - 1 := by
  have go : ∀ d r q, CtV P C n st d → (∀ p, p < n → lmp d.li p = 0) → r < 2 → q < n → at_ d.nx r = q → (phAt P q).ri = r → (phAt P q).gr = d.gr → lmp (beginC P C n d q).li x = 1 ∨ psi P n (beginC P C n d q) x ≤ psi P n d x - 1 := by
    intro d r q hd hz2 hr hq h3 h4 h5
    exact begin_psi hj hd hr hq h3 h4 h5 (fun p hp _ => hz2 p hp) (fun ⟨p, hp, h, _⟩ => h (hz2 p hp)) hx
  have e1 : offC P C n c 1 = if IdleP P c.li n 0 ∧ 0 ≤ at_ c.nx 0 then beginC P C n c (at_ c.nx 0).toNat else c := rfl
  by_cases h0 : 0 ≤ at_ c.nx 0
  · rcases hv.nxt 0 (by omega) with h3 | ⟨q, hq, h3, h4, h5⟩
    · omega
    · have h6 := go c 0 q hv hz (by omega) hq h3 h4 h5
      rw [if_pos ⟨fun p hp _ => hz p hp, h0⟩, h3, Int.toNat_natCast] at e1
      rw [← e1] at h6
      have hc1 := (offC_v hj.rows hv hw hj.h1 hj.ri hj.gr 1).1
      have e2 : offC P C n c 2 = if IdleP P (offC P C n c 1).li n 1 ∧ 0 ≤ at_ (offC P C n c 1).nx 1 then beginC P C n (offC P C n c 1) (at_ (offC P C n c 1).nx 1).toNat else offC P C n c 1 := rfl
      rw [e2]
      split
      · rename_i h2
        rcases hc1.nxt 1 (by omega) with g3 | ⟨q2, hq2, g3, g4, g5⟩
        · omega
        · rw [g3, Int.toNat_natCast]
          rcases h6 with h6 | h6
          · exact .inl (begin_one hc1.li hq2 h6)
          · by_cases hh : HinP C (offC P C n c 1).li n q2
            · unfold beginC; rw [if_pos hh]; exact .inr h6
            · rcases begin_psi hj hc1 (by omega) hq2 g3 g4 g5 h2.1 hh hx with h7 | h7
              · exact .inl h7
              · exact .inr (by omega)
      · exact h6
  · rw [if_neg (fun h => h0 h.2)] at e1
    have h1 : 0 ≤ at_ c.nx 1 := by
      obtain ⟨k, hk, h⟩ := hk
      rcases (by omega : k = 0 ∨ k = 1) with rfl | rfl
      · exact absurd h h0
      · exact h
    have e2 : offC P C n c 2 = if IdleP P (offC P C n c 1).li n 1 ∧ 0 ≤ at_ (offC P C n c 1).nx 1 then beginC P C n (offC P C n c 1) (at_ (offC P C n c 1).nx 1).toNat else offC P C n c 1 := rfl
    rw [e1] at e2
    rw [if_pos ⟨fun p hp _ => hz p hp, h1⟩] at e2
    rw [e2]
    rcases hv.nxt 1 (by omega) with h3 | ⟨q, hq, h3, h4, h5⟩
    · omega
    · rw [h3, Int.toNat_natCast]
      exact go c 1 q hv hz (by omega) hq h3 h4 h5
/-- The lights' step. -/
theorem lights_psi (hj : JunC P C n st) (h : CtW P C n st c) {x : Nat} (hx : x < n) :
    psi P n ⟨lightsL P C c.li n (-1) n, c.gr, c.nx, c.wt⟩ x ≤ psi P n c x ∧ ((∃ p, p < n ∧ lmp c.li p ≠ 0) → psi P n ⟨lightsL P C c.li n (-1) n, c.gr, c.nx, c.wt⟩ x ≤ psi P n c x - 1) := by
  have hv := h.v
  have key : ∀ p, p < n → wgt P ⟨lightsL P C c.li n (-1) n, c.gr, c.nx, c.wt⟩ p ≤ wgt P c p ∧ (lmp c.li p ≠ 0 → wgt P ⟨lightsL P C c.li n (-1) n, c.gr, c.nx, c.wt⟩ p ≤ wgt P c p - 1) := by
    intro p hp
    have hl := lights_lmp hv (-1) hp
    have hlv : leaveB P C c.li n (-1) p = decide ((phAt P p).mx ≤ tck c.li p + 1) := by unfold leaveB; rw [if_neg (by omega)]
    have hs := remO_step (hj.pok p hp) (lv := leaveB P C c.li n (-1) p) (hv.ok p hp) hlv
    have hb := remO_bd (hj.pok p hp) (hv.ok p hp)
    have hd := dur_bd hj hp
    have hri := hj.ri p hp
    have hpe : PendP P ⟨lightsL P C c.li n (-1) n, c.gr, c.nx, c.wt⟩ p ↔ PendP P c p := Iff.rfl
    unfold wgt
    show (if lmp (lightsL P C c.li n (-1) n) p ≠ 0 then remO (phAt P p) (lmp (lightsL P C c.li n (-1) n) p) (tck (lightsL P C c.li n (-1) n) p) else if PendP P c p then durV (phAt P p) + 1 else 0) ≤ _ ∧ (_ → (if lmp (lightsL P C c.li n (-1) n) p ≠ 0 then remO (phAt P p) (lmp (lightsL P C c.li n (-1) n) p) (tck (lightsL P C c.li n (-1) n) p) else if PendP P c p then durV (phAt P p) + 1 else 0) ≤ _)
    rw [hl.1, hl.2]
    by_cases h0 : lmp c.li p = 0
    · have e := hs.2 h0
      rw [e, if_neg (show ¬ ((0 : Int) ≠ 0) by simp), if_neg (show ¬ (lmp c.li p ≠ 0) by rw [h0]; simp)]
      exact ⟨Int.le_refl _, fun h1 => absurd h0 h1⟩
    · have h1 := hs.1 h0
      have h2 := hb.2.2 h0
      have hnp : ¬ PendP P c p := by
        rintro ⟨_, p2, p3⟩
        rcases h.x p hp h0 (phAt P p).ri.toNat (by omega) with e | e <;> omega
      rw [if_pos h0, if_neg hnp]
      split
      · exact ⟨by omega, fun _ => h1⟩
      · exact ⟨by omega, fun _ => by omega⟩
  have hM : sumF (wgt P ⟨lightsL P C c.li n (-1) n, c.gr, c.nx, c.wt⟩) n ≤ sumF (wgt P c) n := sum_le n fun p hp => (key p hp).1
  have e : psi P n ⟨lightsL P C c.li n (-1) n, c.gr, c.nx, c.wt⟩ x = sumF (wgt P ⟨lightsL P C c.li n (-1) n, c.gr, c.nx, c.wt⟩) n + if PendP P c x then 0 else sumF (cycF P n c x) n := rfl
  rw [e]
  unfold psi
  refine ⟨by omega, fun ⟨p, hp, h0⟩ => ?_⟩
  have := sum_lt n (fun p hp => (key p hp).1) ⟨p, hp, (key p hp).2 h0⟩
  omega
theorem dis_bd {G g0 g : Int} (hG : 0 < G) : 0 ≤ dis G g0 g ∧ dis G g0 g < G := ⟨Int.emod_nonneg _ (by omega), Int.emod_lt_of_pos _ hG⟩
theorem dis_val {G g0 g : Int} (h0 : 0 ≤ g0) (h1 : g0 < G) (g1 : 0 ≤ g) (g2 : g < G) : dis G g0 g = if g0 < g then g - g0 - 1 else g - g0 - 1 + G := by
  unfold dis
  split
  · exact Int.emod_eq_of_lt (by omega) (by omega)
  · rw [← Int.add_emod_right]
    exact Int.emod_eq_of_lt (by omega) (by omega)
theorem next_val {G g : Int} (h0 : 0 ≤ g) (h1 : g < G) : (g + 1) % G = if g + 1 = G then 0 else g + 1 := by
  split
  · rename_i h; rw [h, Int.emod_self]
  · exact Int.emod_eq_of_lt (by omega) (by omega)
theorem dis_next {G g0 g y : Int} (h0 : 0 ≤ g0) (h1 : g0 < G) (hg : (g0 + 1) % G = g) (y0 : 0 ≤ y) (y1 : y < G) : (y = g → dis G g0 y = 0 ∧ dis G g y = G - 1) ∧ (y ≠ g → dis G g y = dis G g0 y - 1 ∧ 1 ≤ dis G g0 y) := by
  have hn := next_val h0 h1
  rw [hg] at hn
  have hb : 0 ≤ g ∧ g < G := by rw [hn]; split <;> omega
  rw [dis_val h0 h1 y0 y1, dis_val hb.1 hb.2 y0 y1]
  by_cases e : g0 + 1 = G
  · rw [if_pos e] at hn
    refine ⟨fun h => ⟨?_, ?_⟩, fun h => ⟨?_, ?_⟩⟩ <;> (repeat' split) <;> omega
  · rw [if_neg e] at hn
    refine ⟨fun h => ⟨?_, ?_⟩, fun h => ⟨?_, ?_⟩⟩ <;> (repeat' split) <;> omega
/-- The entry into the next group. -/
theorem enter_psi (hj : JunC P C n st) (hv : CtV P C n st c) {L : List (Int × Int)} (hz : ∀ p, p < n → lmp L p = 0) (hn : at_ c.nx 0 < 0 ∧ at_ c.nx 1 < 0) {x : Nat} (hx : x < n) :
    psi P n ⟨L, (c.gr + 1) % groupsI P n, nxL P n ((c.gr + 1) % groupsI P n) 2, c.wt⟩ x ≤ psi P n c x := by
  have hgp := groups_pos (P := P) (n := n) hj.h1 (fun i hi => (hj.gr i hi).1)
  have hgr := hv.gr
  have hgb : ∀ p, p < n → 0 ≤ (phAt P p).gr ∧ (phAt P p).gr < groupsI P n := fun p hp => ⟨(hj.gr p hp).1, gr_lt n p hp⟩
  unfold psi
  have hcF : ∀ d : Ct, cycF P n d x = fun p => if dis (groupsI P n) d.gr (phAt P p).gr ≤ dis (groupsI P n) d.gr (phAt P x).gr then durV (phAt P p) + 1 else 0 := fun d => rfl
  rw [hcF, hcF]
  generalize groupsI P n = G at *
  have hnv := next_val hgr.1 hgr.2
  have hnb : 0 ≤ (c.gr + 1) % G ∧ (c.gr + 1) % G < G := by rw [hnv]; split <;> omega
  obtain ⟨g, hg⟩ : ∃ g, (c.gr + 1) % G = g := ⟨_, rfl⟩
  rw [hg] at hnv hnb ⊢
  have hM0 : 0 ≤ sumF (wgt P c) n := sum_nn n fun p hp => (wgt_bd hj hv hp).1
  have hnp : ¬ PendP P c x := by
    rintro ⟨_, h2, _⟩
    have hri := hj.ri x hx
    rcases (by omega : (phAt P x).ri.toNat = 0 ∨ (phAt P x).ri.toNat = 1) with e | e <;> rw [e] at h2 <;> omega
  have hpend : ∀ p, p < n → (phAt P p).gr = g → PendP P ⟨L, g, nxL P n g 2, c.wt⟩ p := by
    intro p hp hpg
    have hri := hj.ri p hp
    refine ⟨hpg, ?_⟩
    show 0 ≤ at_ (nxL P n g 2) (phAt P p).ri.toNat ∧ at_ (nxL P n g 2) (phAt P p).ri.toNat ≤ (p : Int)
    rw [nxL_eq P n g (by omega)]
    have := firstGt_le P (((phAt P p).ri.toNat : Nat) : Int) g (-1) n p (ofL_has P _ _ (by omega) hpg n hp) (by omega)
    omega
  have hw : ∀ p, p < n → wgt P ⟨L, g, nxL P n g 2, c.wt⟩ p ≤ if (phAt P p).gr = g then durV (phAt P p) + 1 else 0 := by
    intro p hp
    have hd := dur_bd hj hp
    unfold wgt
    show (if lmp L p ≠ 0 then _ else if PendP P ⟨L, g, nxL P n g 2, c.wt⟩ p then durV (phAt P p) + 1 else 0) ≤ _
    rw [if_neg (show ¬ (lmp L p ≠ 0) by rw [hz p hp]; simp)]
    by_cases h1 : PendP P ⟨L, g, nxL P n g 2, c.wt⟩ p
    · have h2 : (phAt P p).gr = g := h1.1
      rw [if_pos h1, if_pos h2]; exact Int.le_refl _
    · rw [if_neg h1]; split <;> omega
  rw [if_neg hnp]
  by_cases hxg : (phAt P x).gr = g
  · rw [if_pos (hpend x hx hxg)]
    have := sum_le (f := wgt P ⟨L, g, nxL P n g 2, c.wt⟩) (g := fun p => if dis G c.gr (phAt P p).gr ≤ dis G c.gr (phAt P x).gr then durV (phAt P p) + 1 else 0) n fun p hp => by
      have h1 := hw p hp
      have hd := dur_bd hj hp
      by_cases e : (phAt P p).gr = g
      · rw [if_pos e] at h1
        show _ ≤ if dis G c.gr (phAt P p).gr ≤ dis G c.gr (phAt P x).gr then durV (phAt P p) + 1 else 0
        rw [if_pos (by rw [e, hxg]; exact Int.le_refl _)]
        exact h1
      · rw [if_neg e] at h1
        show _ ≤ if dis G c.gr (phAt P p).gr ≤ dis G c.gr (phAt P x).gr then durV (phAt P p) + 1 else 0
        split <;> omega
    omega
  · have hnp2 : ¬ PendP P ⟨L, g, nxL P n g 2, c.wt⟩ x := fun h => hxg h.1
    rw [if_neg hnp2]
    have hxn := (dis_next hgr.1 hgr.2 hg (hgb x hx).1 (hgb x hx).2).2 hxg
    have hxb := dis_bd (g0 := c.gr) (g := (phAt P x).gr) hgp
    have := sum_le (f := fun p => wgt P ⟨L, g, nxL P n g 2, c.wt⟩ p + if dis G g (phAt P p).gr ≤ dis G g (phAt P x).gr then durV (phAt P p) + 1 else 0) (g := fun p => if dis G c.gr (phAt P p).gr ≤ dis G c.gr (phAt P x).gr then durV (phAt P p) + 1 else 0) n fun p hp => by
      have h1 := hw p hp
      have hd := dur_bd hj hp
      have hpn := dis_next hgr.1 hgr.2 hg (hgb p hp).1 (hgb p hp).2
      show _ + (if dis G g (phAt P p).gr ≤ dis G g (phAt P x).gr then durV (phAt P p) + 1 else 0) ≤ if dis G c.gr (phAt P p).gr ≤ dis G c.gr (phAt P x).gr then durV (phAt P p) + 1 else 0
      by_cases e : (phAt P p).gr = g
      · rw [if_pos e] at h1
        have h2 := hpn.1 e
        rw [if_neg (by omega), if_pos (by omega)]
        omega
      · rw [if_neg e] at h1
        have h2 := hpn.2 e
        by_cases e3 : dis G c.gr (phAt P p).gr ≤ dis G c.gr (phAt P x).gr
        · rw [if_pos e3, if_pos (by omega)]; omega
        · rw [if_neg e3, if_neg (by omega)]; omega
    rw [sum_add] at this
    show sumF (wgt P ⟨L, g, nxL P n g 2, c.wt⟩) n + sumF (fun p => if dis G g (phAt P p).gr ≤ dis G g (phAt P x).gr then durV (phAt P p) + 1 else 0) n ≤ sumF (wgt P c) n + sumF (fun p => if dis G c.gr (phAt P p).gr ≤ dis G c.gr (phAt P x).gr then durV (phAt P p) + 1 else 0) n
    omega
/-- What is left: the waiting and the rest. -/
def phi (P : List Ph) (n : Nat) (c : Ct) (x : Nat) : Int := c.wt + psi P n c x
theorem step_phi (hj : JunC P C n st) (hjv : JunV P C st) (h : CtW P C n st c) {x : Nat} (hx : x < n) : lmp (stepC P C n c (-1)).li x = 1 ∨ phi P n (stepC P C n c (-1)) x ≤ phi P n c x - 1 := by
  have hv := h.v
  have hwb := hv.wt
  unfold stepC
  by_cases hw : 0 < c.wt
  · rw [if_pos hw]
    right
    have e : phi P n ⟨c.li, c.gr, c.nx, c.wt - 1⟩ x = c.wt - 1 + psi P n c x := rfl
    rw [e]; unfold phi; omega
  · rw [if_neg hw, if_neg (by omega)]
    have hw0 : c.wt = 0 := by omega
    have hd := lights_v hv hw0 hj.pok (-1)
    have hl := lights_psi hj h hx
    have fin : ∀ e : Ct, CtV P C n st e → e.wt = 0 → (lmp (offC P C n e 2).li x = 1 ∨ psi P n (offC P C n e 2) x ≤ psi P n c x - 1) → lmp (offC P C n e 2).li x = 1 ∨ phi P n (offC P C n e 2) x ≤ phi P n c x - 1 := by
      intro e he hew h1
      rcases h1 with h1 | h1
      · exact .inl h1
      · right
        have h2 := (offC_v hj.rows he hew hj.h1 hj.ri hj.gr 2).2
        unfold phi; omega
    by_cases hf : setV (lightsL P C c.li n (-1) n) n = 0 ∧ at_ c.nx 0 < 0 ∧ at_ c.nx 1 < 0
    · simp only [if_pos hf]
      have hgp := groups_pos (P := P) (n := n) hj.h1 (fun i hi => (hj.gr i hi).1)
      have h2 := Int.emod_nonneg (c.gr + 1) (show groupsI P n ≠ 0 by omega)
      have h3 := Int.emod_lt_of_pos (c.gr + 1) hgp
      have hz := (setV_zero _ n).1 hf.1
      have hv2 : CtV P C n st ⟨lightsL P C c.li n (-1) n, (c.gr + 1) % groupsI P n, nxL P n ((c.gr + 1) % groupsI P n) 2, c.wt⟩ := ⟨hd.li, nxL_len _ _ _ _, ⟨h2, h3⟩, hd.wt, hd.ok, fun r hr => nxL_val P n _ r hr, hd.no, hd.red⟩
      refine fin _ hv2 hw0 ?_
      obtain ⟨i, hi, hg⟩ := hjv.de ((c.gr + 1) % groupsI P n).toNat (by rw [hj.len]; omega)
      rw [hj.len] at hi
      have hri := hj.ri i hi
      have hk : ∃ k, k < 2 ∧ 0 ≤ at_ (nxL P n ((c.gr + 1) % groupsI P n) 2) k := by
        refine ⟨(phAt P i).ri.toNat, by omega, ?_⟩
        rw [nxL_eq P n _ (by omega)]
        have := firstGt_ex (-1) (ofL P (((phAt P i).ri.toNat : Nat) : Int) ((c.gr + 1) % groupsI P n) n) ⟨i, ofL_has P _ _ (by omega) (by omega) n hi, by omega⟩
        omega
      have h4 := enter_psi hj hv hz hf.2 hx
      rcases off_red hj hv2 hw0 hx hz hk with h5 | h5
      · exact .inl h5
      · exact .inr (by omega)
    · simp only [if_neg hf]
      refine fin _ hd hw0 ?_
      by_cases hnr : ∃ p, p < n ∧ lmp c.li p ≠ 0
      · have h4 := hl.2 hnr
        rcases off_one hj hd hw0 hx 2 (Nat.le_refl 2) with h5 | h5
        · exact .inl h5
        · exact .inr (by omega)
      · have hz : ∀ p, p < n → lmp (lightsL P C c.li n (-1) n) p = 0 := fun p hp => by
          have h0 : lmp c.li p = 0 := by
            by_cases e : lmp c.li p = 0
            · exact e
            · exact absurd ⟨p, hp, e⟩ hnr
          rw [(lights_lmp hv (-1) hp).1]
          exact (remO_step (hj.pok p hp) (lv := leaveB P C c.li n (-1) p) (hv.ok p hp) (by unfold leaveB; rw [if_neg (by omega)])).2 h0
        have hk : ∃ k, k < 2 ∧ 0 ≤ at_ c.nx k := by
          by_cases e0 : 0 ≤ at_ c.nx 0
          · exact ⟨0, by omega, e0⟩
          · refine ⟨1, by omega, ?_⟩
            by_cases e1 : 0 ≤ at_ c.nx 1
            · exact e1
            · exact absurd ⟨(setV_zero _ n).2 hz, by omega, by omega⟩ hf
        rcases off_red hj hd hw0 hx hz hk with h5 | h5
        · exact .inl h5
        · exact .inr (by omega)
def mostV (P : List Ph) (n : Nat) (st : Int) : Int := st + 1 + sumF (fun p => durV (phAt P p) + 1) n
theorem phi_bd (hj : JunC P C n st) (hv : CtV P C n st c) (x : Nat) : 0 ≤ phi P n c x ∧ phi P n c x ≤ 2 * mostV P n st - 2 := by
  have h1 := psi_bd hj hv x
  have h2 := hv.wt
  unfold phi mostV
  omega
end
end Go.Proofs.Ytkpbkahmbbkcdaa
namespace Go.Proofs.Ytkpbkahmbbkcdaa
open Go.ChangeShapes Go.WideShapes Go.ChangeAt Go.RowKit
set_option linter.unusedVariables false

set_option maxRecDepth 20000 in
set_option maxHeartbeats 4000000 in
theorem control_w (g : Nat) (A Bc : Option Addr) (cP d n : Nat) (P : List Ph) (C : List Int) (st : Int) (w : World) (hj : JunC P C n st) (hjv : JunV P C st) (hdk : DeckOk w g) (hP : Phs w w.heap.size A P) (hC : Ints .i64 w w.heap.size Bc C) (hA : ∀ a, A = some a → a.block ≠ g) (hB : ∀ a, Bc = some a → a.block ≠ g) :
    Calls Try.prog 15 #[.pointer (some ⟨g, 0, none⟩), .agg #[.slice A n cP, .slice Bc n d, .int .i64 st]] w fun e w' => ∃ v, e = .returned v ∧ Gr g w w' ∧ DeckOk w' g ∧ ∃ c, CtW P C n st c ∧ CtH w' w.heap.size n v c := by
  have hg := hdk.lt
  have h1 := hj.h1
  have h8 := hj.h8
  have bW := lat_alloc (lat_alloc (Below.refl w.heap.size w) (.cells #[.slice A n cP, .slice Bc n d, .int .i64 st] 30)) (.cells #[.slice none 0 0, .int .i64 0, .slice none 0 0, .int .i64 0] 25)
  have BJ := (Blk.new (w := w) (t := 30) (cs := #[.slice A n cP, .slice Bc n d, .int .i64 st])).alloc (.cells #[.slice none 0 0, .int .i64 0, .slice none 0 0, .int .i64 0] 25)
  have BR := Blk.new (w := w.alloc (.cells #[.slice A n cP, .slice Bc n d, .int .i64 st] 30)) (t := 25) (cs := #[.slice none 0 0, .int .i64 0, .slice none 0 0, .int .i64 0])
  rw [heap_size] at BR
  have hP1 := hP.grow bW
  have hC1 := hC.grow bW
  have hdW := hdk.below bW
  go_enter Try.func15, Try.ntmps15
  have j0 := BJ.at 0 rfl
  have j1 := BJ.at 1 rfl
  have j2 := BJ.at 2 rfl
  go_wp2_with fail
  generalize (w.alloc (.cells #[.slice A n cP, .slice Bc n d, .int .i64 st] 30)).alloc (.cells #[.slice none 0 0, .int .i64 0, .slice none 0 0, .int .i64 0] 25) = W at *
  have hGW : Gr g w W := Gr.of_below bW
  have hWs := BR.lt
  refine (init_any A Bc cP d n n P st W hj.len hP1 h1 (by omega)).mono ?_
  rintro e W2 ⟨v, rfl, hb2, gl, cl, gx, cx, rfl, hgl, hgx, LI2, NX2⟩
  clear j0 j1 j2
  have hV := init_w hj
  generalize initC P n st = c at *
  have b3 := lat_alloc (Below.refl W2.heap.size W2) (.cells #[.slice (some ⟨gl, 0, none⟩) n cl, .int .i64 c.gr, .slice (some ⟨gx, 0, none⟩) 2 cx, .int .i64 c.wt] 25)
  have hs2 := hb2.size
  obtain ⟨B, hBB⟩ : ∃ B, W.heap.size = B := ⟨_, rfl⟩
  have HBB := Lib.hid hBB
  have O3 : Out (W2.alloc (.cells #[.slice (some ⟨gl, 0, none⟩) n cl, .int .i64 c.gr, .slice (some ⟨gx, 0, none⟩) 2 cx, .int .i64 c.wt] 25)) W2.heap.size B n gl cl gx cx c := ⟨Blk.new, LI2.below b3, NX2.below b3, by omega, by omega, by have := LI2.lt; omega, by have := NX2.lt; omega⟩
  have hbW3 := hb2.trans (b3.mono hb2.size)
  have hG3 : Gr g W (W2.alloc (.cells #[.slice (some ⟨gl, 0, none⟩) n cl, .int .i64 c.gr, .slice (some ⟨gx, 0, none⟩) 2 cx, .int .i64 c.wt] 25)) := Gr.of_below hbW3
  have hd3 := hdW.below hbW3
  have hgW : g < W.heap.size := by omega
  have hgc : W.heap.size ≤ W2.heap.size := hs2
  go_wp2_with fail
  clear hb2 LI2 NX2 b3 hgl hgx hs2 hbW3 hdW
  generalize W2.alloc (.cells #[.slice (some ⟨gl, 0, none⟩) n cl, .int .i64 c.gr, .slice (some ⟨gx, 0, none⟩) 2 cx, .int .i64 c.wt] 25) = W3 at *
  generalize W2.heap.size = gc at *
  refine (next_ok g 12 W3 hd3 (by omega) (by omega)).mono ?_
  rintro e W4 ⟨hG4, hd4, k0, k00, k01, rfl⟩
  have O4 := O3.gr hG4 (by omega) (by omega)
  have hG4 := hG3.trans hG4
  clear hG3 hd3 O3
  obtain ⟨K, rfl⟩ := Int.eq_ofNat_of_zero_le k00
  go_wp2_with fail
  go_loopw [6] (fun v wr => ∃ k : Nat, k ≤ 20 ∧ v = .int .i64 k ∧ Gr g W wr ∧ DeckOk wr g ∧ ∃ (gl cl gx cx : Nat) (c : Ct), Out wr gc B n gl cl gx cx c ∧ CtW P C n st c) (fun v _ => (intOf v).toNat)
  case atStart => exact ⟨K, by omega, rfl, hG4, hd4, gl, cl, gx, cx, c, O4, hV⟩
  case round =>
    clear hV O4 hG4 hd4 k01
    obtain ⟨k, hk, rfl, hGr, hdr, gl, cl, gx, cx, c, Or, hV⟩ := hrel
    by_cases hlk : 0 < k
    · have hlkZ : (0 : Int) < k := by omega
      have Jr := hGr.blk BJ (by omega)
      have j0 := Jr.at 0 rfl
      go_wp2_with fail
      refine (next_ok g ((n : Int) + 1) _ hdr (by omega) (by omega)).mono ?_
      rintro e W5 ⟨hG5, hd5, x, x0, x1, rfl⟩
      clear j0 Jr
      have O5 := Or.gr hG5 (by omega) (by omega)
      have hG5 := hGr.trans hG5
      go_wp2_with fail
      refine (range_ok g 1 4 _ hd5 (by omega) (by omega) (by omega)).mono ?_
      rintro e W6 ⟨hG6, hd6, y, y0, y1, rfl⟩
      have O6 := O5.gr hG6 (by omega) (by omega)
      have hG6 := hG5.trans hG6
      clear hG5 O5 hd5 hGr hdr Or
      obtain ⟨Y, rfl⟩ := Int.eq_ofNat_of_zero_le (show 0 ≤ y by omega)
      obtain ⟨tg, htg⟩ : ∃ tg, x - 1 = tg := ⟨_, rfl⟩
      have zx : IntKind.i64.wrap (x - 1) = tg := by rw [IntKind.wrap_i64]; omega
      go_wp2_with fail
      (try rw [htg])
      go_loopw [8] (fun v wr => ∃ y : Nat, y ≤ 20 ∧ v = .int .i64 y ∧ Gr g W wr ∧ DeckOk wr g ∧ ∃ (gl cl gx cx : Nat) (c : Ct), Out wr gc B n gl cl gx cx c ∧ CtW P C n st c) (fun v _ => (intOf v).toNat)
      case atStart => exact ⟨Y, by omega, rfl, hG6, hd6, gl, cl, gx, cx, c, O6, hV⟩
      case round =>
        clear hV O6 hG6 hd6 y0 y1
        obtain ⟨y, hy, rfl, hGs, hds, gl, cl, gx, cx, c, Os, hV⟩ := hrel
        by_cases hly : 0 < y
        · have hlyZ : (0 : Int) < y := by omega
          have Js := hGs.blk BJ (by omega)
          have j0 := Js.at 0 rfl
          have j1 := Js.at 1 rfl
          have j2 := Js.at 2 rfl
          have o0 := Os.blk.at 0 rfl
          have o1 := Os.blk.at 1 rfl
          have o2 := Os.blk.at 2 rfl
          have o3 := Os.blk.at 3 rfl
          go_wp2_with fail
          refine (cstep_any A Bc (some ⟨gl, 0, none⟩) (some ⟨gx, 0, none⟩) cP d cl cx n P C c st tg _ hj hV.v (hP1.gr hGs hA) (hC1.gr hGs hB) Os.li.prs Os.nx.ints).mono ?_
          rintro e W7 ⟨v7, rfl, hb7, gl7, cl7, gx7, cx7, rfl, hgl7, hgx7, LI7, NX7⟩
          clear j0 j1 j2 o0 o1 o2 o3
          have hG7 := hGs.trans (Gr.of_below hb7)
          have hd7 := hds.below hb7
          have B7 := Os.blk.below hb7
          have hV7 := step_w hj hjv hV tg
          have hgl7l := LI7.lt
          have hgx7l := NX7.lt
          have hgcl := Os.blk.lt
          have hs7 := hGs.size
          generalize stepC P C n c tg = c7 at *
          go_wp2_with (refine step_store_ct (by rfl) (by rfl) (by rfl) (b := gc) (by rfl) (by rfl) B7 ?_; intro W8 B8 hg8; have hG8 := hG7.more hd7 hgW hg8 (fun k e => (by injection e with e; omega)); have O8 : Out W8 gc B n gl7 cl7 gx7 cx7 c7 := ⟨B8, LI7.grown hg8 (by intro e; injection e with e; omega), NX7.grown hg8 (by intro e; injection e with e; omega), by omega, by omega, by omega, by omega⟩; clear hg8 B8)
          go_roundw
          case rel => exact ⟨y - 1, by omega, by go_num, hG8.1, hG8.2, gl7, cl7, gx7, cx7, c7, O8, hV7⟩
          case measure => simp [intOf]; omega
        · have hlyZ : ¬ (0 : Int) < y := by omega
          go_wp2
          go_roundw
          case rel => exact ⟨k - 1, by omega, by go_num, hGs, hds, gl, cl, gx, cx, c, Os, hV⟩
          case measure => simp [intOf]; omega
    · have hlkZ : ¬ (0 : Int) < k := by omega
      have o0 := Or.blk.at 0 rfl
      have o1 := Or.blk.at 1 rfl
      have o2 := Or.blk.at 2 rfl
      have o3 := Or.blk.at 3 rfl
      have R9 := hGr.blk BR (by omega)
      go_wp2_with (refine step_store_ct (by rfl) (by rfl) (by rfl) (b := w.heap.size + 1) (by rfl) (by rfl) R9 ?_; intro w9 Z9 hg9)
      refine bodyPost_ret (results_cell rfl rfl (load_control Z9)) rfl ?_
      have hF9 := (hGW.trans hGr).more (hGr.2 (hGW.2 hdk)) hg hg9 (fun k e => by injection e with e; omega)
      have hbl := Or.bl
      have hbx := Or.bx
      have hWw := hGW.size
      have hBW := HBB.out
      exact ⟨_, rfl, hF9.1, hF9.2, c, hV, gl, cl, gx, cx, rfl, by omega, by omega, Or.li.grown hg9 (by intro e; injection e with e; omega), Or.nx.grown hg9 (by intro e; injection e with e; omega)⟩

def Z4w : Array Value := #[.slice none 0 0, .int .i64 0, .slice none 0 0, .int .i64 0]
structure JW (W : World) (B n : Nat) (P : List Ph) (C : List Int) (st : Int) (s1 jv : Value) (lst : Nat → Bool) (vs : Nat → Value) (w : World) : Prop where
  grew : Below B W w
  big : B ≤ w.heap.size
  v0 : lst 0 = true → vs 0 = s1
  v1 : lst 1 = true → ∃ g, vs 1 = .pointer (some ⟨g, 0, none⟩) ∧ B ≤ g ∧ g < w.heap.size ∧ (lst 3 = false → DeckOk w g)
  v2 : lst 2 = true → vs 2 = jv
  v3 : lst 3 = true → ∃ c, CtW P C n st c ∧ CtH w B n (vs 3) c
  v4 : lst 4 = true → ∃ g, vs 4 = .pointer (some ⟨g, 0, none⟩) ∧ B ≤ g ∧ (lst 5 = false → Blk w g 25 Z4w) ∧ (lst 5 = true → ∃ cs, vs 3 = .agg cs ∧ Blk w g 25 cs)
  ne : lst 1 = true → lst 4 = true → vs 1 ≠ vs 4
  o31 : lst 3 = true → lst 1 = true
  o5 : lst 5 = true → lst 3 = true ∧ lst 4 = true
theorem JW.start {W : World} {B n : Nat} {P : List Ph} {C : List Int} {st : Int} {s1 jv : Value} (hB : B = W.heap.size) (vs : Nat → Value) : JW W B n P C st s1 jv (fun _ => false) vs (W.drewN 1) := by
  subst hB
  exact ⟨below_drewN (Below.refl _ _), Nat.le_refl _, fun h => by (cases h), fun h => by (cases h), fun h => by (cases h), fun h => by (cases h), fun h => by (cases h), fun h => by (cases h), fun h => by (cases h), fun h => by (cases h)⟩
section
variable {W : World} {B n : Nat} {P : List Ph} {C : List Int} {st : Int} {s1 jv : Value} {lst : Nat → Bool} {vs : Nat → Value} {w : World}
theorem JW.op0 {v : Value} (h : JW W B n P C st s1 jv lst vs w) (hv : v = s1) : JW W B n P C st s1 jv (fun i => decide (i = 0) || lst i) (fun i => if i = 0 then v else vs i) w := by
  obtain ⟨a, b, c0, c1, c2, c3, c4, d, e, f⟩ := h
  exact ⟨a, b, fun _ => by simpa using hv, by simpa using c1, by simpa using c2, by simpa using c3, by simpa using c4, by simpa using d, by simpa using e, by simpa using f⟩
theorem JW.op2 {v : Value} (h : JW W B n P C st s1 jv lst vs w) (hv : v = jv) : JW W B n P C st s1 jv (fun i => decide (i = 2) || lst i) (fun i => if i = 2 then v else vs i) w := by
  obtain ⟨a, b, c0, c1, c2, c3, c4, d, e, f⟩ := h
  exact ⟨a, b, by simpa using c0, by simpa using c1, fun _ => by simpa using hv, by simpa using c3, by simpa using c4, by simpa using d, by simpa using e, by simpa using f⟩
theorem JW.op1 {v : Value} {w' : World} (h : JW W B n P C st s1 jv lst vs w) (hl : lst 1 = false) (hv : v = .pointer (some ⟨w.heap.size, 0, none⟩)) (hd : DeckOk w' w.heap.size) (hb : Below w.heap.size w w') :
    JW W B n P C st s1 jv (fun i => decide (i = 1) || lst i) (fun i => if i = 1 then v else vs i) w' := by
  obtain ⟨a, b, c0, c1, c2, c3, c4, d, e, f⟩ := h
  have h3 : lst 3 = false := by
    cases hx : lst 3 with
    | false => rfl
    | true => have := e hx; rw [hl] at this; cases this
  have hlt := hd.lt
  refine ⟨a.trans (hb.mono b), Nat.le_trans b hb.size, by simpa using c0, fun _ => ⟨w.heap.size, by simpa using hv, b, hlt, fun _ => hd⟩, by simpa using c2, fun hx => ?_, fun hx => ?_, fun _ hx => ?_, fun hx => ?_, by simpa using f⟩
  · have hx : lst 3 = true := by simpa using hx
    rw [h3] at hx; cases hx
  · have hx : lst 4 = true := by simpa using hx
    obtain ⟨g, g1, g2, g3, g4⟩ := c4 hx
    refine ⟨g, by simpa using g1, g2, fun h5 => (g3 (by simpa using h5)).below hb, fun h5 => ?_⟩
    have h5 : lst 5 = true := by simpa using h5
    have := (f h5).1; rw [h3] at this; cases this
  · have hx : lst 4 = true := by simpa using hx
    obtain ⟨g, g1, g2, g3, g4⟩ := c4 hx
    simp only [if_true, show ¬ (4 : Nat) = 1 by decide, if_false]
    intro he
    rw [hv, g1] at he
    injection he with he; injection he with he; injection he with he
    cases h5 : lst 5 with
    | false => have := (g3 h5).lt; omega
    | true => have := (f h5).1; rw [h3] at this; cases this
  · have hx : lst 3 = true := by simpa using hx
    rw [h3] at hx; cases hx
theorem JW.op3 {v : Value} {w' : World} {g : Nat} {c : Ct} (h : JW W B n P C st s1 jv lst vs w) (hW : W.heap.size = B) (hl : lst 3 = false) (h1 : lst 1 = true) (hg : vs 1 = .pointer (some ⟨g, 0, none⟩)) (hgB : B ≤ g) (hgr : Gr g w w') (hc : CtW P C n st c) (hh : CtH w' w.heap.size n v c) :
    JW W B n P C st s1 jv (fun i => decide (i = 3) || lst i) (fun i => if i = 3 then v else vs i) w' := by
  obtain ⟨a, b, c0, c1, c2, c3, c4, d, e, f⟩ := h
  have h5 : lst 5 = false := by
    cases hx : lst 5 with
    | false => rfl
    | true => have := (f hx).1; rw [hl] at this; cases this
  have hs := hgr.size
  subst hW
  refine ⟨hgr.base a hgB, Nat.le_trans b hs, by simpa using c0, fun hx => ?_, by simpa using c2, fun _ => ⟨c, hc, ?_⟩, fun hx => ?_, by simpa using d, fun _ => by simpa using h1, fun hx => ?_⟩
  · obtain ⟨g', g1, g2, g3, _⟩ := c1 h1
    refine ⟨g', by simpa using g1, g2, by omega, fun hx => ?_⟩
    simp at hx
  · simp only [if_true]
    obtain ⟨gl, cl, gx, cx, q1, q2, q3, q4, q5⟩ := hh
    exact ⟨gl, cl, gx, cx, q1, by omega, by omega, q4, q5⟩
  · have hx : lst 4 = true := by simpa using hx
    obtain ⟨g', g1, g2, g3, g4⟩ := c4 hx
    refine ⟨g', by simpa using g1, g2, fun _ => ?_, fun hy => ?_⟩
    · exact hgr.blk (g3 h5) (fun he => d h1 hx (by rw [hg, g1, he]))
    · have hy : lst 5 = true := by simpa using hy
      rw [h5] at hy; cases hy
  · have hx : lst 5 = true := by simpa using hx
    rw [h5] at hx; cases hx
theorem JW.op4 {v : Value} (h : JW W B n P C st s1 jv lst vs w) (hl : lst 4 = false) (hv : v = .pointer (some ⟨w.heap.size, 0, none⟩)) :
    JW W B n P C st s1 jv (fun i => decide (i = 4) || lst i) (fun i => if i = 4 then v else vs i) (w.alloc (.cells Z4w 25)) := by
  obtain ⟨a, b, c0, c1, c2, c3, c4, d, e, f⟩ := h
  have hb := lat_alloc (Below.refl w.heap.size w) (.cells Z4w 25)
  have h5 : lst 5 = false := by
    cases hx : lst 5 with
    | false => rfl
    | true => have := (f hx).2; rw [hl] at this; cases this
  refine ⟨a.trans (hb.mono b), Nat.le_trans b hb.size, by simpa using c0, fun hx => ?_, by simpa using c2, fun hx => ?_, fun _ => ⟨w.heap.size, by simpa using hv, b, fun _ => Blk.new, fun hy => ?_⟩, fun hx _ => ?_, by simpa using e, fun hx => ?_⟩
  · have hx : lst 1 = true := by simpa using hx
    obtain ⟨g, g1, g2, g3, g4⟩ := c1 hx
    exact ⟨g, by simpa using g1, g2, Nat.lt_of_lt_of_le g3 hb.size, fun hy => (g4 (by simpa using hy)).below hb⟩
  · have hx : lst 3 = true := by simpa using hx
    obtain ⟨c, q1, q2⟩ := c3 hx
    exact ⟨c, q1, by simpa using q2.below hb⟩
  · have hy : lst 5 = true := by simpa using hy
    rw [h5] at hy; cases hy
  · have hx : lst 1 = true := by simpa using hx
    obtain ⟨g, g1, g2, g3, g4⟩ := c1 hx
    simp only [if_true, show ¬ (1 : Nat) = 4 by decide, if_false]
    intro he
    rw [hv, g1] at he
    injection he with he; injection he with he; injection he with he
    omega
  · have hx : lst 5 = true := by simpa using hx
    rw [h5] at hx; cases hx
theorem JW.op5 {w' : World} {g : Nat} {cs : Array Value} (h : JW W B n P C st s1 jv lst vs w) (hl : lst 5 = false) (h3 : lst 3 = true) (h4 : lst 4 = true) (hg : vs 4 = .pointer (some ⟨g, 0, none⟩)) (hc : vs 3 = .agg cs) (hgr : w.grownBy w' (some g)) (hB : Blk w' g 25 cs) :
    JW W B n P C st s1 jv (fun i => decide (i = 5) || lst i) (fun i => if i = 5 then undef else vs i) w' := by
  obtain ⟨a, b, c0, c1, c2, c3, c4, d, e, f⟩ := h
  obtain ⟨g', q1, q2, q3, _⟩ := c4 h4
  have he : g' = g := by rw [hg] at q1; injection q1 with q1; injection q1 with q1; injection q1 with q1; exact q1.symm
  subst he
  have hb4 := q3 hl
  refine ⟨Below.grown a hgr b (fun k hk => by injection hk with hk; omega), Nat.le_trans b hgr.size, by simpa using c0, fun hx => ?_, by simpa using c2, fun _ => ?_, fun _ => ⟨g', by simpa using hg, q2, fun hy => ?_, fun _ => ⟨cs, by simpa using hc, hB⟩⟩, by simpa using d, by simpa using e, fun _ => by simp [h3, h4]⟩
  · have hx : lst 1 = true := by simpa using hx
    obtain ⟨k, g1, g2, g3, _⟩ := c1 hx
    refine ⟨k, by simpa using g1, g2, Nat.lt_of_lt_of_le g3 hgr.size, fun hy => ?_⟩
    have hy : lst 3 = false := by simpa using hy
    rw [h3] at hy; cases hy
  · obtain ⟨c, r1, gl, cl, gx, cx, r2, r3, r4, r5, r6⟩ := c3 h3
    refine ⟨c, r1, gl, cl, gx, cx, by simpa using r2, r3, r4, r5.grown hgr (fun hh => ?_), r6.grown hgr (fun hh => ?_)⟩
    · injection hh with hh
      obtain ⟨ds, hd, _⟩ := r5
      rw [← hh] at hd
      have := hd.symm.trans hb4
      injection this with this; injection this with _ this; exact absurd this (by decide)
    · injection hh with hh
      obtain ⟨ds, hd, _⟩ := r6
      rw [← hh] at hd
      have := hd.symm.trans hb4
      injection this with this; injection this with _ this; exact absurd this (by decide)
  · simp at hy
end
end Go.Proofs.Ytkpbkahmbbkcdaa
