/-
  Without a target each ring begins its phases of a group in ascending order, and groups follow one another. Conditions: a valid junction.
-/
import Derived.Test.YtkpbkahmbbkcdaaGw
namespace Go.Proofs.Ytkpbkahmbbkcdaa
open Go.ChangeShapes Go.WideShapes Go.RowKit
set_option linter.unusedVariables false

theorem firstGt_gt (p : Int) : ∀ O : List Int, firstGt O p = -1 ∨ p < firstGt O p
  | [] => .inl rfl
  | x :: l => by
    rw [firstGt]; split
    · rename_i h; exact .inr h
    · exact firstGt_gt p l
theorem firstGt_ex (p : Int) : ∀ O : List Int, (∃ x ∈ O, p < x) → p < firstGt O p
  | [], h => by obtain ⟨x, hx, _⟩ := h; exact absurd hx (by simp)
  | y :: l, h => by
    rw [firstGt]; split
    · rename_i h2; exact h2
    · rename_i h2
      obtain ⟨x, hx, hp⟩ := h
      rcases List.mem_cons.1 hx with rfl | h3
      · exact absurd hp h2
      · exact firstGt_ex p l ⟨x, h3, hp⟩
theorem ofL_has (P : List Ph) (r g : Int) {i : Nat} (hr : (phAt P i).ri = r) (hg : (phAt P i).gr = g) : ∀ n, i < n → (i : Int) ∈ ofL P r g n
  | 0, h => absurd h (by omega)
  | n + 1, h => by
    rw [ofL]
    by_cases e : i = n
    · subst e; rw [if_pos ⟨hr, hg⟩]; simp
    · have ih := ofL_has P r g hr hg n (by omega)
      split
      · exact List.mem_append_left _ ih
      · exact ih
theorem nxL_eq (P : List Ph) (n : Nat) (g : Int) {r : Nat} (h : r < 2) : at_ (nxL P n g 2) r = firstGt (ofL P (r : Nat) g n) (-1) := by
  have e : nxL P n g 2 = [firstGt (ofL P ((0 : Nat) : Int) g n) (-1), firstGt (ofL P ((1 : Nat) : Int) g n) (-1)] := rfl
  rw [e]
  rcases (by omega : r = 0 ∨ r = 1) with rfl | rfl <;> rfl
/-- A phase becomes green. -/
def NewG (c s : Ct) (p : Nat) : Prop := lmp c.li p ≠ 1 ∧ lmp s.li p = 1
/-- What the rings before r have begun, from e on. -/
structure OffI (P : List Ph) (n : Nat) (e d : Ct) (r : Nat) : Prop where
  gr : d.gr = e.gr
  nx : ∀ k, k < 2 → at_ d.nx k = at_ e.nx k ∨ (k < r ∧ ∃ q : Nat, q < n ∧ at_ e.nx k = q ∧ lmp e.li q = 0 ∧ lmp d.li q = 1 ∧ (phAt P q).ri = k ∧ (phAt P q).gr = e.gr ∧ (at_ d.nx k = -1 ∨ (q : Int) < at_ d.nx k))
  li : ∀ p, p < n → prAt d.li p = prAt e.li p ∨ (lmp d.li p = 1 ∧ lmp e.li p = 0 ∧ ∃ k, k < 2 ∧ (phAt P p).ri = (k : Nat) ∧ at_ e.nx k = (p : Nat) ∧ (phAt P p).gr = e.gr ∧ k < r ∧ (at_ d.nx k = -1 ∨ (p : Int) < at_ d.nx k))
theorem offC_i {P : List Ph} {C : List Int} {n : Nat} {st : Int} {c : Ct} (hj : JunC P C n st) (hv : CtV P C n st c) (hw : c.wt = 0) : ∀ r, r ≤ 2 → OffI P n c (offC P C n c r) r
  | 0, _ => ⟨rfl, fun _ _ => .inl rfl, fun _ _ => .inl rfl⟩
  | r + 1, hr => by
    have ih := offC_i hj hv hw r (by omega)
    have hc := (offC_v hj.rows hv hw hj.h1 hj.ri hj.gr r).1
    have stay : OffI P n c (offC P C n c r) (r + 1) := ⟨ih.gr, fun k hk => by
      rcases ih.nx k hk with h | ⟨h, h2⟩
      · exact .inl h
      · exact .inr ⟨by omega, h2⟩, fun p hp => by
      rcases ih.li p hp with h | ⟨h, h2, k, k1, k2, k3, k4, k5, k6⟩
      · exact .inl h
      · exact .inr ⟨h, h2, k, k1, k2, k3, k4, by omega, k6⟩⟩
    rw [off_succ]
    split
    · rename_i h2
      have hnr : at_ (offC P C n c r).nx r = at_ c.nx r := by
        rcases ih.nx r (by omega) with h | ⟨h, _⟩
        · exact h
        · omega
      rcases hc.nxt r (by omega) with h3 | ⟨q, hq, h3, h4, h5⟩
      · omega
      rw [h3, Int.toNat_natCast]
      unfold beginC
      by_cases hh : HinP C (offC P C n c r).li n q
      · rw [if_pos hh]; exact stay
      rw [if_neg hh]
      have hlen := hc.li
      have hnl := hc.nx
      have hl0 : lmp (offC P C n c r).li q = 0 := h2.1 q hq h4
      generalize offC P C n c r = d at *
      have hg : d.gr = (phAt P q).gr := h5.symm
      have hlm : ∀ p, prAt (d.li.set q (1, 0)) p = if p = q then (1, 0) else prAt d.li p := fun p => prAt_set (by omega) _ _
      have hcn : at_ c.nx r = q := by rw [← hnr, h3]
      have hgq : (phAt P q).gr = c.gr := by rw [h5]; exact ih.gr
      have hre : (phAt P q).ri.toNat = r := by rw [h4]; simp
      have hl1 : lmp (d.li.set q (1, 0)) q = 1 := by unfold lmp; rw [hlm, if_pos rfl]
      have hl2 : ∀ p, p ≠ q → lmp (d.li.set q (1, 0)) p = lmp d.li p := fun p hp => by unfold lmp; rw [hlm, if_neg hp]
      have hcq : lmp c.li q = 0 := by
        rcases ih.li q hq with h | ⟨_, h, _⟩
        · unfold lmp at hl0 ⊢; rw [← h]; exact hl0
        · exact h
      refine ⟨hgq, fun k hk => ?_, fun p hp => ?_⟩
      · show at_ (List.set (if d.gr ≠ (phAt P q).gr then _ else d.nx) _ _) k = _ ∨ (_ ∧ ∃ x : Nat, x < n ∧ _ ∧ _ ∧ lmp (d.li.set q (1, 0)) x = 1 ∧ _ ∧ _ ∧ (at_ (List.set (if d.gr ≠ (phAt P q).gr then _ else d.nx) _ _) k = -1 ∨ (x : Int) < at_ (List.set (if d.gr ≠ (phAt P q).gr then _ else d.nx) _ _) k))
        rw [if_neg (by rw [hg]; simp), hre, at_set (by omega)]
        by_cases e : k = r
        · subst e
          rw [if_pos rfl]
          exact .inr ⟨by omega, q, hq, hcn, hcq, hl1, h4, hgq, firstGt_gt _ _⟩
        · rw [if_neg e]
          rcases ih.nx k hk with h | ⟨h, x, x1, x2, x3, x4, x5, x6, x7⟩
          · exact .inl h
          · have hxq : x ≠ q := fun e2 => by rw [e2] at x4; rw [hl0] at x4; exact absurd x4 (by decide)
            exact .inr ⟨by omega, x, x1, x2, x3, by rw [hl2 x hxq]; exact x4, x5, x6, x7⟩
      · show prAt (d.li.set q (1, 0)) p = _ ∨ (lmp (d.li.set q (1, 0)) p = 1 ∧ _ ∧ ∃ k, k < 2 ∧ _ ∧ _ ∧ _ ∧ k < r + 1 ∧ (at_ (List.set (if d.gr ≠ (phAt P q).gr then _ else d.nx) _ _) k = -1 ∨ (p : Int) < at_ (List.set (if d.gr ≠ (phAt P q).gr then _ else d.nx) _ _) k))
        rw [if_neg (by rw [hg]; simp), hre]
        by_cases e : p = q
        · subst e
          exact .inr ⟨hl1, hcq, r, by omega, h4, hcn, hgq, by omega, by rw [at_set (by omega), if_pos rfl]; exact firstGt_gt _ _⟩
        · rw [hlm, if_neg e, hl2 p e]
          rcases ih.li p hp with h | ⟨h, x2, k, k1, k2, k3, k4, k5, k6⟩
          · exact .inl h
          · exact .inr ⟨h, x2, k, k1, k2, k3, k4, by omega, by rw [at_set (by omega), if_neg (by omega)]; exact k6⟩
    · exact stay
/-- What a step without a target does: eg, en are the group and Next behind an entry, if there is one. -/
structure OrdS (P : List Ph) (n : Nat) (c s : Ct) (eg : Int) (en : List Int) : Prop where
  bg : ∀ p, p < n → NewG c s p → (phAt P p).gr = eg ∧ ∃ k, k < 2 ∧ (phAt P p).ri = (k : Nat) ∧ at_ en k = (p : Nat) ∧ (at_ s.nx k = -1 ∨ (p : Int) < at_ s.nx k)
  ri : ∀ k, k < 2 → 0 ≤ at_ en k → (phAt P (at_ en k).toNat).ri = (k : Nat) ∧ (at_ en k).toNat < n
  nx : ∀ k, k < 2 → at_ s.nx k = at_ en k ∨ ∃ q : Nat, q < n ∧ at_ en k = q ∧ NewG c s q ∧ (at_ s.nx k = -1 ∨ (q : Int) < at_ s.nx k)
  gr : s.gr = eg
  en : (eg = c.gr ∧ en = c.nx) ∨ (eg = (c.gr + 1) % groupsI P n ∧ at_ c.nx 0 < 0 ∧ at_ c.nx 1 < 0 ∧ ∃ k, k < 2 ∧ 0 ≤ at_ en k)
theorem lamp_one {p : Ph} (hp : PhOk p) {a tk : Int} {lv : Bool} (h : LiOk p a tk) : (a ≠ 1 → (stepV p a tk lv).1 ≠ 1) ∧ ((stepV p a tk lv).1 = 0 → a ≠ 1) := by
  unfold LiOk at h
  rcases h with ⟨rfl, _⟩ | ⟨rfl, _⟩ | ⟨rfl, _⟩ | ⟨rfl, _⟩
  · refine ⟨fun h => absurd rfl h, ?_⟩
    simp only [stepV, if_true]
    split <;> simp
  · refine ⟨fun _ => ?_, fun _ => by decide⟩
    simp only [stepV, show ¬ (2 : Int) = 1 by decide, if_false, if_true]
    repeat' split
    all_goals simp
  · refine ⟨fun _ => ?_, fun _ => by decide⟩
    simp only [stepV, show ¬ (3 : Int) = 1 by decide, show ¬ (3 : Int) = 2 by decide, if_false, if_true]
    repeat' split
    all_goals simp
  · refine ⟨fun _ => ?_, fun _ => by decide⟩
    simp [stepV]
theorem ri_of {P : List Ph} {C : List Int} {n : Nat} {st : Int} {c : Ct} (hv : CtV P C n st c) (k : Nat) (hk : k < 2) (h : 0 ≤ at_ c.nx k) : (phAt P (at_ c.nx k).toNat).ri = (k : Nat) ∧ (at_ c.nx k).toNat < n := by
  rcases hv.nxt k hk with h1 | ⟨i, hi, h1, h2, _⟩
  · omega
  · rw [h1, Int.toNat_natCast]; exact ⟨h2, hi⟩
theorem ord_of {P : List Ph} {C : List Int} {n : Nat} {st : Int} {c e : Ct} (hj : JunC P C n st) (hv : CtV P C n st c) (he : CtV P C n st e) (hw : e.wt = 0) (hli : e.li = lightsL P C c.li n (-1) n)
    (hen : (e.gr = c.gr ∧ e.nx = c.nx) ∨ (e.gr = (c.gr + 1) % groupsI P n ∧ at_ c.nx 0 < 0 ∧ at_ c.nx 1 < 0 ∧ ∃ k, k < 2 ∧ 0 ≤ at_ e.nx k)) : OrdS P n c (offC P C n e 2) e.gr e.nx := by
  have ho := offC_i hj he hw 2 (Nat.le_refl 2)
  have hl : ∀ p, p < n → lmp e.li p = (stepV (phAt P p) (lmp c.li p) (tck c.li p) (leaveB P C c.li n (-1) p)).1 := fun p hp => by rw [hli]; exact (lights_lmp hv (-1) hp).1
  have h1 : ∀ p, p < n → lmp c.li p ≠ 1 → lmp e.li p ≠ 1 := fun p hp h => by rw [hl p hp]; exact (lamp_one (hj.pok p hp) (hv.ok p hp)).1 h
  have h0 : ∀ p, p < n → lmp e.li p = 0 → lmp c.li p ≠ 1 := fun p hp h => by rw [hl p hp] at h; exact (lamp_one (hj.pok p hp) (hv.ok p hp)).2 h
  refine ⟨fun p hp ⟨ha, hb⟩ => ?_, ri_of he, fun k hk => ?_, ho.gr, hen⟩
  · rcases ho.li p hp with h | ⟨_, _, k, hk, k1, k2, k3, _, k6⟩
    · exfalso
      apply h1 p hp ha
      unfold lmp at hb ⊢
      rw [← h]; exact hb
    · exact ⟨k3, k, hk, k1, k2, k6⟩
  · rcases ho.nx k hk with h | ⟨_, q, q1, q2, q3, q4, _, _, q7⟩
    · exact .inl h
    · exact .inr ⟨q, q1, q2, ⟨h0 q q1 q3, q4⟩, q7⟩
theorem ord_step {P : List Ph} {C : List Int} {n : Nat} {st : Int} {c : Ct} (hj : JunC P C n st) (hjv : JunV P C st) (hv : CtV P C n st c) : ∃ eg en, OrdS P n c (stepC P C n c (-1)) eg en := by
  have hwb := hv.wt
  unfold stepC
  by_cases hw : 0 < c.wt
  · rw [if_pos hw]
    refine ⟨c.gr, c.nx, fun p hp ⟨ha, hb⟩ => absurd hb ha, ri_of hv, fun k hk => .inl rfl, rfl, .inl ⟨rfl, rfl⟩⟩
  · rw [if_neg hw, if_neg (by omega)]
    have hw0 : c.wt = 0 := by omega
    have hd := lights_v hv hw0 hj.pok (-1)
    by_cases hf : setV (lightsL P C c.li n (-1) n) n = 0 ∧ at_ c.nx 0 < 0 ∧ at_ c.nx 1 < 0
    · simp only [if_pos hf]
      have hgp := groups_pos (P := P) (n := n) hj.h1 (fun i hi => (hj.gr i hi).1)
      have h2 := Int.emod_nonneg (c.gr + 1) (show groupsI P n ≠ 0 by omega)
      have h3 := Int.emod_lt_of_pos (c.gr + 1) hgp
      have hv2 : CtV P C n st ⟨lightsL P C c.li n (-1) n, (c.gr + 1) % groupsI P n, nxL P n ((c.gr + 1) % groupsI P n) 2, c.wt⟩ := ⟨hd.li, nxL_len _ _ _ _, ⟨h2, h3⟩, hd.wt, hd.ok, fun r hr => nxL_val P n _ r hr, hd.no, hd.red⟩
      refine ⟨_, _, ord_of hj hv hv2 hw0 rfl (.inr ⟨rfl, hf.2.1, hf.2.2, ?_⟩)⟩
      obtain ⟨i, hi, hg⟩ := hjv.de ((c.gr + 1) % groupsI P n).toNat (by rw [hj.len]; omega)
      rw [hj.len] at hi
      have hri := hj.ri i hi
      refine ⟨(phAt P i).ri.toNat, by omega, ?_⟩
      show 0 ≤ at_ (nxL P n ((c.gr + 1) % groupsI P n) 2) _
      rw [nxL_eq P n _ (by omega)]
      have := firstGt_ex (-1) (ofL P (((phAt P i).ri.toNat : Nat) : Int) ((c.gr + 1) % groupsI P n) n) ⟨i, ofL_has P _ _ (by omega) (by omega) n hi, by omega⟩
      omega
    · simp only [if_neg hf]
      exact ⟨_, _, ord_of hj hv hd hw0 rfl (.inl ⟨rfl, rfl⟩)⟩
/-- What the law holds between two steps; g: the number of groups. -/
def OutI (g : Int) (c : Ct) (L : List Int) (G : Int) : Prop := L.length = 2 ∧ ((g = 1 ∧ G = 0) ∨ (g ≠ 1 ∧ ((c.gr = G ∧ ∀ k, k < 2 → 0 ≤ at_ c.nx k → at_ L k < at_ c.nx k) ∨ (c.gr = (G + 1) % g ∧ c.gr ≠ G ∧ ∃ k, k < 2 ∧ 0 ≤ at_ c.nx k))))
/-- What it holds when the first p phases have been looked at. -/
def InnI (g : Int) (c s : Ct) (eg : Int) (en : List Int) (p : Nat) (L : List Int) (G : Int) : Prop := L.length = 2 ∧ ((g = 1 ∧ G = 0) ∨ (g ≠ 1 ∧
  ((G = eg ∧ ∀ k, k < 2 → 0 ≤ at_ en k → at_ L k < at_ en k ∨ (at_ L k = at_ en k ∧ at_ en k < p ∧ NewG c s (at_ en k).toNat)) ∨
   (eg = (G + 1) % g ∧ eg ≠ G ∧ (∃ k, k < 2 ∧ 0 ≤ at_ en k) ∧ ∀ q : Nat, q < p → ¬ NewG c s q))))
theorem mod_ne {g G : Int} (h0 : 0 ≤ G) (h1 : G < g) (h : g ≠ 1) : (G + 1) % g ≠ G := by
  by_cases e : G + 1 = g
  · rw [e, Int.emod_self]; omega
  · rw [Int.emod_eq_of_lt (by omega) (by omega)]; omega
theorem OutI.enter {P : List Ph} {n : Nat} {c s : Ct} {eg G : Int} {en L : List Int} (h : OutI (groupsI P n) c L G) (ho : OrdS P n c s eg en) (hc : 0 ≤ c.gr ∧ c.gr < groupsI P n) : InnI (groupsI P n) c s eg en 0 L G := by
  obtain ⟨hl, h | ⟨hg, h⟩⟩ := h
  · exact ⟨hl, .inl h⟩
  refine ⟨hl, .inr ⟨hg, ?_⟩⟩
  rcases ho.en with ⟨e1, e2⟩ | ⟨e1, e2, e3, e4⟩
  · rw [e1, e2]
    rcases h with ⟨h1, h2⟩ | ⟨h1, h2, h3⟩
    · exact .inl ⟨h1.symm, fun k hk h0 => .inl (h2 k hk h0)⟩
    · exact .inr ⟨h1, h2, h3, fun q hq => absurd hq (by omega)⟩
  · rcases h with ⟨h1, h2⟩ | ⟨h1, h2, k, hk, h3⟩
    · rw [h1] at e1 hc
      exact .inr ⟨e1, by rw [e1]; exact mod_ne hc.1 hc.2 hg, e4, fun q hq => absurd hq (by omega)⟩
    · exfalso
      rcases (by omega : k = 0 ∨ k = 1) with rfl | rfl <;> omega
theorem InnI.skip {g : Int} {c s : Ct} {eg G : Int} {en L : List Int} {p : Nat} (h : InnI g c s eg en p L G) (hp : ¬ NewG c s p) : InnI g c s eg en (p + 1) L G := by
  obtain ⟨hl, h | ⟨hg, h⟩⟩ := h
  · exact ⟨hl, .inl h⟩
  refine ⟨hl, .inr ⟨hg, ?_⟩⟩
  rcases h with ⟨h1, h2⟩ | ⟨h1, h2, h3, h4⟩
  · refine .inl ⟨h1, fun k hk h0 => ?_⟩
    rcases h2 k hk h0 with h | ⟨a, b, d⟩
    · exact .inl h
    · exact .inr ⟨a, by omega, d⟩
  · refine .inr ⟨h1, h2, h3, fun q hq => ?_⟩
    by_cases e : q = p
    · rw [e]; exact hp
    · exact h4 q (by omega)
theorem InnI.fin {P : List Ph} {n : Nat} {g : Int} {c s : Ct} {eg G : Int} {en L : List Int} (h : InnI g c s eg en n L G) (ho : OrdS P n c s eg en) : OutI g s L G := by
  obtain ⟨hl, h | ⟨hg, h⟩⟩ := h
  · exact ⟨hl, .inl h⟩
  refine ⟨hl, .inr ⟨hg, ?_⟩⟩
  rw [ho.gr]
  rcases h with ⟨h1, h2⟩ | ⟨h1, h2, ⟨k, hk, h3⟩, h4⟩
  · refine .inl ⟨h1.symm, fun k hk h0 => ?_⟩
    rcases ho.nx k hk with h | ⟨q, q1, q2, q3, q4⟩
    · rw [h] at h0 ⊢
      rcases h2 k hk h0 with h5 | ⟨a, b, d⟩
      · exact h5
      · obtain ⟨r1, r2⟩ := ho.ri k hk h0
        obtain ⟨_, k', _, r4, r5, r6⟩ := ho.bg _ r2 d
        have e : k' = k := by omega
        rw [e] at r5 r6
        rw [h] at r6
        rcases r6 with r6 | r6 <;> omega
    · have h5 := h2 k hk (by omega)
      rcases h5 with h5 | ⟨a, b, d⟩ <;> omega
  · refine .inr ⟨h1, h2, k, hk, ?_⟩
    rcases ho.nx k hk with h | ⟨q, q1, q2, q3, q4⟩
    · rw [h]; exact h3
    · exact absurd q3 (h4 q q1)
theorem InnI.lone {g : Int} {c s : Ct} {eg : Int} {en L : List Int} {p : Nat} (h : InnI g c s eg en p L 0) (hg : g = 1) (L' : List Int) (hl : L'.length = 2) : InnI g c s eg en (p + 1) L' 0 := ⟨hl, .inl ⟨hg, rfl⟩⟩
/-- A phase of another group than the last one's begins. -/
theorem InnI.other {P : List Ph} {n : Nat} {g : Int} {c s : Ct} {eg G : Int} {en L : List Int} {p k : Nat} (h : InnI g c s eg en p L G) (ho : OrdS P n c s eg en) (hp : p < n) (hn : NewG c s p) (hg : g ≠ 1) (hG : (phAt P p).gr ≠ G) (hk : (phAt P p).ri = (k : Nat)) (hk2 : k < 2) :
    (phAt P p).gr = (G + 1) % g ∧ InnI g c s eg en (p + 1) ([-1, -1].set k p) (phAt P p).gr := by
  obtain ⟨b1, k', b2, b3, b4, _⟩ := ho.bg p hp hn
  have e : k' = k := by omega
  rw [e] at b4
  obtain ⟨hl, h | ⟨_, h⟩⟩ := h
  · exact absurd h.1 hg
  rcases h with ⟨h1, h2⟩ | ⟨h1, h2, h3, h4⟩
  · exact absurd (by omega) hG
  · refine ⟨by omega, by rw [List.length_set]; rfl, .inr ⟨hg, .inl ⟨b1, fun j hj h0 => ?_⟩⟩⟩
    rw [at_set (by show k < 2; omega)]
    by_cases e2 : j = k
    · subst e2
      rw [if_pos rfl, b4]
      exact .inr ⟨rfl, by omega, by rw [Int.toNat_natCast]; exact hn⟩
    · rw [if_neg e2]
      left
      have : at_ [-1, -1] j = -1 := by rcases (by omega : j = 0 ∨ j = 1) with rfl | rfl <;> rfl
      omega
/-- One of the same group begins. -/
theorem InnI.same {P : List Ph} {n : Nat} {g : Int} {c s : Ct} {eg G : Int} {en L : List Int} {p k : Nat} (h : InnI g c s eg en p L G) (ho : OrdS P n c s eg en) (hp : p < n) (hn : NewG c s p) (hg : g ≠ 1) (hG : (phAt P p).gr = G) (hk : (phAt P p).ri = (k : Nat)) (hk2 : k < 2) :
    at_ L k < (p : Int) ∧ InnI g c s eg en (p + 1) (L.set k p) G := by
  obtain ⟨b1, k', b2, b3, b4, _⟩ := ho.bg p hp hn
  have e : k' = k := by omega
  rw [e] at b4
  obtain ⟨hl, h | ⟨_, h⟩⟩ := h
  · exact absurd h.1 hg
  rcases h with ⟨h1, h2⟩ | ⟨h1, h2, h3, h4⟩
  · have h5 := h2 k hk2 (by omega)
    have h6 : at_ L k < (p : Int) := by rcases h5 with h5 | ⟨a, b, d⟩ <;> omega
    refine ⟨h6, by rw [List.length_set]; exact hl, .inr ⟨hg, .inl ⟨h1, fun j hj h0 => ?_⟩⟩⟩
    rw [at_set (by omega)]
    by_cases e2 : j = k
    · subst e2
      rw [if_pos rfl, b4]
      exact .inr ⟨rfl, by omega, by rw [Int.toNat_natCast]; exact hn⟩
    · rw [if_neg e2]
      rcases h2 j hj h0 with h7 | ⟨a, b, d⟩
      · exact .inl h7
      · exact .inr ⟨a, by omega, d⟩
  · exact absurd (by omega) h2
end Go.Proofs.Ytkpbkahmbbkcdaa
