/-
  A statement whose order is open that makes a deck, draws a control from it and lays a signal that holds it. Conditions: none.
-/
import Derived.Test.YtncmikkobngfeaaJs
namespace Go.Proofs.Ytncmikkobngfeaa
open Go.ChangeShapes Go.WideShapes Go.ChangeAt Go.RowKit
set_option linter.unusedVariables false

def Z5c : Array Value := #[.slice none 0 0, .int .i64 0, .slice none 0 0, .int .i64 0, .bool false]
structure JR (W : World) (B n : Nat) (P : List Ph) (C : List Int) (st : Int) (s1 jv : Value) (lst : Nat → Bool) (vs : Nat → Value) (w : World) : Prop where
  grew : Below B W w
  big : B ≤ w.heap.size
  v0 : lst 0 = true → vs 0 = s1
  v1 : lst 1 = true → ∃ g, vs 1 = .pointer (some ⟨g, 0, none⟩) ∧ B ≤ g ∧ g < w.heap.size ∧ (lst 3 = false → DeckOk w g)
  v2 : lst 2 = true → vs 2 = jv
  v3 : lst 3 = true → ∃ c, CtV P C n st c ∧ CtH w B n (vs 3) c
  v4 : lst 4 = true → ∃ c, CtV P C n st c ∧ SgH w B n (vs 4) c false
  v5 : lst 5 = true → ∃ g, vs 5 = .pointer (some ⟨g, 0, none⟩) ∧ B ≤ g ∧ (lst 6 = false → Blk w g 27 Z5c) ∧ (lst 6 = true → ∃ cs, vs 4 = .agg cs ∧ Blk w g 27 cs)
  ne : lst 1 = true → lst 5 = true → vs 1 ≠ vs 5
  o31 : lst 3 = true → lst 1 = true
  o4 : lst 4 = true → lst 3 = true
  o6 : lst 6 = true → lst 4 = true ∧ lst 5 = true
theorem JR.start {W : World} {B n : Nat} {P : List Ph} {C : List Int} {st : Int} {s1 jv : Value} (hB : B = W.heap.size) (vs : Nat → Value) : JR W B n P C st s1 jv (fun _ => false) vs (W.drewN 1) := by
  subst hB
  exact ⟨below_drewN (Below.refl _ _), Nat.le_refl _, fun h => by (cases h), fun h => by (cases h), fun h => by (cases h), fun h => by (cases h), fun h => by (cases h), fun h => by (cases h), fun h => by (cases h), fun h => by (cases h), fun h => by (cases h), fun h => by (cases h)⟩
section
variable {W : World} {B n : Nat} {P : List Ph} {C : List Int} {st : Int} {s1 jv : Value} {lst : Nat → Bool} {vs : Nat → Value} {w : World}
theorem JR.op0 {v : Value} (h : JR W B n P C st s1 jv lst vs w) (hv : v = s1) : JR W B n P C st s1 jv (fun i => decide (i = 0) || lst i) (fun i => if i = 0 then v else vs i) w := by
  obtain ⟨a, b, c0, c1, c2, c3, c4, c5, d, e, e4, f⟩ := h
  exact ⟨a, b, fun _ => by simpa using hv, by simpa using c1, by simpa using c2, by simpa using c3, by simpa using c4, by simpa using c5, by simpa using d, by simpa using e, by simpa using e4, by simpa using f⟩
theorem JR.op2 {v : Value} (h : JR W B n P C st s1 jv lst vs w) (hv : v = jv) : JR W B n P C st s1 jv (fun i => decide (i = 2) || lst i) (fun i => if i = 2 then v else vs i) w := by
  obtain ⟨a, b, c0, c1, c2, c3, c4, c5, d, e, e4, f⟩ := h
  exact ⟨a, b, by simpa using c0, by simpa using c1, fun _ => by simpa using hv, by simpa using c3, by simpa using c4, by simpa using c5, by simpa using d, by simpa using e, by simpa using e4, by simpa using f⟩
theorem JR.op4 {v : Value} {c : Ct} (h : JR W B n P C st s1 jv lst vs w) (hl : lst 4 = false) (h3 : lst 3 = true) (hc : CtV P C n st c) (hh : SgH w B n v c false) : JR W B n P C st s1 jv (fun i => decide (i = 4) || lst i) (fun i => if i = 4 then v else vs i) w := by
  obtain ⟨a, b, c0, c1, c2, c3, c4, c5, d, e, e4, f⟩ := h
  have h6 : lst 6 = false := by
    cases hx : lst 6 with
    | false => rfl
    | true => have := (f hx).1; rw [hl] at this; cases this
  refine ⟨a, b, by simpa using c0, by simpa using c1, by simpa using c2, by simpa using c3, fun _ => ⟨c, hc, by simpa using hh⟩, fun hx => ?_, by simpa using d, by simpa using e, fun _ => by simpa using h3, fun hx => ?_⟩
  · have hx : lst 5 = true := by simpa using hx
    obtain ⟨g, g1, g2, g3, g4⟩ := c5 hx
    refine ⟨g, by simpa using g1, g2, fun _ => g3 h6, fun hy => ?_⟩
    have hy : lst 6 = true := by simpa using hy
    rw [h6] at hy; cases hy
  · have hx : lst 6 = true := by simpa using hx
    rw [h6] at hx; cases hx
theorem JR.op1 {v : Value} {w' : World} (h : JR W B n P C st s1 jv lst vs w) (hl : lst 1 = false) (hv : v = .pointer (some ⟨w.heap.size, 0, none⟩)) (hd : DeckOk w' w.heap.size) (hb : Below w.heap.size w w') :
    JR W B n P C st s1 jv (fun i => decide (i = 1) || lst i) (fun i => if i = 1 then v else vs i) w' := by
  obtain ⟨a, b, c0, c1, c2, c3, c4, c5, d, e, e4, f⟩ := h
  have h3 : lst 3 = false := by
    cases hx : lst 3 with
    | false => rfl
    | true => have := e hx; rw [hl] at this; cases this
  have h4 : lst 4 = false := by
    cases hx : lst 4 with
    | false => rfl
    | true => have := e4 hx; rw [h3] at this; cases this
  have h6 : lst 6 = false := by
    cases hx : lst 6 with
    | false => rfl
    | true => have := (f hx).1; rw [h4] at this; cases this
  have hlt := hd.lt
  refine ⟨a.trans (hb.mono b), Nat.le_trans b hb.size, by simpa using c0, fun _ => ⟨w.heap.size, by simpa using hv, b, hlt, fun _ => hd⟩, by simpa using c2, fun hx => ?_, fun hx => ?_, fun hx => ?_, fun _ hx => ?_, fun hx => ?_, by simpa using e4, by simpa using f⟩
  · have hx : lst 3 = true := by simpa using hx
    rw [h3] at hx; cases hx
  · have hx : lst 4 = true := by simpa using hx
    rw [h4] at hx; cases hx
  · have hx : lst 5 = true := by simpa using hx
    obtain ⟨g, g1, g2, g3, g4⟩ := c5 hx
    refine ⟨g, by simpa using g1, g2, fun h5 => (g3 (by simpa using h5)).below hb, fun h5 => ?_⟩
    have h5 : lst 6 = true := by simpa using h5
    rw [h6] at h5; cases h5
  · have hx : lst 5 = true := by simpa using hx
    obtain ⟨g, g1, g2, g3, g4⟩ := c5 hx
    simp only [if_true, show ¬ (5 : Nat) = 1 by decide, if_false]
    intro he
    rw [hv, g1] at he
    injection he with he; injection he with he; injection he with he
    have := (g3 h6).lt; omega
  · have hx : lst 3 = true := by simpa using hx
    rw [h3] at hx; cases hx
theorem JR.op3 {v : Value} {w' : World} {g : Nat} {c : Ct} (h : JR W B n P C st s1 jv lst vs w) (hW : W.heap.size = B) (hl : lst 3 = false) (h1 : lst 1 = true) (hg : vs 1 = .pointer (some ⟨g, 0, none⟩)) (hgB : B ≤ g) (hgr : Gr g w w') (hc : CtV P C n st c) (hh : CtH w' w.heap.size n v c) :
    JR W B n P C st s1 jv (fun i => decide (i = 3) || lst i) (fun i => if i = 3 then v else vs i) w' := by
  obtain ⟨a, b, c0, c1, c2, c3, c4, c5, d, e, e4, f⟩ := h
  have h4 : lst 4 = false := by
    cases hx : lst 4 with
    | false => rfl
    | true => have := e4 hx; rw [hl] at this; cases this
  have h6 : lst 6 = false := by
    cases hx : lst 6 with
    | false => rfl
    | true => have := (f hx).1; rw [h4] at this; cases this
  have hs := hgr.size
  subst hW
  refine ⟨hgr.base a hgB, Nat.le_trans b hs, by simpa using c0, fun hx => ?_, by simpa using c2, fun _ => ⟨c, hc, ?_⟩, fun hx => ?_, fun hx => ?_, by simpa using d, fun _ => by simpa using h1, fun hx => ?_, fun hx => ?_⟩
  · obtain ⟨g', g1, g2, g3, _⟩ := c1 h1
    refine ⟨g', by simpa using g1, g2, by omega, fun hx => ?_⟩
    simp at hx
  · simp only [if_true]
    obtain ⟨gl, cl, gx, cx, q1, q2, q3, q4, q5⟩ := hh
    exact ⟨gl, cl, gx, cx, q1, by omega, by omega, q4, q5⟩
  · have hx : lst 4 = true := by simpa using hx
    rw [h4] at hx; cases hx
  · have hx : lst 5 = true := by simpa using hx
    obtain ⟨g', g1, g2, g3, g4⟩ := c5 hx
    refine ⟨g', by simpa using g1, g2, fun _ => ?_, fun hy => ?_⟩
    · exact hgr.blk (g3 h6) (fun he => d h1 hx (by rw [hg, g1, he]))
    · have hy : lst 6 = true := by simpa using hy
      rw [h6] at hy; cases hy
  · have hx : lst 4 = true := by simpa using hx
    rw [h4] at hx; cases hx
  · have hx : lst 6 = true := by simpa using hx
    rw [h6] at hx; cases hx
theorem JR.op5 {v : Value} (h : JR W B n P C st s1 jv lst vs w) (hl : lst 5 = false) (hv : v = .pointer (some ⟨w.heap.size, 0, none⟩)) :
    JR W B n P C st s1 jv (fun i => decide (i = 5) || lst i) (fun i => if i = 5 then v else vs i) (w.alloc (.cells Z5c 27)) := by
  obtain ⟨a, b, c0, c1, c2, c3, c4, c5, d, e, e4, f⟩ := h
  have hb := lat_alloc (Below.refl w.heap.size w) (.cells Z5c 27)
  have h6 : lst 6 = false := by
    cases hx : lst 6 with
    | false => rfl
    | true => have := (f hx).2; rw [hl] at this; cases this
  refine ⟨a.trans (hb.mono b), Nat.le_trans b hb.size, by simpa using c0, fun hx => ?_, by simpa using c2, fun hx => ?_, fun hx => ?_, fun _ => ⟨w.heap.size, by simpa using hv, b, fun _ => Blk.new, fun hy => ?_⟩, fun hx _ => ?_, by simpa using e, by simpa using e4, fun hx => ?_⟩
  · have hx : lst 1 = true := by simpa using hx
    obtain ⟨g, g1, g2, g3, g4⟩ := c1 hx
    exact ⟨g, by simpa using g1, g2, Nat.lt_of_lt_of_le g3 hb.size, fun hy => (g4 (by simpa using hy)).below hb⟩
  · have hx : lst 3 = true := by simpa using hx
    obtain ⟨c, q1, q2⟩ := c3 hx
    exact ⟨c, q1, by simpa using q2.below hb⟩
  · have hx : lst 4 = true := by simpa using hx
    obtain ⟨c, q1, q2⟩ := c4 hx
    exact ⟨c, q1, by simpa using q2.below hb⟩
  · have hy : lst 6 = true := by simpa using hy
    rw [h6] at hy; cases hy
  · have hx : lst 1 = true := by simpa using hx
    obtain ⟨g, g1, g2, g3, g4⟩ := c1 hx
    simp only [if_true, show ¬ (1 : Nat) = 5 by decide, if_false]
    intro he
    rw [hv, g1] at he
    injection he with he; injection he with he; injection he with he
    omega
  · have hx : lst 6 = true := by simpa using hx
    rw [h6] at hx; cases hx
theorem JR.op6 {w' : World} {g : Nat} {cs : Array Value} (h : JR W B n P C st s1 jv lst vs w) (hl : lst 6 = false) (h4 : lst 4 = true) (h5 : lst 5 = true) (hg : vs 5 = .pointer (some ⟨g, 0, none⟩)) (hc : vs 4 = .agg cs) (hgr : w.grownBy w' (some g)) (hst : Blk w' g 27 cs) :
    JR W B n P C st s1 jv (fun i => decide (i = 6) || lst i) (fun i => if i = 6 then undef else vs i) w' := by
  obtain ⟨a, b, c0, c1, c2, c3, c4, c5, d, e, e4, f⟩ := h
  obtain ⟨g', q1, q2, q3, _⟩ := c5 h5
  have he : g' = g := by rw [hg] at q1; injection q1 with q1; injection q1 with q1; injection q1 with q1; exact q1.symm
  subst he
  have hb5 := q3 hl
  have h3 := e4 h4
  have nb : ∀ (b : Nat) (ds : Array Value) (t : TypeId), Blk w b t ds → t ≠ 27 → b ≠ g' := fun b ds t hd ht e => by
    rw [e] at hd
    have := hd.symm.trans hb5
    injection this with this; injection this with _ this; exact ht this
  refine ⟨Below.grown a hgr b (fun k hk => by injection hk with hk; omega), Nat.le_trans b hgr.size, by simpa using c0, fun hx => ?_, by simpa using c2, fun _ => ?_, fun _ => ?_, fun _ => ⟨g', by simpa using hg, q2, fun hy => ?_, fun _ => ⟨cs, by simpa using hc, hst⟩⟩, by simpa using d, by simpa using e, by simpa using e4, fun _ => ⟨by simpa using h4, by simpa using h5⟩⟩
  · have hx : lst 1 = true := by simpa using hx
    obtain ⟨k, g1, g2, g3, _⟩ := c1 hx
    refine ⟨k, by simpa using g1, g2, Nat.lt_of_lt_of_le g3 hgr.size, fun hy => ?_⟩
    have hy : lst 3 = false := by simpa using hy
    rw [h3] at hy; cases hy
  · obtain ⟨c, r1, gl, cl, gx, cx, r2, r3, r4, r5, r6⟩ := c3 h3
    refine ⟨c, r1, gl, cl, gx, cx, by simpa using r2, r3, r4, r5.grown hgr (fun hh => ?_), r6.grown hgr (fun hh => ?_)⟩
    · injection hh with hh
      obtain ⟨ds, hd, _⟩ := r5
      exact nb _ _ _ hd (by decide) hh.symm
    · injection hh with hh
      obtain ⟨ds, hd, _⟩ := r6
      exact nb _ _ _ hd (by decide) hh.symm
  · obtain ⟨c, r1, gl, cl, gx, cx, r2, r3, r4, r5, r6⟩ := c4 h4
    refine ⟨c, r1, gl, cl, gx, cx, by simpa using r2, r3, r4, r5.grown hgr (fun hh => ?_), r6.grown hgr (fun hh => ?_)⟩
    · injection hh with hh
      obtain ⟨ds, hd, _⟩ := r5
      exact nb _ _ _ hd (by decide) hh.symm
    · injection hh with hh
      obtain ⟨ds, hd, _⟩ := r6
      exact nb _ _ _ hd (by decide) hh.symm
  · simp at hy
end
end Go.Proofs.Ytncmikkobngfeaa
