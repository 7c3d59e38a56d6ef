/-
  A statement whose order is open that makes a deck and draws a control from it. Conditions: none.
-/
import Derived.Test.YtohgnbpaffcpaaaMs
import Derived.Test.YtohgnbpaffcpaaaVl
namespace Go.Proofs.Ytohgnbpaffcpaaa
open Go.ChangeShapes Go.WideShapes Go.ChangeAt Go.RowKit
set_option linter.unusedVariables false

def Z4c : Array Value := #[.slice none 0 0, .int .i64 0, .slice none 0 0, .int .i64 0]
structure JQ (W : World) (B n : Nat) (P : List Ph) (C : List Int) (st : Int) (s1 jv : Value) (lst : Nat → Bool) (vs : Nat → Value) (w : World) : Prop where
  grew : Below B W w
  big : B ≤ w.heap.size
  v0 : lst 0 = true → vs 0 = s1
  v1 : lst 1 = true → ∃ g, vs 1 = .pointer (some ⟨g, 0, none⟩) ∧ B ≤ g ∧ g < w.heap.size ∧ (lst 3 = false → DeckOk w g)
  v2 : lst 2 = true → vs 2 = jv
  v3 : lst 3 = true → ∃ c, CtV P C n st c ∧ CtH w B n (vs 3) c
  v4 : lst 4 = true → ∃ g, vs 4 = .pointer (some ⟨g, 0, none⟩) ∧ B ≤ g ∧ (lst 5 = false → Blk w g 31 Z4c) ∧ (lst 5 = true → ∃ cs, vs 3 = .agg cs ∧ Blk w g 31 cs)
  ne : lst 1 = true → lst 4 = true → vs 1 ≠ vs 4
  o31 : lst 3 = true → lst 1 = true
  o5 : lst 5 = true → lst 3 = true ∧ lst 4 = true
theorem JQ.start {W : World} {B n : Nat} {P : List Ph} {C : List Int} {st : Int} {s1 jv : Value} (hB : B = W.heap.size) (vs : Nat → Value) : JQ W B n P C st s1 jv (fun _ => false) vs (W.drewN 1) := by
  subst hB
  exact ⟨below_drewN (Below.refl _ _), Nat.le_refl _, fun h => by (cases h), fun h => by (cases h), fun h => by (cases h), fun h => by (cases h), fun h => by (cases h), fun h => by (cases h), fun h => by (cases h), fun h => by (cases h)⟩
section
variable {W : World} {B n : Nat} {P : List Ph} {C : List Int} {st : Int} {s1 jv : Value} {lst : Nat → Bool} {vs : Nat → Value} {w : World}
theorem JQ.op0 {v : Value} (h : JQ W B n P C st s1 jv lst vs w) (hv : v = s1) : JQ W B n P C st s1 jv (fun i => decide (i = 0) || lst i) (fun i => if i = 0 then v else vs i) w := by
  obtain ⟨a, b, c0, c1, c2, c3, c4, d, e, f⟩ := h
  exact ⟨a, b, fun _ => by simpa using hv, by simpa using c1, by simpa using c2, by simpa using c3, by simpa using c4, by simpa using d, by simpa using e, by simpa using f⟩
theorem JQ.op2 {v : Value} (h : JQ W B n P C st s1 jv lst vs w) (hv : v = jv) : JQ W B n P C st s1 jv (fun i => decide (i = 2) || lst i) (fun i => if i = 2 then v else vs i) w := by
  obtain ⟨a, b, c0, c1, c2, c3, c4, d, e, f⟩ := h
  exact ⟨a, b, by simpa using c0, by simpa using c1, fun _ => by simpa using hv, by simpa using c3, by simpa using c4, by simpa using d, by simpa using e, by simpa using f⟩
theorem JQ.op1 {v : Value} {w' : World} (h : JQ W B n P C st s1 jv lst vs w) (hl : lst 1 = false) (hv : v = .pointer (some ⟨w.heap.size, 0, none⟩)) (hd : DeckOk w' w.heap.size) (hb : Below w.heap.size w w') :
    JQ W B n P C st s1 jv (fun i => decide (i = 1) || lst i) (fun i => if i = 1 then v else vs i) w' := by
  obtain ⟨a, b, c0, c1, c2, c3, c4, d, e, f⟩ := h
  have h3 : lst 3 = false := by
    cases hx : lst 3 with
    | false => rfl
    | true => have := e hx; rw [hl] at this; cases this
  have hlt := hd.lt
  refine ⟨a.trans (hb.mono b), Nat.le_trans b hb.size, by simpa using c0, fun _ => ⟨w.heap.size, by simpa using hv, b, hlt, fun _ => hd⟩, by simpa using c2, fun hx => ?_, fun hx => ?_, fun _ hx => ?_, fun hx => ?_, by simpa using f⟩
  · have hx : lst 3 = true := by simpa using hx
    rw [h3] at hx; cases hx
  · have hx : lst 4 = true := by simpa using hx
    obtain ⟨g, g1, g2, g3, g4⟩ := c4 hx
    refine ⟨g, by simpa using g1, g2, fun h5 => (g3 (by simpa using h5)).below hb, fun h5 => ?_⟩
    have h5 : lst 5 = true := by simpa using h5
    have := (f h5).1; rw [h3] at this; cases this
  · have hx : lst 4 = true := by simpa using hx
    obtain ⟨g, g1, g2, g3, g4⟩ := c4 hx
    simp only [if_true, show ¬ (4 : Nat) = 1 by decide, if_false]
    intro he
    rw [hv, g1] at he
    injection he with he; injection he with he; injection he with he
    cases h5 : lst 5 with
    | false => have := (g3 h5).lt; omega
    | true => have := (f h5).1; rw [h3] at this; cases this
  · have hx : lst 3 = true := by simpa using hx
    rw [h3] at hx; cases hx
theorem JQ.op3 {v : Value} {w' : World} {g : Nat} {c : Ct} (h : JQ W B n P C st s1 jv lst vs w) (hW : W.heap.size = B) (hl : lst 3 = false) (h1 : lst 1 = true) (hg : vs 1 = .pointer (some ⟨g, 0, none⟩)) (hgB : B ≤ g) (hgr : Gr g w w') (hc : CtV P C n st c) (hh : CtH w' w.heap.size n v c) :
    JQ W B n P C st s1 jv (fun i => decide (i = 3) || lst i) (fun i => if i = 3 then v else vs i) w' := by
  obtain ⟨a, b, c0, c1, c2, c3, c4, d, e, f⟩ := h
  have h5 : lst 5 = false := by
    cases hx : lst 5 with
    | false => rfl
    | true => have := (f hx).1; rw [hl] at this; cases this
  have hs := hgr.size
  subst hW
  refine ⟨hgr.base a hgB, Nat.le_trans b hs, by simpa using c0, fun hx => ?_, by simpa using c2, fun _ => ⟨c, hc, ?_⟩, fun hx => ?_, by simpa using d, fun _ => by simpa using h1, fun hx => ?_⟩
  · obtain ⟨g', g1, g2, g3, _⟩ := c1 h1
    refine ⟨g', by simpa using g1, g2, by omega, fun hx => ?_⟩
    simp at hx
  · simp only [if_true]
    obtain ⟨gl, cl, gx, cx, q1, q2, q3, q4, q5⟩ := hh
    exact ⟨gl, cl, gx, cx, q1, by omega, by omega, q4, q5⟩
  · have hx : lst 4 = true := by simpa using hx
    obtain ⟨g', g1, g2, g3, g4⟩ := c4 hx
    refine ⟨g', by simpa using g1, g2, fun _ => ?_, fun hy => ?_⟩
    · exact hgr.blk (g3 h5) (fun he => d h1 hx (by rw [hg, g1, he]))
    · have hy : lst 5 = true := by simpa using hy
      rw [h5] at hy; cases hy
  · have hx : lst 5 = true := by simpa using hx
    rw [h5] at hx; cases hx
theorem JQ.op4 {v : Value} (h : JQ W B n P C st s1 jv lst vs w) (hl : lst 4 = false) (hv : v = .pointer (some ⟨w.heap.size, 0, none⟩)) :
    JQ W B n P C st s1 jv (fun i => decide (i = 4) || lst i) (fun i => if i = 4 then v else vs i) (w.alloc (.cells Z4c 31)) := by
  obtain ⟨a, b, c0, c1, c2, c3, c4, d, e, f⟩ := h
  have hb := lat_alloc (Below.refl w.heap.size w) (.cells Z4c 31)
  have h5 : lst 5 = false := by
    cases hx : lst 5 with
    | false => rfl
    | true => have := (f hx).2; rw [hl] at this; cases this
  refine ⟨a.trans (hb.mono b), Nat.le_trans b hb.size, by simpa using c0, fun hx => ?_, by simpa using c2, fun hx => ?_, fun _ => ⟨w.heap.size, by simpa using hv, b, fun _ => Blk.new, fun hy => ?_⟩, fun hx _ => ?_, by simpa using e, fun hx => ?_⟩
  · have hx : lst 1 = true := by simpa using hx
    obtain ⟨g, g1, g2, g3, g4⟩ := c1 hx
    exact ⟨g, by simpa using g1, g2, Nat.lt_of_lt_of_le g3 hb.size, fun hy => (g4 (by simpa using hy)).below hb⟩
  · have hx : lst 3 = true := by simpa using hx
    obtain ⟨c, q1, q2⟩ := c3 hx
    exact ⟨c, q1, by simpa using q2.below hb⟩
  · have hy : lst 5 = true := by simpa using hy
    rw [h5] at hy; cases hy
  · have hx : lst 1 = true := by simpa using hx
    obtain ⟨g, g1, g2, g3, g4⟩ := c1 hx
    simp only [if_true, show ¬ (1 : Nat) = 4 by decide, if_false]
    intro he
    rw [hv, g1] at he
    injection he with he; injection he with he; injection he with he
    omega
  · have hx : lst 5 = true := by simpa using hx
    rw [h5] at hx; cases hx
theorem JQ.op5 {w' : World} {g : Nat} {cs : Array Value} (h : JQ W B n P C st s1 jv lst vs w) (hl : lst 5 = false) (h3 : lst 3 = true) (h4 : lst 4 = true) (hg : vs 4 = .pointer (some ⟨g, 0, none⟩)) (hc : vs 3 = .agg cs) (hgr : w.grownBy w' (some g)) (hB : Blk w' g 31 cs) :
    JQ W B n P C st s1 jv (fun i => decide (i = 5) || lst i) (fun i => if i = 5 then undef else vs i) w' := by
  obtain ⟨a, b, c0, c1, c2, c3, c4, d, e, f⟩ := h
  obtain ⟨g', q1, q2, q3, _⟩ := c4 h4
  have he : g' = g := by rw [hg] at q1; injection q1 with q1; injection q1 with q1; injection q1 with q1; exact q1.symm
  subst he
  have hb4 := q3 hl
  refine ⟨Below.grown a hgr b (fun k hk => by injection hk with hk; omega), Nat.le_trans b hgr.size, by simpa using c0, fun hx => ?_, by simpa using c2, fun _ => ?_, fun _ => ⟨g', by simpa using hg, q2, fun hy => ?_, fun _ => ⟨cs, by simpa using hc, hB⟩⟩, by simpa using d, by simpa using e, fun _ => by simp [h3, h4]⟩
  · have hx : lst 1 = true := by simpa using hx
    obtain ⟨k, g1, g2, g3, _⟩ := c1 hx
    refine ⟨k, by simpa using g1, g2, Nat.lt_of_lt_of_le g3 hgr.size, fun hy => ?_⟩
    have hy : lst 3 = false := by simpa using hy
    rw [h3] at hy; cases hy
  · obtain ⟨c, r1, gl, cl, gx, cx, r2, r3, r4, r5, r6⟩ := c3 h3
    refine ⟨c, r1, gl, cl, gx, cx, by simpa using r2, r3, r4, r5.grown hgr (fun hh => ?_), r6.grown hgr (fun hh => ?_)⟩
    · injection hh with hh
      obtain ⟨ds, hd, _⟩ := r5
      rw [← hh] at hd
      have := hd.symm.trans hb4
      injection this with this; injection this with _ this; exact absurd this (by decide)
    · injection hh with hh
      obtain ⟨ds, hd, _⟩ := r6
      rw [← hh] at hd
      have := hd.symm.trans hb4
      injection this with this; injection this with _ this; exact absurd this (by decide)
  · simp at hy
end
end Go.Proofs.Ytohgnbpaffcpaaa
