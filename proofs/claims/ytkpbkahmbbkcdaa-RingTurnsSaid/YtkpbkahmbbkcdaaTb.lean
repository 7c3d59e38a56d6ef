/-
  A statement whose order is open that lays two variables of its own and stores into them what other operations gave: x, y := f(..), g(..). Conditions: none.
-/
import Derived.Test.YtkpbkahmbbkcdaaMs
import Derived.Test.YtkpbkahmbbkcdaaDk
namespace Go.Proofs.Ytkpbkahmbbkcdaa
open Go.ChangeShapes Go.WideShapes Go.ChangeAt Go.RowKit
set_option linter.unusedVariables false

theorem frm_of {l : List Oper} {n : Nat} {t : Tmp} (h : ((List.range n).all fun i => ((l[i]?).bind (·.dst)) != some t) = true) : ∀ i, i < n → ((l[i]?).bind (·.dst)) ≠ some t := fun i hi => by
  have := List.all_eq_true.1 h i (List.mem_range.2 hi)
  simpa using this
/-- What one of the two variables holds. -/
def BoxB (W : World) (a s f : Nat) (T : TypeId) (z : Array Value) (lst : Nat → Bool) (vs : Nat → Value) (w : World) : Prop :=
  lst a = true → ∃ b, vs a = .pointer (some ⟨b, 0, none⟩) ∧ W.heap.size ≤ b ∧ (lst s = false → Blk w b T z) ∧ (lst s = true → ∃ cs, vs f = .agg cs ∧ Blk w b T cs)
structure TwoB (W : World) (K : Nat → Value → World → Prop) (a1 s1 f1 a2 s2 f2 : Nat) (T1 T2 : TypeId) (z1 z2 : Array Value) (lst : Nat → Bool) (vs : Nat → Value) (w : World) : Prop where
  grew : Below W.heap.size W w
  known : ∀ i, lst i = true → K i (vs i) w
  b1 : BoxB W a1 s1 f1 T1 z1 lst vs w
  b2 : BoxB W a2 s2 f2 T2 z2 lst vs w
  ne : lst a1 = true → lst a2 = true → vs a1 ≠ vs a2
  o1 : lst s1 = true → lst a1 = true ∧ lst f1 = true
  o2 : lst s2 = true → lst a2 = true ∧ lst f2 = true
theorem lst_or {lst : Nat → Bool} {i j : Nat} : (decide (j = i) || lst j) = true ↔ j = i ∨ lst j = true := by simp
theorem lst_ne {lst : Nat → Bool} {i j : Nat} (h : j ≠ i) : (decide (j = i) || lst j) = lst j := by simp [h]
section
variable {W w w' : World} {K : Nat → Value → World → Prop} {a1 s1 f1 a2 s2 f2 : Nat} {T1 T2 : TypeId} {z1 z2 : Array Value} {lst : Nat → Bool} {vs : Nat → Value}
theorem BoxB.get {a s f : Nat} {T : TypeId} {z : Array Value} (h : BoxB W a s f T z lst vs w) (ha : lst a = true) : ∃ b cs, vs a = .pointer (some ⟨b, 0, none⟩) ∧ W.heap.size ≤ b ∧ Blk w b T cs := by
  obtain ⟨b, h1, h2, h3, h4⟩ := h ha
  cases hs : lst s with
  | false => exact ⟨b, z, h1, h2, h3 hs⟩
  | true => obtain ⟨cs, _, h5⟩ := h4 hs; exact ⟨b, cs, h1, h2, h5⟩
theorem TwoB.start (vs : Nat → Value) : TwoB W K a1 s1 f1 a2 s2 f2 T1 T2 z1 z2 (fun _ => false) vs (W.drewN 1) :=
  ⟨below_drewN (Below.refl _ _), fun i h => (by cases h), fun h => (by cases h), fun h => (by cases h), fun h => (by cases h), fun h => (by cases h), fun h => (by cases h)⟩
/-- An operation that gives a value and lays no variable. -/
theorem TwoB.op {i : Nat} {v : Value} (h : TwoB W K a1 s1 f1 a2 s2 f2 T1 T2 z1 z2 lst vs w) (hg : ∀ i v (w w' : World), K i v w → Below w.heap.size w w' → K i v w') (hl : lst i = false) (h1 : i ≠ a1) (h2 : i ≠ s1) (h3 : i ≠ a2) (h4 : i ≠ s2) (hb : Below w.heap.size w w') (hk : K i v w') :
    TwoB W K a1 s1 f1 a2 s2 f2 T1 T2 z1 z2 (fun j => decide (j = i) || lst j) (fun j => if j = i then v else vs j) w' := by
  obtain ⟨c, k, b1, b2, n, o1, o2⟩ := h
  have box : ∀ {a s f : Nat} {T : TypeId} {z : Array Value}, i ≠ a → i ≠ s → (lst s = true → lst f = true) → BoxB W a s f T z lst vs w → BoxB W a s f T z (fun j => decide (j = i) || lst j) (fun j => if j = i then v else vs j) w' := by
    intro a s f T z ha hs hf hb1 hla
    replace hla := (lst_ne (lst := lst) (Ne.symm ha)).symm.trans hla
    obtain ⟨b, e1, e2, e3, e4⟩ := hb1 hla
    refine ⟨b, by simp only [if_neg (Ne.symm ha)]; exact e1, e2, fun hx => ?_, fun hx => ?_⟩
    · replace hx := (lst_ne (lst := lst) (Ne.symm hs)).symm.trans hx; exact (e3 hx).below hb
    · replace hx := (lst_ne (lst := lst) (Ne.symm hs)).symm.trans hx
      obtain ⟨cs, e5, e6⟩ := e4 hx
      have hfi : f ≠ i := fun e => by rw [e] at hf; rw [hf hx] at hl; cases hl
      exact ⟨cs, by simp only [if_neg hfi]; exact e5, e6.below hb⟩
  refine ⟨c.trans (hb.mono c.size), fun j hj => ?_, box h1 h2 (fun x => (o1 x).2) b1, box h3 h4 (fun x => (o2 x).2) b2, fun x y => ?_, fun x => ?_, fun x => ?_⟩
  · rcases lst_or.1 hj with e | e
    · subst e; simp only [if_true]; exact hk
    · have : j ≠ i := fun e' => by rw [e', hl] at e; cases e
      simp only [if_neg this]; exact hg _ _ _ _ (k j e) hb
  · replace x := (lst_ne (lst := lst) (Ne.symm h1)).symm.trans x; replace y := (lst_ne (lst := lst) (Ne.symm h3)).symm.trans y
    simp only [if_neg (Ne.symm h1), if_neg (Ne.symm h3)]; exact n x y
  · replace x := (lst_ne (lst := lst) (Ne.symm h2)).symm.trans x
    exact ⟨lst_or.2 (.inr (o1 x).1), lst_or.2 (.inr (o1 x).2)⟩
  · replace x := (lst_ne (lst := lst) (Ne.symm h4)).symm.trans x
    exact ⟨lst_or.2 (.inr (o2 x).1), lst_or.2 (.inr (o2 x).2)⟩
theorem BoxB.lay {a s f i : Nat} {T : TypeId} {z : Array Value} {o : Obj} {v : Value} (ha : i ≠ a) (hs : i ≠ s) (hf : i ≠ f) (hb : Below w.heap.size w w') (h : BoxB W a s f T z lst vs w) : BoxB W a s f T z (fun j => decide (j = i) || lst j) (fun j => if j = i then v else vs j) w' := by
  intro hla
  replace hla := (lst_ne (lst := lst) (Ne.symm ha)).symm.trans hla
  obtain ⟨b, e1, e2, e3, e4⟩ := h hla
  refine ⟨b, by simp only [if_neg (Ne.symm ha)]; exact e1, e2, fun hx => ?_, fun hx => ?_⟩
  · replace hx := (lst_ne (lst := lst) (Ne.symm hs)).symm.trans hx; exact (e3 hx).below hb
  · replace hx := (lst_ne (lst := lst) (Ne.symm hs)).symm.trans hx
    obtain ⟨cs, e5, e6⟩ := e4 hx
    exact ⟨cs, by simp only [if_neg (Ne.symm hf)]; exact e5, e6.below hb⟩
theorem BoxB.new {a s f : Nat} {T : TypeId} {z : Array Value} (hs : s ≠ a) (hls : lst s = false) (hW : W.heap.size ≤ w.heap.size) : BoxB W a s f T z (fun j => decide (j = a) || lst j) (fun j => if j = a then .pointer (some ⟨w.heap.size, 0, none⟩) else vs j) (w.alloc (.cells z T)) := fun _ =>
  ⟨w.heap.size, by simp, hW, fun _ => Blk.new, fun hx => by replace hx := (lst_ne (lst := lst) hs).symm.trans hx; rw [hls] at hx; cases hx⟩
/-- The first variable is laid. -/
theorem TwoB.lay1 (h : TwoB W K a1 s1 f1 a2 s2 f2 T1 T2 z1 z2 lst vs w) (hg : ∀ i v (w w' : World), K i v w → Below w.heap.size w w' → K i v w') (hl : lst a1 = false) (hd : a1 ≠ s1 ∧ a1 ≠ a2 ∧ a1 ≠ s2 ∧ a1 ≠ f2) (hk : ∀ v w, K a1 v w) :
    TwoB W K a1 s1 f1 a2 s2 f2 T1 T2 z1 z2 (fun j => decide (j = a1) || lst j) (fun j => if j = a1 then .pointer (some ⟨w.heap.size, 0, none⟩) else vs j) (w.alloc (.cells z1 T1)) := by
  obtain ⟨c, k, b1, b2, n, o1, o2⟩ := h
  obtain ⟨d1, d2, d3, d4⟩ := hd
  have hb := lat_alloc (Below.refl w.heap.size w) (.cells z1 T1)
  have hls : lst s1 = false := by
    cases hx : lst s1 with
    | false => rfl
    | true => have := (o1 hx).1; rw [hl] at this; cases this
  refine ⟨c.trans (hb.mono c.size), fun j hj => ?_, BoxB.new (Ne.symm d1) hls c.size, b2.lay (o := .cells z1 T1) d2 d3 d4 hb, fun _ y => ?_, fun x => ?_, fun x => ?_⟩
  · rcases lst_or.1 hj with e | e
    · subst e; exact hk _ _
    · have : j ≠ a1 := fun e' => by rw [e', hl] at e; cases e
      simp only [if_neg this]; exact hg _ _ _ _ (k j e) hb
  · replace y := (lst_ne (lst := lst) (Ne.symm d2)).symm.trans y
    obtain ⟨b, cs, e1, e2, e3⟩ := b2.get y
    have hlt := e3.lt
    simp only [if_true, if_neg (Ne.symm d2), e1]
    intro he
    injection he with he; injection he with he; injection he with he
    omega
  · replace x := (lst_ne (lst := lst) (Ne.symm d1)).symm.trans x; rw [hls] at x; cases x
  · replace x := (lst_ne (lst := lst) (Ne.symm d3)).symm.trans x
    exact ⟨lst_or.2 (.inr (o2 x).1), lst_or.2 (.inr (o2 x).2)⟩
theorem TwoB.swap (h : TwoB W K a1 s1 f1 a2 s2 f2 T1 T2 z1 z2 lst vs w) : TwoB W K a2 s2 f2 a1 s1 f1 T2 T1 z2 z1 lst vs w :=
  ⟨h.grew, h.known, h.b2, h.b1, fun x y e => h.ne y x e.symm, h.o2, h.o1⟩
theorem TwoB.lay2 (h : TwoB W K a1 s1 f1 a2 s2 f2 T1 T2 z1 z2 lst vs w) (hg : ∀ i v (w w' : World), K i v w → Below w.heap.size w w' → K i v w') (hl : lst a2 = false) (hd : a2 ≠ s2 ∧ a2 ≠ a1 ∧ a2 ≠ s1 ∧ a2 ≠ f1) (hk : ∀ v w, K a2 v w) :
    TwoB W K a1 s1 f1 a2 s2 f2 T1 T2 z1 z2 (fun j => decide (j = a2) || lst j) (fun j => if j = a2 then .pointer (some ⟨w.heap.size, 0, none⟩) else vs j) (w.alloc (.cells z2 T2)) :=
  (h.swap.lay1 hg hl hd hk).swap
/-- Where the first variable is, and what is in it. -/
theorem TwoB.at1 (h : TwoB W K a1 s1 f1 a2 s2 f2 T1 T2 z1 z2 lst vs w) (ha : lst a1 = true) (hs : lst s1 = false) : ∃ b, vs a1 = .pointer (some ⟨b, 0, none⟩) ∧ W.heap.size ≤ b ∧ Blk w b T1 z1 := by
  obtain ⟨b, e1, e2, e3, _⟩ := h.b1 ha
  exact ⟨b, e1, e2, e3 hs⟩
theorem TwoB.at2 (h : TwoB W K a1 s1 f1 a2 s2 f2 T1 T2 z1 z2 lst vs w) (ha : lst a2 = true) (hs : lst s2 = false) : ∃ b, vs a2 = .pointer (some ⟨b, 0, none⟩) ∧ W.heap.size ≤ b ∧ Blk w b T2 z2 := h.swap.at1 ha hs
/-- The store into the first variable. -/
theorem TwoB.store1 {b : Nat} {cs : Array Value} {u : Value} (h : TwoB W K a1 s1 f1 a2 s2 f2 T1 T2 z1 z2 lst vs w) (hs1 : ∀ i v (w w' : World) b cs, K i v w → Blk w b T1 cs → w.grownBy w' (some b) → K i v w') (hl : lst s1 = false) (hla : lst a1 = true) (hlf : lst f1 = true) (hd : s1 ≠ a1 ∧ s1 ≠ f1 ∧ s1 ≠ a2 ∧ s1 ≠ s2 ∧ s1 ≠ f2) (hk : ∀ v w, K s1 v w)
    (hv : vs a1 = .pointer (some ⟨b, 0, none⟩)) (hf : vs f1 = .agg cs) (hgr : w.grownBy w' (some b)) (hB : Blk w' b T1 cs) :
    TwoB W K a1 s1 f1 a2 s2 f2 T1 T2 z1 z2 (fun j => decide (j = s1) || lst j) (fun j => if j = s1 then u else vs j) w' := by
  have hat := h.at1 hla hl
  obtain ⟨c, k, b1, b2, n, o1, o2⟩ := h
  obtain ⟨d1, d2, d3, d4, d5⟩ := hd
  obtain ⟨b', e1, e2, e3⟩ := hat
  have he : b' = b := by rw [hv] at e1; injection e1 with e1; injection e1 with e1; injection e1 with e1; exact e1.symm
  subst he
  refine ⟨c.grown hgr c.size (fun q e => by injection e with e; omega), fun j hj => ?_, fun _ => ⟨b', by simp only [if_neg (Ne.symm d1)]; exact hv, e2, fun hx => ?_, fun _ => ⟨cs, by simp only [if_neg (Ne.symm d2)]; exact hf, hB⟩⟩, fun hla2 => ?_, fun x y => ?_, fun _ => ⟨lst_or.2 (.inr hla), lst_or.2 (.inr hlf)⟩, fun x => ?_⟩
  · rcases lst_or.1 hj with e | e
    · subst e; exact hk _ _
    · have : j ≠ s1 := fun e' => by rw [e', hl] at e; cases e
      simp only [if_neg this]; exact hs1 _ _ _ _ _ _ (k j e) e3 hgr
  · simp at hx
  · replace hla2 := (lst_ne (lst := lst) (Ne.symm d3)).symm.trans hla2
    have hne := n hla hla2
    obtain ⟨b2', q1, q2, q3, q4⟩ := b2 hla2
    have hbb : b' ≠ b2' := fun e => hne (by rw [hv, q1, e])
    refine ⟨b2', by simp only [if_neg (Ne.symm d3)]; exact q1, q2, fun hx => ?_, fun hx => ?_⟩
    · replace hx := (lst_ne (lst := lst) (Ne.symm d4)).symm.trans hx
      exact (q3 hx).grown hgr (fun e => by injection e with e; exact hbb e)
    · replace hx := (lst_ne (lst := lst) (Ne.symm d4)).symm.trans hx
      obtain ⟨cs2, q5, q6⟩ := q4 hx
      exact ⟨cs2, by simp only [if_neg (Ne.symm d5)]; exact q5, q6.grown hgr (fun e => by injection e with e; exact hbb e)⟩
  · replace x := (lst_ne (lst := lst) (Ne.symm d1)).symm.trans x; replace y := (lst_ne (lst := lst) (Ne.symm d3)).symm.trans y
    simp only [if_neg (Ne.symm d1), if_neg (Ne.symm d3)]; exact n x y
  · replace x := (lst_ne (lst := lst) (Ne.symm d4)).symm.trans x
    exact ⟨lst_or.2 (.inr (o2 x).1), lst_or.2 (.inr (o2 x).2)⟩
theorem TwoB.store2 {b : Nat} {cs : Array Value} {u : Value} (h : TwoB W K a1 s1 f1 a2 s2 f2 T1 T2 z1 z2 lst vs w) (hs2 : ∀ i v (w w' : World) b cs, K i v w → Blk w b T2 cs → w.grownBy w' (some b) → K i v w') (hl : lst s2 = false) (hla : lst a2 = true) (hlf : lst f2 = true) (hd : s2 ≠ a2 ∧ s2 ≠ f2 ∧ s2 ≠ a1 ∧ s2 ≠ s1 ∧ s2 ≠ f1) (hk : ∀ v w, K s2 v w)
    (hv : vs a2 = .pointer (some ⟨b, 0, none⟩)) (hf : vs f2 = .agg cs) (hgr : w.grownBy w' (some b)) (hB : Blk w' b T2 cs) :
    TwoB W K a1 s1 f1 a2 s2 f2 T1 T2 z1 z2 (fun j => decide (j = s2) || lst j) (fun j => if j = s2 then u else vs j) w' :=
  (h.swap.store1 hs2 hl hla hlf hd hk hv hf hgr hB).swap
/-- At the end. -/
theorem TwoB.fin (h : TwoB W K a1 s1 f1 a2 s2 f2 T1 T2 z1 z2 lst vs w) (h1 : lst a1 = true) (h2 : lst s1 = true) (h3 : lst a2 = true) (h4 : lst s2 = true) : ∃ g1 g2 cs1 cs2, vs a1 = .pointer (some ⟨g1, 0, none⟩) ∧ vs a2 = .pointer (some ⟨g2, 0, none⟩) ∧ W.heap.size ≤ g1 ∧ W.heap.size ≤ g2 ∧ g1 ≠ g2 ∧ vs f1 = .agg cs1 ∧ vs f2 = .agg cs2 ∧ Blk w g1 T1 cs1 ∧ Blk w g2 T2 cs2 := by
  obtain ⟨g1, e1, e2, _, e4⟩ := h.b1 h1
  obtain ⟨g2, q1, q2, _, q4⟩ := h.b2 h3
  obtain ⟨cs1, e5, e6⟩ := e4 h2
  obtain ⟨cs2, q5, q6⟩ := q4 h4
  exact ⟨g1, g2, cs1, cs2, e1, q1, e2, q2, fun e => h.ne h1 h3 (by rw [e1, q1, e]), e5, q5, e6, q6⟩
end
end Go.Proofs.Ytkpbkahmbbkcdaa
