/-
  Two structs that a statement whose order is open reads and lays into places of its own: what is known of it in every order. Conditions: none.
-/
import Derived.Test.YtngdaieopnadbaaMs
import Derived.Test.YtngdaieopnadbaaJn
namespace Go.Proofs.Ytngdaieopnadbaa
open Go.ChangeShapes Go.WideShapes Go.ChangeAt Go.RowKit
set_option linter.unusedVariables false

/-- A place that the statement has laid: as it was laid, or filled. -/
def Laid (B : Nat) (t : TypeId) (z c : Array Value) (done : Bool) (v : Value) (w : World) : Prop := ∃ e, v = .pointer (some ⟨e, 0, none⟩) ∧ B ≤ e ∧ Blk w e t (if done = true then c else z)
structure JTw (W : World) (m : Nat) (K : Nat → Value) (t : TypeId) (z cx cy : Array Value) (lst : Nat → Bool) (vs : Nat → Value) (w : World) : Prop where
  grew : Below W.heap.size W w
  vals : ∀ i, i < m → lst i = true → vs i = K i
  px : lst m = true → Laid W.heap.size t z cx (lst (m + 2)) (vs m) w
  py : lst (m + 1) = true → Laid W.heap.size t z cy (lst (m + 3)) (vs (m + 1)) w
  ox : lst (m + 2) = true → lst m = true
  oy : lst (m + 3) = true → lst (m + 1) = true
  ne : lst m = true → lst (m + 1) = true → vs m ≠ vs (m + 1)
theorem JTw.start {W : World} {m : Nat} {K : Nat → Value} {t : TypeId} {z cx cy : Array Value} (vs : Nat → Value) : JTw W m K t z cx cy (fun _ => false) vs (W.drewN 1) :=
  ⟨below_drewN (Below.refl _ _), fun _ _ h => by (cases h), fun h => by (cases h), fun h => by (cases h), fun h => by (cases h), fun h => by (cases h), fun h => by (cases h)⟩
theorem Laid.below {B : Nat} {t : TypeId} {z c : Array Value} {d : Bool} {v : Value} {w w' : World} (h : Laid B t z c d v w) (hb : Below w.heap.size w w') : Laid B t z c d v w' := by
  obtain ⟨e, h1, h2, h3⟩ := h
  exact ⟨e, h1, h2, h3.below hb⟩
theorem JTw.pure {W : World} {m : Nat} {K : Nat → Value} {t : TypeId} {z cx cy : Array Value} {lst : Nat → Bool} {vs : Nat → Value} {w : World} {k : Nat} {v : Value} (h : JTw W m K t z cx cy lst vs w) (hk : k < m) (hv : v = K k) :
    JTw W m K t z cx cy (fun i => decide (i = k) || lst i) (fun i => if i = k then v else vs i) w := by
  have e : ∀ j, (decide (m + j = k) || lst (m + j)) = lst (m + j) := fun j => by simp [show ¬ m + j = k by omega]
  have f : ∀ j, (if m + j = k then v else vs (m + j)) = vs (m + j) := fun j => by simp [show ¬ m + j = k by omega]
  have e0 := e 0; have e1 := e 1; have e2 := e 2; have e3 := e 3; have f0 := f 0; have f1 := f 1
  rw [Nat.add_zero] at e0 f0
  refine ⟨h.grew, fun i hi hl => ?_, ?_, ?_, ?_, ?_, ?_⟩
  · show (if i = k then v else vs i) = K i
    by_cases hik : i = k
    · subst hik; rw [if_pos rfl, hv]
    · rw [if_neg hik]; exact h.vals i hi (by simpa [hik] using hl)
  · rw [e0, e2, f0]; exact h.px
  · rw [e1, e3, f1]; exact h.py
  · rw [e0, e2]; exact h.ox
  · rw [e1, e3]; exact h.oy
  · rw [e0, e1, f0, f1]; exact h.ne
theorem JTw.allocx {W : World} {m : Nat} {K : Nat → Value} {t : TypeId} {z cx cy : Array Value} {lst : Nat → Bool} {vs : Nat → Value} {w : World} {v : Value} (h : JTw W m K t z cx cy lst vs w) (hm : lst m = false) (hv : v = .pointer (some ⟨w.heap.size, 0, none⟩)) :
    JTw W m K t z cx cy (fun i => decide (i = m) || lst i) (fun i => if i = m then v else vs i) (w.alloc (.cells z t)) := by
  have hb := lat_alloc (Below.refl w.heap.size w) (.cells z t)
  have h2 : lst (m + 2) = false := by
    cases hl : lst (m + 2) with
    | false => rfl
    | true => have := h.ox hl; rw [hm] at this; cases this
  refine ⟨h.grew.trans (hb.mono h.grew.size), fun i hi hl => ?_, fun _ => ?_, fun hl => ?_, fun _ => by simp, fun hl => ?_, fun _ hl he => ?_⟩
  · show (if i = m then v else vs i) = K i
    rw [if_neg (by omega)]; exact h.vals i hi (by simpa [show ¬ i = m by omega] using hl)
  · simp only [if_true]
    refine ⟨w.heap.size, hv, h.grew.size, ?_⟩
    rw [show (decide (m + 2 = m) || lst (m + 2)) = false by simp [h2]]
    exact Blk.new
  · have hl' : lst (m + 1) = true := by simpa using hl
    simp only [show ¬ m + 1 = m by omega, if_false]
    rw [show (decide (m + 3 = m) || lst (m + 3)) = lst (m + 3) by simp]
    exact (h.py hl').below hb
  · have hl' : lst (m + 3) = true := by simpa using hl
    simp [h.oy hl']
  · have hl' : lst (m + 1) = true := by simpa using hl
    simp only [if_true, show ¬ m + 1 = m by omega, if_false] at he
    obtain ⟨e, e1, e2, e3⟩ := h.py hl'
    rw [hv, e1] at he
    have := e3.lt
    injection he with he; injection he with he; injection he with he
    omega
theorem JTw.allocy {W : World} {m : Nat} {K : Nat → Value} {t : TypeId} {z cx cy : Array Value} {lst : Nat → Bool} {vs : Nat → Value} {w : World} {v : Value} (h : JTw W m K t z cx cy lst vs w) (hm : lst (m + 1) = false) (hv : v = .pointer (some ⟨w.heap.size, 0, none⟩)) :
    JTw W m K t z cx cy (fun i => decide (i = m + 1) || lst i) (fun i => if i = m + 1 then v else vs i) (w.alloc (.cells z t)) := by
  have hb := lat_alloc (Below.refl w.heap.size w) (.cells z t)
  have h2 : lst (m + 3) = false := by
    cases hl : lst (m + 3) with
    | false => rfl
    | true => have := h.oy hl; rw [hm] at this; cases this
  refine ⟨h.grew.trans (hb.mono h.grew.size), fun i hi hl => ?_, fun hl => ?_, fun _ => ?_, fun hl => ?_, fun _ => by simp, fun hl _ he => ?_⟩
  · show (if i = m + 1 then v else vs i) = K i
    rw [if_neg (by omega)]; exact h.vals i hi (by simpa [show ¬ i = m + 1 by omega] using hl)
  · have hl' : lst m = true := by simpa using hl
    simp only [show ¬ m = m + 1 by omega, if_false]
    rw [show (decide (m + 2 = m + 1) || lst (m + 2)) = lst (m + 2) by simp]
    exact (h.px hl').below hb
  · simp only [if_true]
    refine ⟨w.heap.size, hv, h.grew.size, ?_⟩
    rw [show (decide (m + 3 = m + 1) || lst (m + 3)) = false by simp [h2]]
    exact Blk.new
  · have hl' : lst (m + 2) = true := by simpa using hl
    simp [h.ox hl']
  · have hl' : lst m = true := by simpa using hl
    simp only [if_true, show ¬ m = m + 1 by omega, if_false] at he
    obtain ⟨e, e1, e2, e3⟩ := h.px hl'
    rw [hv, e1] at he
    have := e3.lt
    injection he with he; injection he with he; injection he with he
    omega
theorem JTw.storex {W : World} {m : Nat} {K : Nat → Value} {t : TypeId} {z cx cy : Array Value} {lst : Nat → Bool} {vs : Nat → Value} {w w' : World} {e : Nat} (h : JTw W m K t z cx cy lst vs w) (hm : lst m = true) (hy : lst (m + 1) = true) (he : vs m = .pointer (some ⟨e, 0, none⟩)) (hg : w.grownBy w' (some e)) (hB : Blk w' e t cx) :
    JTw W m K t z cx cy (fun i => decide (i = m + 2) || lst i) (fun i => if i = m + 2 then undef else vs i) w' := by
  obtain ⟨e', h1, h2, h3⟩ := h.px hm
  have ee : e = e' := by rw [he] at h1; injection h1 with h1; injection h1 with h1; injection h1 with h1
  subst ee
  refine ⟨Below.grown h.grew hg h.grew.size (fun k hk => by injection hk with hk; omega), fun i hi hl => ?_, fun _ => ?_, fun _ => ?_, fun _ => by simp [hm], fun hl => ?_, fun _ _ => ?_⟩
  · show (if i = m + 2 then undef else vs i) = K i
    rw [if_neg (by omega)]; exact h.vals i hi (by simpa [show ¬ i = m + 2 by omega] using hl)
  · simp only [show ¬ m = m + 2 by omega, if_false]
    exact ⟨e, he, h2, by simpa using hB⟩
  · simp only [show ¬ m + 1 = m + 2 by omega, if_false]
    rw [show (decide (m + 3 = m + 2) || lst (m + 3)) = lst (m + 3) by simp]
    obtain ⟨b, b1, b2, b3⟩ := h.py hy
    refine ⟨b, b1, b2, b3.grown hg (fun hh => ?_)⟩
    injection hh with hh
    exact h.ne hm hy (by rw [he, b1, hh])
  · have hl' : lst (m + 3) = true := by simpa using hl
    simp [h.oy hl']
  · simp only [show ¬ m = m + 2 by omega, show ¬ m + 1 = m + 2 by omega, if_false]
    exact h.ne hm hy
theorem JTw.storey {W : World} {m : Nat} {K : Nat → Value} {t : TypeId} {z cx cy : Array Value} {lst : Nat → Bool} {vs : Nat → Value} {w w' : World} {e : Nat} (h : JTw W m K t z cx cy lst vs w) (hm : lst m = true) (hy : lst (m + 1) = true) (he : vs (m + 1) = .pointer (some ⟨e, 0, none⟩)) (hg : w.grownBy w' (some e)) (hB : Blk w' e t cy) :
    JTw W m K t z cx cy (fun i => decide (i = m + 3) || lst i) (fun i => if i = m + 3 then undef else vs i) w' := by
  obtain ⟨e', h1, h2, h3⟩ := h.py hy
  have ee : e = e' := by rw [he] at h1; injection h1 with h1; injection h1 with h1; injection h1 with h1
  subst ee
  refine ⟨Below.grown h.grew hg h.grew.size (fun k hk => by injection hk with hk; omega), fun i hi hl => ?_, fun _ => ?_, fun _ => ?_, fun hl => ?_, fun _ => by simp [hy], fun _ _ => ?_⟩
  · show (if i = m + 3 then undef else vs i) = K i
    rw [if_neg (by omega)]; exact h.vals i hi (by simpa [show ¬ i = m + 3 by omega] using hl)
  · simp only [show ¬ m = m + 3 by omega, if_false]
    rw [show (decide (m + 2 = m + 3) || lst (m + 2)) = lst (m + 2) by simp]
    obtain ⟨b, b1, b2, b3⟩ := h.px hm
    refine ⟨b, b1, b2, b3.grown hg (fun hh => ?_)⟩
    injection hh with hh
    exact h.ne hm hy (by rw [he, b1, hh])
  · simp only [show ¬ m + 1 = m + 3 by omega, if_false]
    exact ⟨e, he, h2, by simpa using hB⟩
  · have hl' : lst (m + 2) = true := by simpa using hl
    simp [h.ox hl']
  · simp only [show ¬ m = m + 3 by omega, show ¬ m + 1 = m + 3 by omega, if_false]
    exact h.ne hm hy
end Go.Proofs.Ytngdaieopnadbaa
