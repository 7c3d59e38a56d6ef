/-
  A statement whose order is open that makes two rows of zeros. Conditions: none.
-/
import Derived.Test.YtmgifmdpjlefcaaMs
import Derived.Test.YtmgifmdpjlefcaaCt
import Derived.Deep.OwnRows
namespace Go.Proofs.Ytmgifmdpjlefcaa
open Go.ChangeShapes Go.WideShapes Go.ChangeAt Go.RowKit
set_option linter.unusedVariables false

theorem made_zeros (n : Nat) : (madeCells #[Value.int .i64 0] n).toList = (List.replicate n (0 : Int)).map (Value.int .i64) := by
  unfold madeCells
  simp [Nat.mod_one, List.map_const']
theorem zeros_nxb {w : World} (n : Nat) (hn : n ≤ 1000) : NxB (w.alloc (.cells (madeCells #[.int .i64 0] n) 3)) w.heap.size (List.replicate n 0) := by
  refine ⟨_, Blk.new, fun i hi => ?_⟩
  rw [List.length_replicate] at hi
  have := congrArg (fun l => l[i]?) (made_zeros n)
  simp only [List.getElem?_map, List.getElem?_replicate, hi, if_true, Option.map_some] at this
  have e : at_ (List.replicate n (0 : Int)) i = 0 := by simp [at_, hi]
  rw [e, ← this]; simp
theorem make_int (n : Nat) (hn : n ≤ 1000) (w' : World) : (Instr.makeSlice 22 (.int .i64 n) (.int .i64 n)).run Try.prog w' = .ok (.slice (some ⟨w'.heap.size, 0, none⟩) n n) (w'.alloc (.cells (madeCells #[.int .i64 0] n) 3)) := by
  obtain ⟨i, hi, hz, hsz, hby⟩ := info_parts int_info
  exact run_make_row (P := Try.prog) 22 3 i (.int .i64 0) Try.underlying22 hi hz hsz rfl .i64 .i64 n (by rw [hby]; omega) (by omega) w'
/-- Two rows of zeros, made by the operations i and k. -/
structure JMk (W : World) (n i k : Nat) (lst : Nat → Bool) (vs : Nat → Value) (w : World) : Prop where
  grew : Below W.heap.size W w
  vi : lst i = true → ∃ g, vs i = .slice (some ⟨g, 0, none⟩) n n ∧ W.heap.size ≤ g ∧ NxB w g (List.replicate n 0)
  vk : lst k = true → ∃ g, vs k = .slice (some ⟨g, 0, none⟩) n n ∧ W.heap.size ≤ g ∧ NxB w g (List.replicate n 0)
  ne : lst i = true → lst k = true → vs i ≠ vs k
section
variable {W : World} {n i k : Nat} {lst : Nat → Bool} {vs : Nat → Value} {w : World}
theorem JMk.start (vs : Nat → Value) : JMk W n i k (fun _ => false) vs (W.drewN 1) := ⟨below_drewN (Below.refl _ _), fun h => by (cases h), fun h => by (cases h), fun h => by (cases h)⟩
theorem JMk.other {j : Nat} {v : Value} (h : JMk W n i k lst vs w) (hi : j ≠ i) (hk : j ≠ k) : JMk W n i k (fun x => decide (x = j) || lst x) (fun x => if x = j then v else vs x) w := by
  obtain ⟨a, b, c, d⟩ := h
  have e1 : ¬ i = j := fun e => hi e.symm
  have e2 : ¬ k = j := fun e => hk e.symm
  exact ⟨a, by simpa [e1] using b, by simpa [e2] using c, by simpa [e1, e2] using d⟩
theorem JMk.mk1 {v : Value} (h : JMk W n i k lst vs w) (hik : i ≠ k) (hl : lst i = false) (hn : n ≤ 1000) (hv : v = .slice (some ⟨w.heap.size, 0, none⟩) n n) :
    JMk W n i k (fun x => decide (x = i) || lst x) (fun x => if x = i then v else vs x) (w.alloc (.cells (madeCells #[.int .i64 0] n) 3)) := by
  obtain ⟨a, b, c, d⟩ := h
  have hb := lat_alloc (Below.refl w.heap.size w) (.cells (madeCells #[.int .i64 0] n) 3)
  have e2 : ¬ k = i := fun e => hik e.symm
  refine ⟨a.trans (hb.mono a.size), fun _ => ⟨w.heap.size, by simpa using hv, a.size, zeros_nxb n hn⟩, fun hx => ?_, fun _ hx => ?_⟩
  · have hx : lst k = true := by simpa [e2] using hx
    obtain ⟨g, g1, g2, g3⟩ := c hx
    exact ⟨g, by simpa [e2] using g1, g2, g3.below hb⟩
  · have hx : lst k = true := by simpa [e2] using hx
    obtain ⟨g, g1, g2, g3⟩ := c hx
    have := g3.lt
    simp only [if_true, e2, if_false]
    rw [hv, g1]
    intro he
    injection he with he
    have he := Option.some.inj he
    injection he with he
    omega
theorem JMk.mk2 {v : Value} (h : JMk W n i k lst vs w) (hik : i ≠ k) (hl : lst k = false) (hn : n ≤ 1000) (hv : v = .slice (some ⟨w.heap.size, 0, none⟩) n n) :
    JMk W n i k (fun x => decide (x = k) || lst x) (fun x => if x = k then v else vs x) (w.alloc (.cells (madeCells #[.int .i64 0] n) 3)) := by
  obtain ⟨a, b, c, d⟩ := h
  have h' : JMk W n k i lst vs w := ⟨a, c, b, fun h1 h2 e => d h2 h1 e.symm⟩
  obtain ⟨a', b', c', d'⟩ := h'.mk1 (fun e => hik e.symm) hl hn hv
  exact ⟨a', c', b', fun h1 h2 e => d' h2 h1 e.symm⟩
end
end Go.Proofs.Ytmgifmdpjlefcaa
