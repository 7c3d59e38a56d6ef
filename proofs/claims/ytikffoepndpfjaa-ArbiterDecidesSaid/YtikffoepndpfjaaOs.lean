/-
  A struct {int, int, []int} as an argument. Conditions: none.
-/
import Derived.Test.YtikffoepndpfjaaK
import Derived.Lib.SmallJoins
import Derived.ChangeArms
namespace Go.Proofs.Ytikffoepndpfjaa
open Go.ChangeShapes Go.WideShapes Go.ChangeAt Go.RowKit Go.Joins

/-- A list of numbers that is a field of a struct. -/
theorem open_nums_y {H : Type} {enc : TypeId × Value → H} {P : Program} {t e : TypeId} {k : IntKind} {W : World} {m : Nat} {v : Value} {y : DataW H × List MemPlace}
    (ht : P.underlying t = some (.slice e)) (he : P.underlying e = some (.int k)) (hc : P.cellsOf e = 1)
    (hf : DataW.trod enc P W 0 (fun _ => true) true m t [v] = some y) (hlt : ∀ q ∈ y.2, q.block < W.heap.size) :
    ∃ (A : Option Addr) (cap : Nat) (l : List Int), v = .slice A l.length cap ∧ l.length ≤ cap ∧ cap ≤ 9223372036854775807 ∧ Ints k W W.heap.size A l ∧ (∀ n ∈ l, (Lit.int k n).wf = true) := by
  rcases open_ints ht he hc hf with ⟨hcs, hx⟩ | ⟨a, len, cap, zs, hcs, _, hl, hm, hz, hx, hcell, hwz⟩
  · simp at hcs
    subst hcs
    exact ⟨none, 0, [], rfl, by simp, by simp, Ints.nil_, by simp⟩
  · simp at hcs
    subst hcs
    subst hx
    simp only [if_true] at hz
    have hlen : (zs.take len).length = len := by simp; omega
    refine ⟨some a, cap, zs.take len, by rw [hlen], by omega, by unfold maxLen at hm; omega, ?_, fun n hn => hwz n (List.mem_of_mem_take hn)⟩
    intro h0
    obtain ⟨ab, ao, spot⟩ := a
    have hspot : spot = none := by simpa [Addr.add] using World.cell?_spot (hcell 0 (by omega))
    subst hspot
    refine ⟨ab, ao, rfl, hlt (.cell ab ao) ?_, fun i hi => ?_⟩
    · simp only [MemPlace.row, List.mem_map, List.mem_range]; exact ⟨0, by omega, rfl⟩
    · have h1 := hcell i (by omega)
      have h2 : (Addr.add ⟨ab, ao, none⟩ i) = ⟨ab, ao + i, none⟩ := by unfold Addr.add; split <;> simp_all
      rw [h2] at h1
      rw [h1]
      simp only [at_, List.getD_eq_getElem?_getD]
      rw [List.getElem?_take_of_lt (by omega)]
/-- A service as an argument. -/
theorem open_service {H : Type} {enc : TypeId × Value → H} {W : World} {base : Nat} {v : Value} {d : DataW H} {p : List MemPlace}
    (hval : Value.okWide Try.prog W .any base 24 v) (h : DataW.Trod enc Try.prog W 0 (fun _ => true) true 24 v d p) :
    ∃ (ph gr : Int) (A : Option Addr) (cap : Nat) (l : List Int), v = .agg #[.int .i64 ph, .int .i64 gr, .slice A l.length cap] ∧ (Lit.int .i64 ph).wf = true ∧ (Lit.int .i64 gr).wf = true ∧ l.length ≤ cap ∧ cap ≤ 9223372036854775807 ∧ Ints .i64 W W.heap.size A l ∧ (∀ n ∈ l, (Lit.int .i64 n).wf = true) := by
  have hlt := (trodAll_mk1 h).lt
  obtain ⟨c0, c1, c2, y0, y1, y2, m, rfl, rfl, rfl, hy0, hy1, hy2⟩ := open_agg3 Try.underlying24 (by kernel_rfl) (by kernel_rfl) hval h
  obtain ⟨a, z0, rfl, w0⟩ := DataW.trod_int Try.underlying3 hy0
  obtain ⟨b, z1, rfl, w1⟩ := DataW.trod_int Try.underlying3 hy1
  simp at z0 z1
  subst z0 z1
  obtain ⟨A, cap, l, rfl, h1, h2, h3, h4⟩ := open_nums_y Try.underlying22 Try.underlying3 (by kernel_rfl) hy2 (fun q hq => hlt q (by simp [hq]))
  exact ⟨a, b, A, cap, l, rfl, w0, w1, h1, h2, h3, h4⟩
end Go.Proofs.Ytikffoepndpfjaa
