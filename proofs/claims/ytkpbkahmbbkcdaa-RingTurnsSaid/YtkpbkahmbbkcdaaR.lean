/-
  A statement whose order is open, all of whose operations give one value in every world that only grew: one walk in the order of the text serves every order.
-/
import Derived.Test.YtkpbkahmbbkcdaaK
import Derived.Deep.Quiet
namespace Go.Proofs.Ytkpbkahmbbkcdaa
open Go.ChangeShapes Go.WideShapes Go.ChangeAt Go.RowKit

theorem wp_region_grow {P : Program} {id : Nat} {Q : Exit → Act → World → Prop} {a : Act} {w : World} {l : List Oper} (hm : P.follows .mixedOrders = true) (hB : Region.lexB .any l.toArray = true)
    (h : wpQuiet P l.toArray (fun w' => Below w.heap.size w w') (fun a' => ∀ w', Below w.heap.size w w' → Q .normal a' w') l a) : (Code.region id l.toArray true).wp P Q a w :=
  wp_region_quiet (C := fun w' => Below w.heap.size w w') hm hB ⟨rfl, rfl, rfl, Nat.le_refl _, fun _ _ => rfl⟩ (by simpa using h)
theorem grow_call {P : Program} {f : FuncId} {args : Array Value} {v : Value} {W w : World} (h : Calls P f args w fun e w' => e = .returned v ∧ Below w.heap.size w w') (hC : Below W.heap.size W w) :
    Calls P f args w fun e w' => e = .returned v ∧ Below W.heap.size W w' := h.mono fun _ _ h => ⟨h.1, hC.trans (h.2.mono hC.size)⟩
theorem grow_call' {P : Program} {f : FuncId} {args : Array Value} {v : Value} {W w : World} (h : Calls P f args w fun e w' => e = .returned v ∧ w = w') (hC : Below W.heap.size W w) :
    Calls P f args w fun e w' => e = .returned v ∧ Below W.heap.size W w' := h.mono fun _ _ h => ⟨h.1, h.2 ▸ hC⟩
section
variable {P : Program} {ops : Array Oper} {C : World → Prop} {Q : Act → Prop} {a : Act} {o : Oper} {rest : List Oper}
theorem wpQ_skip (hw : Region.wanted o (yielded ops a.tmps) = false) (h : wpQuiet P ops C Q rest (a.put o.dst undef)) : wpQuiet P ops C Q (o :: rest) a := by
  unfold wpQuiet; rw [hw]; exact h
theorem wpQ_det (hw : Region.wanted o (yielded ops a.tmps) = true) (hx : ∃ v, (∀ w, C w → (execOp a.eval o).run P w = .ok (.value v) w) ∧ wpQuiet P ops C Q rest (a.put o.dst v)) : wpQuiet P ops C Q (o :: rest) a := by
  obtain ⟨v, hrun, h⟩ := hx
  unfold wpQuiet; rw [hw]
  exact ⟨v, fun w hC => by unfold Oper.quietAt; rw [hrun w hC]; exact ⟨rfl, rfl⟩, h⟩
theorem wpQ_call (hw : Region.wanted o (yielded ops a.tmps) = true)
    (hx : ∃ f args, (∀ w, C w → (execOp a.eval o).run P w = .ok (.enter f args) w) ∧ ∃ v, (∀ w, C w → Calls P f args w fun e w' => e = .returned v ∧ C w') ∧ wpQuiet P ops C Q rest (a.put o.dst v)) : wpQuiet P ops C Q (o :: rest) a := by
  obtain ⟨f, args, hrun, v, hc, h⟩ := hx
  unfold wpQuiet; rw [hw]
  exact ⟨v, fun w hC => by unfold Oper.quietAt; rw [hrun w hC]; exact ⟨rfl, hc w hC⟩, h⟩
theorem quiet_det {K : Act → Prop} (hx : ∃ v, (∀ w, C w → (execOp a.eval o).run P w = .ok (.value v) w) ∧ ∃ a', a.put o.dst v = a' ∧ K a') : o.quiet P a C K := by
  obtain ⟨v, hrun, a', rfl, h⟩ := hx
  exact ⟨v, fun w hC => by unfold Oper.quietAt; rw [hrun w hC]; exact ⟨rfl, rfl⟩, h⟩
theorem quiet_call {K : Act → Prop} (hx : ∃ f args, (∀ w, C w → (execOp a.eval o).run P w = .ok (.enter f args) w) ∧ ∃ v, (∀ w, C w → Calls P f args w fun e w' => e = .returned v ∧ C w') ∧ ∃ a', a.put o.dst v = a' ∧ K a') : o.quiet P a C K := by
  obtain ⟨f, args, hrun, v, hc, a', rfl, h⟩ := hx
  exact ⟨v, fun w hC => by unfold Oper.quietAt; rw [hrun w hC]; exact ⟨rfl, hc w hC⟩, h⟩
end
end Go.Proofs.Ytkpbkahmbbkcdaa
