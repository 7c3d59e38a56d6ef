/-
  A leg in memory: how it is read, and what functions that return one give. Conditions: none.
-/
import Derived.Test.YtjalkocflieobaaMo
namespace Go.Proofs.Ytjalkocflieobaa
open Go.ChangeShapes Go.WideShapes Go.RowKit
set_option linter.unusedVariables false

theorem results_cell {P : Program} {w : World} {fn : Func} {t : TypeId} {a : Tmp} {A : Addr} {V : Value} {tmps : Array Value} (h : fn.results = #[.cell a t]) (ha : tmps.getD a undef = .pointer (some A)) (hl : (loadVar t A).run P w = .ok V w) :
    (results fn tmps).run P w = .ok V w := by
  rw [Array.getD_eq_getD_getElem?] at ha
  simp [results, h, ha, asAddr, hl]
theorem results_cell_tmp {P : Program} {w : World} {fn : Func} {t : TypeId} {a u : Tmp} {A : Addr} {V : Value} {tmps : Array Value} (h : fn.results = #[.cell a t, .tmp u]) (ha : tmps.getD a undef = .pointer (some A)) (hl : (loadVar t A).run P w = .ok V w) :
    (results fn tmps).run P w = .ok (.tuple #[V, tmps.getD u undef]) w := by
  rw [Array.getD_eq_getD_getElem?] at ha
  simp [results, h, ha, asAddr, hl]
theorem load_leg {w : World} {g : Nat} {a b c d e : Value} (h : Blk w g 23 #[a, b, c, d, e]) : (loadVar 23 ⟨g, 0, none⟩).run Try.prog w = .ok (.agg #[a, b, c, d, e]) w := by
  have c0 := Blk.cell h 0
  have c1 := Blk.cell h 1
  have c2 := Blk.cell h 2
  have c3 := Blk.cell h 3
  have c4 := Blk.cell h 4
  go_simp
theorem Blk.five {w : World} {g : Nat} {T : TypeId} {a b c d e : Value} (h : Blk w g T #[a, b, c, d, e]) : w.cell? ⟨g, 0, none⟩ = some a ∧ w.cell? ⟨g, 1, none⟩ = some b ∧ w.cell? ⟨g, 2, none⟩ = some c ∧ w.cell? ⟨g, 3, none⟩ = some d ∧ w.cell? ⟨g, 4, none⟩ = some e ∧ w.frozen? ⟨g, 4, none⟩ = false :=
  ⟨Blk.cell h 0, Blk.cell h 1, Blk.cell h 2, Blk.cell h 3, Blk.cell h 4, Blk.frozen h 4⟩
theorem Blk.fiveF {w : World} {g : Nat} {T : TypeId} {a b c d e : Value} (h : Blk w g T #[a, b, c, d, e]) : w.cell? ⟨g, 0, none⟩ = some a ∧ w.cell? ⟨g, 1, none⟩ = some b ∧ w.cell? ⟨g, 2, none⟩ = some c ∧ w.cell? ⟨g, 3, none⟩ = some d ∧ w.cell? ⟨g, 4, none⟩ = some e ∧
    w.frozen? ⟨g, 0, none⟩ = false ∧ w.frozen? ⟨g, 1, none⟩ = false ∧ w.frozen? ⟨g, 2, none⟩ = false ∧ w.frozen? ⟨g, 3, none⟩ = false ∧ w.frozen? ⟨g, 4, none⟩ = false :=
  ⟨Blk.cell h 0, Blk.cell h 1, Blk.cell h 2, Blk.cell h 3, Blk.cell h 4, Blk.frozen h 0, Blk.frozen h 1, Blk.frozen h 2, Blk.frozen h 3, Blk.frozen h 4⟩
theorem Blk.set5 {w : World} {g : Nat} {T : TypeId} {a b c d e : Value} (h : Blk w g T #[a, b, c, d, e]) (a' b' c' d' e' : Value) : Blk (((((w.setCell ⟨g, 0, none⟩ a').setCell ⟨g, 1, none⟩ b').setCell ⟨g, 2, none⟩ c').setCell ⟨g, 3, none⟩ d').setCell ⟨g, 4, none⟩ e') g T #[a', b', c', d', e'] :=
  ((((h.set_ 0 a').set_ 1 b').set_ 2 c').set_ 3 d').set_ 4 e'
theorem below_set5 {B : Nat} {w0 w : World} {g : Nat} (h : Below B w0 w) (hg : B ≤ g) (a b c d e : Value) : Below B w0 (((((w.setCell ⟨g, 0, none⟩ a).setCell ⟨g, 1, none⟩ b).setCell ⟨g, 2, none⟩ c).setCell ⟨g, 3, none⟩ d).setCell ⟨g, 4, none⟩ e) :=
  ((((h.setCell hg _).setCell hg _).setCell hg _).setCell hg _).setCell hg _
theorem Blk.far5 {w : World} {g g' : Nat} {t : TypeId} {cs : Array Value} (h : Blk w g t cs) (hp : g ≠ g') (a b c d e : Value) : Blk (((((w.setCell ⟨g', 0, none⟩ a).setCell ⟨g', 1, none⟩ b).setCell ⟨g', 2, none⟩ c).setCell ⟨g', 3, none⟩ d).setCell ⟨g', 4, none⟩ e) g t cs :=
  Blk.far (Blk.far (Blk.far (Blk.far (Blk.far h hp _) hp _) hp _) hp _) hp _
theorem Blk.later5 {W : World} {g : Nat} {t : TypeId} {a b c d e : Value} (h : Blk W g t #[a, b, c, d, e]) : (∀ w', Below W.heap.size W w' → w'.cell? ⟨g, 0, none⟩ = some a) ∧ (∀ w', Below W.heap.size W w' → w'.cell? ⟨g, 1, none⟩ = some b) ∧ (∀ w', Below W.heap.size W w' → w'.cell? ⟨g, 2, none⟩ = some c) ∧ (∀ w', Below W.heap.size W w' → w'.cell? ⟨g, 3, none⟩ = some d) ∧ (∀ w', Below W.heap.size W w' → w'.cell? ⟨g, 4, none⟩ = some e) :=
  ⟨fun _ hb => Blk.cell (h.below hb) 0, fun _ hb => Blk.cell (h.below hb) 1, fun _ hb => Blk.cell (h.below hb) 2, fun _ hb => Blk.cell (h.below hb) 3, fun _ hb => Blk.cell (h.below hb) 4⟩
end Go.Proofs.Ytjalkocflieobaa
