/-
  Stores of whole structs among operations whose order is open. Conditions: none.
-/
import Derived.Test.YtkpbkahmbbkcdaaTb
import Derived.Test.YtkpbkahmbbkcdaaCp
namespace Go.Proofs.Ytkpbkahmbbkcdaa
open Go.ChangeShapes Go.WideShapes Go.ChangeAt Go.RowKit
set_option linter.unusedVariables false

theorem opS_store_ph {o : Oper} {ev : Operand → Value} {w : World} {R : Value → World → Prop} {p v : Operand} (ho : o.op = .store 51 p v) {b : Nat} {y0 y1 y2 y3 y4 y5 y6 y7 : Value} {x : Ph} (hp : ev p = .pointer (some ⟨b, 0, none⟩)) (hv : ev v = .agg #[.int .i64 x.ri, .int .i64 x.gr, .int .i64 x.mn, .int .i64 x.mx, .int .i64 x.yl, .int .i64 x.rd, .int .i64 x.wk, .int .i64 x.cl]) (hB : Blk w b 51 #[y0, y1, y2, y3, y4, y5, y6, y7])
    (h : ∀ w' : World, Blk w' b 51 #[.int .i64 x.ri, .int .i64 x.gr, .int .i64 x.mn, .int .i64 x.mx, .int .i64 x.yl, .int .i64 x.rd, .int .i64 x.wk, .int .i64 x.cl] → w.grownBy w' (some b) → R undef w') : OpS Try.prog o ev w R := by
  have f0 := hB.frozen 0
  have c0 := hB.at 0 rfl
  have f1 := hB.frozen 1
  have c1 := hB.at 1 rfl
  have f2 := hB.frozen 2
  have c2 := hB.at 2 rfl
  have f3 := hB.frozen 3
  have c3 := hB.at 3 rfl
  have f4 := hB.frozen 4
  have c4 := hB.at 4 rfl
  have f5 := hB.frozen 5
  have c5 := hB.at 5 rfl
  have f6 := hB.frozen 6
  have c6 := hB.at 6 rfl
  have f7 := hB.frozen 7
  have c7 := hB.at 7 rfl
  have hk := h _ (hB.set8 (.int .i64 x.ri) (.int .i64 x.gr) (.int .i64 x.mn) (.int .i64 x.mx) (.int .i64 x.yl) (.int .i64 x.rd) (.int .i64 x.wk) (.int .i64 x.cl)) (grown8 w b _ _ _ _ _ _ _ _)
  unfold OpS
  simp only [execOp, ho, hp, hv]
  go_simp
  all_goals exact hk
theorem opS_store_li {o : Oper} {ev : Operand → Value} {w : World} {R : Value → World → Prop} {p v : Operand} (ho : o.op = .store 45 p v) {b : Nat} {y0 y1 : Value} {x0 x1 : Int} (hp : ev p = .pointer (some ⟨b, 0, none⟩)) (hv : ev v = .agg #[.int .i64 x0, .int .i64 x1]) (hB : Blk w b 45 #[y0, y1])
    (h : ∀ w' : World, Blk w' b 45 #[.int .i64 x0, .int .i64 x1] → w.grownBy w' (some b) → R undef w') : OpS Try.prog o ev w R := by
  have f0 := hB.frozen 0
  have c0 := hB.at 0 rfl
  have f1 := hB.frozen 1
  have c1 := hB.at 1 rfl
  have hk := h _ ((hB.set_ 0 (.int .i64 x0)).set_ 1 (.int .i64 x1)) (grownBy_setAt (grownBy_set w b 0 _) b 1 _ rfl)
  unfold OpS
  simp only [execOp, ho, hp, hv]
  go_simp
  all_goals exact hk
theorem opS_store_ct {o : Oper} {ev : Operand → Value} {w : World} {R : Value → World → Prop} {p v : Operand} (ho : o.op = .store 25 p v) {b : Nat} {y0 y1 y2 y3 : Value} {A1 A2 : Option Addr} {n1 m1 n2 m2 : Nat} {g1 t1 : Int} (hp : ev p = .pointer (some ⟨b, 0, none⟩)) (hv : ev v = .agg #[.slice A1 n1 m1, .int .i64 g1, .slice A2 n2 m2, .int .i64 t1]) (hB : Blk w b 25 #[y0, y1, y2, y3])
    (h : ∀ w' : World, Blk w' b 25 #[.slice A1 n1 m1, .int .i64 g1, .slice A2 n2 m2, .int .i64 t1] → w.grownBy w' (some b) → R undef w') : OpS Try.prog o ev w R := by
  have f0 := hB.frozen 0
  have c0 := hB.at 0 rfl
  have f1 := hB.frozen 1
  have c1 := hB.at 1 rfl
  have f2 := hB.frozen 2
  have c2 := hB.at 2 rfl
  have f3 := hB.frozen 3
  have c3 := hB.at 3 rfl
  have hk := h _ (hB.set4 (.slice A1 n1 m1) (.int .i64 g1) (.slice A2 n2 m2) (.int .i64 t1)) (grownBy_setAt (grownBy_setAt (grownBy_setAt (grownBy_set w b 0 _) b 1 _ rfl) b 2 _ rfl) b 3 _ rfl)
  unfold OpS
  simp only [execOp, ho, hp, hv]
  go_simp
  all_goals exact hk
end Go.Proofs.Ytkpbkahmbbkcdaa
