/-
  The helpers of the laws of layer 16: the sanity check, remainders.
-/
import Derived.Test.YtooclkopemjhhaaF
namespace Go.Proofs.Ytooclkopemjhhaa
open Go.ChangeShapes Go.WideShapes Go.RowKit
set_option linter.unusedVariables false

/-- The remainder that is never negative, of a positive divisor. -/
def modI (a m : Int) : Int := if a.tmod m < 0 then a.tmod m + m else a.tmod m
theorem modI_bd (a m : Int) (h : 0 < m) : 0 ≤ modI a m ∧ modI a m < m := by
  have h1 := Int.tmod_lt_of_pos a h
  have h2 : -m < a.tmod m := by have := Int.lt_tmod_of_pos a h; omega
  unfold modI; split <;> omega
theorem mod_any (a m : Int) (h0 : 0 < m) (h1 : m ≤ 4294967296) (ha : -9223372036854775808 ≤ a) (hb : a ≤ 9223372036854775807) (w : World) : Calls Try.prog 6 #[.int .i64 a, .int .i64 m] w fun e w' => e = .returned (.int .i64 (modI a m)) ∧ w = w' := by
  have g1 := Int.tmod_lt_of_pos a h0
  have g2 : -m < a.tmod m := by have := Int.lt_tmod_of_pos a h0; omega
  have g0 : (m == 0) = false := by simp; omega
  go_enter Try.func6, Try.ntmps6
  go_wp2
  all_goals go_ret
  all_goals exact ⟨by simp_all [modI]; try omega, rfl⟩
theorem awake_any (w : World) : Calls Try.prog 15 #[] w fun e w' => e = .returned (.bool true) ∧ Below w.heap.size w w' := by
  go_enter Try.func15, Try.ntmps15
  go_wp2_with fail
  refine (new_any 1 2 _).mono ?_; rintro e w1 ⟨rfl, hb1⟩
  have hbW1 : Below w.heap.size w (w1.alloc (.cells #[.int .i64 2, .int .i64 1, .int .i64 2] 23)) := hb1.alloc hb1.size _
  have B1' : Blk (w1.alloc (.cells #[.int .i64 2, .int .i64 1, .int .i64 2] 23)) w1.heap.size 23 #[.int .i64 2, .int .i64 1, .int .i64 2] := Blk.new
  have hg := hb1.size
  go_wp2_with fail
  generalize w1.alloc (.cells #[.int .i64 2, .int .i64 1, .int .i64 2] 23) = W1 at *
  generalize w1.heap.size = g at *
  refine (take_yes 2 1 2 (by omega) _).mono ?_; rintro e w2 ⟨rfl, hb2⟩
  have B2 := B1'.below hb2
  have hbw2 : Below w.heap.size w w2 := hbW1.trans (hb2.mono hbW1.size)
  obtain ⟨c0, c1, c2, f0, f1, f2⟩ := B2.three
  go_wp2_with fail
  have B2' := B2.set3 (.int .i64 1) (.int .i64 1) (.int .i64 2)
  have hbW2 := below_set3 hbw2 hg (.int .i64 1) (.int .i64 1) (.int .i64 2)
  generalize (((w2.setCell ⟨g, 0, none⟩ (.int .i64 1)).setCell ⟨g, 1, none⟩ (.int .i64 1)).setCell ⟨g, 2, none⟩ (.int .i64 2)) = W2 at *
  clear c0 c1 c2 f0 f1 f2 hb2 hbw2
  refine (take_yes 1 1 2 (by omega) _).mono ?_; rintro e w3 ⟨rfl, hb3⟩
  have B3 := B2'.below hb3
  have hbw3 : Below w.heap.size w w3 := hbW2.trans (hb3.mono hbW2.size)
  obtain ⟨c0, c1, c2, f0, f1, f2⟩ := B3.three
  go_wp2_with fail
  have B3' := B3.set3 (.int .i64 0) (.int .i64 1) (.int .i64 2)
  have hbW3 := below_set3 hbw3 hg (.int .i64 0) (.int .i64 1) (.int .i64 2)
  generalize (((w3.setCell ⟨g, 0, none⟩ (.int .i64 0)).setCell ⟨g, 1, none⟩ (.int .i64 1)).setCell ⟨g, 2, none⟩ (.int .i64 2)) = W3 at *
  clear c0 c1 c2 f0 f1 f2 hb3 hbw3
  refine (take_no 0 1 2 (by omega) _).mono ?_; rintro e w4 ⟨rfl, hb4⟩
  have B4 := B3'.below hb4
  have hbw4 : Below w.heap.size w w4 := hbW3.trans (hb4.mono hbW3.size)
  obtain ⟨c0, c1, c2, f0, f1, f2⟩ := B4.three
  go_wp2_with fail
  have B4' := B4.set3 (.int .i64 0) (.int .i64 1) (.int .i64 2)
  have hbW4 := below_set3 hbw4 hg (.int .i64 0) (.int .i64 1) (.int .i64 2)
  generalize (((w4.setCell ⟨g, 0, none⟩ (.int .i64 0)).setCell ⟨g, 1, none⟩ (.int .i64 1)).setCell ⟨g, 2, none⟩ (.int .i64 2)) = W4 at *
  clear c0 c1 c2 f0 f1 f2 hb4 hbw4
  refine (tick_any 0 1 2 (by omega) (by omega) _).mono ?_; rw [if_pos (by omega)]; rintro e w5 ⟨rfl, hb5⟩
  have hbW5 : Below w.heap.size w w5 := hbW4.trans (hb5.mono hbW4.size)
  go_wp2_with fail
  refine (take_yes 1 1 2 (by omega) _).mono ?_; rintro e w6 ⟨rfl, hb6⟩
  have hbW6 : Below w.heap.size w w6 := hbW5.trans (hb6.mono hbW5.size)
  go_wp2
  go_ret
  exact ⟨rfl, hbW6.alloc hbW6.size _⟩
end Go.Proofs.Ytooclkopemjhhaa
