/-
  The helpers of the laws of layer 2: remainders, numbers near a limit, short strings.
-/
import Derived.Test.YtepkpogpekflmaaDc
import Derived.Test.YtepkpogpekflmaaE
import Derived.Deep.RegionHeld3
import Derived.Deep.RegionWith
import Derived.Deep.DrawnRows
namespace Go.Proofs.Ytepkpogpekflmaa
open Go.ChangeShapes Go.WideShapes Go.RowKit
set_option linter.unusedVariables false
attribute [local go_sem ↓] Go.wp_at_zero Go.wp_at_succ

/-- The remainder that is never negative, of a positive divisor. -/
def modI (a m : Int) : Int := if a.tmod m < 0 then a.tmod m + m else a.tmod m
theorem modI_bd (a m : Int) (h : 0 < m) : 0 ≤ modI a m ∧ modI a m < m := by
  have h1 := Int.tmod_lt_of_pos a h
  have h2 : -m < a.tmod m := by have := Int.lt_tmod_of_pos a h; omega
  unfold modI; split <;> omega
theorem mod_any (a m : Int) (h0 : 0 < m) (h1 : m ≤ 4294967296) (ha : -9223372036854775808 ≤ a) (hb : a ≤ 9223372036854775807) (w : World) : Calls Try.prog 8 #[.int .i64 a, .int .i64 m] w fun e w' => e = .returned (.int .i64 (modI a m)) ∧ w = w' := by
  have g1 := Int.tmod_lt_of_pos a h0
  have g2 : -m < a.tmod m := by have := Int.lt_tmod_of_pos a h0; omega
  have g0 : (m == 0) = false := by simp; omega
  go_enter Try.func8, Try.ntmps8
  go_wp2
  all_goals go_ret
  all_goals exact ⟨by simp_all [modI]; try omega, rfl⟩
theorem short_any (A : Option Addr) (n c : Nat) (w : World) (hn : n ≤ 9223372036854775807) :
    Calls Try.prog 14 #[.slice A n c] w fun e w' => e = .returned (.bool (decide (n ≤ 600))) ∧ w = w' := by
  go_enter Try.func14, Try.ntmps14
  go_wp2
  go_ret
  exact ⟨by simp; try omega, rfl⟩

def tab (k : Int) : Int := if k = 0 then 0 else if k = 1 then 128 else if k = 2 then 16384 else if k = 3 then 2097152 else if k = 4 then 268435456 else if k = 5 then 4294967296 else 34359738368
def nearI (n : Int) : Int := tab (modI n 7) + modI (n.tdiv 7) 5 - 2
theorem tab_cell (w : World) (i : Int) (h0 : 0 ≤ i) (h1 : i < 7) :
    (w.alloc (.cells #[.int .i64 0, .int .i64 128, .int .i64 16384, .int .i64 2097152, .int .i64 268435456, .int .i64 4294967296, .int .i64 34359738368] 3)).cell? ⟨w.heap.size, i.toNat, none⟩ = some (.int .i64 (tab i)) := by
  rw [cell_of_row _ _ i.toNat _ _ _ (heap_new w _)]
  have hE : i = 0 ∨ i = 1 ∨ i = 2 ∨ i = 3 ∨ i = 4 ∨ i = 5 ∨ i = 6 := by omega
  rcases hE with rfl | rfl | rfl | rfl | rfl | rfl | rfl <;> rfl
set_option maxHeartbeats 1000000 in
theorem near_any (n : Int) (ha : -9223372036854775808 ≤ n) (hb : n ≤ 9223372036854775807) (w : World) :
    Calls Try.prog 7 #[.int .i64 n] w fun e w' => e = .returned (.int .i64 (nearI n)) ∧ Below w.heap.size w w' := by
  have hm := modI_bd n 7 (by decide)
  have hm5 := modI_bd (n.tdiv 7) 5 (by decide)
  have hd : -9223372036854775808 ≤ n.tdiv 7 ∧ n.tdiv 7 ≤ 9223372036854775807 := by
    rcases Int.le_total 0 n with h | h
    · rw [Int.tdiv_eq_ediv_of_nonneg h]; omega
    · have : n = -(-n) := by omega
      rw [this, Int.neg_tdiv, Int.tdiv_eq_ediv_of_nonneg (by omega)]; omega
  have ht : 0 ≤ tab (modI n 7) ∧ tab (modI n 7) ≤ 34359738368 := by unfold tab; (repeat' split) <;> omega
  have hcell := tab_cell w (modI n 7) hm.1 hm.2
  have HW := Lib.hid (show IntKind.i64.wrap (n.tdiv 7) = n.tdiv 7 from IntWalk.i64_in _ (by omega))
  generalize hi : modI n 7 = i at *
  have H := Lib.hid hi
  clear hi
  have m1 := fun w => mod_any n 7 (by omega) (by omega) (by omega) (by omega) w
  have m2 := fun w => mod_any (n.tdiv 7) 5 (by omega) (by omega) (by omega) (by omega) w
  go_enter Try.func7, Try.ntmps7
  go_wp2
  go_region_with (first | (go_at_call 8; ((with_reducible refine (m1 _).mono ?_); rintro e w' ⟨rfl, rfl⟩; rw [H.out])) | (go_at_call 8; rw [HW.out]; refine (m2 _).mono ?_; rintro e w' ⟨rfl, rfl⟩))
  all_goals
    go_wp2
    go_ret
    refine ⟨?_, by repeat (first | exact Below.refl _ _ | apply below_drewN | apply Below.drew | (refine lat_alloc ?_ _))⟩
    have h1 : nearI n = tab i + modI (n.tdiv 7) 5 - 2 := by unfold nearI; rw [H.out]
    rw [h1]; simp [Act.put]
    rw [IntWalk.i64_in (tab i + modI (n.tdiv 7) 5) (by omega), IntWalk.i64_in _ (by omega)]
theorem near_bd (n : Int) : -2 ≤ nearI n ∧ nearI n ≤ 34359738371 := by
  have hm5 := modI_bd (n.tdiv 7) 5 (by decide)
  have ht : 0 ≤ tab (modI n 7) ∧ tab (modI n 7) ≤ 34359738368 := by unfold tab; (repeat' split) <;> omega
  unfold nearI; omega
end Go.Proofs.Ytepkpogpekflmaa
