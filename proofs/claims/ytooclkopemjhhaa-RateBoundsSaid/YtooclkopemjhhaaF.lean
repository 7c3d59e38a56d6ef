/-
  The functions of layer 16 and of its reference answer what the plain functions on buckets say (a bucket: level, rate, burst).
-/
import Derived.Test.YtooclkopemjhhaaK
import Derived.LoopTactic
import Derived.LoopN
namespace Go.Proofs.Ytooclkopemjhhaa
open Go.ChangeShapes Go.WideShapes Go.RowKit
set_option linter.unusedVariables false

def withinB (n m : Int) : Bool := decide (0 ≤ n) && decide (n ≤ m)
def validB (l r b : Int) : Bool := withinB b 1000 && (withinB r b && withinB l b)
theorem within_any (n m : Int) (w : World) : Calls Try.prog 16 #[.int .i64 n, .int .i64 m] w fun e w' => e = .returned (.bool (withinB n m)) ∧ w = w' := by
  go_enter Try.func16, Try.ntmps16
  go_wp2
  all_goals go_ret
  all_goals exact ⟨by simp [withinB]; try omega, rfl⟩
theorem valid_any (l r b : Int) (w : World) : Calls Try.prog 11 #[.agg #[.int .i64 l, .int .i64 r, .int .i64 b]] w fun e w' => e = .returned (.bool (validB l r b)) ∧ Below w.heap.size w w' := by
  go_enter Try.func11, Try.ntmps11
  go_wp2_with (go_at_call 16; refine (within_any _ _ _).mono ?_; rintro e w' ⟨rfl, rfl⟩)
  all_goals go_ret
  all_goals exact ⟨by simp_all [validB], lat_alloc (Below.refl _ _) _⟩
theorem rvalid_any (l r b : Int) (w : World) : Calls Try.prog 12 #[.agg #[.int .i64 l, .int .i64 r, .int .i64 b]] w fun e w' => e = .returned (.bool (validB l r b)) ∧ Below w.heap.size w w' := by
  go_enter Try.func12, Try.ntmps12
  go_wp2

  all_goals go_ret
  all_goals exact ⟨by simp_all [validB, withinB]; try omega, lat_alloc (Below.refl _ _) _⟩
theorem new_any (r b : Int) (w : World) : Calls Try.prog 9 #[.int .i64 r, .int .i64 b] w fun e w' => e = .returned (.agg #[.int .i64 b, .int .i64 r, .int .i64 b]) ∧ Below w.heap.size w w' := by
  go_enter Try.func9, Try.ntmps9
  go_wp2

  exact bodyPost_ret (v := .agg #[.int .i64 b, .int .i64 r, .int .i64 b]) (by simp [results, Try.results9, go_sem]) rfl ⟨rfl, lat_alloc (Below.refl _ _) _⟩
theorem tick_any (l r b : Int) (hl : 0 ≤ l ∧ l ≤ 100000) (hr : 0 ≤ r ∧ r ≤ 100000) (w : World) : Calls Try.prog 13 #[.agg #[.int .i64 l, .int .i64 r, .int .i64 b]] w fun e w' => e = .returned (.agg #[.int .i64 (if l + r ≤ b then l + r else b), .int .i64 r, .int .i64 b]) ∧ Below w.heap.size w w' := by
  by_cases h : l + r ≤ b
  · rw [if_pos h]
    go_enter Try.func13, Try.ntmps13
    go_wp2
    exact bodyPost_ret (v := .agg #[.int .i64 (l + r), .int .i64 r, .int .i64 b]) (by simp [results, Try.results13, go_sem]) rfl ⟨rfl, (by repeat (first | exact Below.refl _ _ | apply below_drewN | apply Below.drew | (refine lat_alloc ?_ _)))⟩
  · rw [if_neg h]
    go_enter Try.func13, Try.ntmps13
    go_wp2
    exact bodyPost_ret (v := .agg #[.int .i64 b, .int .i64 r, .int .i64 b]) (by simp [results, Try.results13, go_sem]) rfl ⟨rfl, (by repeat (first | exact Below.refl _ _ | apply below_drewN | apply Below.drew | (refine lat_alloc ?_ _)))⟩
theorem take_yes (l r b : Int) (hl : 0 < l ∧ l ≤ 100000) (w : World) : Calls Try.prog 7 #[.agg #[.int .i64 l, .int .i64 r, .int .i64 b]] w fun e w' => e = .returned (.tuple #[.agg #[.int .i64 (l - 1), .int .i64 r, .int .i64 b], .bool true]) ∧ Below w.heap.size w w' := by
  go_enter Try.func7, Try.ntmps7
  go_wp2
  exact bodyPost_ret (v := .tuple #[.agg #[.int .i64 (l - 1), .int .i64 r, .int .i64 b], .bool true]) (by simp [results, Try.results7, go_sem]) rfl ⟨rfl, (by repeat (first | exact Below.refl _ _ | apply below_drewN | apply Below.drew | (refine lat_alloc ?_ _)))⟩
theorem take_no (l r b : Int) (hl : l ≤ 0) (w : World) : Calls Try.prog 7 #[.agg #[.int .i64 l, .int .i64 r, .int .i64 b]] w fun e w' => e = .returned (.tuple #[.agg #[.int .i64 l, .int .i64 r, .int .i64 b], .bool false]) ∧ Below w.heap.size w w' := by
  go_enter Try.func7, Try.ntmps7
  go_wp2
  exact bodyPost_ret (v := .tuple #[.agg #[.int .i64 l, .int .i64 r, .int .i64 b], .bool false]) (by simp [results, Try.results7, go_sem]) rfl ⟨rfl, (by repeat (first | exact Below.refl _ _ | apply below_drewN | apply Below.drew | (refine lat_alloc ?_ _)))⟩
theorem rnew_any (r b : Int) (w : World) : Calls Try.prog 10 #[.int .i64 r, .int .i64 b] w fun e w' => e = .returned (.agg #[.int .i64 b, .int .i64 r, .int .i64 b]) ∧ Below w.heap.size w w' := by
  go_enter Try.func10, Try.ntmps10
  go_wp2
  exact bodyPost_ret (v := .agg #[.int .i64 b, .int .i64 r, .int .i64 b]) (by simp [results, Try.results10, go_sem]) rfl ⟨rfl, lat_alloc (Below.refl _ _) _⟩
theorem rtick_any (l r b : Int) (hl : 0 ≤ l ∧ l ≤ 100000) (hr : 0 ≤ r ∧ r ≤ 100000) (w : World) : Calls Try.prog 14 #[.agg #[.int .i64 l, .int .i64 r, .int .i64 b]] w fun e w' => e = .returned (.agg #[.int .i64 (if l + r ≤ b then l + r else b), .int .i64 r, .int .i64 b]) ∧ Below w.heap.size w w' := by
  by_cases h : l + r ≤ b
  · rw [if_pos h]
    go_enter Try.func14, Try.ntmps14
    go_wp2
    exact bodyPost_ret (v := .agg #[.int .i64 (l + r), .int .i64 r, .int .i64 b]) (by simp [results, Try.results14, go_sem]) rfl ⟨rfl, (by repeat (first | exact Below.refl _ _ | apply below_drewN | apply Below.drew | (refine lat_alloc ?_ _)))⟩
  · rw [if_neg h]
    go_enter Try.func14, Try.ntmps14
    go_wp2
    exact bodyPost_ret (v := .agg #[.int .i64 b, .int .i64 r, .int .i64 b]) (by simp [results, Try.results14, go_sem]) rfl ⟨rfl, (by repeat (first | exact Below.refl _ _ | apply below_drewN | apply Below.drew | (refine lat_alloc ?_ _)))⟩
theorem rtake_yes (l r b : Int) (hl : 0 < l ∧ l ≤ 100000) (w : World) : Calls Try.prog 8 #[.agg #[.int .i64 l, .int .i64 r, .int .i64 b]] w fun e w' => e = .returned (.tuple #[.agg #[.int .i64 (l - 1), .int .i64 r, .int .i64 b], .bool true]) ∧ Below w.heap.size w w' := by
  go_enter Try.func8, Try.ntmps8
  go_wp2
  exact bodyPost_ret (v := .tuple #[.agg #[.int .i64 (l - 1), .int .i64 r, .int .i64 b], .bool true]) (by simp [results, Try.results8, go_sem]) rfl ⟨rfl, (by repeat (first | exact Below.refl _ _ | apply below_drewN | apply Below.drew | (refine lat_alloc ?_ _)))⟩
theorem rtake_no (l r b : Int) (hl : l ≤ 0) (w : World) : Calls Try.prog 8 #[.agg #[.int .i64 l, .int .i64 r, .int .i64 b]] w fun e w' => e = .returned (.tuple #[.agg #[.int .i64 l, .int .i64 r, .int .i64 b], .bool false]) ∧ Below w.heap.size w w' := by
  go_enter Try.func8, Try.ntmps8
  go_wp2
  exact bodyPost_ret (v := .tuple #[.agg #[.int .i64 l, .int .i64 r, .int .i64 b], .bool false]) (by simp [results, Try.results8, go_sem]) rfl ⟨rfl, (by repeat (first | exact Below.refl _ _ | apply below_drewN | apply Below.drew | (refine lat_alloc ?_ _)))⟩
/-- What Take leaves. -/
def tk (l : Int) : Int := if 0 < l then l - 1 else l
theorem take_any (l r b : Int) (hl : l ≤ 100000) (w : World) : Calls Try.prog 7 #[.agg #[.int .i64 l, .int .i64 r, .int .i64 b]] w fun e w' => e = .returned (.tuple #[.agg #[.int .i64 (tk l), .int .i64 r, .int .i64 b], .bool (decide (0 < l))]) ∧ Below w.heap.size w w' := by
  unfold tk
  by_cases h : 0 < l
  · rw [if_pos h, decide_eq_true h]; exact take_yes l r b ⟨h, hl⟩ w
  · rw [if_neg h, decide_eq_false h]; exact take_no l r b (by omega) w
theorem rtake_any (l r b : Int) (hl : l ≤ 100000) (w : World) : Calls Try.prog 8 #[.agg #[.int .i64 l, .int .i64 r, .int .i64 b]] w fun e w' => e = .returned (.tuple #[.agg #[.int .i64 (tk l), .int .i64 r, .int .i64 b], .bool (decide (0 < l))]) ∧ Below w.heap.size w w' := by
  unfold tk
  by_cases h : 0 < l
  · rw [if_pos h, decide_eq_true h]; exact rtake_yes l r b ⟨h, hl⟩ w
  · rw [if_neg h, decide_eq_false h]; exact rtake_no l r b (by omega) w
end Go.Proofs.Ytooclkopemjhhaa
