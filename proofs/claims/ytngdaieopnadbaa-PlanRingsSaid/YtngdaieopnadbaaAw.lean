/-
  The sanity check of layer 7. Conditions: none.
-/
import Derived.Test.YtngdaieopnadbaaPn
namespace Go.Proofs.Ytngdaieopnadbaa
open Go.ChangeShapes Go.WideShapes Go.RowKit
set_option linter.unusedVariables false

def p7 : Ph := ⟨0, 0, 1, 1, 1, 0, 0, 0⟩
theorem phs_two {w : World} {T : TypeId} : Phs (w.alloc (.cells #[.int .i64 0, .int .i64 0, .int .i64 1, .int .i64 1, .int .i64 1, .int .i64 0, .int .i64 0, .int .i64 0, .int .i64 0, .int .i64 0, .int .i64 1, .int .i64 1, .int .i64 1, .int .i64 0, .int .i64 0, .int .i64 0] T)) (w.alloc (.cells #[.int .i64 0, .int .i64 0, .int .i64 1, .int .i64 1, .int .i64 1, .int .i64 0, .int .i64 0, .int .i64 0, .int .i64 0, .int .i64 0, .int .i64 1, .int .i64 1, .int .i64 1, .int .i64 0, .int .i64 0, .int .i64 0] T)).heap.size (some ⟨w.heap.size, 0, none⟩) [p7, p7] := fun _ => by
  refine ⟨w.heap.size, 0, rfl, by rw [heap_size]; omega, fun i hi => ?_⟩
  have hB := Blk.new (w := w) (t := T) (cs := #[.int .i64 0, .int .i64 0, .int .i64 1, .int .i64 1, .int .i64 1, .int .i64 0, .int .i64 0, .int .i64 0, .int .i64 0, .int .i64 0, .int .i64 1, .int .i64 1, .int .i64 1, .int .i64 0, .int .i64 0, .int .i64 0])
  have hc : i = 0 ∨ i = 1 := by simp at hi; omega
  rcases hc with rfl | rfl
  · exact ⟨hB.at 0 rfl, hB.at 1 rfl, hB.at 2 rfl, hB.at 3 rfl, hB.at 4 rfl, hB.at 5 rfl, hB.at 6 rfl, hB.at 7 rfl⟩
  · exact ⟨hB.at 8 rfl, hB.at 9 rfl, hB.at 10 rfl, hB.at 11 rfl, hB.at 12 rfl, hB.at 13 rfl, hB.at 14 rfl, hB.at 15 rfl⟩
theorem ints_two {w : World} {T : TypeId} (x y : Int) : Ints .i64 (w.alloc (.cells #[.int .i64 x, .int .i64 y] T)) (w.alloc (.cells #[.int .i64 x, .int .i64 y] T)).heap.size (some ⟨w.heap.size, 0, none⟩) [x, y] :=
  ints_new fun i hi => by
    have hc : i = 0 ∨ i = 1 := by simp at hi; omega
    rcases hc with rfl | rfl <;> rfl
theorem ex_yes : JunV [p7, p7] [2, 1] 0 := by
  refine ⟨by decide, rfl, ⟨by decide, by decide, fun p hp => ?_⟩, by decide, fun i hi => ?_, fun p hp q hq _ => ?_, fun g hg => ?_⟩
  · have hc : p = 0 ∨ p = 1 := by simp at hp; omega
    rcases hc with rfl | rfl
    · refine ⟨by decide, by decide, by decide, fun q hq => ?_⟩
      have hc : q = 0 ∨ q = 1 := by simp at hq; omega
      rcases hc with rfl | rfl <;> decide
    · refine ⟨by decide, by decide, by decide, fun q hq => ?_⟩
      have hc : q = 0 ∨ q = 1 := by simp at hq; omega
      rcases hc with rfl | rfl <;> decide
  · have hc : i = 0 ∨ i = 1 := by simp at hi; omega
    rcases hc with rfl | rfl <;> decide
  · have hc : p = 1 ∧ q = 0 := by simp at hp; omega
    obtain ⟨rfl, rfl⟩ := hc
    decide
  · have hg1 : groupsI [p7, p7] [p7, p7].length = 1 := by decide
    rw [hg1] at hg
    have : g = 0 := by omega
    subst this
    exact ⟨0, by decide, by decide⟩
theorem ex_no : ¬ JunV [p7, p7] [0, 0] 0 := fun h => by
  have := h.ap 1 (by decide) 0 (by decide) (by decide)
  revert this; decide
theorem plan_lit (w : World) (x y : Int) {b : Bool} (h : junB [p7, p7] [x, y] 0 = b) : Calls Try.prog 11 #[.agg #[.slice (some ⟨w.heap.size, 0, none⟩) 2 2, .slice (some ⟨w.heap.size + 1, 0, none⟩) 2 2, .int .i64 0]]
    ((w.alloc (.cells #[.int .i64 0, .int .i64 0, .int .i64 1, .int .i64 1, .int .i64 1, .int .i64 0, .int .i64 0, .int .i64 0, .int .i64 0, .int .i64 0, .int .i64 1, .int .i64 1, .int .i64 1, .int .i64 0, .int .i64 0, .int .i64 0] 51)).alloc (.cells #[.int .i64 x, .int .i64 y] 3)) fun e w' => e = .returned (.bool b) ∧ Below w.heap.size w w' := by
  have h2 := ints_two (w := w.alloc (.cells #[.int .i64 0, .int .i64 0, .int .i64 1, .int .i64 1, .int .i64 1, .int .i64 0, .int .i64 0, .int .i64 0, .int .i64 0, .int .i64 0, .int .i64 1, .int .i64 1, .int .i64 1, .int .i64 0, .int .i64 0, .int .i64 0] 51)) (T := 3) x y
  rw [heap_size w] at h2
  have b1 := lat_alloc (lat_alloc (Below.refl w.heap.size w) (.cells #[.int .i64 0, .int .i64 0, .int .i64 1, .int .i64 1, .int .i64 1, .int .i64 0, .int .i64 0, .int .i64 0, .int .i64 0, .int .i64 0, .int .i64 1, .int .i64 1, .int .i64 1, .int .i64 0, .int .i64 0, .int .i64 0] 51)) (.cells #[.int .i64 x, .int .i64 y] 3)
  refine (plan_any (some ⟨w.heap.size, 0, none⟩) (some ⟨w.heap.size + 1, 0, none⟩) 2 2 2 2 [p7, p7] [x, y] 0 _ rfl rfl (phs_two.grow (lat_alloc (Below.refl _ _) _)) h2 (by omega)).mono fun e w' ⟨he, hb⟩ => ⟨by rw [he, h], b1.trans (hb.mono b1.size)⟩
theorem awake_any (w : World) : Calls Try.prog 7 #[] w fun e w' => e = .returned (.bool true) ∧ Below w.heap.size w w' := by
  have B0 := Blk.new (w := w) (t := 51) (cs := #[.int .i64 0, .int .i64 0, .int .i64 1, .int .i64 1, .int .i64 1, .int .i64 0, .int .i64 0, .int .i64 0])
  have b0 := lat_alloc (Below.refl w.heap.size w) (.cells #[.int .i64 0, .int .i64 0, .int .i64 1, .int .i64 1, .int .i64 1, .int .i64 0, .int .i64 0, .int .i64 0] 51)
  have hsz := heap_size w (.cells #[.int .i64 0, .int .i64 0, .int .i64 1, .int .i64 1, .int .i64 1, .int .i64 0, .int .i64 0, .int .i64 0] 51)
  go_enter Try.func7, Try.ntmps7
  go_wp2_with fail
  rw [← hsz]
  generalize w.alloc (.cells #[.int .i64 0, .int .i64 0, .int .i64 1, .int .i64 1, .int .i64 1, .int .i64 0, .int .i64 0, .int .i64 0] 51) = W at *
  refine (plan_lit W 2 1 (jun_t ex_yes)).mono ?_
  rintro e W2 ⟨rfl, hb2⟩
  have B2 := B0.below hb2
  have j0 := B2.at 0 rfl
  have j1 := B2.at 1 rfl
  have j2 := B2.at 2 rfl
  have j3 := B2.at 3 rfl
  have j4 := B2.at 4 rfl
  have j5 := B2.at 5 rfl
  have j6 := B2.at 6 rfl
  have j7 := B2.at 7 rfl
  go_wp2_with fail
  refine (plan_lit W2 0 0 (jun_f ex_no)).mono ?_
  rintro e W3 ⟨rfl, hb3⟩
  clear j0 j1 j2 j3 j4 j5 j6 j7
  go_wp2
  go_ret
  exact ⟨rfl, b0.trans ((hb2.trans (hb3.mono hb2.size)).mono b0.size)⟩
end Go.Proofs.Ytngdaieopnadbaa
