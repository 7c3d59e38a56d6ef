/-
  A phase of a plan: its place, its timing. Conditions: none.
-/
import Derived.Test.YtngdaieopnadbaaPf
import Derived.WalkMore
import Derived.Deep.LoopGhost
namespace Go.Proofs.Ytngdaieopnadbaa
open Go.ChangeShapes Go.WideShapes Go.RowKit
set_option linter.unusedVariables false

theorem within_any (n a b : Int) (w : World) : Calls Try.prog 28 #[.int .i64 n, .int .i64 a, .int .i64 b] w fun e w' => e = .returned (.bool (inR n a b)) ∧ w = w' := by
  by_cases h : a ≤ n
  · go_enter Try.func28, Try.ntmps28
    go_wp2
    go_ret
    exact ⟨ret_b (by unfold inR; rw [decide_eq_true h, Bool.true_and]), rfl⟩
  · go_enter Try.func28, Try.ntmps28
    go_wp2
    go_ret
    exact ⟨ret_b (by unfold inR; rw [decide_eq_false (by omega : ¬ a ≤ n), Bool.false_and]), rfl⟩
theorem within_c {n a b : Int} {r : Bool} (h : inR n a b = r) (w : World) : Calls Try.prog 28 #[.int .i64 n, .int .i64 a, .int .i64 b] w fun e w' => e = .returned (.bool r) ∧ w = w' := by
  have := within_any n a b w
  rw [h] at this
  exact this
theorem place_any (p : Ph) (w : World) : Calls Try.prog 30 #[.agg #[.int .i64 p.ri, .int .i64 p.gr, .int .i64 p.mn, .int .i64 p.mx, .int .i64 p.yl, .int .i64 p.rd, .int .i64 p.wk, .int .i64 p.cl]] w fun e w' => e = .returned (.bool (placeB p)) ∧ Below w.heap.size w w' := by
  have bW := (lat_alloc (Below.refl w.heap.size w) (.cells #[.int .i64 p.ri, .int .i64 p.gr, .int .i64 p.mn, .int .i64 p.mx, .int .i64 p.yl, .int .i64 p.rd, .int .i64 p.wk, .int .i64 p.cl] 51))
  have B := Blk.new (w := w) (t := 51) (cs := #[.int .i64 p.ri, .int .i64 p.gr, .int .i64 p.mn, .int .i64 p.mx, .int .i64 p.yl, .int .i64 p.rd, .int .i64 p.wk, .int .i64 p.cl])
  have j0 := B.at 0 rfl
  have j1 := B.at 1 rfl
  clear B
  rcases Bool.eq_false_or_eq_true (inR p.ri 0 1) with h1 | h1
  · have H1 := Lib.hid h1
    have H := Lib.hid (show placeB p = inR p.gr 0 3 by unfold placeB; rw [h1, Bool.true_and])
    clear h1
    go_enter Try.func30, Try.ntmps30
    go_wp2_with fail
    refine (within_c H1.out _).mono ?_
    rintro e w2 ⟨rfl, rfl⟩
    go_wp2_with fail
    refine (within_any _ _ _ _).mono ?_
    rintro e w2 ⟨rfl, rfl⟩
    go_wp2
    go_ret
    exact ⟨ret_b (by rw [H.out]), bW⟩
  · have H1 := Lib.hid h1
    have H := Lib.hid (show placeB p = false by unfold placeB; rw [h1, Bool.false_and])
    clear h1
    go_enter Try.func30, Try.ntmps30
    go_wp2_with fail
    refine (within_c H1.out _).mono ?_
    rintro e w2 ⟨rfl, rfl⟩
    go_wp2
    go_ret
    exact ⟨ret_b (by rw [H.out]), bW⟩
set_option maxHeartbeats 1000000 in
theorem timing_any (p : Ph) (w : World) : Calls Try.prog 31 #[.agg #[.int .i64 p.ri, .int .i64 p.gr, .int .i64 p.mn, .int .i64 p.mx, .int .i64 p.yl, .int .i64 p.rd, .int .i64 p.wk, .int .i64 p.cl]] w fun e w' => e = .returned (.bool (timB p)) ∧ Below w.heap.size w w' := by
  have bW := (lat_alloc (Below.refl w.heap.size w) (.cells #[.int .i64 p.ri, .int .i64 p.gr, .int .i64 p.mn, .int .i64 p.mx, .int .i64 p.yl, .int .i64 p.rd, .int .i64 p.wk, .int .i64 p.cl] 51))
  have B := Blk.new (w := w) (t := 51) (cs := #[.int .i64 p.ri, .int .i64 p.gr, .int .i64 p.mn, .int .i64 p.mx, .int .i64 p.yl, .int .i64 p.rd, .int .i64 p.wk, .int .i64 p.cl])
  have j2 := B.at 2 rfl
  have j3 := B.at 3 rfl
  have j4 := B.at 4 rfl
  have j5 := B.at 5 rfl
  have j6 := B.at 6 rfl
  have j7 := B.at 7 rfl
  clear B
  rcases Bool.eq_false_or_eq_true (inR p.mx 1 60) with h0 | h0
  rotate_left
  · have H0 := Lib.hid h0
    have HF := Lib.hid (show timB p = false by unfold timB; rw [h0, Bool.false_and])
    clear h0
    go_enter Try.func31, Try.ntmps31
    go_wp2_with fail
    refine (within_c H0.out _).mono ?_
    rintro e w2 ⟨rfl, rfl⟩
    go_wp2
    go_ret
    exact ⟨ret_b (by rw [HF.out]), bW⟩
  rcases Bool.eq_false_or_eq_true (inR p.mn 1 p.mx) with h1 | h1
  rotate_left
  · have H0 := Lib.hid h0
    have H1 := Lib.hid h1
    have HF := Lib.hid (show timB p = false by unfold timB; rw [h0, Bool.true_and]; rw [h1, Bool.false_and])
    clear h0 h1
    go_enter Try.func31, Try.ntmps31
    go_wp2_with fail
    refine (within_c H0.out _).mono ?_
    rintro e w2 ⟨rfl, rfl⟩
    go_wp2_with fail
    refine (within_c H1.out _).mono ?_
    rintro e w2 ⟨rfl, rfl⟩
    go_wp2
    go_ret
    exact ⟨ret_b (by rw [HF.out]), bW⟩
  rcases Bool.eq_false_or_eq_true (inR p.yl 1 60) with h2 | h2
  rotate_left
  · have H0 := Lib.hid h0
    have H1 := Lib.hid h1
    have H2 := Lib.hid h2
    have HF := Lib.hid (show timB p = false by unfold timB; rw [h0, Bool.true_and]; rw [h1, Bool.true_and]; rw [h2, Bool.false_and])
    clear h0 h1 h2
    go_enter Try.func31, Try.ntmps31
    go_wp2_with fail
    refine (within_c H0.out _).mono ?_
    rintro e w2 ⟨rfl, rfl⟩
    go_wp2_with fail
    refine (within_c H1.out _).mono ?_
    rintro e w2 ⟨rfl, rfl⟩
    go_wp2_with fail
    refine (within_c H2.out _).mono ?_
    rintro e w2 ⟨rfl, rfl⟩
    go_wp2
    go_ret
    exact ⟨ret_b (by rw [HF.out]), bW⟩
  rcases Bool.eq_false_or_eq_true (inR p.rd 0 60) with h3 | h3
  rotate_left
  · have H0 := Lib.hid h0
    have H1 := Lib.hid h1
    have H2 := Lib.hid h2
    have H3 := Lib.hid h3
    have HF := Lib.hid (show timB p = false by unfold timB; rw [h0, Bool.true_and]; rw [h1, Bool.true_and]; rw [h2, Bool.true_and]; rw [h3, Bool.false_and])
    clear h0 h1 h2 h3
    go_enter Try.func31, Try.ntmps31
    go_wp2_with fail
    refine (within_c H0.out _).mono ?_
    rintro e w2 ⟨rfl, rfl⟩
    go_wp2_with fail
    refine (within_c H1.out _).mono ?_
    rintro e w2 ⟨rfl, rfl⟩
    go_wp2_with fail
    refine (within_c H2.out _).mono ?_
    rintro e w2 ⟨rfl, rfl⟩
    go_wp2_with fail
    refine (within_c H3.out _).mono ?_
    rintro e w2 ⟨rfl, rfl⟩
    go_wp2
    go_ret
    exact ⟨ret_b (by rw [HF.out]), bW⟩
  rcases Bool.eq_false_or_eq_true (inR p.wk 0 60) with h4 | h4
  rotate_left
  · have H0 := Lib.hid h0
    have H1 := Lib.hid h1
    have H2 := Lib.hid h2
    have H3 := Lib.hid h3
    have H4 := Lib.hid h4
    have HF := Lib.hid (show timB p = false by unfold timB; rw [h0, Bool.true_and]; rw [h1, Bool.true_and]; rw [h2, Bool.true_and]; rw [h3, Bool.true_and]; rw [h4, Bool.false_and])
    clear h0 h1 h2 h3 h4
    go_enter Try.func31, Try.ntmps31
    go_wp2_with fail
    refine (within_c H0.out _).mono ?_
    rintro e w2 ⟨rfl, rfl⟩
    go_wp2_with fail
    refine (within_c H1.out _).mono ?_
    rintro e w2 ⟨rfl, rfl⟩
    go_wp2_with fail
    refine (within_c H2.out _).mono ?_
    rintro e w2 ⟨rfl, rfl⟩
    go_wp2_with fail
    refine (within_c H3.out _).mono ?_
    rintro e w2 ⟨rfl, rfl⟩
    go_wp2_with fail
    refine (within_c H4.out _).mono ?_
    rintro e w2 ⟨rfl, rfl⟩
    go_wp2
    go_ret
    exact ⟨ret_b (by rw [HF.out]), bW⟩
  rcases Bool.eq_false_or_eq_true (inR p.cl 0 60) with h5 | h5
  rotate_left
  · have H0 := Lib.hid h0
    have H1 := Lib.hid h1
    have H2 := Lib.hid h2
    have H3 := Lib.hid h3
    have H4 := Lib.hid h4
    have H5 := Lib.hid h5
    have HF := Lib.hid (show timB p = false by unfold timB; rw [h0, Bool.true_and]; rw [h1, Bool.true_and]; rw [h2, Bool.true_and]; rw [h3, Bool.true_and]; rw [h4, Bool.true_and]; rw [h5, Bool.false_and])
    clear h0 h1 h2 h3 h4 h5
    go_enter Try.func31, Try.ntmps31
    go_wp2_with fail
    refine (within_c H0.out _).mono ?_
    rintro e w2 ⟨rfl, rfl⟩
    go_wp2_with fail
    refine (within_c H1.out _).mono ?_
    rintro e w2 ⟨rfl, rfl⟩
    go_wp2_with fail
    refine (within_c H2.out _).mono ?_
    rintro e w2 ⟨rfl, rfl⟩
    go_wp2_with fail
    refine (within_c H3.out _).mono ?_
    rintro e w2 ⟨rfl, rfl⟩
    go_wp2_with fail
    refine (within_c H4.out _).mono ?_
    rintro e w2 ⟨rfl, rfl⟩
    go_wp2_with fail
    refine (within_c H5.out _).mono ?_
    rintro e w2 ⟨rfl, rfl⟩
    go_wp2
    go_ret
    exact ⟨ret_b (by rw [HF.out]), bW⟩
  have H0 := Lib.hid h0
  have H1 := Lib.hid h1
  have H2 := Lib.hid h2
  have H3 := Lib.hid h3
  have H4 := Lib.hid h4
  have H5 := Lib.hid h5
  have HF := Lib.hid (show timB p = (decide (p.wk + p.cl ≤ p.mx) && decide (p.wk = 0 ↔ p.cl = 0)) by unfold timB; rw [h0, Bool.true_and]; rw [h1, Bool.true_and]; rw [h2, Bool.true_and]; rw [h3, Bool.true_and]; rw [h4, Bool.true_and]; rw [h5, Bool.true_and])
  have ha : 0 ≤ p.wk ∧ p.wk ≤ 60 := by unfold inR at h4; simpa using h4
  have hb : 0 ≤ p.cl ∧ p.cl ≤ 60 := by unfold inR at h5; simpa using h5
  have zw : IntKind.i64.wrap (p.wk + p.cl) = p.wk + p.cl := by rw [IntKind.wrap_i64]; omega
  clear h0 h1 h2 h3 h4 h5
  by_cases g0 : p.wk + p.cl ≤ p.mx
  · have y0 : decide (p.wk + p.cl ≤ p.mx) = true := decide_eq_true g0
    by_cases g1 : p.wk = 0
    · by_cases g2 : p.cl = 0
      · have y1 : (p.wk == 0) = true := by simpa using g1
        have y2 : (p.cl == 0) = true := by simpa using g2
        have HE := Lib.hid (show timB p = true by rw [HF.out, y0, Bool.true_and]; simp [g1, g2])
        clear g0 g1 g2
        go_enter Try.func31, Try.ntmps31
        go_wp2_with fail
        refine (within_c H0.out _).mono ?_
        rintro e w2 ⟨rfl, rfl⟩
        go_wp2_with fail
        refine (within_c H1.out _).mono ?_
        rintro e w2 ⟨rfl, rfl⟩
        go_wp2_with fail
        refine (within_c H2.out _).mono ?_
        rintro e w2 ⟨rfl, rfl⟩
        go_wp2_with fail
        refine (within_c H3.out _).mono ?_
        rintro e w2 ⟨rfl, rfl⟩
        go_wp2_with fail
        refine (within_c H4.out _).mono ?_
        rintro e w2 ⟨rfl, rfl⟩
        go_wp2_with fail
        refine (within_c H5.out _).mono ?_
        rintro e w2 ⟨rfl, rfl⟩
        go_wp2
        go_ret
        exact ⟨ret_b (HE.out.symm), bW⟩
      · have y1 : (p.wk == 0) = true := by simpa using g1
        have y2 : (p.cl == 0) = false := by simpa using g2
        have HE := Lib.hid (show timB p = false by rw [HF.out, y0, Bool.true_and]; simp [g1, g2])
        clear g0 g1 g2
        go_enter Try.func31, Try.ntmps31
        go_wp2_with fail
        refine (within_c H0.out _).mono ?_
        rintro e w2 ⟨rfl, rfl⟩
        go_wp2_with fail
        refine (within_c H1.out _).mono ?_
        rintro e w2 ⟨rfl, rfl⟩
        go_wp2_with fail
        refine (within_c H2.out _).mono ?_
        rintro e w2 ⟨rfl, rfl⟩
        go_wp2_with fail
        refine (within_c H3.out _).mono ?_
        rintro e w2 ⟨rfl, rfl⟩
        go_wp2_with fail
        refine (within_c H4.out _).mono ?_
        rintro e w2 ⟨rfl, rfl⟩
        go_wp2_with fail
        refine (within_c H5.out _).mono ?_
        rintro e w2 ⟨rfl, rfl⟩
        go_wp2
        go_ret
        exact ⟨ret_b (HE.out.symm), bW⟩
    · by_cases g2 : p.cl = 0
      · have y1 : (p.wk == 0) = false := by simpa using g1
        have y2 : (p.cl == 0) = true := by simpa using g2
        have HE := Lib.hid (show timB p = false by rw [HF.out, y0, Bool.true_and]; simp [g1, g2])
        clear g0 g1 g2
        go_enter Try.func31, Try.ntmps31
        go_wp2_with fail
        refine (within_c H0.out _).mono ?_
        rintro e w2 ⟨rfl, rfl⟩
        go_wp2_with fail
        refine (within_c H1.out _).mono ?_
        rintro e w2 ⟨rfl, rfl⟩
        go_wp2_with fail
        refine (within_c H2.out _).mono ?_
        rintro e w2 ⟨rfl, rfl⟩
        go_wp2_with fail
        refine (within_c H3.out _).mono ?_
        rintro e w2 ⟨rfl, rfl⟩
        go_wp2_with fail
        refine (within_c H4.out _).mono ?_
        rintro e w2 ⟨rfl, rfl⟩
        go_wp2_with fail
        refine (within_c H5.out _).mono ?_
        rintro e w2 ⟨rfl, rfl⟩
        go_wp2
        go_ret
        exact ⟨ret_b (HE.out.symm), bW⟩
      · have y1 : (p.wk == 0) = false := by simpa using g1
        have y2 : (p.cl == 0) = false := by simpa using g2
        have HE := Lib.hid (show timB p = true by rw [HF.out, y0, Bool.true_and]; simp [g1, g2])
        clear g0 g1 g2
        go_enter Try.func31, Try.ntmps31
        go_wp2_with fail
        refine (within_c H0.out _).mono ?_
        rintro e w2 ⟨rfl, rfl⟩
        go_wp2_with fail
        refine (within_c H1.out _).mono ?_
        rintro e w2 ⟨rfl, rfl⟩
        go_wp2_with fail
        refine (within_c H2.out _).mono ?_
        rintro e w2 ⟨rfl, rfl⟩
        go_wp2_with fail
        refine (within_c H3.out _).mono ?_
        rintro e w2 ⟨rfl, rfl⟩
        go_wp2_with fail
        refine (within_c H4.out _).mono ?_
        rintro e w2 ⟨rfl, rfl⟩
        go_wp2_with fail
        refine (within_c H5.out _).mono ?_
        rintro e w2 ⟨rfl, rfl⟩
        go_wp2
        go_ret
        exact ⟨ret_b (HE.out.symm), bW⟩
  · have y0 : decide (p.wk + p.cl ≤ p.mx) = false := decide_eq_false g0
    have HE := Lib.hid (show timB p = false by rw [HF.out, y0, Bool.false_and])
    clear g0
    go_enter Try.func31, Try.ntmps31
    go_wp2_with fail
    refine (within_c H0.out _).mono ?_
    rintro e w2 ⟨rfl, rfl⟩
    go_wp2_with fail
    refine (within_c H1.out _).mono ?_
    rintro e w2 ⟨rfl, rfl⟩
    go_wp2_with fail
    refine (within_c H2.out _).mono ?_
    rintro e w2 ⟨rfl, rfl⟩
    go_wp2_with fail
    refine (within_c H3.out _).mono ?_
    rintro e w2 ⟨rfl, rfl⟩
    go_wp2_with fail
    refine (within_c H4.out _).mono ?_
    rintro e w2 ⟨rfl, rfl⟩
    go_wp2_with fail
    refine (within_c H5.out _).mono ?_
    rintro e w2 ⟨rfl, rfl⟩
    go_wp2
    go_ret
    exact ⟨ret_b (HE.out.symm), bW⟩
end Go.Proofs.Ytngdaieopnadbaa
