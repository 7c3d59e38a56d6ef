/-
  The lights of a phase: what the program makes of them. Conditions: small phases.
-/
import Derived.Test.YtkpbkahmbbkcdaaVl
import Derived.BigQuiet
namespace Go.Proofs.Ytkpbkahmbbkcdaa
open Go.ChangeShapes Go.WideShapes Go.RowKit
set_option linter.unusedVariables false

theorem lneed_any (p : Ph) (w : World) (hp : PhOk p) : Calls Try.prog 30 #[.agg #[.int .i64 p.ri, .int .i64 p.gr, .int .i64 p.mn, .int .i64 p.mx, .int .i64 p.yl, .int .i64 p.rd, .int .i64 p.wk, .int .i64 p.cl]] w fun e w' => e = .returned (.int .i64 (needV p)) ∧ Below w.heap.size w w' := by
  have h1 := hp.mn
  have h2 : 0 ≤ p.wk ∧ p.wk ≤ 2 ∧ 0 ≤ p.cl ∧ p.cl ≤ 2 := by have := hp.wk; omega
  have bW := lat_alloc (Below.refl w.heap.size w) (.cells #[.int .i64 p.ri, .int .i64 p.gr, .int .i64 p.mn, .int .i64 p.mx, .int .i64 p.yl, .int .i64 p.rd, .int .i64 p.wk, .int .i64 p.cl] 51)
  go_enter Try.func30, Try.ntmps30
  go_wp2
  all_goals go_ret
  all_goals exact ⟨ret_i (by unfold needV; omega), bW⟩
set_option maxHeartbeats 1000000 in
theorem lstep_any (p : Ph) (lm tk : Int) (lv : Bool) (w : World) (hp : PhOk p) (ht : 0 ≤ tk ∧ tk ≤ 1073741824) : Calls Try.prog 47 #[.agg #[.int .i64 p.ri, .int .i64 p.gr, .int .i64 p.mn, .int .i64 p.mx, .int .i64 p.yl, .int .i64 p.rd, .int .i64 p.wk, .int .i64 p.cl], .agg #[.int .i64 lm, .int .i64 tk], .bool lv] w fun e w' => e = .returned (.agg #[.int .i64 (stepV p lm tk lv).1, .int .i64 (stepV p lm tk lv).2]) ∧ Below w.heap.size w w' := by
  have hy := hp.yl
  have hr := hp.rd
  have hn := needV_bd hp
  by_cases h1 : lm = 1
  · subst h1
    have bW := lat_alloc (lat_alloc (lat_alloc (Below.refl w.heap.size w) (.cells #[.int .i64 p.ri, .int .i64 p.gr, .int .i64 p.mn, .int .i64 p.mx, .int .i64 p.yl, .int .i64 p.rd, .int .i64 p.wk, .int .i64 p.cl] 51)) (.cells #[.int .i64 1, .int .i64 tk] 45)) (.cells #[.int .i64 0, .int .i64 0] 45)
    have B6 := Blk.new (w := (w.alloc (.cells #[.int .i64 p.ri, .int .i64 p.gr, .int .i64 p.mn, .int .i64 p.mx, .int .i64 p.yl, .int .i64 p.rd, .int .i64 p.wk, .int .i64 p.cl] 51)).alloc (.cells #[.int .i64 1, .int .i64 tk] 45)) (t := 45) (cs := #[.int .i64 0, .int .i64 0])
    have B4 := (Blk.new (w := w.alloc (.cells #[.int .i64 p.ri, .int .i64 p.gr, .int .i64 p.mn, .int .i64 p.mx, .int .i64 p.yl, .int .i64 p.rd, .int .i64 p.wk, .int .i64 p.cl] 51)) (t := 45) (cs := #[.int .i64 1, .int .i64 tk])).alloc (.cells #[.int .i64 0, .int .i64 0] 45)
    rw [heap_size, heap_size] at B6
    rw [heap_size] at B4
    cases lv with
    | false =>
      have H := Lib.hid (show stepV p 1 tk false = (1, min (tk + 1) 1073741824) by simp [stepV])
      go_enter Try.func47, Try.ntmps47
      go_wp2
      all_goals (try simp only [Exit.inBlock, Exit.then])
      all_goals refine bodyPost_ret (results_cell rfl rfl (load_new)) rfl ?_
      all_goals rw [H.out]
      all_goals exact ⟨ret_l (by omega), lat_alloc (lat_alloc (lat_alloc (Below.refl _ _) _) _) _⟩
    | true =>
      go_enter Try.func47, Try.ntmps47
      go_wp2_with fail
      refine (lneed_any p _ hp).mono ?_
      rintro e w2 ⟨rfl, hb2⟩
      have C6 := B6.below hb2
      have C4 := B4.below hb2
      have c0 := C4.at 0 rfl
      have c1 := C4.at 1 rfl
      have r0 := C6.at 0 rfl
      have r1 := C6.at 1 rfl
      have f0 := C6.frozen 0
      have f1 := C6.frozen 1
      have bF := bW.trans (hb2.mono bW.size)
      by_cases hnd : needV p ≤ tk + 1
      · have H := Lib.hid (show stepV p 1 tk true = (2, 0) by simp [stepV, hnd])
        go_wp2
        (try simp only [Exit.inBlock, Exit.then]); refine bodyPost_ret (results_cell rfl rfl (load_light ((C6.set_ 0 _).set_ 1 _))) rfl ?_
        rw [H.out]
        exact ⟨rfl, (bF.setCell (p := ⟨w.heap.size + 1 + 1, 0, none⟩) (by simp; omega) _).setCell (p := ⟨w.heap.size + 1 + 1, 1, none⟩) (by simp; omega) _⟩
      · have H := Lib.hid (show stepV p 1 tk true = (1, min (tk + 1) 1073741824) by simp [stepV, hnd])
        go_wp2
        all_goals (try simp only [Exit.inBlock, Exit.then])
        all_goals refine bodyPost_ret (results_cell rfl rfl (load_light ((C6.set_ 0 _).set_ 1 _))) rfl ?_
        all_goals rw [H.out]
        all_goals exact ⟨ret_l (by omega), (bF.setCell (p := ⟨w.heap.size + 1 + 1, 0, none⟩) (by simp; omega) _).setCell (p := ⟨w.heap.size + 1 + 1, 1, none⟩) (by simp; omega) _⟩
  have z1 : (lm == 1) = false := by simpa using h1
  by_cases h2 : lm = 2
  · subst h2
    clear h1 z1
    by_cases h3 : tk + 1 < p.yl
    · have H := Lib.hid (show stepV p 2 tk lv = (2, tk + 1) by simp [stepV, *] <;> omega)
      go_enter Try.func47, Try.ntmps47
      go_wp2
      (try simp only [Exit.inBlock, Exit.then]); refine bodyPost_ret (results_cell rfl rfl (load_new)) rfl ?_
      rw [H.out]
      exact ⟨rfl, lat_alloc (lat_alloc (lat_alloc (Below.refl _ _) _) _) _⟩

    · by_cases h4 : 0 < p.rd
      · have H := Lib.hid (show stepV p 2 tk lv = (3, 0) by simp [stepV, *] <;> omega)
        go_enter Try.func47, Try.ntmps47
        go_wp2
        (try simp only [Exit.inBlock, Exit.then]); refine bodyPost_ret (results_cell rfl rfl (load_new)) rfl ?_
        rw [H.out]
        exact ⟨rfl, lat_alloc (lat_alloc (lat_alloc (Below.refl _ _) _) _) _⟩

      · have H := Lib.hid (show stepV p 2 tk lv = (0, 0) by simp [stepV, *] <;> omega)
        go_enter Try.func47, Try.ntmps47
        go_wp2
        (try simp only [Exit.inBlock, Exit.then]); refine bodyPost_ret (results_cell rfl rfl (load_new)) rfl ?_
        rw [H.out]
        exact ⟨rfl, lat_alloc (lat_alloc (lat_alloc (Below.refl _ _) _) _) _⟩

  have z2 : (lm == 2) = false := by simpa using h2
  by_cases h3 : lm = 3
  · subst h3
    clear h1 h2 z1 z2
    by_cases h4 : tk + 1 < p.rd
    · have H := Lib.hid (show stepV p 3 tk lv = (3, tk + 1) by simp [stepV, *] <;> omega)
      go_enter Try.func47, Try.ntmps47
      go_wp2
      (try simp only [Exit.inBlock, Exit.then]); refine bodyPost_ret (results_cell rfl rfl (load_new)) rfl ?_
      rw [H.out]
      exact ⟨rfl, lat_alloc (lat_alloc (lat_alloc (Below.refl _ _) _) _) _⟩

    · have H := Lib.hid (show stepV p 3 tk lv = (0, 0) by simp [stepV, *] <;> omega)
      go_enter Try.func47, Try.ntmps47
      go_wp2
      (try simp only [Exit.inBlock, Exit.then]); refine bodyPost_ret (results_cell rfl rfl (load_new)) rfl ?_
      rw [H.out]
      exact ⟨rfl, lat_alloc (lat_alloc (lat_alloc (Below.refl _ _) _) _) _⟩

  have z3 : (lm == 3) = false := by simpa using h3
  have H := Lib.hid (show stepV p lm tk lv = (lm, tk) by simp [stepV, h1, h2, h3])
  clear h1 h2 h3
  go_enter Try.func47, Try.ntmps47
  go_wp2
  (try simp only [Exit.inBlock, Exit.then]); refine bodyPost_ret (results_cell rfl rfl (load_new)) rfl ?_
  rw [H.out]
  exact ⟨rfl, lat_alloc (lat_alloc (lat_alloc (Below.refl _ _) _) _) _⟩

end Go.Proofs.Ytkpbkahmbbkcdaa
namespace Go.Proofs.Ytkpbkahmbbkcdaa
open Go.ChangeShapes Go.WideShapes Go.RowKit
set_option linter.unusedVariables false

set_option maxHeartbeats 1000000 in
theorem lvalid_any (p : Ph) (lm tk : Int) (w : World) (hp : PhOk p) (l0 : -9223372036854775808 ≤ lm ∧ lm ≤ 9223372036854775807) (ht : -9223372036854775808 ≤ tk ∧ tk ≤ 9223372036854775807) : Calls Try.prog 36 #[.agg #[.int .i64 p.ri, .int .i64 p.gr, .int .i64 p.mn, .int .i64 p.mx, .int .i64 p.yl, .int .i64 p.rd, .int .i64 p.wk, .int .i64 p.cl], .agg #[.int .i64 lm, .int .i64 tk]] w fun e w' => e = .returned (.bool (valB p lm tk)) ∧ Below w.heap.size w w' := by
  have hy := hp.yl
  have hr := hp.rd
  have bW := (lat_alloc (lat_alloc (Below.refl w.heap.size w) (.cells #[.int .i64 p.ri, .int .i64 p.gr, .int .i64 p.mn, .int .i64 p.mx, .int .i64 p.yl, .int .i64 p.rd, .int .i64 p.wk, .int .i64 p.cl] 51)) (.cells #[.int .i64 lm, .int .i64 tk] 45))
  by_cases h0 : lm = 0
  · subst h0
    by_cases ha : 0 ≤ tk
    · have za : decide (0 ≤ tk) = true := by simp; omega
      by_cases hb : tk ≤ 0
      · obtain rfl : tk = 0 := by omega
        have H := Lib.hid (show valB p 0 0 = true by simp [valB])
        go_enter Try.func36, Try.ntmps36
        go_wp2
        go_ret
        exact ⟨ret_b H.out.symm, bW⟩

      · have zb : decide (tk ≤ 0) = false := by simp; omega
        have zd : (tk == 0) = false := by simp; omega
        have H := Lib.hid (show valB p 0 tk = false by simp [valB] <;> omega)
        go_enter Try.func36, Try.ntmps36
        go_wp2
        go_ret
        exact ⟨ret_b H.out.symm, bW⟩

    · have za : decide (0 ≤ tk) = false := by simp; omega
      have zd : (tk == 0) = false := by simp; omega
      have H := Lib.hid (show valB p 0 tk = false by simp [valB] <;> omega)
      go_enter Try.func36, Try.ntmps36
      go_wp2
      go_ret
      exact ⟨ret_b H.out.symm, bW⟩

  have z0 : (lm == 0) = false := by simpa using h0
  by_cases h1 : lm = 1
  · subst h1
    clear h0 z0
    by_cases ha : 0 ≤ tk
    · have za : decide (0 ≤ tk) = true := by simp; omega
      by_cases hb : tk ≤ 1073741824
      · have zb : decide (tk ≤ 1073741824) = true := by simp; omega
        have H := Lib.hid (show valB p 1 tk = true by simp [valB] <;> omega)
        go_enter Try.func36, Try.ntmps36
        go_wp2
        go_ret
        exact ⟨ret_b H.out.symm, bW⟩

      · have zb : decide (tk ≤ 1073741824) = false := by simp; omega
        have H := Lib.hid (show valB p 1 tk = false by simp [valB] <;> omega)
        go_enter Try.func36, Try.ntmps36
        go_wp2
        go_ret
        exact ⟨ret_b H.out.symm, bW⟩

    · have za : decide (0 ≤ tk) = false := by simp; omega
      have H := Lib.hid (show valB p 1 tk = false by simp [valB] <;> omega)
      go_enter Try.func36, Try.ntmps36
      go_wp2
      go_ret
      exact ⟨ret_b H.out.symm, bW⟩

  have z1 : (lm == 1) = false := by simpa using h1
  by_cases h2 : lm = 2
  · subst h2
    clear h0 z0 h1 z1
    by_cases ha : 0 ≤ tk
    · have za : decide (0 ≤ tk) = true := by simp; omega
      by_cases hb : tk ≤ p.yl - 1
      · have zb : decide (tk ≤ p.yl - 1) = true := by simp; omega
        have zc : decide (tk < p.yl) = true := by simp; omega
        have H := Lib.hid (show valB p 2 tk = true by simp [valB] <;> omega)
        go_enter Try.func36, Try.ntmps36
        go_wp2
        go_ret
        exact ⟨ret_b H.out.symm, bW⟩

      · have zb : decide (tk ≤ p.yl - 1) = false := by simp; omega
        have zc : decide (tk < p.yl) = false := by simp; omega
        have H := Lib.hid (show valB p 2 tk = false by simp [valB] <;> omega)
        go_enter Try.func36, Try.ntmps36
        go_wp2
        go_ret
        exact ⟨ret_b H.out.symm, bW⟩

    · have za : decide (0 ≤ tk) = false := by simp; omega
      have H := Lib.hid (show valB p 2 tk = false by simp [valB] <;> omega)
      go_enter Try.func36, Try.ntmps36
      go_wp2
      go_ret
      exact ⟨ret_b H.out.symm, bW⟩

  have z2 : (lm == 2) = false := by simpa using h2
  by_cases h3 : lm = 3
  · subst h3
    clear h0 z0 h1 z1 h2 z2
    by_cases ha : 0 ≤ tk
    · have za : decide (0 ≤ tk) = true := by simp; omega
      by_cases hb : tk ≤ p.rd - 1
      · have zb : decide (tk ≤ p.rd - 1) = true := by simp; omega
        have zc : decide (tk < p.rd) = true := by simp; omega
        have H := Lib.hid (show valB p 3 tk = true by simp [valB] <;> omega)
        go_enter Try.func36, Try.ntmps36
        go_wp2
        go_ret
        exact ⟨ret_b H.out.symm, bW⟩

      · have zb : decide (tk ≤ p.rd - 1) = false := by simp; omega
        have zc : decide (tk < p.rd) = false := by simp; omega
        have H := Lib.hid (show valB p 3 tk = false by simp [valB] <;> omega)
        go_enter Try.func36, Try.ntmps36
        go_wp2
        go_ret
        exact ⟨ret_b H.out.symm, bW⟩

    · have za : decide (0 ≤ tk) = false := by simp; omega
      have H := Lib.hid (show valB p 3 tk = false by simp [valB] <;> omega)
      go_enter Try.func36, Try.ntmps36
      go_wp2
      go_ret
      exact ⟨ret_b H.out.symm, bW⟩

  have z3 : (lm == 3) = false := by simpa using h3
  have H := Lib.hid (show valB p lm tk = false by simp [valB, h0, h1, h2, h3])
  clear h0 h1 h2 h3
  by_cases ha : 0 ≤ tk
  · have za : decide (0 ≤ tk) = true := by simp; omega
    have zb : decide (tk ≤ -1) = false := by simp; omega
    go_enter Try.func36, Try.ntmps36
    go_wp2
    go_ret
    exact ⟨ret_b H.out.symm, bW⟩
  · have za : decide (0 ≤ tk) = false := by simp; omega
    have zb : decide (tk ≤ -1) = true := by simp; omega
    go_enter Try.func36, Try.ntmps36
    go_wp2
    go_ret
    exact ⟨ret_b H.out.symm, bW⟩
end Go.Proofs.Ytkpbkahmbbkcdaa
