/-
  The other side's lights, and which lights are valid, for both sides. Conditions: small phases.
-/
import Derived.Test.YtdcifiinhnilbaaLc
namespace Go.Proofs.Ytdcifiinhnilbaa
open Go.ChangeShapes Go.WideShapes Go.RowKit
set_option linter.unusedVariables false

def valB (p : Ph) (lm tk : Int) : Bool := decide ((lm = 1 ∧ 0 ≤ tk ∧ tk ≤ 1073741824) ∨ (lm = 2 ∧ 0 ≤ tk ∧ tk < p.yl) ∨ (lm = 3 ∧ 0 ≤ tk ∧ tk < p.rd) ∨ (lm = 0 ∧ tk = 0))
def redB (lm : Int) : Bool := decide (lm = 1 ∨ lm = 2)
theorem valB_ok {p : Ph} {lm tk : Int} (h : LiOk p lm tk) : valB p lm tk = true := by unfold LiOk at h; simpa [valB] using h
theorem rneed_any (p : Ph) (w : World) (hp : PhOk p) : Calls Try.prog 15 #[.agg #[.int .i64 p.ri, .int .i64 p.gr, .int .i64 p.mn, .int .i64 p.mx, .int .i64 p.yl, .int .i64 p.rd, .int .i64 p.wk, .int .i64 p.cl]] w fun e w' => e = .returned (.int .i64 (needV p)) ∧ Below w.heap.size w w' := by
  have h1 := hp.mn
  have h2 : 0 ≤ p.wk ∧ p.wk ≤ 2 ∧ 0 ≤ p.cl ∧ p.cl ≤ 2 := by have := hp.wk; omega
  have bW := lat_alloc (Below.refl w.heap.size w) (.cells #[.int .i64 p.ri, .int .i64 p.gr, .int .i64 p.mn, .int .i64 p.mx, .int .i64 p.yl, .int .i64 p.rd, .int .i64 p.wk, .int .i64 p.cl] 26)
  go_enter Try.func15, Try.ntmps15
  go_wp2
  all_goals go_ret
  all_goals exact ⟨ret_i (by unfold needV; omega), bW⟩
theorem rcount_any (p : Ph) (lm tk : Int) (w : World) (hp : PhOk p) (ht : 0 ≤ tk ∧ tk ≤ 1073741824) : Calls Try.prog 19 #[.agg #[.int .i64 p.ri, .int .i64 p.gr, .int .i64 p.mn, .int .i64 p.mx, .int .i64 p.yl, .int .i64 p.rd, .int .i64 p.wk, .int .i64 p.cl], .agg #[.int .i64 lm, .int .i64 tk]] w fun e w' => e = .returned (.int .i64 (countV p lm tk)) ∧ Below w.heap.size w w' := by
  have hy := hp.yl
  have hr := hp.rd
  have hn := needV_bd hp
  have bW := lat_alloc (lat_alloc (Below.refl w.heap.size w) (.cells #[.int .i64 p.ri, .int .i64 p.gr, .int .i64 p.mn, .int .i64 p.mx, .int .i64 p.yl, .int .i64 p.rd, .int .i64 p.wk, .int .i64 p.cl] 26)) (.cells #[.int .i64 lm, .int .i64 tk] 23)
  by_cases h1 : lm = 1
  · subst h1
    have H := Lib.hid (show countV p 1 tk = max 0 (needV p - 1 - tk) by simp [countV])
    go_enter Try.func19, Try.ntmps19
    have B0 := Blk.new (w := w.alloc (.cells #[.int .i64 p.ri, .int .i64 p.gr, .int .i64 p.mn, .int .i64 p.mx, .int .i64 p.yl, .int .i64 p.rd, .int .i64 p.wk, .int .i64 p.cl] 26)) (t := 23) (cs := #[.int .i64 1, .int .i64 tk])
    rw [heap_size] at B0
    have Bp := (Blk.new (w := w) (t := 26) (cs := #[.int .i64 p.ri, .int .i64 p.gr, .int .i64 p.mn, .int .i64 p.mx, .int .i64 p.yl, .int .i64 p.rd, .int .i64 p.wk, .int .i64 p.cl])).alloc (.cells #[.int .i64 1, .int .i64 tk] 23)
    go_wp2_with fail
    generalize hW : (w.alloc (.cells #[.int .i64 p.ri, .int .i64 p.gr, .int .i64 p.mn, .int .i64 p.mx, .int .i64 p.yl, .int .i64 p.rd, .int .i64 p.wk, .int .i64 p.cl] 26)).alloc (.cells #[.int .i64 1, .int .i64 tk] 23) = W at *
    clear hW
    have l0 := B0.laterN 0 rfl
    have l1 := B0.laterN 1 rfl
    have q0 := Bp.laterN 0 rfl
    have q1 := Bp.laterN 1 rfl
    have q2 := Bp.laterN 2 rfl
    have q3 := Bp.laterN 3 rfl
    have q4 := Bp.laterN 4 rfl
    have q5 := Bp.laterN 5 rfl
    have q6 := Bp.laterN 6 rfl
    have q7 := Bp.laterN 7 rfl
    refine wp_region_grow (by kernel_rfl) (by kernel_rfl) ?_
    repeat' (first
        | go_big_quiet_skip
        | (go_big_quiet_want; first
            | (go_big_quiet_op; go_big_quiet_on)
            | (refine quiet_det ?_; apply Exists.intro; refine ⟨fun w' hC => ?_, ?_⟩; (go_simp <;> (first | rfl | exact ⟨rfl, rfl⟩)); apply Exists.intro; refine ⟨?_, ?_⟩; (go_simp <;> (first | rfl | exact ⟨rfl, rfl⟩)); go_big_quiet_on)
            | (show Oper.quiet _ { dst := _, op := .call { callee := .value _, args := _, argTypes := _ }, type := _, pos := _, after := _, guard := _ } _ _ _; refine quiet_call ?_; apply Exists.intro; apply Exists.intro; refine ⟨fun w' hC => ?_, ?_⟩; (go_simp <;> (first | rfl | exact ⟨rfl, rfl⟩)); apply Exists.intro; refine ⟨fun w' hC => ?_, ?_⟩; (first
                | with_reducible exact grow_call (rneed_any p w' hp) hC
                | fail); apply Exists.intro; refine ⟨?_, ?_⟩; (go_simp <;> (first | rfl | exact ⟨rfl, rfl⟩)); go_big_quiet_on)))
    all_goals refine wpQuiet_nil ?_
    intro w2 hb2
    have w1 : IntKind.i64.wrap (needV p - 1) = needV p - 1 := by rw [IntKind.wrap_i64]; omega
    have w2 : IntKind.i64.wrap (needV p - 1 - tk) = needV p - 1 - tk := by rw [IntKind.wrap_i64]; omega
    have B := B0.below hb2
    have c1 := B.at 1 rfl
    go_wp2
    all_goals go_ret
    all_goals exact ⟨ret_i (by rw [H.out]; omega), bW.trans (hb2.mono bW.size)⟩
  have z1 : (lm == 1) = false := by simpa using h1
  by_cases h2 : lm = 2
  · subst h2
    have H := Lib.hid (show countV p 2 tk = p.yl - 1 - tk by simp [countV])
    clear h1
    go_enter Try.func19, Try.ntmps19
    go_wp2
    go_ret
    exact ⟨ret_i H.out.symm, bW⟩
  have z2 : (lm == 2) = false := by simpa using h2
  by_cases h3 : lm = 3
  · subst h3
    have H := Lib.hid (show countV p 3 tk = p.rd - 1 - tk by simp [countV])
    clear h1 h2
    go_enter Try.func19, Try.ntmps19
    go_wp2
    go_ret
    exact ⟨ret_i H.out.symm, bW⟩
  have z3 : (lm == 3) = false := by simpa using h3
  have H := Lib.hid (show countV p lm tk = 0 by simp [countV, h1, h2, h3])
  clear h1 h2 h3
  go_enter Try.func19, Try.ntmps19
  go_wp2
  go_ret
  exact ⟨ret_i H.out.symm, bW⟩
theorem rwalk_any (p : Ph) (lm tk : Int) (w : World) (hp : PhOk p) (ht : 0 ≤ tk ∧ tk ≤ 1073741824) : Calls Try.prog 21 #[.agg #[.int .i64 p.ri, .int .i64 p.gr, .int .i64 p.mn, .int .i64 p.mx, .int .i64 p.yl, .int .i64 p.rd, .int .i64 p.wk, .int .i64 p.cl], .agg #[.int .i64 lm, .int .i64 tk]] w fun e w' => e = .returned (.int .i64 (walkV p lm tk)) ∧ Below w.heap.size w w' := by
  have h2 : 0 ≤ p.wk ∧ p.wk ≤ 2 ∧ 0 ≤ p.cl ∧ p.cl ≤ 2 := by have := hp.wk; omega
  have bW := (lat_alloc (lat_alloc (Below.refl w.heap.size w) (.cells #[.int .i64 p.ri, .int .i64 p.gr, .int .i64 p.mn, .int .i64 p.mx, .int .i64 p.yl, .int .i64 p.rd, .int .i64 p.wk, .int .i64 p.cl] 26)) (.cells #[.int .i64 lm, .int .i64 tk] 23))
  by_cases hl : lm = 1
  · subst hl
    by_cases h3 : tk < p.wk
    · have h4 : tk < p.wk + p.cl := by omega
      have z4 : decide (p.wk + p.cl ≤ tk) = false := by simp; omega
      have HH := Lib.hid (show walkV p 1 tk = 1 by simp [walkV, h3])
      go_enter Try.func21, Try.ntmps21
      go_wp2
      go_ret
      exact ⟨ret_i HH.out.symm, bW⟩

    · by_cases h4 : tk < p.wk + p.cl
      · have z4 : decide (p.wk + p.cl ≤ tk) = false := by simp; omega
        have HH := Lib.hid (show walkV p 1 tk = 2 by simp [walkV, h3, h4])
        go_enter Try.func21, Try.ntmps21
        go_wp2
        go_ret
        exact ⟨ret_i HH.out.symm, bW⟩

      · have z4 : decide (p.wk + p.cl ≤ tk) = true := by simp; omega
        have HH := Lib.hid (show walkV p 1 tk = 0 by simp [walkV, h3, h4])
        go_enter Try.func21, Try.ntmps21
        go_wp2
        go_ret
        exact ⟨ret_i HH.out.symm, bW⟩

  · have HH := Lib.hid (show walkV p lm tk = 0 by simp [walkV, hl])
    have z1 : (lm == 1) = false := by simpa using hl
    have z2 : (lm != 1) = true := by simpa using hl
    clear hl
    go_enter Try.func21, Try.ntmps21
    go_wp2
    go_ret
    exact ⟨ret_i HH.out.symm, bW⟩
set_option maxHeartbeats 1000000 in
theorem rstep_any (p : Ph) (lm tk : Int) (lv : Bool) (w : World) (hp : PhOk p) (hli : LiOk p lm tk) : Calls Try.prog 17 #[.agg #[.int .i64 p.ri, .int .i64 p.gr, .int .i64 p.mn, .int .i64 p.mx, .int .i64 p.yl, .int .i64 p.rd, .int .i64 p.wk, .int .i64 p.cl], .agg #[.int .i64 lm, .int .i64 tk], .bool lv] w fun e w' => e = .returned (.agg #[.int .i64 (stepV p lm tk lv).1, .int .i64 (stepV p lm tk lv).2]) ∧ Below w.heap.size w w' := by
  have hy := hp.yl
  have hr := hp.rd
  have hn := needV_bd hp
  unfold LiOk at hli
  rcases hli with ⟨rfl, ht⟩ | ⟨rfl, ht⟩ | ⟨rfl, ht⟩ | ⟨rfl, rfl⟩
  · cases lv with
    | false =>
      have H := Lib.hid (show stepV p 1 tk false = (1, min (tk + 1) 1073741824) by simp [stepV])
      go_enter Try.func17, Try.ntmps17
      go_wp2
      all_goals (try simp only [Exit.inBlock, Exit.then])
      all_goals refine bodyPost_ret (results_cell rfl rfl load_new) rfl ?_
      all_goals rw [H.out]
      all_goals exact ⟨ret_l (by omega), lat_alloc (lat_alloc (lat_alloc (Below.refl _ _) _) _) _⟩
    | true =>
      have bW := lat_alloc (lat_alloc (lat_alloc (Below.refl w.heap.size w) (.cells #[.int .i64 p.ri, .int .i64 p.gr, .int .i64 p.mn, .int .i64 p.mx, .int .i64 p.yl, .int .i64 p.rd, .int .i64 p.wk, .int .i64 p.cl] 26)) (.cells #[.int .i64 1, .int .i64 tk] 23)) (.cells #[.int .i64 0, .int .i64 0] 23)
      have B6 := Blk.new (w := (w.alloc (.cells #[.int .i64 p.ri, .int .i64 p.gr, .int .i64 p.mn, .int .i64 p.mx, .int .i64 p.yl, .int .i64 p.rd, .int .i64 p.wk, .int .i64 p.cl] 26)).alloc (.cells #[.int .i64 1, .int .i64 tk] 23)) (t := 23) (cs := #[.int .i64 0, .int .i64 0])
      have B4 := (Blk.new (w := w.alloc (.cells #[.int .i64 p.ri, .int .i64 p.gr, .int .i64 p.mn, .int .i64 p.mx, .int .i64 p.yl, .int .i64 p.rd, .int .i64 p.wk, .int .i64 p.cl] 26)) (t := 23) (cs := #[.int .i64 1, .int .i64 tk])).alloc (.cells #[.int .i64 0, .int .i64 0] 23)
      rw [heap_size, heap_size] at B6
      rw [heap_size] at B4
      go_enter Try.func17, Try.ntmps17
      go_wp2_with fail
      refine (rneed_any p _ hp).mono ?_
      rintro e w2 ⟨rfl, hb2⟩
      have C6 := B6.below hb2
      have C4 := B4.below hb2
      have c0 := C4.at 0 rfl
      have c1 := C4.at 1 rfl
      have r0 := C6.at 0 rfl
      have r1 := C6.at 1 rfl
      have f0 := C6.frozen 0
      have f1 := C6.frozen 1
      have bF := bW.trans (hb2.mono bW.size)
      by_cases hnd : needV p ≤ tk + 1
      · have H := Lib.hid (show stepV p 1 tk true = (2, 0) by simp [stepV, hnd])
        have zz : decide (needV p ≤ tk + 1) = true := by simpa using hnd
        go_wp2
        (try simp only [Exit.inBlock, Exit.then]); refine bodyPost_ret (results_cell rfl rfl (load_light ((C6.set_ 0 _).set_ 1 _))) rfl ?_
        rw [H.out]
        exact ⟨rfl, (bF.setCell (p := ⟨w.heap.size + 1 + 1, 0, none⟩) (by simp; omega) _).setCell (p := ⟨w.heap.size + 1 + 1, 1, none⟩) (by simp; omega) _⟩
      · have H := Lib.hid (show stepV p 1 tk true = (1, min (tk + 1) 1073741824) by simp [stepV, hnd])
        have zz : decide (needV p ≤ tk + 1) = false := by simpa using hnd
        go_wp2
        all_goals (try simp only [Exit.inBlock, Exit.then])
        all_goals refine bodyPost_ret (results_cell rfl rfl (load_light ((C6.set_ 0 _).set_ 1 _))) rfl ?_
        all_goals rw [H.out]
        all_goals exact ⟨ret_l (by omega), (bF.setCell (p := ⟨w.heap.size + 1 + 1, 0, none⟩) (by simp; omega) _).setCell (p := ⟨w.heap.size + 1 + 1, 1, none⟩) (by simp; omega) _⟩

  · by_cases h3 : tk + 1 < p.yl
    · have H := Lib.hid (show stepV p 2 tk lv = (2, tk + 1) by simp [stepV, *] <;> omega)
      have z3 : decide (p.yl ≤ tk + 1) = false := by simp; omega
      go_enter Try.func17, Try.ntmps17
      go_wp2
      all_goals (try simp only [Exit.inBlock, Exit.then])
      all_goals refine bodyPost_ret (results_cell rfl rfl load_new) rfl ?_
      all_goals rw [H.out]
      all_goals exact ⟨ret_l (by omega), lat_alloc (lat_alloc (lat_alloc (Below.refl _ _) _) _) _⟩

    · have z3 : decide (p.yl ≤ tk + 1) = true := by simp; omega
      by_cases h4 : 0 < p.rd
      · have H := Lib.hid (show stepV p 2 tk lv = (3, 0) by simp [stepV, *] <;> omega)
        have z4 : decide (0 < p.rd) = true := by simp; omega
        go_enter Try.func17, Try.ntmps17
        go_wp2
        all_goals (try simp only [Exit.inBlock, Exit.then])
        all_goals refine bodyPost_ret (results_cell rfl rfl load_new) rfl ?_
        all_goals rw [H.out]
        all_goals exact ⟨ret_l (by omega), lat_alloc (lat_alloc (lat_alloc (Below.refl _ _) _) _) _⟩

      · have H := Lib.hid (show stepV p 2 tk lv = (0, 0) by simp [stepV, *] <;> omega)
        have z4 : decide (0 < p.rd) = false := by simp; omega
        go_enter Try.func17, Try.ntmps17
        go_wp2
        all_goals (try simp only [Exit.inBlock, Exit.then])
        all_goals refine bodyPost_ret (results_cell rfl rfl load_new) rfl ?_
        all_goals rw [H.out]
        all_goals exact ⟨ret_l (by omega), lat_alloc (lat_alloc (lat_alloc (Below.refl _ _) _) _) _⟩

  · by_cases h4 : tk + 1 < p.rd
    · have H := Lib.hid (show stepV p 3 tk lv = (3, tk + 1) by simp [stepV, *] <;> omega)
      have z3 : decide (p.rd ≤ tk + 1) = false := by simp; omega
      go_enter Try.func17, Try.ntmps17
      go_wp2
      all_goals (try simp only [Exit.inBlock, Exit.then])
      all_goals refine bodyPost_ret (results_cell rfl rfl load_new) rfl ?_
      all_goals rw [H.out]
      all_goals exact ⟨ret_l (by omega), lat_alloc (lat_alloc (lat_alloc (Below.refl _ _) _) _) _⟩

    · have H := Lib.hid (show stepV p 3 tk lv = (0, 0) by simp [stepV, *] <;> omega)
      have z3 : decide (p.rd ≤ tk + 1) = true := by simp; omega
      go_enter Try.func17, Try.ntmps17
      go_wp2
      all_goals (try simp only [Exit.inBlock, Exit.then])
      all_goals refine bodyPost_ret (results_cell rfl rfl load_new) rfl ?_
      all_goals rw [H.out]
      all_goals exact ⟨ret_l (by omega), lat_alloc (lat_alloc (lat_alloc (Below.refl _ _) _) _) _⟩

  · have H := Lib.hid (show stepV p 0 0 lv = (0, 0) by simp [stepV, *] <;> omega)
    go_enter Try.func17, Try.ntmps17
    go_wp2
    all_goals (try simp only [Exit.inBlock, Exit.then])
    all_goals refine bodyPost_ret (results_cell rfl rfl load_new) rfl ?_
    all_goals rw [H.out]
    all_goals exact ⟨ret_l (by omega), lat_alloc (lat_alloc (lat_alloc (Below.refl _ _) _) _) _⟩

set_option maxHeartbeats 1000000 in
theorem valid_any (p : Ph) (lm tk : Int) (w : World) (hp : PhOk p) (l0 : -9223372036854775808 ≤ lm ∧ lm ≤ 9223372036854775807) (ht : -9223372036854775808 ≤ tk ∧ tk ≤ 9223372036854775807) : Calls Try.prog 10 #[.agg #[.int .i64 p.ri, .int .i64 p.gr, .int .i64 p.mn, .int .i64 p.mx, .int .i64 p.yl, .int .i64 p.rd, .int .i64 p.wk, .int .i64 p.cl], .agg #[.int .i64 lm, .int .i64 tk]] w fun e w' => e = .returned (.bool (valB p lm tk)) ∧ Below w.heap.size w w' := by
  have hy := hp.yl
  have hr := hp.rd
  have bW := (lat_alloc (lat_alloc (Below.refl w.heap.size w) (.cells #[.int .i64 p.ri, .int .i64 p.gr, .int .i64 p.mn, .int .i64 p.mx, .int .i64 p.yl, .int .i64 p.rd, .int .i64 p.wk, .int .i64 p.cl] 26)) (.cells #[.int .i64 lm, .int .i64 tk] 23))
  by_cases h0 : lm = 0
  · subst h0
    by_cases ha : 0 ≤ tk
    · have za : decide (0 ≤ tk) = true := by simp; omega
      by_cases hb : tk ≤ 0
      · obtain rfl : tk = 0 := by omega
        have H := Lib.hid (show valB p 0 0 = true by simp [valB])
        go_enter Try.func10, Try.ntmps10
        go_wp2
        go_ret
        exact ⟨ret_b H.out.symm, bW⟩

      · have zb : decide (tk ≤ 0) = false := by simp; omega
        have zd : (tk == 0) = false := by simp; omega
        have H := Lib.hid (show valB p 0 tk = false by simp [valB] <;> omega)
        go_enter Try.func10, Try.ntmps10
        go_wp2
        go_ret
        exact ⟨ret_b H.out.symm, bW⟩

    · have za : decide (0 ≤ tk) = false := by simp; omega
      have zd : (tk == 0) = false := by simp; omega
      have H := Lib.hid (show valB p 0 tk = false by simp [valB] <;> omega)
      go_enter Try.func10, Try.ntmps10
      go_wp2
      go_ret
      exact ⟨ret_b H.out.symm, bW⟩

  have z0 : (lm == 0) = false := by simpa using h0
  by_cases h1 : lm = 1
  · subst h1
    clear h0 z0
    by_cases ha : 0 ≤ tk
    · have za : decide (0 ≤ tk) = true := by simp; omega
      by_cases hb : tk ≤ 1073741824
      · have zb : decide (tk ≤ 1073741824) = true := by simp; omega
        have H := Lib.hid (show valB p 1 tk = true by simp [valB] <;> omega)
        go_enter Try.func10, Try.ntmps10
        go_wp2
        go_ret
        exact ⟨ret_b H.out.symm, bW⟩

      · have zb : decide (tk ≤ 1073741824) = false := by simp; omega
        have H := Lib.hid (show valB p 1 tk = false by simp [valB] <;> omega)
        go_enter Try.func10, Try.ntmps10
        go_wp2
        go_ret
        exact ⟨ret_b H.out.symm, bW⟩

    · have za : decide (0 ≤ tk) = false := by simp; omega
      have H := Lib.hid (show valB p 1 tk = false by simp [valB] <;> omega)
      go_enter Try.func10, Try.ntmps10
      go_wp2
      go_ret
      exact ⟨ret_b H.out.symm, bW⟩

  have z1 : (lm == 1) = false := by simpa using h1
  by_cases h2 : lm = 2
  · subst h2
    clear h0 z0 h1 z1
    by_cases ha : 0 ≤ tk
    · have za : decide (0 ≤ tk) = true := by simp; omega
      by_cases hb : tk ≤ p.yl - 1
      · have zb : decide (tk ≤ p.yl - 1) = true := by simp; omega
        have zc : decide (tk < p.yl) = true := by simp; omega
        have H := Lib.hid (show valB p 2 tk = true by simp [valB] <;> omega)
        go_enter Try.func10, Try.ntmps10
        go_wp2
        go_ret
        exact ⟨ret_b H.out.symm, bW⟩

      · have zb : decide (tk ≤ p.yl - 1) = false := by simp; omega
        have zc : decide (tk < p.yl) = false := by simp; omega
        have H := Lib.hid (show valB p 2 tk = false by simp [valB] <;> omega)
        go_enter Try.func10, Try.ntmps10
        go_wp2
        go_ret
        exact ⟨ret_b H.out.symm, bW⟩

    · have za : decide (0 ≤ tk) = false := by simp; omega
      have H := Lib.hid (show valB p 2 tk = false by simp [valB] <;> omega)
      go_enter Try.func10, Try.ntmps10
      go_wp2
      go_ret
      exact ⟨ret_b H.out.symm, bW⟩

  have z2 : (lm == 2) = false := by simpa using h2
  by_cases h3 : lm = 3
  · subst h3
    clear h0 z0 h1 z1 h2 z2
    by_cases ha : 0 ≤ tk
    · have za : decide (0 ≤ tk) = true := by simp; omega
      by_cases hb : tk ≤ p.rd - 1
      · have zb : decide (tk ≤ p.rd - 1) = true := by simp; omega
        have zc : decide (tk < p.rd) = true := by simp; omega
        have H := Lib.hid (show valB p 3 tk = true by simp [valB] <;> omega)
        go_enter Try.func10, Try.ntmps10
        go_wp2
        go_ret
        exact ⟨ret_b H.out.symm, bW⟩

      · have zb : decide (tk ≤ p.rd - 1) = false := by simp; omega
        have zc : decide (tk < p.rd) = false := by simp; omega
        have H := Lib.hid (show valB p 3 tk = false by simp [valB] <;> omega)
        go_enter Try.func10, Try.ntmps10
        go_wp2
        go_ret
        exact ⟨ret_b H.out.symm, bW⟩

    · have za : decide (0 ≤ tk) = false := by simp; omega
      have H := Lib.hid (show valB p 3 tk = false by simp [valB] <;> omega)
      go_enter Try.func10, Try.ntmps10
      go_wp2
      go_ret
      exact ⟨ret_b H.out.symm, bW⟩

  have z3 : (lm == 3) = false := by simpa using h3
  have H := Lib.hid (show valB p lm tk = false by simp [valB, h0, h1, h2, h3])
  clear h0 h1 h2 h3
  by_cases ha : 0 ≤ tk
  · have za : decide (0 ≤ tk) = true := by simp; omega
    have zb : decide (tk ≤ -1) = false := by simp; omega
    go_enter Try.func10, Try.ntmps10
    go_wp2
    go_ret
    exact ⟨ret_b H.out.symm, bW⟩
  · have za : decide (0 ≤ tk) = false := by simp; omega
    have zb : decide (tk ≤ -1) = true := by simp; omega
    go_enter Try.func10, Try.ntmps10
    go_wp2
    go_ret
    exact ⟨ret_b H.out.symm, bW⟩
set_option maxHeartbeats 1000000 in
theorem rvalid_any (p : Ph) (lm tk : Int) (w : World) (hp : PhOk p) (l0 : -9223372036854775808 ≤ lm ∧ lm ≤ 9223372036854775807) (ht : -9223372036854775808 ≤ tk ∧ tk ≤ 9223372036854775807) : Calls Try.prog 11 #[.agg #[.int .i64 p.ri, .int .i64 p.gr, .int .i64 p.mn, .int .i64 p.mx, .int .i64 p.yl, .int .i64 p.rd, .int .i64 p.wk, .int .i64 p.cl], .agg #[.int .i64 lm, .int .i64 tk]] w fun e w' => e = .returned (.bool (valB p lm tk)) ∧ Below w.heap.size w w' := by
  have hy := hp.yl
  have hr := hp.rd
  have bW := (lat_alloc (lat_alloc (Below.refl w.heap.size w) (.cells #[.int .i64 p.ri, .int .i64 p.gr, .int .i64 p.mn, .int .i64 p.mx, .int .i64 p.yl, .int .i64 p.rd, .int .i64 p.wk, .int .i64 p.cl] 26)) (.cells #[.int .i64 lm, .int .i64 tk] 23))
  by_cases h0 : lm = 0
  · subst h0
    by_cases ha : 0 ≤ tk
    · have za : decide (0 ≤ tk) = true := by simp; omega
      by_cases hb : tk ≤ 0
      · obtain rfl : tk = 0 := by omega
        have H := Lib.hid (show valB p 0 0 = true by simp [valB])
        go_enter Try.func11, Try.ntmps11
        go_wp2
        go_ret
        exact ⟨ret_b H.out.symm, bW⟩

      · have zb : decide (tk ≤ 0) = false := by simp; omega
        have zd : (tk == 0) = false := by simp; omega
        have H := Lib.hid (show valB p 0 tk = false by simp [valB] <;> omega)
        go_enter Try.func11, Try.ntmps11
        go_wp2
        go_ret
        exact ⟨ret_b H.out.symm, bW⟩

    · have za : decide (0 ≤ tk) = false := by simp; omega
      have zd : (tk == 0) = false := by simp; omega
      have H := Lib.hid (show valB p 0 tk = false by simp [valB] <;> omega)
      go_enter Try.func11, Try.ntmps11
      go_wp2
      go_ret
      exact ⟨ret_b H.out.symm, bW⟩

  have z0 : (lm == 0) = false := by simpa using h0
  by_cases h1 : lm = 1
  · subst h1
    clear h0 z0
    by_cases ha : 0 ≤ tk
    · have za : decide (0 ≤ tk) = true := by simp; omega
      by_cases hb : tk ≤ 1073741824
      · have zb : decide (tk ≤ 1073741824) = true := by simp; omega
        have H := Lib.hid (show valB p 1 tk = true by simp [valB] <;> omega)
        go_enter Try.func11, Try.ntmps11
        go_wp2
        go_ret
        exact ⟨ret_b H.out.symm, bW⟩

      · have zb : decide (tk ≤ 1073741824) = false := by simp; omega
        have H := Lib.hid (show valB p 1 tk = false by simp [valB] <;> omega)
        go_enter Try.func11, Try.ntmps11
        go_wp2
        go_ret
        exact ⟨ret_b H.out.symm, bW⟩

    · have za : decide (0 ≤ tk) = false := by simp; omega
      have H := Lib.hid (show valB p 1 tk = false by simp [valB] <;> omega)
      go_enter Try.func11, Try.ntmps11
      go_wp2
      go_ret
      exact ⟨ret_b H.out.symm, bW⟩

  have z1 : (lm == 1) = false := by simpa using h1
  by_cases h2 : lm = 2
  · subst h2
    clear h0 z0 h1 z1
    by_cases ha : 0 ≤ tk
    · have za : decide (0 ≤ tk) = true := by simp; omega
      by_cases hb : tk ≤ p.yl - 1
      · have zb : decide (tk ≤ p.yl - 1) = true := by simp; omega
        have zc : decide (tk < p.yl) = true := by simp; omega
        have H := Lib.hid (show valB p 2 tk = true by simp [valB] <;> omega)
        go_enter Try.func11, Try.ntmps11
        go_wp2
        go_ret
        exact ⟨ret_b H.out.symm, bW⟩

      · have zb : decide (tk ≤ p.yl - 1) = false := by simp; omega
        have zc : decide (tk < p.yl) = false := by simp; omega
        have H := Lib.hid (show valB p 2 tk = false by simp [valB] <;> omega)
        go_enter Try.func11, Try.ntmps11
        go_wp2
        go_ret
        exact ⟨ret_b H.out.symm, bW⟩

    · have za : decide (0 ≤ tk) = false := by simp; omega
      have H := Lib.hid (show valB p 2 tk = false by simp [valB] <;> omega)
      go_enter Try.func11, Try.ntmps11
      go_wp2
      go_ret
      exact ⟨ret_b H.out.symm, bW⟩

  have z2 : (lm == 2) = false := by simpa using h2
  by_cases h3 : lm = 3
  · subst h3
    clear h0 z0 h1 z1 h2 z2
    by_cases ha : 0 ≤ tk
    · have za : decide (0 ≤ tk) = true := by simp; omega
      by_cases hb : tk ≤ p.rd - 1
      · have zb : decide (tk ≤ p.rd - 1) = true := by simp; omega
        have zc : decide (tk < p.rd) = true := by simp; omega
        have H := Lib.hid (show valB p 3 tk = true by simp [valB] <;> omega)
        go_enter Try.func11, Try.ntmps11
        go_wp2
        go_ret
        exact ⟨ret_b H.out.symm, bW⟩

      · have zb : decide (tk ≤ p.rd - 1) = false := by simp; omega
        have zc : decide (tk < p.rd) = false := by simp; omega
        have H := Lib.hid (show valB p 3 tk = false by simp [valB] <;> omega)
        go_enter Try.func11, Try.ntmps11
        go_wp2
        go_ret
        exact ⟨ret_b H.out.symm, bW⟩

    · have za : decide (0 ≤ tk) = false := by simp; omega
      have H := Lib.hid (show valB p 3 tk = false by simp [valB] <;> omega)
      go_enter Try.func11, Try.ntmps11
      go_wp2
      go_ret
      exact ⟨ret_b H.out.symm, bW⟩

  have z3 : (lm == 3) = false := by simpa using h3
  have H := Lib.hid (show valB p lm tk = false by simp [valB, h0, h1, h2, h3])
  clear h0 h1 h2 h3
  by_cases ha : 0 ≤ tk
  · have za : decide (0 ≤ tk) = true := by simp; omega
    have zb : decide (tk ≤ -1) = false := by simp; omega
    go_enter Try.func11, Try.ntmps11
    go_wp2
    go_ret
    exact ⟨ret_b H.out.symm, bW⟩
  · have za : decide (0 ≤ tk) = false := by simp; omega
    have zb : decide (tk ≤ -1) = true := by simp; omega
    go_enter Try.func11, Try.ntmps11
    go_wp2
    go_ret
    exact ⟨ret_b H.out.symm, bW⟩
theorem red_any (lm tk : Int) (w : World) : Calls Try.prog 12 #[.agg #[.int .i64 lm, .int .i64 tk]] w fun e w' => e = .returned (.bool (redB lm)) ∧ Below w.heap.size w w' := by
  have bW := lat_alloc (Below.refl w.heap.size w) (.cells #[.int .i64 lm, .int .i64 tk] 23)
  by_cases h1 : lm = 1
  · subst h1
    have H := Lib.hid (show redB 1 = true by simp [redB])
    go_enter Try.func12, Try.ntmps12
    go_wp2
    go_ret
    exact ⟨ret_b H.out.symm, bW⟩

  have z1 : (lm == 1) = false := by simpa using h1
  by_cases h2 : lm = 2
  · subst h2
    have H := Lib.hid (show redB 2 = true by simp [redB])
    clear h1
    go_enter Try.func12, Try.ntmps12
    go_wp2
    go_ret
    exact ⟨ret_b H.out.symm, bW⟩

  have z2 : (lm == 2) = false := by simpa using h2
  have H := Lib.hid (show redB lm = false by simp [redB, h1, h2])
  clear h1 h2
  go_enter Try.func12, Try.ntmps12
  go_wp2
  go_ret
  exact ⟨ret_b H.out.symm, bW⟩

theorem rred_any (lm tk : Int) (w : World) : Calls Try.prog 13 #[.agg #[.int .i64 lm, .int .i64 tk]] w fun e w' => e = .returned (.bool (redB lm)) ∧ Below w.heap.size w w' := by
  have bW := lat_alloc (Below.refl w.heap.size w) (.cells #[.int .i64 lm, .int .i64 tk] 23)
  by_cases h1 : lm = 1
  · subst h1
    have H := Lib.hid (show redB 1 = true by simp [redB])
    go_enter Try.func13, Try.ntmps13
    go_wp2
    go_ret
    exact ⟨ret_b H.out.symm, bW⟩

  have z1 : (lm == 1) = false := by simpa using h1
  by_cases h2 : lm = 2
  · subst h2
    have H := Lib.hid (show redB 2 = true by simp [redB])
    clear h1
    go_enter Try.func13, Try.ntmps13
    go_wp2
    go_ret
    exact ⟨ret_b H.out.symm, bW⟩

  have z2 : (lm == 2) = false := by simpa using h2
  have H := Lib.hid (show redB lm = false by simp [redB, h1, h2])
  clear h1 h2
  go_enter Try.func13, Try.ntmps13
  go_wp2
  go_ret
  exact ⟨ret_b H.out.symm, bW⟩


end Go.Proofs.Ytdcifiinhnilbaa
