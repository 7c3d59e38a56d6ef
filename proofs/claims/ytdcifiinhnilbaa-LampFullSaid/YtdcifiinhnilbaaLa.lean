/-
  The lights of a phase: what the program makes of them. Conditions: small phases.
-/
import Derived.Test.YtdcifiinhnilbaaJn
import Derived.Test.YtdcifiinhnilbaaBl
import Derived.Test.YtdcifiinhnilbaaR
import Derived.BigQuiet
namespace Go.Proofs.Ytdcifiinhnilbaa
open Go.ChangeShapes Go.WideShapes Go.RowKit
set_option linter.unusedVariables false

def needV (p : Ph) : Int := max p.mn (p.wk + p.cl)
def stepV (p : Ph) (lm tk : Int) (lv : Bool) : Int × Int :=
  if lm = 1 then (if lv = true ∧ needV p ≤ tk + 1 then (2, 0) else (1, min (tk + 1) 1073741824))
  else if lm = 2 then (if tk + 1 < p.yl then (2, tk + 1) else if 0 < p.rd then (3, 0) else (0, 0))
  else if lm = 3 then (if tk + 1 < p.rd then (3, tk + 1) else (0, 0)) else (lm, tk)
def countV (p : Ph) (lm tk : Int) : Int := if lm = 1 then max 0 (needV p - 1 - tk) else if lm = 2 then p.yl - 1 - tk else if lm = 3 then p.rd - 1 - tk else 0
def walkV (p : Ph) (lm tk : Int) : Int := if lm ≠ 1 then 0 else if tk < p.wk then 1 else if tk < p.wk + p.cl then 2 else 0
theorem needV_bd {p : Ph} (h : PhOk p) : 1 ≤ needV p ∧ needV p ≤ 4 := by
  have h1 := h.mn
  have h2 := h.wk
  unfold needV; omega
theorem load_light {w : World} {g : Nat} {a b : Value} (h : Blk w g 23 #[a, b]) : (loadVar 23 ⟨g, 0, none⟩).run Try.prog w = .ok (.agg #[a, b]) w := by
  have c0 := Blk.cell h 0
  have c1 := Blk.cell h 1
  go_simp
theorem load_phase {w : World} {g : Nat} {a b c d e f x y : Value} (h : Blk w g 26 #[a, b, c, d, e, f, x, y]) : (loadVar 26 ⟨g, 0, none⟩).run Try.prog w = .ok (.agg #[a, b, c, d, e, f, x, y]) w := by
  have c0 := Blk.cell h 0
  have c1 := Blk.cell h 1
  have c2 := Blk.cell h 2
  have c3 := Blk.cell h 3
  have c4 := Blk.cell h 4
  have c5 := Blk.cell h 5
  have c6 := Blk.cell h 6
  have c7 := Blk.cell h 7
  go_simp
theorem load_new {w : World} {ph li : Obj} {a b : Value} : (loadVar 23 ⟨w.heap.size + 1 + 1, 0, none⟩).run Try.prog (((w.alloc ph).alloc li).alloc (.cells #[a, b] 23)) = .ok (.agg #[a, b]) (((w.alloc ph).alloc li).alloc (.cells #[a, b] 23)) := by
  have B := Blk.new (w := (w.alloc ph).alloc li) (t := 23) (cs := #[a, b])
  rw [heap_size, heap_size] at B
  exact load_light B
theorem ret_l {l a b : Int} (h : a = b) : Ending.returned (.agg #[.int .i64 l, .int .i64 a]) = .returned (.agg #[.int .i64 l, .int .i64 b]) := by rw [h]
theorem Blk.laterN {W : World} {g : Nat} {t : TypeId} {cs : Array Value} (h : Blk W g t cs) (i : Nat) {v : Value} (hv : cs[i]? = some v) : ∀ w', Below W.heap.size W w' → w'.cell? ⟨g, i, none⟩ = some v := fun w' hb => ((h.below hb).cell i).trans hv
theorem need_any (p : Ph) (w : World) (hp : PhOk p) : Calls Try.prog 14 #[.agg #[.int .i64 p.ri, .int .i64 p.gr, .int .i64 p.mn, .int .i64 p.mx, .int .i64 p.yl, .int .i64 p.rd, .int .i64 p.wk, .int .i64 p.cl]] w fun e w' => e = .returned (.int .i64 (needV p)) ∧ Below w.heap.size w w' := by
  have h1 := hp.mn
  have h2 : 0 ≤ p.wk ∧ p.wk ≤ 2 ∧ 0 ≤ p.cl ∧ p.cl ≤ 2 := by have := hp.wk; omega
  have bW := lat_alloc (Below.refl w.heap.size w) (.cells #[.int .i64 p.ri, .int .i64 p.gr, .int .i64 p.mn, .int .i64 p.mx, .int .i64 p.yl, .int .i64 p.rd, .int .i64 p.wk, .int .i64 p.cl] 26)
  go_enter Try.func14, Try.ntmps14
  go_wp2
  all_goals go_ret
  all_goals exact ⟨ret_i (by unfold needV; omega), bW⟩
theorem walk_any (p : Ph) (lm tk : Int) (w : World) (hp : PhOk p) (ht : 0 ≤ tk ∧ tk ≤ 1073741824) : Calls Try.prog 20 #[.agg #[.int .i64 p.ri, .int .i64 p.gr, .int .i64 p.mn, .int .i64 p.mx, .int .i64 p.yl, .int .i64 p.rd, .int .i64 p.wk, .int .i64 p.cl], .agg #[.int .i64 lm, .int .i64 tk]] w fun e w' => e = .returned (.int .i64 (walkV p lm tk)) ∧ Below w.heap.size w w' := by
  have h2 : 0 ≤ p.wk ∧ p.wk ≤ 2 ∧ 0 ≤ p.cl ∧ p.cl ≤ 2 := by have := hp.wk; omega
  have bW := lat_alloc (lat_alloc (Below.refl w.heap.size w) (.cells #[.int .i64 p.ri, .int .i64 p.gr, .int .i64 p.mn, .int .i64 p.mx, .int .i64 p.yl, .int .i64 p.rd, .int .i64 p.wk, .int .i64 p.cl] 26)) (.cells #[.int .i64 lm, .int .i64 tk] 23)
  by_cases hl : lm = 1
  · subst hl
    by_cases h3 : tk < p.wk
    · have H := Lib.hid (show walkV p 1 tk = 1 by simp [walkV, h3])
      have h4 : tk < p.wk + p.cl := by omega
      go_enter Try.func20, Try.ntmps20
      go_wp2
      go_ret
      exact ⟨ret_i H.out.symm, bW⟩
    · by_cases h4 : tk < p.wk + p.cl
      · have H := Lib.hid (show walkV p 1 tk = 2 by simp [walkV, h3, h4])
        go_enter Try.func20, Try.ntmps20
        go_wp2
        go_ret
        exact ⟨ret_i H.out.symm, bW⟩
      · have H := Lib.hid (show walkV p 1 tk = 0 by simp [walkV, h3, h4])
        go_enter Try.func20, Try.ntmps20
        go_wp2
        go_ret
        exact ⟨ret_i H.out.symm, bW⟩
  · have H := Lib.hid (show walkV p lm tk = 0 by simp [walkV, hl])
    have z1 : (lm == 1) = false := by simpa using hl
    have z2 : (lm != 1) = true := by simpa using hl
    clear hl
    go_enter Try.func20, Try.ntmps20
    go_wp2
    go_ret
    exact ⟨ret_i H.out.symm, bW⟩
theorem count_any (p : Ph) (lm tk : Int) (w : World) (hp : PhOk p) (ht : 0 ≤ tk ∧ tk ≤ 1073741824) : Calls Try.prog 18 #[.agg #[.int .i64 p.ri, .int .i64 p.gr, .int .i64 p.mn, .int .i64 p.mx, .int .i64 p.yl, .int .i64 p.rd, .int .i64 p.wk, .int .i64 p.cl], .agg #[.int .i64 lm, .int .i64 tk]] w fun e w' => e = .returned (.int .i64 (countV p lm tk)) ∧ Below w.heap.size w w' := by
  have hy := hp.yl
  have hr := hp.rd
  have hn := needV_bd hp
  have bW := lat_alloc (lat_alloc (Below.refl w.heap.size w) (.cells #[.int .i64 p.ri, .int .i64 p.gr, .int .i64 p.mn, .int .i64 p.mx, .int .i64 p.yl, .int .i64 p.rd, .int .i64 p.wk, .int .i64 p.cl] 26)) (.cells #[.int .i64 lm, .int .i64 tk] 23)
  by_cases h1 : lm = 1
  · subst h1
    have H := Lib.hid (show countV p 1 tk = max 0 (needV p - 1 - tk) by simp [countV])
    go_enter Try.func18, Try.ntmps18
    have B0 := Blk.new (w := w.alloc (.cells #[.int .i64 p.ri, .int .i64 p.gr, .int .i64 p.mn, .int .i64 p.mx, .int .i64 p.yl, .int .i64 p.rd, .int .i64 p.wk, .int .i64 p.cl] 26)) (t := 23) (cs := #[.int .i64 1, .int .i64 tk])
    rw [heap_size] at B0
    have Bp := (Blk.new (w := w) (t := 26) (cs := #[.int .i64 p.ri, .int .i64 p.gr, .int .i64 p.mn, .int .i64 p.mx, .int .i64 p.yl, .int .i64 p.rd, .int .i64 p.wk, .int .i64 p.cl])).alloc (.cells #[.int .i64 1, .int .i64 tk] 23)
    go_wp2_with fail
    generalize hW : (w.alloc (.cells #[.int .i64 p.ri, .int .i64 p.gr, .int .i64 p.mn, .int .i64 p.mx, .int .i64 p.yl, .int .i64 p.rd, .int .i64 p.wk, .int .i64 p.cl] 26)).alloc (.cells #[.int .i64 1, .int .i64 tk] 23) = W at *
    clear hW
    have l0 := B0.laterN 0 rfl
    have l1 := B0.laterN 1 rfl
    have q0 := Bp.laterN 0 rfl
    have q1 := Bp.laterN 1 rfl
    have q2 := Bp.laterN 2 rfl
    have q3 := Bp.laterN 3 rfl
    have q4 := Bp.laterN 4 rfl
    have q5 := Bp.laterN 5 rfl
    have q6 := Bp.laterN 6 rfl
    have q7 := Bp.laterN 7 rfl
    refine wp_region_grow (by kernel_rfl) (by kernel_rfl) ?_
    repeat' (first
        | go_big_quiet_skip
        | (go_big_quiet_want; first
            | (go_big_quiet_op; go_big_quiet_on)
            | (refine quiet_det ?_; apply Exists.intro; refine ⟨fun w' hC => ?_, ?_⟩; (go_simp <;> (first | rfl | exact ⟨rfl, rfl⟩)); apply Exists.intro; refine ⟨?_, ?_⟩; (go_simp <;> (first | rfl | exact ⟨rfl, rfl⟩)); go_big_quiet_on)
            | (show Oper.quiet _ { dst := _, op := .call { callee := .value _, args := _, argTypes := _ }, type := _, pos := _, after := _, guard := _ } _ _ _; refine quiet_call ?_; apply Exists.intro; apply Exists.intro; refine ⟨fun w' hC => ?_, ?_⟩; (go_simp <;> (first | rfl | exact ⟨rfl, rfl⟩)); apply Exists.intro; refine ⟨fun w' hC => ?_, ?_⟩; (first
                | with_reducible exact grow_call (need_any p w' hp) hC
                | fail); apply Exists.intro; refine ⟨?_, ?_⟩; (go_simp <;> (first | rfl | exact ⟨rfl, rfl⟩)); go_big_quiet_on)))
    all_goals refine wpQuiet_nil ?_
    intro w2 hb2
    have w1 : IntKind.i64.wrap (needV p - 1) = needV p - 1 := by rw [IntKind.wrap_i64]; omega
    have w2 : IntKind.i64.wrap (needV p - 1 - tk) = needV p - 1 - tk := by rw [IntKind.wrap_i64]; omega
    have B := B0.below hb2
    have c1 := B.at 1 rfl
    go_wp2
    all_goals go_ret
    all_goals exact ⟨ret_i (by rw [H.out]; omega), bW.trans (hb2.mono bW.size)⟩
  have z1 : (lm == 1) = false := by simpa using h1
  by_cases h2 : lm = 2
  · subst h2
    have H := Lib.hid (show countV p 2 tk = p.yl - 1 - tk by simp [countV])
    clear h1
    go_enter Try.func18, Try.ntmps18
    go_wp2
    go_ret
    exact ⟨ret_i H.out.symm, bW⟩
  have z2 : (lm == 2) = false := by simpa using h2
  by_cases h3 : lm = 3
  · subst h3
    have H := Lib.hid (show countV p 3 tk = p.rd - 1 - tk by simp [countV])
    clear h1 h2
    go_enter Try.func18, Try.ntmps18
    go_wp2
    go_ret
    exact ⟨ret_i H.out.symm, bW⟩
  have z3 : (lm == 3) = false := by simpa using h3
  have H := Lib.hid (show countV p lm tk = 0 by simp [countV, h1, h2, h3])
  clear h1 h2 h3
  go_enter Try.func18, Try.ntmps18
  go_wp2
  go_ret
  exact ⟨ret_i H.out.symm, bW⟩
set_option maxHeartbeats 1000000 in
theorem step_any (p : Ph) (lm tk : Int) (lv : Bool) (w : World) (hp : PhOk p) (ht : 0 ≤ tk ∧ tk ≤ 1073741824) : Calls Try.prog 16 #[.agg #[.int .i64 p.ri, .int .i64 p.gr, .int .i64 p.mn, .int .i64 p.mx, .int .i64 p.yl, .int .i64 p.rd, .int .i64 p.wk, .int .i64 p.cl], .agg #[.int .i64 lm, .int .i64 tk], .bool lv] w fun e w' => e = .returned (.agg #[.int .i64 (stepV p lm tk lv).1, .int .i64 (stepV p lm tk lv).2]) ∧ Below w.heap.size w w' := by
  have hy := hp.yl
  have hr := hp.rd
  have hn := needV_bd hp
  by_cases h1 : lm = 1
  · subst h1
    have bW := lat_alloc (lat_alloc (lat_alloc (Below.refl w.heap.size w) (.cells #[.int .i64 p.ri, .int .i64 p.gr, .int .i64 p.mn, .int .i64 p.mx, .int .i64 p.yl, .int .i64 p.rd, .int .i64 p.wk, .int .i64 p.cl] 26)) (.cells #[.int .i64 1, .int .i64 tk] 23)) (.cells #[.int .i64 0, .int .i64 0] 23)
    have B6 := Blk.new (w := (w.alloc (.cells #[.int .i64 p.ri, .int .i64 p.gr, .int .i64 p.mn, .int .i64 p.mx, .int .i64 p.yl, .int .i64 p.rd, .int .i64 p.wk, .int .i64 p.cl] 26)).alloc (.cells #[.int .i64 1, .int .i64 tk] 23)) (t := 23) (cs := #[.int .i64 0, .int .i64 0])
    have B4 := (Blk.new (w := w.alloc (.cells #[.int .i64 p.ri, .int .i64 p.gr, .int .i64 p.mn, .int .i64 p.mx, .int .i64 p.yl, .int .i64 p.rd, .int .i64 p.wk, .int .i64 p.cl] 26)) (t := 23) (cs := #[.int .i64 1, .int .i64 tk])).alloc (.cells #[.int .i64 0, .int .i64 0] 23)
    rw [heap_size, heap_size] at B6
    rw [heap_size] at B4
    cases lv with
    | false =>
      have H := Lib.hid (show stepV p 1 tk false = (1, min (tk + 1) 1073741824) by simp [stepV])
      go_enter Try.func16, Try.ntmps16
      go_wp2
      all_goals (try simp only [Exit.inBlock, Exit.then])
      all_goals refine bodyPost_ret (results_cell rfl rfl (load_new)) rfl ?_
      all_goals rw [H.out]
      all_goals exact ⟨ret_l (by omega), lat_alloc (lat_alloc (lat_alloc (Below.refl _ _) _) _) _⟩
    | true =>
      go_enter Try.func16, Try.ntmps16
      go_wp2_with fail
      refine (need_any p _ hp).mono ?_
      rintro e w2 ⟨rfl, hb2⟩
      have C6 := B6.below hb2
      have C4 := B4.below hb2
      have c0 := C4.at 0 rfl
      have c1 := C4.at 1 rfl
      have r0 := C6.at 0 rfl
      have r1 := C6.at 1 rfl
      have f0 := C6.frozen 0
      have f1 := C6.frozen 1
      have bF := bW.trans (hb2.mono bW.size)
      by_cases hnd : needV p ≤ tk + 1
      · have H := Lib.hid (show stepV p 1 tk true = (2, 0) by simp [stepV, hnd])
        go_wp2
        (try simp only [Exit.inBlock, Exit.then]); refine bodyPost_ret (results_cell rfl rfl (load_light ((C6.set_ 0 _).set_ 1 _))) rfl ?_
        rw [H.out]
        exact ⟨rfl, (bF.setCell (p := ⟨w.heap.size + 1 + 1, 0, none⟩) (by simp; omega) _).setCell (p := ⟨w.heap.size + 1 + 1, 1, none⟩) (by simp; omega) _⟩
      · have H := Lib.hid (show stepV p 1 tk true = (1, min (tk + 1) 1073741824) by simp [stepV, hnd])
        go_wp2
        all_goals (try simp only [Exit.inBlock, Exit.then])
        all_goals refine bodyPost_ret (results_cell rfl rfl (load_light ((C6.set_ 0 _).set_ 1 _))) rfl ?_
        all_goals rw [H.out]
        all_goals exact ⟨ret_l (by omega), (bF.setCell (p := ⟨w.heap.size + 1 + 1, 0, none⟩) (by simp; omega) _).setCell (p := ⟨w.heap.size + 1 + 1, 1, none⟩) (by simp; omega) _⟩
  have z1 : (lm == 1) = false := by simpa using h1
  by_cases h2 : lm = 2
  · subst h2
    clear h1 z1
    by_cases h3 : tk + 1 < p.yl
    · have H := Lib.hid (show stepV p 2 tk lv = (2, tk + 1) by simp [stepV, *] <;> omega)
      go_enter Try.func16, Try.ntmps16
      go_wp2
      (try simp only [Exit.inBlock, Exit.then]); refine bodyPost_ret (results_cell rfl rfl (load_new)) rfl ?_
      rw [H.out]
      exact ⟨rfl, lat_alloc (lat_alloc (lat_alloc (Below.refl _ _) _) _) _⟩

    · by_cases h4 : 0 < p.rd
      · have H := Lib.hid (show stepV p 2 tk lv = (3, 0) by simp [stepV, *] <;> omega)
        go_enter Try.func16, Try.ntmps16
        go_wp2
        (try simp only [Exit.inBlock, Exit.then]); refine bodyPost_ret (results_cell rfl rfl (load_new)) rfl ?_
        rw [H.out]
        exact ⟨rfl, lat_alloc (lat_alloc (lat_alloc (Below.refl _ _) _) _) _⟩

      · have H := Lib.hid (show stepV p 2 tk lv = (0, 0) by simp [stepV, *] <;> omega)
        go_enter Try.func16, Try.ntmps16
        go_wp2
        (try simp only [Exit.inBlock, Exit.then]); refine bodyPost_ret (results_cell rfl rfl (load_new)) rfl ?_
        rw [H.out]
        exact ⟨rfl, lat_alloc (lat_alloc (lat_alloc (Below.refl _ _) _) _) _⟩

  have z2 : (lm == 2) = false := by simpa using h2
  by_cases h3 : lm = 3
  · subst h3
    clear h1 h2 z1 z2
    by_cases h4 : tk + 1 < p.rd
    · have H := Lib.hid (show stepV p 3 tk lv = (3, tk + 1) by simp [stepV, *] <;> omega)
      go_enter Try.func16, Try.ntmps16
      go_wp2
      (try simp only [Exit.inBlock, Exit.then]); refine bodyPost_ret (results_cell rfl rfl (load_new)) rfl ?_
      rw [H.out]
      exact ⟨rfl, lat_alloc (lat_alloc (lat_alloc (Below.refl _ _) _) _) _⟩

    · have H := Lib.hid (show stepV p 3 tk lv = (0, 0) by simp [stepV, *] <;> omega)
      go_enter Try.func16, Try.ntmps16
      go_wp2
      (try simp only [Exit.inBlock, Exit.then]); refine bodyPost_ret (results_cell rfl rfl (load_new)) rfl ?_
      rw [H.out]
      exact ⟨rfl, lat_alloc (lat_alloc (lat_alloc (Below.refl _ _) _) _) _⟩

  have z3 : (lm == 3) = false := by simpa using h3
  have H := Lib.hid (show stepV p lm tk lv = (lm, tk) by simp [stepV, h1, h2, h3])
  clear h1 h2 h3
  go_enter Try.func16, Try.ntmps16
  go_wp2
  (try simp only [Exit.inBlock, Exit.then]); refine bodyPost_ret (results_cell rfl rfl (load_new)) rfl ?_
  rw [H.out]
  exact ⟨rfl, lat_alloc (lat_alloc (lat_alloc (Below.refl _ _) _) _) _⟩

end Go.Proofs.Ytdcifiinhnilbaa
