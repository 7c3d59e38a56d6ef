/-
  How long a light stays as it is, and whether it lets traffic pass, as the program says it. Conditions: small phases.
-/
import Derived.Test.YtmgifmdpjlefcaaLm
namespace Go.Proofs.Ytmgifmdpjlefcaa
open Go.ChangeShapes Go.WideShapes Go.RowKit
set_option linter.unusedVariables false

def countV (p : Ph) (lm tk : Int) : Int := if lm = 1 then max 0 (needV p - 1 - tk) else if lm = 2 then p.yl - 1 - tk else if lm = 3 then p.rd - 1 - tk else 0
theorem need_any (p : Ph) (w : World) (hp : PhOk p) : Calls Try.prog 47 #[.agg #[.int .i64 p.ri, .int .i64 p.gr, .int .i64 p.mn, .int .i64 p.mx, .int .i64 p.yl, .int .i64 p.rd, .int .i64 p.wk, .int .i64 p.cl]] w fun e w' => e = .returned (.int .i64 (needV p)) ∧ Below w.heap.size w w' := by
  have h1 := hp.mn
  have h2 : 0 ≤ p.wk ∧ p.wk ≤ 2 ∧ 0 ≤ p.cl ∧ p.cl ≤ 2 := by have := hp.wk; omega
  have bW := lat_alloc (Below.refl w.heap.size w) (.cells #[.int .i64 p.ri, .int .i64 p.gr, .int .i64 p.mn, .int .i64 p.mx, .int .i64 p.yl, .int .i64 p.rd, .int .i64 p.wk, .int .i64 p.cl] 71)
  go_enter Try.func47, Try.ntmps47
  go_wp2
  all_goals go_ret
  all_goals exact ⟨ret_i (by unfold needV; omega), bW⟩
set_option maxHeartbeats 1000000 in
theorem count_any (p : Ph) (lm tk : Int) (w : World) (hp : PhOk p) (ht : 0 ≤ tk ∧ tk ≤ 1073741824) : Calls Try.prog 33 #[.agg #[.int .i64 p.ri, .int .i64 p.gr, .int .i64 p.mn, .int .i64 p.mx, .int .i64 p.yl, .int .i64 p.rd, .int .i64 p.wk, .int .i64 p.cl], .agg #[.int .i64 lm, .int .i64 tk]] w fun e w' => e = .returned (.int .i64 (countV p lm tk)) ∧ Below w.heap.size w w' := by
  have hy := hp.yl
  have hr := hp.rd
  have hn := needV_bd hp
  have bW := lat_alloc (lat_alloc (Below.refl w.heap.size w) (.cells #[.int .i64 p.ri, .int .i64 p.gr, .int .i64 p.mn, .int .i64 p.mx, .int .i64 p.yl, .int .i64 p.rd, .int .i64 p.wk, .int .i64 p.cl] 71)) (.cells #[.int .i64 lm, .int .i64 tk] 67)
  by_cases h1 : lm = 1
  · subst h1
    have H := Lib.hid (show countV p 1 tk = max 0 (needV p - 1 - tk) by simp [countV])
    go_enter Try.func33, Try.ntmps33
    have B0 := Blk.new (w := w.alloc (.cells #[.int .i64 p.ri, .int .i64 p.gr, .int .i64 p.mn, .int .i64 p.mx, .int .i64 p.yl, .int .i64 p.rd, .int .i64 p.wk, .int .i64 p.cl] 71)) (t := 67) (cs := #[.int .i64 1, .int .i64 tk])
    rw [heap_size] at B0
    have Bp := (Blk.new (w := w) (t := 71) (cs := #[.int .i64 p.ri, .int .i64 p.gr, .int .i64 p.mn, .int .i64 p.mx, .int .i64 p.yl, .int .i64 p.rd, .int .i64 p.wk, .int .i64 p.cl])).alloc (.cells #[.int .i64 1, .int .i64 tk] 67)
    go_wp2_with fail
    generalize hW : (w.alloc (.cells #[.int .i64 p.ri, .int .i64 p.gr, .int .i64 p.mn, .int .i64 p.mx, .int .i64 p.yl, .int .i64 p.rd, .int .i64 p.wk, .int .i64 p.cl] 71)).alloc (.cells #[.int .i64 1, .int .i64 tk] 67) = W at *
    clear hW
    have l0 := B0.laterN 0 rfl
    have l1 := B0.laterN 1 rfl
    have q0 := Bp.laterN 0 rfl
    have q1 := Bp.laterN 1 rfl
    have q2 := Bp.laterN 2 rfl
    have q3 := Bp.laterN 3 rfl
    have q4 := Bp.laterN 4 rfl
    have q5 := Bp.laterN 5 rfl
    have q6 := Bp.laterN 6 rfl
    have q7 := Bp.laterN 7 rfl
    refine wp_region_grow (by kernel_rfl) (by kernel_rfl) ?_
    repeat' (first
        | go_big_quiet_skip
        | (go_big_quiet_want; first
            | (go_big_quiet_op; go_big_quiet_on)
            | (refine quiet_det ?_; apply Exists.intro; refine ⟨fun w' hC => ?_, ?_⟩; (go_simp <;> (first | rfl | exact ⟨rfl, rfl⟩)); apply Exists.intro; refine ⟨?_, ?_⟩; (go_simp <;> (first | rfl | exact ⟨rfl, rfl⟩)); go_big_quiet_on)
            | (show Oper.quiet _ { dst := _, op := .call { callee := .value _, args := _, argTypes := _ }, type := _, pos := _, after := _, guard := _ } _ _ _; refine quiet_call ?_; apply Exists.intro; apply Exists.intro; refine ⟨fun w' hC => ?_, ?_⟩; (go_simp <;> (first | rfl | exact ⟨rfl, rfl⟩)); apply Exists.intro; refine ⟨fun w' hC => ?_, ?_⟩; (first
                | with_reducible exact grow_call (need_any p w' hp) hC
                | fail); apply Exists.intro; refine ⟨?_, ?_⟩; (go_simp <;> (first | rfl | exact ⟨rfl, rfl⟩)); go_big_quiet_on)))
    all_goals refine wpQuiet_nil ?_
    intro w2 hb2
    have w1 : IntKind.i64.wrap (needV p - 1) = needV p - 1 := by rw [IntKind.wrap_i64]; omega
    have w2 : IntKind.i64.wrap (needV p - 1 - tk) = needV p - 1 - tk := by rw [IntKind.wrap_i64]; omega
    have B := B0.below hb2
    have c1 := B.at 1 rfl
    go_wp2
    all_goals go_ret
    all_goals exact ⟨ret_i (by rw [H.out]; omega), bW.trans (hb2.mono bW.size)⟩
  have z1 : (lm == 1) = false := by simpa using h1
  by_cases h2 : lm = 2
  · subst h2
    have H := Lib.hid (show countV p 2 tk = p.yl - 1 - tk by simp [countV])
    clear h1
    go_enter Try.func33, Try.ntmps33
    go_wp2
    go_ret
    exact ⟨ret_i H.out.symm, bW⟩
  have z2 : (lm == 2) = false := by simpa using h2
  by_cases h3 : lm = 3
  · subst h3
    have H := Lib.hid (show countV p 3 tk = p.rd - 1 - tk by simp [countV])
    clear h1 h2
    go_enter Try.func33, Try.ntmps33
    go_wp2
    go_ret
    exact ⟨ret_i H.out.symm, bW⟩
  have z3 : (lm == 3) = false := by simpa using h3
  have H := Lib.hid (show countV p lm tk = 0 by simp [countV, h1, h2, h3])
  clear h1 h2 h3
  go_enter Try.func33, Try.ntmps33
  go_wp2
  go_ret
  exact ⟨ret_i H.out.symm, bW⟩
def redB (lm : Int) : Bool := decide (lm = 1 ∨ lm = 2)
theorem red_any (lm tk : Int) (w : World) : Calls Try.prog 32 #[.agg #[.int .i64 lm, .int .i64 tk]] w fun e w' => e = .returned (.bool (redB lm)) ∧ Below w.heap.size w w' := by
  have bW := lat_alloc (Below.refl w.heap.size w) (.cells #[.int .i64 lm, .int .i64 tk] 67)
  by_cases h1 : lm = 1
  · subst h1
    have H := Lib.hid (show redB 1 = true by simp [redB])
    go_enter Try.func32, Try.ntmps32
    go_wp2
    go_ret
    exact ⟨ret_b H.out.symm, bW⟩

  have z1 : (lm == 1) = false := by simpa using h1
  by_cases h2 : lm = 2
  · subst h2
    have H := Lib.hid (show redB 2 = true by simp [redB])
    clear h1
    go_enter Try.func32, Try.ntmps32
    go_wp2
    go_ret
    exact ⟨ret_b H.out.symm, bW⟩

  have z2 : (lm == 2) = false := by simpa using h2
  have H := Lib.hid (show redB lm = false by simp [redB, h1, h2])
  clear h1 h2
  go_enter Try.func32, Try.ntmps32
  go_wp2
  go_ret
  exact ⟨ret_b H.out.symm, bW⟩

theorem count_bd {p : Ph} {lm tk : Int} (hp : PhOk p) (h : LiOk p lm tk) : 0 ≤ countV p lm tk ∧ countV p lm tk ≤ 4 := by
  have h1 := hp.yl
  have h2 := hp.rd
  have h3 := needV_bd hp
  unfold LiOk at h
  unfold countV
  rcases h with ⟨rfl, h⟩ | ⟨rfl, h⟩ | ⟨rfl, h⟩ | ⟨rfl, h⟩ <;> simp <;> omega
end Go.Proofs.Ytmgifmdpjlefcaa
