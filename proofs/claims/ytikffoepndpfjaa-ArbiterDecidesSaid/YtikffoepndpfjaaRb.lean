/-
  The order of claims: quotients, levels, locks. Conditions: the numbers are small.
-/
import Derived.Test.YtikffoepndpfjaaRa
namespace Go.Proofs.Ytikffoepndpfjaa
open Go.ChangeShapes Go.WideShapes Go.RowKit
set_option linter.unusedVariables false

theorem div_t {a b : Int} (hb : 0 < b) : a / b = if a.tmod b < 0 then a.tdiv b - 1 else a.tdiv b := by
  have e := Int.tmod_add_mul_tdiv a b
  have h1 := Int.tmod_lt_of_pos a hb
  have h2 : -b < a.tmod b := by have := Int.lt_tmod_of_pos a hb; omega
  split
  · exact ((Int.ediv_emod_unique hb (r := a.tmod b + b)).2 ⟨by rw [Int.mul_sub]; omega, by omega, by omega⟩).1
  · exact ((Int.ediv_emod_unique hb (r := a.tmod b)).2 ⟨by omega, by omega, by omega⟩).1
theorem div_bd {a b : Int} (hb : 0 < b) (h0 : -20000 ≤ a) (h1 : a ≤ 20000) : -20000 ≤ a / b ∧ a / b ≤ 20000 := by
  refine ⟨(Int.le_ediv_iff_mul_le hb).2 ?_, ?_⟩
  · have := Int.mul_le_mul_of_nonneg_left (show (1 : Int) ≤ b by omega) (show (0 : Int) ≤ 20000 by omega); omega
  · rcases Int.lt_or_le a 0 with h | h
    · have := Int.ediv_neg_of_neg_of_pos h hb; omega
    · have := Int.ediv_le_self b h; omega
theorem quot_any (a b : Int) (w : World) (hb : 1 ≤ b ∧ b ≤ 10000) (ha : -20000 ≤ a ∧ a ≤ 20000) :
    Calls Try.prog 50 #[.int .i64 a, .int .i64 b] w fun e w' => e = .returned (.int .i64 (a / b)) ∧ Below w.heap.size w w' := by
  have hd := div_t (a := a) (b := b) (by omega)
  have hq := div_bd (a := a) (b := b) (by omega) ha.1 ha.2
  have g1 := Int.tmod_lt_of_pos a (show 0 < b by omega)
  have g2 : -b < a.tmod b := by have := Int.lt_tmod_of_pos a (show 0 < b by omega); omega
  have g0 : (b == 0) = false := by simp; omega
  by_cases hm : a.tmod b < 0
  · rw [if_pos hm] at hd
    have q1 : -20000 ≤ a.tdiv b - 1 := by omega
    have q2 : a.tdiv b ≤ 20001 := by omega
    have H := Lib.hid hd
    clear hd hq
    go_enter Try.func50, Try.ntmps50
    go_wp2
    all_goals go_ret
    all_goals exact ⟨ret_i (by rw [H.out]), Below.refl _ _⟩
  · rw [if_neg hm] at hd
    have q1 : -20000 ≤ a.tdiv b := by omega
    have q2 : a.tdiv b ≤ 20001 := by omega
    have H := Lib.hid hd
    clear hd hq
    go_enter Try.func50, Try.ntmps50
    go_wp2
    all_goals go_ret
    all_goals exact ⟨ret_i (by rw [H.out]), Below.refl _ _⟩
theorem levelV_bd {per cap : Int} (l : List Int) (ph cl si now : Int) (hcap : 0 ≤ cap ∧ cap ≤ 1000) (hb : -10000 ≤ levelV per cap l ph cl si now) : levelV per cap l ph cl si now ≤ 1000 := by unfold levelV at *; omega
theorem level_bd {per cap : Int} {l : List Int} (hS : Small l) (ph cl si now : Int) (hper : 1 ≤ per ∧ per ≤ 10000) (hcap : 0 ≤ cap ∧ cap ≤ 1000) (hcl : 0 ≤ cl ∧ cl ≤ 3) (hsi : 0 ≤ si ∧ si ≤ 10000) (hnow : 0 ≤ now ∧ now ≤ 10000) :
    -20000 ≤ (now - startV l ph si) / per ∧ (now - startV l ph si) / per ≤ 20000 ∧ -20000 ≤ levelV per cap l ph cl si now ∧ levelV per cap l ph cl si now ≤ 1000 := by
  have h1 := startV_bd hS ph hsi.1 hsi.2
  have h2 := div_bd (a := now - startV l ph si) (b := per) (by omega) (by omega) (by omega)
  refine ⟨h2.1, h2.2, ?_, ?_⟩ <;> unfold levelV <;> omega
set_option maxHeartbeats 2000000 in
theorem level_any (per cap hold lock sp sg : Int) (A : Option Addr) (c n : Nat) (l : List Int) (ag id ph cl si now : Int) (w : World) (hn : l.length = n) (hs : Ints .i64 w w.heap.size A l) (hl : n ≤ 1000000) (hS : Small l) (hper : 1 ≤ per ∧ per ≤ 10000) (hcap : 0 ≤ cap ∧ cap ≤ 1000) (hlock : 0 ≤ lock ∧ lock ≤ 1000) (hph : 0 ≤ ph ∧ ph ≤ 1000) (hcl : 0 ≤ cl ∧ cl ≤ 3) (hsi : 0 ≤ si ∧ si ≤ 10000) (hnow : 0 ≤ now ∧ now ≤ 10000) :
    Calls Try.prog 44 #[.agg #[.slice none 0 0, .slice none 0 0, .int .i64 per, .int .i64 cap, .int .i64 hold, .int .i64 lock], .agg #[.int .i64 sp, .int .i64 sg, .slice A n c], .agg #[.int .i64 ag, .int .i64 id, .int .i64 ph, .int .i64 cl, .int .i64 si], .int .i64 now] w fun e w' => e = .returned (.int .i64 (levelV per cap l ph cl si now)) ∧ Below w.heap.size w w' := by
  have hb := level_bd hS ph cl si now hper hcap hcl hsi hnow
  have hst1 := startV_bd hS ph hsi.1 hsi.2
  have w1 : IntKind.i64.wrap (now - startV l ph si) = now - startV l ph si := by rw [IntKind.wrap_i64]; omega
  have w2 : IntKind.i64.wrap (cl + (now - startV l ph si) / per) = cl + (now - startV l ph si) / per := by rw [IntKind.wrap_i64]; omega
  have w3 : IntKind.i64.wrap ((now - startV l ph si) / per) = (now - startV l ph si) / per := by rw [IntKind.wrap_i64]; omega
  have bW := lat_alloc (lat_alloc (lat_alloc (Below.refl w.heap.size w) (.cells #[.slice none 0 0, .slice none 0 0, .int .i64 per, .int .i64 cap, .int .i64 hold, .int .i64 lock] 33)) (.cells #[.int .i64 sp, .int .i64 sg, .slice A n c] 24)) (.cells #[.int .i64 ag, .int .i64 id, .int .i64 ph, .int .i64 cl, .int .i64 si] 47)
  have B0 := Blk.alloc (Blk.alloc (Blk.new (w := w) (t := 33) (cs := #[.slice none 0 0, .slice none 0 0, .int .i64 per, .int .i64 cap, .int .i64 hold, .int .i64 lock])) (.cells #[.int .i64 sp, .int .i64 sg, .slice A n c] 24)) (.cells #[.int .i64 ag, .int .i64 id, .int .i64 ph, .int .i64 cl, .int .i64 si] 47)
  have B1 := Blk.alloc (Blk.new (w := w.alloc (.cells #[.slice none 0 0, .slice none 0 0, .int .i64 per, .int .i64 cap, .int .i64 hold, .int .i64 lock] 33)) (t := 24) (cs := #[.int .i64 sp, .int .i64 sg, .slice A n c])) (.cells #[.int .i64 ag, .int .i64 id, .int .i64 ph, .int .i64 cl, .int .i64 si] 47)
  have B2 := Blk.new (w := (w.alloc (.cells #[.slice none 0 0, .slice none 0 0, .int .i64 per, .int .i64 cap, .int .i64 hold, .int .i64 lock] 33)).alloc (.cells #[.int .i64 sp, .int .i64 sg, .slice A n c] 24)) (t := 47) (cs := #[.int .i64 ag, .int .i64 id, .int .i64 ph, .int .i64 cl, .int .i64 si])
  rw [heap_size] at B1
  rw [heap_size, heap_size] at B2
  have hI := (hs.below bW).more bW.size
  go_enter Try.func44, Try.ntmps44
  go_wp2_with fail
  generalize ((w.alloc (.cells #[.slice none 0 0, .slice none 0 0, .int .i64 per, .int .i64 cap, .int .i64 hold, .int .i64 lock] 33)).alloc (.cells #[.int .i64 sp, .int .i64 sg, .slice A n c] 24)).alloc (.cells #[.int .i64 ag, .int .i64 id, .int .i64 ph, .int .i64 cl, .int .i64 si] 47) = W at *
  have o0 := B0.laterN 0 rfl
  have o1 := B0.laterN 1 rfl
  have o2 := B0.laterN 2 rfl
  have o3 := B0.laterN 3 rfl
  have o4 := B0.laterN 4 rfl
  have o5 := B0.laterN 5 rfl
  have p0 := B1.laterN 0 rfl
  have p1 := B1.laterN 1 rfl
  have p2 := B1.laterN 2 rfl
  have q0 := B2.laterN 0 rfl
  have q1 := B2.laterN 1 rfl
  have q2 := B2.laterN 2 rfl
  have q3 := B2.laterN 3 rfl
  have q4 := B2.laterN 4 rfl
  refine wp_region_grow (by kernel_rfl) (by kernel_rfl) ?_
  repeat' (first
      | go_big_quiet_skip
      | (go_big_quiet_want; first
          | (go_big_quiet_op; go_big_quiet_on)
          | (refine quiet_det ?_; apply Exists.intro; refine ⟨fun w' hC => ?_, ?_⟩; (go_simp <;> (first | rfl | exact ⟨rfl, rfl⟩)); apply Exists.intro; refine ⟨?_, ?_⟩; (go_simp <;> (first | rfl | exact ⟨rfl, rfl⟩)); go_big_quiet_on)
          | (show Oper.quiet _ { dst := _, op := .call { callee := .value _, args := _, argTypes := _ }, type := _, pos := _, after := _, guard := _ } _ _ _; refine quiet_call ?_; apply Exists.intro; apply Exists.intro; refine ⟨fun w' hC => ?_, ?_⟩; (go_simp <;> (first | rfl | exact ⟨rfl, rfl⟩)); apply Exists.intro; refine ⟨fun w' hC => ?_, ?_⟩; (first
              | with_reducible exact grow_call (start_any sp sg A c n l ag id ph cl si w' hn (hI.grow hC) hl hph hsi) hC
              | with_reducible exact grow_call (quot_any _ _ w' (by omega) (by omega)) hC
              | fail); apply Exists.intro; refine ⟨?_, ?_⟩; (go_simp <;> (first | rfl | exact ⟨rfl, rfl⟩)); go_big_quiet_on)))
  all_goals refine wpQuiet_nil ?_
  intro w' hw
  clear w1 w2 w3
  go_wp2
  all_goals go_ret
  all_goals exact ⟨ret_i (by unfold levelV; omega), bW.trans (hw.mono bW.size)⟩
set_option maxHeartbeats 2000000 in
theorem rlevel_any (per cap hold lock sp sg : Int) (A : Option Addr) (c n : Nat) (l : List Int) (ag id ph cl si now : Int) (w : World) (hn : l.length = n) (hs : Ints .i64 w w.heap.size A l) (hl : n ≤ 1000000) (hS : Small l) (hper : 1 ≤ per ∧ per ≤ 10000) (hcap : 0 ≤ cap ∧ cap ≤ 1000) (hlock : 0 ≤ lock ∧ lock ≤ 1000) (hph : 0 ≤ ph ∧ ph ≤ 1000) (hcl : 0 ≤ cl ∧ cl ≤ 3) (hsi : 0 ≤ si ∧ si ≤ 10000) (hnow : 0 ≤ now ∧ now ≤ 10000) (hst : startV l ph si ≤ now) :
    Calls Try.prog 53 #[.agg #[.slice none 0 0, .slice none 0 0, .int .i64 per, .int .i64 cap, .int .i64 hold, .int .i64 lock], .agg #[.int .i64 sp, .int .i64 sg, .slice A n c], .agg #[.int .i64 ag, .int .i64 id, .int .i64 ph, .int .i64 cl, .int .i64 si], .int .i64 now] w fun e w' => e = .returned (.int .i64 (levelV per cap l ph cl si now)) ∧ Below w.heap.size w w' := by
  have hb := level_bd hS ph cl si now hper hcap hcl hsi hnow
  have hst1 := startV_bd hS ph hsi.1 hsi.2
  have w1 : IntKind.i64.wrap (now - startV l ph si) = now - startV l ph si := by rw [IntKind.wrap_i64]; omega
  have w2 : IntKind.i64.wrap (cl + (now - startV l ph si) / per) = cl + (now - startV l ph si) / per := by rw [IntKind.wrap_i64]; omega
  have w3 : IntKind.i64.wrap ((now - startV l ph si) / per) = (now - startV l ph si) / per := by rw [IntKind.wrap_i64]; omega
  have hmx : (if 1 < per then per else 1) = per := by split <;> omega
  have hper0 : (per == 0) = false := by simp; omega
  have hmp : ¬ per = 0 := by omega
  have htd : (now - startV l ph si).tdiv per = (now - startV l ph si) / per := Int.tdiv_eq_ediv_of_nonneg (by omega)
  have bW := lat_alloc (lat_alloc (lat_alloc (Below.refl w.heap.size w) (.cells #[.slice none 0 0, .slice none 0 0, .int .i64 per, .int .i64 cap, .int .i64 hold, .int .i64 lock] 33)) (.cells #[.int .i64 sp, .int .i64 sg, .slice A n c] 24)) (.cells #[.int .i64 ag, .int .i64 id, .int .i64 ph, .int .i64 cl, .int .i64 si] 47)
  have B0 := Blk.alloc (Blk.alloc (Blk.new (w := w) (t := 33) (cs := #[.slice none 0 0, .slice none 0 0, .int .i64 per, .int .i64 cap, .int .i64 hold, .int .i64 lock])) (.cells #[.int .i64 sp, .int .i64 sg, .slice A n c] 24)) (.cells #[.int .i64 ag, .int .i64 id, .int .i64 ph, .int .i64 cl, .int .i64 si] 47)
  have B1 := Blk.alloc (Blk.new (w := w.alloc (.cells #[.slice none 0 0, .slice none 0 0, .int .i64 per, .int .i64 cap, .int .i64 hold, .int .i64 lock] 33)) (t := 24) (cs := #[.int .i64 sp, .int .i64 sg, .slice A n c])) (.cells #[.int .i64 ag, .int .i64 id, .int .i64 ph, .int .i64 cl, .int .i64 si] 47)
  have B2 := Blk.new (w := (w.alloc (.cells #[.slice none 0 0, .slice none 0 0, .int .i64 per, .int .i64 cap, .int .i64 hold, .int .i64 lock] 33)).alloc (.cells #[.int .i64 sp, .int .i64 sg, .slice A n c] 24)) (t := 47) (cs := #[.int .i64 ag, .int .i64 id, .int .i64 ph, .int .i64 cl, .int .i64 si])
  rw [heap_size] at B1
  rw [heap_size, heap_size] at B2
  have hI := (hs.below bW).more bW.size
  go_enter Try.func53, Try.ntmps53
  go_wp2_with fail
  generalize ((w.alloc (.cells #[.slice none 0 0, .slice none 0 0, .int .i64 per, .int .i64 cap, .int .i64 hold, .int .i64 lock] 33)).alloc (.cells #[.int .i64 sp, .int .i64 sg, .slice A n c] 24)).alloc (.cells #[.int .i64 ag, .int .i64 id, .int .i64 ph, .int .i64 cl, .int .i64 si] 47) = W at *
  have o0 := B0.laterN 0 rfl
  have o1 := B0.laterN 1 rfl
  have o2 := B0.laterN 2 rfl
  have o3 := B0.laterN 3 rfl
  have o4 := B0.laterN 4 rfl
  have o5 := B0.laterN 5 rfl
  have p0 := B1.laterN 0 rfl
  have p1 := B1.laterN 1 rfl
  have p2 := B1.laterN 2 rfl
  have q0 := B2.laterN 0 rfl
  have q1 := B2.laterN 1 rfl
  have q2 := B2.laterN 2 rfl
  have q3 := B2.laterN 3 rfl
  have q4 := B2.laterN 4 rfl
  refine wp_region_grow (by kernel_rfl) (by kernel_rfl) ?_
  repeat' (first
      | go_big_quiet_skip
      | (go_big_quiet_want; first
          | (go_big_quiet_op; go_big_quiet_on)
          | (refine quiet_det ?_; apply Exists.intro; refine ⟨fun w' hC => ?_, ?_⟩; (go_simp <;> (first | rfl | exact ⟨rfl, rfl⟩)); apply Exists.intro; refine ⟨?_, ?_⟩; (go_simp <;> (first | rfl | exact ⟨rfl, rfl⟩)); go_big_quiet_on)
          | (show Oper.quiet _ { dst := _, op := .call { callee := .value _, args := _, argTypes := _ }, type := _, pos := _, after := _, guard := _ } _ _ _; refine quiet_call ?_; apply Exists.intro; apply Exists.intro; refine ⟨fun w' hC => ?_, ?_⟩; (go_simp <;> (first | rfl | exact ⟨rfl, rfl⟩)); apply Exists.intro; refine ⟨fun w' hC => ?_, ?_⟩; (first
              | with_reducible exact grow_call (rstart_any sp sg A c n l ag id ph cl si w' hn (hI.grow hC) hl hph hsi) hC
              | with_reducible exact grow_call (quot_any _ _ w' (by omega) (by omega)) hC
              | fail); apply Exists.intro; refine ⟨?_, ?_⟩; (go_simp <;> (first | rfl | exact ⟨rfl, rfl⟩)); go_big_quiet_on)))
  all_goals refine wpQuiet_nil ?_
  intro w' hw
  clear w1 w2 w3
  go_wp2
  all_goals go_ret
  all_goals exact ⟨ret_i (by unfold levelV; omega), bW.trans (hw.mono bW.size)⟩
end Go.Proofs.Ytikffoepndpfjaa
