/-
  The law RateSteps answers true for all arguments: its walk. Conditions: none.
-/
import Derived.Test.YtooclkopemjhhaaA
import Derived.Test.YtooclkopemjhhaaR
import Derived.BigQuiet
namespace Go.Proofs.Ytooclkopemjhhaa
open Go.ChangeShapes Go.WideShapes Go.RowKit
set_option linter.unusedVariables false

set_option maxHeartbeats 1000000 in
theorem steps_any (l0 r0 b0 r burst level : Int) (w : World) (x1 : -9223372036854775808 ≤ l0) (x2 : l0 ≤ 9223372036854775807) (x3 : -9223372036854775808 ≤ r0) (x4 : r0 ≤ 9223372036854775807) (x5 : -9223372036854775808 ≤ b0) (x6 : b0 ≤ 9223372036854775807) (r1 : -9223372036854775808 ≤ r) (r2 : r ≤ 9223372036854775807) (b1 : -9223372036854775808 ≤ burst) (b2 : burst ≤ 9223372036854775807) (l1 : -9223372036854775808 ≤ level) (l2 : level ≤ 9223372036854775807) :
    Calls Try.prog 3 #[.agg #[.int .i64 l0, .int .i64 r0, .int .i64 b0], .int .i64 r, .int .i64 burst, .int .i64 level] w fun e w' => e = .returned (.bool true) ∧ Below w.heap.size w w' := by
  have hB := modI_bd burst 12 (by decide)
  have hR := modI_bd r (modI burst 12 + 1) (by omega)
  have hL := modI_bd level (modI burst 12 + 1) (by omega)
  have h2 := modI_bd (modI burst 12) 2 (by decide)
  have h9 := modI_bd r 9 (by decide)
  have h8 := modI_bd level 9 (by decide)
  go_enter Try.func3, Try.ntmps3
  go_wp2_with fail
  refine (mod_any burst 12 (by omega) (by omega) b1 b2 _).mono ?_; rintro e w' ⟨rfl, rfl⟩
  go_wp2_with fail
  refine (mod_any r (modI burst 12 + 1) (by omega) (by omega) r1 r2 _).mono ?_; rintro e w' ⟨rfl, rfl⟩
  go_wp2_with fail
  refine (mod_any level (modI burst 12 + 1) (by omega) (by omega) l1 l2 _).mono ?_; rintro e w' ⟨rfl, rfl⟩
  have E2 := Lib.hid (show modI (modI burst 12) 2 = modI (modI burst 12) 2 from rfl)
  generalize modI burst 12 = B at *
  generalize modI r (B + 1) = R at *
  generalize modI level (B + 1) = L at *
  have hv : validB L R B = true := by simp [validB, withinB]; omega
  have hW1 : Below w.heap.size w ((w.alloc (.cells #[.int .i64 l0, .int .i64 r0, .int .i64 b0] 23)).alloc (.cells #[.int .i64 L, .int .i64 R, .int .i64 B] 23)) := lat_alloc (lat_alloc (Below.refl _ _) _) _
  have A1 : Blk ((w.alloc (.cells #[.int .i64 l0, .int .i64 r0, .int .i64 b0] 23)).alloc (.cells #[.int .i64 L, .int .i64 R, .int .i64 B] 23)) w.heap.size 23 #[.int .i64 l0, .int .i64 r0, .int .i64 b0] := Blk.new.alloc _
  have A2 : Blk ((w.alloc (.cells #[.int .i64 l0, .int .i64 r0, .int .i64 b0] 23)).alloc (.cells #[.int .i64 L, .int .i64 R, .int .i64 B] 23)) (w.heap.size + 1) 23 #[.int .i64 L, .int .i64 R, .int .i64 B] := by
    have := Blk.new (w := w.alloc (.cells #[.int .i64 l0, .int .i64 r0, .int .i64 b0] 23)) (t := 23) (cs := #[.int .i64 L, .int .i64 R, .int .i64 B])
    rwa [heap_size] at this
  go_wp2_with fail
  generalize ((w.alloc (.cells #[.int .i64 l0, .int .i64 r0, .int .i64 b0] 23)).alloc (.cells #[.int .i64 L, .int .i64 R, .int .i64 B] 23)) = W1 at *
  refine (take_any L R B (by omega) _).mono ?_; rintro e w2 ⟨rfl, hb2⟩
  have C1 := (A1.below hb2).alloc (.cells #[.int .i64 (tk L), .int .i64 R, .int .i64 B] 23)
  have C2 := (A2.below hb2).alloc (.cells #[.int .i64 (tk L), .int .i64 R, .int .i64 B] 23)
  have C3 : Blk (w2.alloc (.cells #[.int .i64 (tk L), .int .i64 R, .int .i64 B] 23)) w2.heap.size 23 #[.int .i64 (tk L), .int .i64 R, .int .i64 B] := Blk.new
  have hW2 := (hW1.trans (hb2.mono hW1.size)).alloc (hW1.trans (hb2.mono hW1.size)).size (.cells #[.int .i64 (tk L), .int .i64 R, .int .i64 B] 23)
  obtain ⟨k0, k1, k2, _, _, _⟩ := (A2.below hb2).three
  have hlt := (A2.below hb2).lt
  go_wp2_with fail
  generalize w2.alloc (.cells #[.int .i64 (tk L), .int .i64 R, .int .i64 B] 23) = W2 at *
  clear k0 k1 k2 hb2
  generalize w2.heap.size = g3 at *
  refine (rtake_any L R B (by omega) _).mono ?_; rintro e w3 ⟨rfl, hb3⟩
  have D1 := (C1.below hb3).alloc (.cells #[.int .i64 (tk L), .int .i64 R, .int .i64 B] 23)
  have D2 := (C2.below hb3).alloc (.cells #[.int .i64 (tk L), .int .i64 R, .int .i64 B] 23)
  have D3 := (C3.below hb3).alloc (.cells #[.int .i64 (tk L), .int .i64 R, .int .i64 B] 23)
  have D4 : Blk (w3.alloc (.cells #[.int .i64 (tk L), .int .i64 R, .int .i64 B] 23)) w3.heap.size 23 #[.int .i64 (tk L), .int .i64 R, .int .i64 B] := Blk.new
  have hW3 := (hW2.trans (hb3.mono hW2.size)).alloc (hW2.trans (hb3.mono hW2.size)).size (.cells #[.int .i64 (tk L), .int .i64 R, .int .i64 B] 23)
  go_wp2_with fail
  generalize w3.alloc (.cells #[.int .i64 (tk L), .int .i64 R, .int .i64 B] 23) = W3 at *
  clear hb3
  generalize w3.heap.size = g4 at *
  refine (mod_any B 2 (by omega) (by omega) (by omega) (by omega) _).mono ?_; rintro e w' ⟨rfl, rfl⟩
  go_wp2_with fail
  refine (mod_any r 9 (by omega) (by omega) r1 r2 _).mono ?_; rintro e w' ⟨rfl, rfl⟩
  go_wp2_with fail
  refine (mod_any level 9 (by omega) (by omega) l1 l2 _).mono ?_; rintro e w' ⟨rfl, rfl⟩
  have F1 := D1.alloc (.cells #[.int .i64 (modI level 9 - 1), .int .i64 (modI r 9 - 1), .int .i64 (1000 + modI B 2)] 23)
  have F2 := D2.alloc (.cells #[.int .i64 (modI level 9 - 1), .int .i64 (modI r 9 - 1), .int .i64 (1000 + modI B 2)] 23)
  have F3 := D3.alloc (.cells #[.int .i64 (modI level 9 - 1), .int .i64 (modI r 9 - 1), .int .i64 (1000 + modI B 2)] 23)
  have F4 := D4.alloc (.cells #[.int .i64 (modI level 9 - 1), .int .i64 (modI r 9 - 1), .int .i64 (1000 + modI B 2)] 23)
  have F5 : Blk (W3.alloc (.cells #[.int .i64 (modI level 9 - 1), .int .i64 (modI r 9 - 1), .int .i64 (1000 + modI B 2)] 23)) W3.heap.size 23 #[.int .i64 (modI level 9 - 1), .int .i64 (modI r 9 - 1), .int .i64 (1000 + modI B 2)] := Blk.new
  have hW4 := hW3.alloc hW3.size (.cells #[.int .i64 (modI level 9 - 1), .int .i64 (modI r 9 - 1), .int .i64 (1000 + modI B 2)] 23)
  go_wp2_with fail
  generalize W3.alloc (.cells #[.int .i64 (modI level 9 - 1), .int .i64 (modI r 9 - 1), .int .i64 (1000 + modI B 2)] 23) = W4 at *
  generalize W3.heap.size = g5 at *
  obtain ⟨p0, p1, p2⟩ := F1.later3
  obtain ⟨q0, q1, q2⟩ := F2.later3
  obtain ⟨s0, s1, s2⟩ := F3.later3
  obtain ⟨t0, t1, t2⟩ := F4.later3
  obtain ⟨u0, u1, u2⟩ := F5.later3
  clear A1 A2 C1 C2 C3 D1 D2 D3 D4 hW1 hW2 hW3
  refine wp_region_grow (by kernel_rfl) (by kernel_rfl) ?_
  repeat (first
    | go_big_quiet_skip
    | (go_big_quiet_want; first
        | (go_big_quiet_op; go_big_quiet_on)
        | (refine quiet_det ?_; apply Exists.intro; refine ⟨fun w' hC => ?_, ?_⟩; (go_simp <;> (first | rfl | exact ⟨rfl, rfl⟩)); apply Exists.intro; refine ⟨?_, ?_⟩; (go_simp <;> (first | rfl | exact ⟨rfl, rfl⟩)); go_big_quiet_on)
        | (refine quiet_call ?_; apply Exists.intro; apply Exists.intro; refine ⟨fun w' hC => ?_, ?_⟩; (go_simp <;> (first | rfl | exact ⟨rfl, rfl⟩)); apply Exists.intro; refine ⟨fun w' hC => ?_, ?_⟩; (first
            | with_reducible exact grow_call (new_any _ _ w') hC
            | with_reducible exact grow_call (rnew_any _ _ w') hC
            | with_reducible exact grow_call (valid_any _ _ _ w') hC
            | with_reducible exact grow_call (rvalid_any _ _ _ w') hC
            | with_reducible exact grow_call (tick_any _ _ _ (by omega) (by omega) w') hC
            | with_reducible exact grow_call (rtick_any _ _ _ (by omega) (by omega) w') hC
            | with_reducible exact grow_call (awake_any w') hC); apply Exists.intro; refine ⟨?_, ?_⟩; (go_simp <;> (first | rfl | exact ⟨rfl, rfl⟩)); go_big_quiet_on)))
  refine wpQuiet_nil ?_
  intro w' hw
  go_wp2
  all_goals go_ret
  all_goals exact ⟨rfl, hW4.trans (hw.mono hW4.size)⟩
end Go.Proofs.Ytooclkopemjhhaa
