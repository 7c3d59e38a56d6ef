/-
  The other side's best claim, from its order of two claims. Conditions: small numbers; the order's contract.
-/
import Derived.Test.YtikffoepndpfjaaDb
import Derived.Test.YtikffoepndpfjaaMath
import Derived.Test.YtikffoepndpfjaaBl
namespace Go.Proofs.Ytikffoepndpfjaa
open Go.ChangeShapes Go.WideShapes Go.RowKit
set_option linter.unusedVariables false

theorem rlock_c (per cap hold lock sp sg : Int) (A : Option Addr) (c n : Nat) (l : List Int) (now : Int) (x : Cl) (w : World) (hn : l.length = n) (hs : Ints .i64 w w.heap.size A l) (hl : n ≤ 1000000) (hS : Small l) (hlock : 0 ≤ lock ∧ lock ≤ 1000) (hnow : 0 ≤ now ∧ now ≤ 10000) (hx : ClOk x) {b : Bool} (hb : lockC lock l now x = b) :
    Calls Try.prog 40 #[.agg #[.slice none 0 0, .slice none 0 0, .int .i64 per, .int .i64 cap, .int .i64 hold, .int .i64 lock], .agg #[.int .i64 sp, .int .i64 sg, .slice A n c], .agg #[.int .i64 x.ag, .int .i64 x.id, .int .i64 x.ph, .int .i64 x.cl, .int .i64 x.si], .int .i64 now] w fun e w' => e = .returned (.bool b) ∧ Below w.heap.size w w' := by
  rw [← hb]
  exact rlocked_any per cap hold lock sp sg A c n l x.ag x.id x.ph x.cl x.si now w hn hs hl hS hlock hx.ph hnow
/-- The contract of the other side's Less. -/
def LessOk (per cap hold lock sp sg : Int) (A : Option Addr) (c n : Nat) (l : List Int) (now : Int) : Prop :=
  ∀ (x y : Cl) (w : World), Ints .i64 w w.heap.size A l → ClOk x → ClOk y → startV l x.ph x.si ≤ now → startV l y.ph y.si ≤ now →
    Calls Try.prog 41 #[.agg #[.slice none 0 0, .slice none 0 0, .int .i64 per, .int .i64 cap, .int .i64 hold, .int .i64 lock], .agg #[.int .i64 sp, .int .i64 sg, .slice A n c], .int .i64 now, .agg #[.int .i64 x.ag, .int .i64 x.id, .int .i64 x.ph, .int .i64 x.cl, .int .i64 x.si], .agg #[.int .i64 y.ag, .int .i64 y.id, .int .i64 y.ph, .int .i64 y.cl, .int .i64 y.si]] w fun e w' => e = .returned (.bool (lessC per cap l now x y)) ∧ Below w.heap.size w w'
theorem LessOk.c {per cap hold lock sp sg : Int} {A : Option Addr} {c n : Nat} {l : List Int} {now : Int} (h : LessOk per cap hold lock sp sg A c n l now) (x y : Cl) (w : World) (hs : Ints .i64 w w.heap.size A l) (hx : ClOk x) (hy : ClOk y) (h1 : startV l x.ph x.si ≤ now) (h2 : startV l y.ph y.si ≤ now) {b : Bool} (hb : lessC per cap l now x y = b) :
    Calls Try.prog 41 #[.agg #[.slice none 0 0, .slice none 0 0, .int .i64 per, .int .i64 cap, .int .i64 hold, .int .i64 lock], .agg #[.int .i64 sp, .int .i64 sg, .slice A n c], .int .i64 now, .agg #[.int .i64 x.ag, .int .i64 x.id, .int .i64 x.ph, .int .i64 x.cl, .int .i64 x.si], .agg #[.int .i64 y.ag, .int .i64 y.id, .int .i64 y.ph, .int .i64 y.cl, .int .i64 y.si]] w fun e w' => e = .returned (.bool b) ∧ Below w.heap.size w w' := by
  rw [← hb]
  exact h x y w hs hx hy h1 h2
set_option maxRecDepth 20000 in
set_option maxHeartbeats 4000000 in
theorem rbest_of (per cap hold lock sp sg : Int) (A : Option Addr) (c n : Nat) (l : List Int) (now : Int) (D : Option Addr) (d : Nat) (C : List Cl) (w : World) (HL : LessOk per cap hold lock sp sg A c n l now) (hn : l.length = n) (hs : Ints .i64 w w.heap.size A l) (hl : n ≤ 1000000) (hS : Small l) (hlock : 0 ≤ lock ∧ lock ≤ 1000) (hnow : 0 ≤ now ∧ now ≤ 10000) (hC : Cls w w.heap.size D C) (hok : AllOk C) (hstC : ∀ x ∈ C, startV l x.ph x.si ≤ now) (hml : C.length ≤ 1000000) :
    Calls Try.prog 33 #[.agg #[.slice none 0 0, .slice none 0 0, .int .i64 per, .int .i64 cap, .int .i64 hold, .int .i64 lock], .agg #[.int .i64 sp, .int .i64 sg, .slice A n c], .int .i64 now, .slice D C.length d] w fun e w' => e = .returned (.int .i64 (bestK per cap lock l now C C.length)) ∧ Below w.heap.size w w' := by
  have hn0 := Lib.hid hn
  clear hn
  have bW := lat_alloc (lat_alloc (Below.refl w.heap.size w) (.cells #[.slice none 0 0, .slice none 0 0, .int .i64 per, .int .i64 cap, .int .i64 hold, .int .i64 lock] 33)) (.cells #[.int .i64 sp, .int .i64 sg, .slice A n c] 24)
  have B0 := Blk.alloc (Blk.new (w := w) (t := 33) (cs := #[.slice none 0 0, .slice none 0 0, .int .i64 per, .int .i64 cap, .int .i64 hold, .int .i64 lock])) (.cells #[.int .i64 sp, .int .i64 sg, .slice A n c] 24)
  have B1 := Blk.new (w := w.alloc (.cells #[.slice none 0 0, .slice none 0 0, .int .i64 per, .int .i64 cap, .int .i64 hold, .int .i64 lock] 33)) (t := 24) (cs := #[.int .i64 sp, .int .i64 sg, .slice A n c])
  rw [heap_size] at B1
  have hI := hs.grow bW
  have hD := hC.grow bW
  go_enter Try.func33, Try.ntmps33
  go_wp2
  generalize (w.alloc (.cells #[.slice none 0 0, .slice none 0 0, .int .i64 per, .int .i64 cap, .int .i64 hold, .int .i64 lock] 33)).alloc (.cells #[.int .i64 sp, .int .i64 sg, .slice A n c] 24) = W at *
  generalize w.heap.size + 1 = gS at *
  go_loopw [9, 14] (fun b i wr => ∃ k : Nat, k ≤ C.length ∧ i = .int .i64 k ∧ b = .int .i64 (bestK per cap lock l now C k) ∧ Below W.heap.size W wr) (fun _ i _ => C.length - (intOf i).toNat)
  case atStart => exact ⟨0, by omega, rfl, rfl, Below.refl _ _⟩
  case round =>
    obtain ⟨k, hk, rfl, rfl, hbr⟩ := hrel
    by_cases hlt : k < C.length
    · have hltZ : (k : Int) < C.length := by omega
      obtain ⟨b, off, rfl, hB, h0, h1, h2, h3, h4⟩ := (hD.grow hbr).at hlt
      have hx := hok _ (clAt_mem hlt)
      have hstx := hstC _ (clAt_mem hlt)
      have hbk := bestK_bd per cap lock l now C k
      have HBEST := Lib.hid (bestK.eq_2 per cap lock l now C k)
      have bX := lat_alloc (Below.refl wr.heap.size wr) (.cells #[.int .i64 (clAt C k).ag, .int .i64 (clAt C k).id, .int .i64 (clAt C k).ph, .int .i64 (clAt C k).cl, .int .i64 (clAt C k).si] 47)
      have e2 := Blk.new (w := wr) (t := 47) (cs := #[.int .i64 (clAt C k).ag, .int .i64 (clAt C k).id, .int .i64 (clAt C k).ph, .int .i64 (clAt C k).cl, .int .i64 (clAt C k).si])
      have e0 := (B0.below hbr).below bX
      have e1 := (B1.below hbr).below bX
      have hIX := (hI.grow hbr).grow bX
      have hEX := (hD.grow hbr).grow bX
      have hbX := hbr.trans (bX.mono hbr.size)
      go_wp2_with fail
      clear h0 h1 h2 h3 h4
      generalize wr.alloc (.cells #[.int .i64 (clAt C k).ag, .int .i64 (clAt C k).id, .int .i64 (clAt C k).ph, .int .i64 (clAt C k).cl, .int .i64 (clAt C k).si] 47) = W2 at *
      generalize wr.heap.size = gX at *
      cases hlk : lockC lock l now (clAt C k) with
      | true =>
        have HLK := Lib.hid hlk
        have HB1 := Lib.hid (show bestK per cap lock l now C (k + 1) = bestK per cap lock l now C k by rw [HBEST.out, if_pos hlk])
        clear hlk
        have r0 := e0.laterN 0 rfl
        have r1 := e0.laterN 1 rfl
        have r2 := e0.laterN 2 rfl
        have r3 := e0.laterN 3 rfl
        have r4 := e0.laterN 4 rfl
        have r5 := e0.laterN 5 rfl
        have s0 := e1.laterN 0 rfl
        have s1 := e1.laterN 1 rfl
        have s2 := e1.laterN 2 rfl
        have t0 := e2.laterN 0 rfl
        have t1 := e2.laterN 1 rfl
        have t2 := e2.laterN 2 rfl
        have t3 := e2.laterN 3 rfl
        have t4 := e2.laterN 4 rfl
        refine wp_region_grow (by kernel_rfl) (by kernel_rfl) ?_
        repeat' (first
            | go_big_quiet_skip
            | (go_big_quiet_want; first
                | (go_big_quiet_op; go_big_quiet_on)
                | (refine quiet_det ?_; apply Exists.intro; refine ⟨fun w' hC => ?_, ?_⟩; (go_simp <;> (first | rfl | exact ⟨rfl, rfl⟩)); apply Exists.intro; refine ⟨?_, ?_⟩; (go_simp <;> (first | rfl | exact ⟨rfl, rfl⟩)); go_big_quiet_on)
                | (show Oper.quiet _ { dst := _, op := .call { callee := .value _, args := _, argTypes := _ }, type := _, pos := _, after := _, guard := _ } _ _ _; refine quiet_call ?_; apply Exists.intro; apply Exists.intro; refine ⟨fun w' hC => ?_, ?_⟩; (go_simp <;> (first | rfl | exact ⟨rfl, rfl⟩)); apply Exists.intro; refine ⟨fun w' hC => ?_, ?_⟩; (first
                    | with_reducible exact grow_call (rlock_c per cap hold lock sp sg A c n l now (clAt C k) w' hn0.out (hIX.grow hC) hl hS hlock hnow hx HLK.out) hC
                    | fail); apply Exists.intro; refine ⟨?_, ?_⟩; (go_simp <;> (first | rfl | exact ⟨rfl, rfl⟩)); go_big_quiet_on)))
        all_goals refine wpQuiet_nil ?_
        intro w3 hw3
        clear r0 r1 r2 r3 r4 r5 s0 s1 s2 t0 t1 t2 t3 t4
        go_wp2
        go_roundw
        case rel => exact ⟨k + 1, by omega, by go_num, by rw [HB1.out], hbX.trans (hw3.mono hbX.size)⟩
        case measure => simp [intOf]; omega
      | false =>
        have HLK := Lib.hid hlk
        by_cases hb0 : bestK per cap lock l now C k < 0
        · have HB1 := Lib.hid (show bestK per cap lock l now C (k + 1) = k by rw [HBEST.out, if_neg (by simp [hlk]), if_pos hb0])
          clear hlk
          have hd : decide (bestK per cap lock l now C k < 0) = true := by simpa using hb0
          have r0 := e0.laterN 0 rfl
          have r1 := e0.laterN 1 rfl
          have r2 := e0.laterN 2 rfl
          have r3 := e0.laterN 3 rfl
          have r4 := e0.laterN 4 rfl
          have r5 := e0.laterN 5 rfl
          have s0 := e1.laterN 0 rfl
          have s1 := e1.laterN 1 rfl
          have s2 := e1.laterN 2 rfl
          have t0 := e2.laterN 0 rfl
          have t1 := e2.laterN 1 rfl
          have t2 := e2.laterN 2 rfl
          have t3 := e2.laterN 3 rfl
          have t4 := e2.laterN 4 rfl
          refine wp_region_grow (by kernel_rfl) (by kernel_rfl) ?_
          repeat' (first
              | go_big_quiet_skip
              | (go_big_quiet_want; first
                  | (go_big_quiet_op; go_big_quiet_on)
                  | (refine quiet_det ?_; apply Exists.intro; refine ⟨fun w' hC => ?_, ?_⟩; (go_simp <;> (first | rfl | exact ⟨rfl, rfl⟩)); apply Exists.intro; refine ⟨?_, ?_⟩; (go_simp <;> (first | rfl | exact ⟨rfl, rfl⟩)); go_big_quiet_on)
                  | (show Oper.quiet _ { dst := _, op := .call { callee := .value _, args := _, argTypes := _ }, type := _, pos := _, after := _, guard := _ } _ _ _; refine quiet_call ?_; apply Exists.intro; apply Exists.intro; refine ⟨fun w' hC => ?_, ?_⟩; (go_simp <;> (first | rfl | exact ⟨rfl, rfl⟩)); apply Exists.intro; refine ⟨fun w' hC => ?_, ?_⟩; (first
                      | with_reducible exact grow_call (rlock_c per cap hold lock sp sg A c n l now (clAt C k) w' hn0.out (hIX.grow hC) hl hS hlock hnow hx HLK.out) hC
                      | fail); apply Exists.intro; refine ⟨?_, ?_⟩; (go_simp <;> (first | rfl | exact ⟨rfl, rfl⟩)); go_big_quiet_on)))
          all_goals refine wpQuiet_nil ?_
          intro w3 hw3
          clear r0 r1 r2 r3 r4 r5 s0 s1 s2 t0 t1 t2 t3 t4
          go_wp2
          go_roundw
          case rel => exact ⟨k + 1, by omega, by go_num, by rw [HB1.out], hbX.trans (hw3.mono hbX.size)⟩
          case measure => simp [intOf]; omega
        · obtain ⟨j, hj⟩ : ∃ j : Nat, bestK per cap lock l now C k = j := ⟨(bestK per cap lock l now C k).toNat, by omega⟩
          have HB0 := HBEST.out
          rw [if_neg (by simp [hlk]), if_neg hb0, hj, Int.toNat_natCast] at HB0
          rw [hj] at hbk hb0
          have HB1 := Lib.hid HB0
          have HJ := Lib.hid hj
          clear hlk HB0
          have hjC : j < C.length := by omega
          have hjlt : (j : Int) < C.length := by omega
          have hy := hok _ (clAt_mem hjC)
          have hsty := hstC _ (clAt_mem hjC)
          rw [HJ.out]
          clear hj hb0
          have hd : decide ((j : Int) < 0) = false := by simp
          obtain ⟨b', off', hbo, hB', hc'⟩ := hEX.at hjC
          injection hbo with hbo
          injection hbo with e1' e2' _
          subst e1' e2'
          obtain ⟨c0, c1, c2, c3, c4⟩ := hc'.later hB'
          have r0 := e0.laterN 0 rfl
          have r1 := e0.laterN 1 rfl
          have r2 := e0.laterN 2 rfl
          have r3 := e0.laterN 3 rfl
          have r4 := e0.laterN 4 rfl
          have r5 := e0.laterN 5 rfl
          have s0 := e1.laterN 0 rfl
          have s1 := e1.laterN 1 rfl
          have s2 := e1.laterN 2 rfl
          have t0 := e2.laterN 0 rfl
          have t1 := e2.laterN 1 rfl
          have t2 := e2.laterN 2 rfl
          have t3 := e2.laterN 3 rfl
          have t4 := e2.laterN 4 rfl
          cases hls : lessC per cap l now (clAt C k) (clAt C j) with
          | true =>
            have HB2 := Lib.hid (show bestK per cap lock l now C (k + 1) = k by rw [HB1.out, if_pos hls])
            have HLS := Lib.hid hls
            clear hls
            refine wp_region_grow (by kernel_rfl) (by kernel_rfl) ?_
            repeat' (first
                | go_big_quiet_skip
                | (go_big_quiet_want; first
                    | (go_big_quiet_op; go_big_quiet_on)
                    | (refine quiet_det ?_; apply Exists.intro; refine ⟨fun w' hC => ?_, ?_⟩; (go_simp <;> (first | rfl | exact ⟨rfl, rfl⟩)); apply Exists.intro; refine ⟨?_, ?_⟩; (go_simp <;> (first | rfl | exact ⟨rfl, rfl⟩)); go_big_quiet_on)
                    | (show Oper.quiet _ { dst := _, op := .call { callee := .value _, args := _, argTypes := _ }, type := _, pos := _, after := _, guard := _ } _ _ _; refine quiet_call ?_; apply Exists.intro; apply Exists.intro; refine ⟨fun w' hC => ?_, ?_⟩; (go_simp <;> (first | rfl | exact ⟨rfl, rfl⟩)); apply Exists.intro; refine ⟨fun w' hC => ?_, ?_⟩; (first
                        | with_reducible exact grow_call (rlock_c per cap hold lock sp sg A c n l now (clAt C k) w' hn0.out (hIX.grow hC) hl hS hlock hnow hx HLK.out) hC
                        | with_reducible exact grow_call (HL.c (clAt C k) (clAt C j) w' (hIX.grow hC) hx hy hstx hsty HLS.out) hC
                        | fail); apply Exists.intro; refine ⟨?_, ?_⟩; (go_simp <;> (first | rfl | exact ⟨rfl, rfl⟩)); go_big_quiet_on)))
            all_goals refine wpQuiet_nil ?_
            intro w3 hw3
            clear r0 r1 r2 r3 r4 r5 s0 s1 s2 t0 t1 t2 t3 t4
            go_wp2
            go_roundw
            case rel => exact ⟨k + 1, by omega, by go_num, by rw [HB2.out], hbX.trans (hw3.mono hbX.size)⟩
            case measure => simp [intOf]; omega
          | false =>
            have HB2 := Lib.hid (show bestK per cap lock l now C (k + 1) = j by rw [HB1.out, if_neg (by simp [hls])])
            have HLS := Lib.hid hls
            clear hls
            refine wp_region_grow (by kernel_rfl) (by kernel_rfl) ?_
            repeat' (first
                | go_big_quiet_skip
                | (go_big_quiet_want; first
                    | (go_big_quiet_op; go_big_quiet_on)
                    | (refine quiet_det ?_; apply Exists.intro; refine ⟨fun w' hC => ?_, ?_⟩; (go_simp <;> (first | rfl | exact ⟨rfl, rfl⟩)); apply Exists.intro; refine ⟨?_, ?_⟩; (go_simp <;> (first | rfl | exact ⟨rfl, rfl⟩)); go_big_quiet_on)
                    | (show Oper.quiet _ { dst := _, op := .call { callee := .value _, args := _, argTypes := _ }, type := _, pos := _, after := _, guard := _ } _ _ _; refine quiet_call ?_; apply Exists.intro; apply Exists.intro; refine ⟨fun w' hC => ?_, ?_⟩; (go_simp <;> (first | rfl | exact ⟨rfl, rfl⟩)); apply Exists.intro; refine ⟨fun w' hC => ?_, ?_⟩; (first
                        | with_reducible exact grow_call (rlock_c per cap hold lock sp sg A c n l now (clAt C k) w' hn0.out (hIX.grow hC) hl hS hlock hnow hx HLK.out) hC
                        | with_reducible exact grow_call (HL.c (clAt C k) (clAt C j) w' (hIX.grow hC) hx hy hstx hsty HLS.out) hC
                        | fail); apply Exists.intro; refine ⟨?_, ?_⟩; (go_simp <;> (first | rfl | exact ⟨rfl, rfl⟩)); go_big_quiet_on)))
            all_goals refine wpQuiet_nil ?_
            intro w3 hw3
            clear r0 r1 r2 r3 r4 r5 s0 s1 s2 t0 t1 t2 t3 t4
            go_wp2
            go_roundw
            case rel => exact ⟨k + 1, by omega, by go_num, by rw [HB2.out], hbX.trans (hw3.mono hbX.size)⟩
            case measure => simp [intOf]; omega
    · go_wp2
      go_ret
      exact ⟨ret_i (by rw [show k = C.length by omega]), bW.trans (hbr.mono bW.size)⟩
end Go.Proofs.Ytikffoepndpfjaa
