/-
  The law RankRises answers true: its walk. Conditions: none.
-/
import Derived.Test.YtdgmfledhcgncaaSe
import Derived.Test.YtdgmfledhcgncaaAw
import Derived.Test.YtdgmfledhcgncaaMathb
namespace Go.Proofs.Ytdgmfledhcgncaa
open Go.ChangeShapes Go.WideShapes Go.RowKit
set_option linter.unusedVariables false

set_option maxRecDepth 100000 in
set_option maxHeartbeats 20000000 in
theorem rises_any (D : Option Addr) (d : Nat) (l : List Int) (now0 wait : Int) (w : World) (hs : Ints .i64 w w.heap.size D l) (hn : Nums l) (hl : l.length ≤ 9223372036854775807) (n0 : -9223372036854775808 ≤ now0) (n1 : now0 ≤ 9223372036854775807) (m0 : -9223372036854775808 ≤ wait) (m1 : wait ≤ 9223372036854775807) :
    Calls Try.prog 5 #[.slice D l.length d, .int .i64 now0, .int .i64 wait] w fun e w' => e = .returned (.bool true) ∧ Below w.heap.size w w' := by
  go_enter Try.func5, Try.ntmps5
  go_wp2_with fail
  refine (mod_any now0 60 (by omega) (by omega) n0 n1 _).mono ?_; rintro e w' ⟨rfl, hw'⟩; subst hw'
  have hnow' := modI_bd now0 60 (by omega)
  generalize modI now0 60 = now at *
  have hnow : 0 ≤ now ∧ now ≤ 10000 := by omega
  go_wp2_with fail
  refine (setting_any D d l now w hs hn hl (by omega)).mono ?_
  rintro e w1 ⟨hb1, per, cap, hold, lock, sp, sg, n, A, c, L, B, m, C, rfl, hset, hIL, hCB⟩
  have hper : 1 ≤ per ∧ per ≤ 10000 := by have := hset.per; omega
  have hcap : 0 ≤ cap ∧ cap ≤ 1000 := by have := hset.cap; omega
  have hlock : 0 ≤ lock ∧ lock ≤ 1000 := by have := hset.lock; omega
  have hnl : n ≤ 1000000 := by have := hset.nn; omega
  have hLn := Lib.hid hset.len
  have hS : Small L := fun x hx => by have := hset.upto x hx; omega
  have hC5 := hset.clen
  have hok : AllOk C := fun x hx => by have h := hset.cls x hx; have := h.ph; have := h.cl; have := h.si; have := hset.nn; exact ⟨by omega, by omega, by omega⟩
  go_wp2_with fail
  have bW := (hb1.alloc hb1.size (.cells #[.slice none 0 0, .slice none 0 0, .int .i64 per, .int .i64 cap, .int .i64 hold, .int .i64 lock] 27)).alloc (hb1.alloc hb1.size (.cells #[.slice none 0 0, .slice none 0 0, .int .i64 per, .int .i64 cap, .int .i64 hold, .int .i64 lock] 27)).size (.cells #[.int .i64 sp, .int .i64 sg, .slice A n c] 29)
  have bX := lat_alloc (lat_alloc (Below.refl w1.heap.size w1) (.cells #[.slice none 0 0, .slice none 0 0, .int .i64 per, .int .i64 cap, .int .i64 hold, .int .i64 lock] 27)) (.cells #[.int .i64 sp, .int .i64 sg, .slice A n c] 29)
  have B0 := Blk.alloc (Blk.new (w := w1) (t := 27) (cs := #[.slice none 0 0, .slice none 0 0, .int .i64 per, .int .i64 cap, .int .i64 hold, .int .i64 lock])) (.cells #[.int .i64 sp, .int .i64 sg, .slice A n c] 29)
  have B1 := Blk.new (w := w1.alloc (.cells #[.slice none 0 0, .slice none 0 0, .int .i64 per, .int .i64 cap, .int .i64 hold, .int .i64 lock] 27)) (t := 29) (cs := #[.int .i64 sp, .int .i64 sg, .slice A n c])
  rw [heap_size] at B1
  have hI := hIL.grow bX
  have hD := hCB.grow bX
  generalize (w1.alloc (.cells #[.slice none 0 0, .slice none 0 0, .int .i64 per, .int .i64 cap, .int .i64 hold, .int .i64 lock] 27)).alloc (.cells #[.int .i64 sp, .int .i64 sg, .slice A n c] 29) = W at *
  generalize w1.heap.size + 1 = gS at *
  generalize w1.heap.size = gC at *
  have hcp0 : 0 ≤ cap * per := Int.mul_nonneg hcap.1 (by omega)
  have hcp1 : cap * per ≤ 25 := by have h1 := hset.cap; have h2 := hset.per; have := Int.mul_le_mul h1.2 h2.2 (by omega) (by omega); omega
  clear hIL hCB bX hset
  refine (mod_any wait 40 (by omega) (by omega) m0 m1 _).mono ?_; rintro e w' ⟨rfl, hw'⟩; subst hw'
  have hwt := modI_bd wait 40 (by omega)
  generalize modI wait 40 = wt at *
  obtain ⟨later, hlt0⟩ : ∃ later, now + wt = later := ⟨_, rfl⟩
  have hlater : 0 ≤ later ∧ later ≤ 10000 := by omega
  have hlate : now ≤ later := by omega
  have HLT := Lib.hid hlt0
  clear hlt0
  go_wp2_with fail
  rw [HLT.out]
  go_loopw [32] (fun i wr => ∃ k : Nat, k ≤ C.length ∧ i = .int .i64 k ∧ Below W.heap.size W wr) (fun i _ => C.length - (intOf i).toNat)
  case atStart => exact ⟨0, by omega, rfl, Below.refl _ _⟩
  case round =>
    obtain ⟨i, hi, rfl, hbr⟩ := hrel
    by_cases hlt : i < C.length
    · have hlt' : (i : Int) < C.length := by omega
      have hE := hD.grow hbr
      obtain ⟨b, off, rfl, hB, h0, h1, h2, h3, h4⟩ := hE.at hlt
      have hx := hok _ (clAt_mem hlt)
      have d0 := B0.below hbr
      have d1 := B1.below hbr
      have hIr := hI.grow hbr
      generalize hxx : clAt C i = x at *
      clear hxx
      have bX := lat_alloc (Below.refl wr.heap.size wr) (.cells #[.int .i64 x.ag, .int .i64 x.id, .int .i64 x.ph, .int .i64 x.cl, .int .i64 x.si] 34)
      have Bx := Blk.new (w := wr) (t := 34) (cs := #[.int .i64 x.ag, .int .i64 x.id, .int .i64 x.ph, .int .i64 x.cl, .int .i64 x.si])
      have e0 := d0.below bX
      have e1 := d1.below bX
      have hIX := hIr.grow bX
      have hEX := hE.grow bX
      have hbX := hbr.trans (bX.mono hbr.size)
      have q0 := Bx.at 0 rfl
      have q1 := Bx.at 1 rfl
      have q2 := Bx.at 2 rfl
      have q3 := Bx.at 3 rfl
      have q4 := Bx.at 4 rfl
      go_wp2_with fail
      clear q0 q1 q2 q3 q4 h0 h1 h2 h3 h4
      cases hex : emB x.cl with
      | true =>
        have HEX := Lib.hid hex
        clear hex
        refine (em_of HEX.out x.ag x.id x.ph x.si _).mono ?_
        rintro e w2 ⟨rfl, hb2⟩
        go_wp2
        go_roundw
        case rel => exact ⟨i + 1, by omega, by go_num, hbX.trans (hb2.mono hbX.size)⟩
        case measure => simp [intOf]; omega
      | false =>
        have HEX := Lib.hid hex
        clear hex
        refine (em_of HEX.out x.ag x.id x.ph x.si _).mono ?_
        rintro e w2 ⟨rfl, hb2⟩
        have f0 := e0.below hb2
        have f1 := e1.below hb2
        have fx := Bx.below hb2
        have hI2 := hIX.grow hb2
        have hE2 := hEX.grow hb2
        have hb2' := hbX.trans (hb2.mono hbX.size)
        generalize wr.heap.size = gX at *
        clear d0 d1 e0 e1 hIr hE hIX hEX bX Bx hb2
        have lv1 := level_mono cap L x.ph x.cl x.si hper.1 hlate
        have lv2 := level_cap per cap L x.ph x.cl x.si later
        have HL3 := Lib.hid (level_full (per := per) (cap := cap) (l := L) (ph := x.ph) (cl := x.cl) (si := x.si) (later := later) hper.1 hx.cl.1)
        have hst := startV_bd hS x.ph hx.si.1 hx.si.2
        have hlb := level_bd hS x.ph x.cl x.si later hper hcap hx.cl hx.si hlater
        go_wp2_with fail
        have o0 := f0.laterN 0 rfl
        have o1 := f0.laterN 1 rfl
        have o2 := f0.laterN 2 rfl
        have o3 := f0.laterN 3 rfl
        have o4 := f0.laterN 4 rfl
        have o5 := f0.laterN 5 rfl
        have p0 := f1.laterN 0 rfl
        have p1 := f1.laterN 1 rfl
        have p2 := f1.laterN 2 rfl
        have q0 := fx.laterN 0 rfl
        have q1 := fx.laterN 1 rfl
        have q2 := fx.laterN 2 rfl
        have q3 := fx.laterN 3 rfl
        have q4 := fx.laterN 4 rfl
        refine wp_region_grow (by kernel_rfl) (by kernel_rfl) ?_
        repeat' (first
            | go_big_quiet_skip
            | (go_big_quiet_want; first
                | (go_big_quiet_op; go_big_quiet_on)
                | (refine quiet_det ?_; apply Exists.intro; refine ⟨fun w' hC => ?_, ?_⟩; (go_simp <;> (first | rfl | exact ⟨rfl, rfl⟩)); apply Exists.intro; refine ⟨?_, ?_⟩; (go_simp <;> (first | rfl | exact ⟨rfl, rfl⟩)); go_big_quiet_on)
                | (show Oper.quiet _ { dst := _, op := .call { callee := .value _, args := _, argTypes := _ }, type := _, pos := _, after := _, guard := _ } _ _ _; refine quiet_call ?_; apply Exists.intro; apply Exists.intro; refine ⟨fun w' hC => ?_, ?_⟩; (go_simp <;> (first | rfl | exact ⟨rfl, rfl⟩)); apply Exists.intro; refine ⟨fun w' hC => ?_, ?_⟩; (first
                    | with_reducible exact grow_call (level_any per cap hold lock sp sg A c n L x.ag x.id x.ph x.cl x.si now w' hLn.out (hI2.grow hC) hnl hS hper hcap hlock hx.ph hx.cl hx.si hnow) hC
                    | with_reducible exact grow_call (level_any per cap hold lock sp sg A c n L x.ag x.id x.ph x.cl x.si later w' hLn.out (hI2.grow hC) hnl hS hper hcap hlock hx.ph hx.cl hx.si hlater) hC
                    | fail); apply Exists.intro; refine ⟨?_, ?_⟩; (go_simp <;> (first | rfl | exact ⟨rfl, rfl⟩)); go_big_quiet_on)))
        all_goals refine wpQuiet_nil ?_
        intro w4 hw4
        clear o0 o1 o2 o3 o4 o5 p0 p1 p2 q0 q1 q2 q3 q4
        have f0 := f0.below hw4
        have f1 := f1.below hw4
        have fx := fx.below hw4
        have hI4 := hI2.grow hw4
        have hE4 := hE2.grow hw4
        have hb4 := hb2'.trans (hw4.mono hb2'.size)
        have cz1 : ¬ levelV per cap L x.ph x.cl x.si later < levelV per cap L x.ph x.cl x.si now := by omega
        have cz2 : ¬ cap < levelV per cap L x.ph x.cl x.si later := by omega
        have o3 := f0.at 3 rfl
        have o2 := f0.at 2 rfl
        go_wp2_with fail
        clear o2 o3
        have wm : IntKind.i64.wrap (cap * per) = cap * per := by rw [IntKind.wrap_i64]; omega
        have wl : IntKind.i64.wrap (later - startV L x.ph x.si) = later - startV L x.ph x.si := by rw [IntKind.wrap_i64]; omega
        by_cases hfew : later - startV L x.ph x.si < cap * per
        · have hd : decide (later - startV L x.ph x.si < cap * per) = true := by simpa using hfew
          have o0 := f0.laterN 0 rfl
          have o1 := f0.laterN 1 rfl
          have o2 := f0.laterN 2 rfl
          have o3 := f0.laterN 3 rfl
          have o4 := f0.laterN 4 rfl
          have o5 := f0.laterN 5 rfl
          have p0 := f1.laterN 0 rfl
          have p1 := f1.laterN 1 rfl
          have p2 := f1.laterN 2 rfl
          have q0 := fx.laterN 0 rfl
          have q1 := fx.laterN 1 rfl
          have q2 := fx.laterN 2 rfl
          have q3 := fx.laterN 3 rfl
          have q4 := fx.laterN 4 rfl
          refine wp_region_grow (by kernel_rfl) (by kernel_rfl) ?_
          repeat' (first
              | go_big_quiet_skip
              | (go_big_quiet_want; first
                  | (go_big_quiet_op; go_big_quiet_on)
                  | (refine quiet_det ?_; apply Exists.intro; refine ⟨fun w' hC => ?_, ?_⟩; (go_simp <;> (first | rfl | exact ⟨rfl, rfl⟩)); apply Exists.intro; refine ⟨?_, ?_⟩; (go_simp <;> (first | rfl | exact ⟨rfl, rfl⟩)); go_big_quiet_on)
                  | (show Oper.quiet _ { dst := _, op := .call { callee := .value _, args := _, argTypes := _ }, type := _, pos := _, after := _, guard := _ } _ _ _; refine quiet_call ?_; apply Exists.intro; apply Exists.intro; refine ⟨fun w' hC => ?_, ?_⟩; (go_simp <;> (first | rfl | exact ⟨rfl, rfl⟩)); apply Exists.intro; refine ⟨fun w' hC => ?_, ?_⟩; (first
                      | with_reducible exact grow_call (start_any sp sg A c n L x.ag x.id x.ph x.cl x.si w' hLn.out (hI4.grow hC) hnl hx.ph hx.si) hC
                      | fail); apply Exists.intro; refine ⟨?_, ?_⟩; (go_simp <;> (first | rfl | exact ⟨rfl, rfl⟩)); go_big_quiet_on)))
          all_goals refine wpQuiet_nil ?_
          intro w5 hw5
          clear o0 o1 o2 o3 o4 o5 p0 p1 p2 q0 q1 q2 q3 q4 wm wl
          go_wp2
          go_roundw
          case rel => exact ⟨i + 1, by omega, by go_num, hb4.trans (hw5.mono hb4.size)⟩
          case measure => simp [intOf]; omega
        · have hd : decide (later - startV L x.ph x.si < cap * per) = false := by simpa using hfew
          have HFULL := Lib.hid (HL3.out (by omega))
          have hne : (levelV per cap L x.ph x.cl x.si later != cap) = false := by rw [HFULL.out]; simp
          have o0 := f0.laterN 0 rfl
          have o1 := f0.laterN 1 rfl
          have o2 := f0.laterN 2 rfl
          have o3 := f0.laterN 3 rfl
          have o4 := f0.laterN 4 rfl
          have o5 := f0.laterN 5 rfl
          have p0 := f1.laterN 0 rfl
          have p1 := f1.laterN 1 rfl
          have p2 := f1.laterN 2 rfl
          have q0 := fx.laterN 0 rfl
          have q1 := fx.laterN 1 rfl
          have q2 := fx.laterN 2 rfl
          have q3 := fx.laterN 3 rfl
          have q4 := fx.laterN 4 rfl
          refine wp_region_grow (by kernel_rfl) (by kernel_rfl) ?_
          repeat' (first
              | go_big_quiet_skip
              | (go_big_quiet_want; first
                  | (go_big_quiet_op; go_big_quiet_on)
                  | (refine quiet_det ?_; apply Exists.intro; refine ⟨fun w' hC => ?_, ?_⟩; (go_simp <;> (first | rfl | exact ⟨rfl, rfl⟩)); apply Exists.intro; refine ⟨?_, ?_⟩; (go_simp <;> (first | rfl | exact ⟨rfl, rfl⟩)); go_big_quiet_on)
                  | (show Oper.quiet _ { dst := _, op := .call { callee := .value _, args := _, argTypes := _ }, type := _, pos := _, after := _, guard := _ } _ _ _; refine quiet_call ?_; apply Exists.intro; apply Exists.intro; refine ⟨fun w' hC => ?_, ?_⟩; (go_simp <;> (first | rfl | exact ⟨rfl, rfl⟩)); apply Exists.intro; refine ⟨fun w' hC => ?_, ?_⟩; (first
                      | with_reducible exact grow_call (start_any sp sg A c n L x.ag x.id x.ph x.cl x.si w' hLn.out (hI4.grow hC) hnl hx.ph hx.si) hC
                      | fail); apply Exists.intro; refine ⟨?_, ?_⟩; (go_simp <;> (first | rfl | exact ⟨rfl, rfl⟩)); go_big_quiet_on)))
          all_goals refine wpQuiet_nil ?_
          intro w6 hw6
          clear o0 o1 o2 o3 o4 o5 p0 p1 p2 q0 q1 q2 q3 q4 wm wl
          have f0 := f0.below hw6
          have f1 := f1.below hw6
          have fx := fx.below hw6
          have hI6 := hI4.grow hw6
          have hE6 := hE4.grow hw6
          have hb6 := hb4.trans (hw6.mono hb4.size)
          have o3 := f0.at 3 rfl
          go_wp2
          clear o3
          go_loopw [74] (fun i wr => ∃ k : Nat, k ≤ C.length ∧ i = .int .i64 k ∧ Below w6.heap.size w6 wr) (fun i _ => C.length - (intOf i).toNat)
          case atStart => exact ⟨0, by omega, rfl, Below.refl _ _⟩
          case round =>
            obtain ⟨j, hj, rfl, hbr2⟩ := hrel
            by_cases hlt2 : j < C.length
            · have hlt2' : (j : Int) < C.length := by omega
              have hEr := hE6.grow hbr2
              obtain ⟨b2, off2, hbo, hB2, h0, h1, h2, h3, h4⟩ := hEr.at hlt2
              injection hbo with hbo
              injection hbo with q1 q2 _
              subst q1 q2
              have hy := hok _ (clAt_mem hlt2)
              generalize hyy : clAt C j = y at *
              clear hyy
              have bY := lat_alloc (Below.refl wr.heap.size wr) (.cells #[.int .i64 y.ag, .int .i64 y.id, .int .i64 y.ph, .int .i64 y.cl, .int .i64 y.si] 34)
              have ey := Blk.new (w := wr) (t := 34) (cs := #[.int .i64 y.ag, .int .i64 y.id, .int .i64 y.ph, .int .i64 y.cl, .int .i64 y.si])
              have e0 := (f0.below hbr2).below bY
              have e1 := (f1.below hbr2).below bY
              have ex := (fx.below hbr2).below bY
              have hI3 := (hI6.grow hbr2).grow bY
              have hb3 := hbr2.trans (bY.mono hbr2.size)
              go_wp2_with fail
              clear h0 h1 h2 h3 h4
              generalize wr.alloc (.cells #[.int .i64 y.ag, .int .i64 y.id, .int .i64 y.ph, .int .i64 y.cl, .int .i64 y.si] 34) = W3 at *
              generalize wr.heap.size = gY at *
              have o0 := e0.laterN 0 rfl
              have o1 := e0.laterN 1 rfl
              have o2 := e0.laterN 2 rfl
              have o3 := e0.laterN 3 rfl
              have o4 := e0.laterN 4 rfl
              have o5 := e0.laterN 5 rfl
              have p0 := e1.laterN 0 rfl
              have p1 := e1.laterN 1 rfl
              have p2 := e1.laterN 2 rfl
              have q0 := ex.laterN 0 rfl
              have q1 := ex.laterN 1 rfl
              have q2 := ex.laterN 2 rfl
              have q3 := ex.laterN 3 rfl
              have q4 := ex.laterN 4 rfl
              have r0 := ey.laterN 0 rfl
              have r1 := ey.laterN 1 rfl
              have r2 := ey.laterN 2 rfl
              have r3 := ey.laterN 3 rfl
              have r4 := ey.laterN 4 rfl
              cases hey : emB y.cl with
              | true =>
                have HEY := Lib.hid hey
                clear hey
                refine wp_region_grow (by kernel_rfl) (by kernel_rfl) ?_
                repeat' (first
                    | go_big_quiet_skip
                    | (go_big_quiet_want; first
                        | (go_big_quiet_op; go_big_quiet_on)
                        | (refine quiet_det ?_; apply Exists.intro; refine ⟨fun w' hC => ?_, ?_⟩; (go_simp <;> (first | rfl | exact ⟨rfl, rfl⟩)); apply Exists.intro; refine ⟨?_, ?_⟩; (go_simp <;> (first | rfl | exact ⟨rfl, rfl⟩)); go_big_quiet_on)
                        | (show Oper.quiet _ { dst := _, op := .call { callee := .value _, args := _, argTypes := _ }, type := _, pos := _, after := _, guard := _ } _ _ _; refine quiet_call ?_; apply Exists.intro; apply Exists.intro; refine ⟨fun w' hC => ?_, ?_⟩; (go_simp <;> (first | rfl | exact ⟨rfl, rfl⟩)); apply Exists.intro; refine ⟨fun w' hC => ?_, ?_⟩; (first
                            | with_reducible exact grow_call (em_of HEY.out y.ag y.id y.ph y.si w') hC
                            | fail); apply Exists.intro; refine ⟨?_, ?_⟩; (go_simp <;> (first | rfl | exact ⟨rfl, rfl⟩)); go_big_quiet_on)))
                all_goals refine wpQuiet_nil ?_
                intro w4 hw4
                clear o0 o1 o2 o3 o4 o5 p0 p1 p2 q0 q1 q2 q3 q4 r0 r1 r2 r3 r4
                go_wp2
                go_roundw
                case rel => exact ⟨j + 1, by omega, by go_num, hb3.trans (hw4.mono hb3.size)⟩
                case measure => simp [intOf]; omega
              | false =>
                have HEY := Lib.hid hey
                cases hls : lessC per cap L later y x with
                | false =>
                  have HLS := Lib.hid hls
                  clear hey hls
                  refine wp_region_grow (by kernel_rfl) (by kernel_rfl) ?_
                  repeat' (first
                      | go_big_quiet_skip
                      | (go_big_quiet_want; first
                          | (go_big_quiet_op; go_big_quiet_on)
                          | (refine quiet_det ?_; apply Exists.intro; refine ⟨fun w' hC => ?_, ?_⟩; (go_simp <;> (first | rfl | exact ⟨rfl, rfl⟩)); apply Exists.intro; refine ⟨?_, ?_⟩; (go_simp <;> (first | rfl | exact ⟨rfl, rfl⟩)); go_big_quiet_on)
                          | (show Oper.quiet _ { dst := _, op := .call { callee := .value _, args := _, argTypes := _ }, type := _, pos := _, after := _, guard := _ } _ _ _; refine quiet_call ?_; apply Exists.intro; apply Exists.intro; refine ⟨fun w' hC => ?_, ?_⟩; (go_simp <;> (first | rfl | exact ⟨rfl, rfl⟩)); apply Exists.intro; refine ⟨fun w' hC => ?_, ?_⟩; (first
                              | with_reducible exact grow_call (em_of HEY.out y.ag y.id y.ph y.si w') hC
                              | with_reducible exact grow_call (less_c per cap hold lock sp sg A c n L later y x w' hLn.out (hI3.grow hC) hnl hS hper hcap hlock hlater hy hx HLS.out) hC
                              | fail); apply Exists.intro; refine ⟨?_, ?_⟩; (go_simp <;> (first | rfl | exact ⟨rfl, rfl⟩)); go_big_quiet_on)))
                  all_goals refine wpQuiet_nil ?_
                  intro w4 hw4
                  clear o0 o1 o2 o3 o4 o5 p0 p1 p2 q0 q1 q2 q3 q4 r0 r1 r2 r3 r4
                  go_wp2
                  go_roundw
                  case rel => exact ⟨j + 1, by omega, by go_num, hb3.trans (hw4.mono hb3.size)⟩
                  case measure => simp [intOf]; omega
                | true =>
                  have HLS := Lib.hid hls
                  have hsx := less_start HEX.out hey HFULL.out hls
                  have hcmp : ¬ startV L x.ph x.si < startV L y.ph y.si := by omega
                  clear hey hls hsx
                  refine wp_region_grow (by kernel_rfl) (by kernel_rfl) ?_
                  repeat' (first
                      | go_big_quiet_skip
                      | (go_big_quiet_want; first
                          | (go_big_quiet_op; go_big_quiet_on)
                          | (refine quiet_det ?_; apply Exists.intro; refine ⟨fun w' hC => ?_, ?_⟩; (go_simp <;> (first | rfl | exact ⟨rfl, rfl⟩)); apply Exists.intro; refine ⟨?_, ?_⟩; (go_simp <;> (first | rfl | exact ⟨rfl, rfl⟩)); go_big_quiet_on)
                          | (show Oper.quiet _ { dst := _, op := .call { callee := .value _, args := _, argTypes := _ }, type := _, pos := _, after := _, guard := _ } _ _ _; refine quiet_call ?_; apply Exists.intro; apply Exists.intro; refine ⟨fun w' hC => ?_, ?_⟩; (go_simp <;> (first | rfl | exact ⟨rfl, rfl⟩)); apply Exists.intro; refine ⟨fun w' hC => ?_, ?_⟩; (first
                              | with_reducible exact grow_call (em_of HEY.out y.ag y.id y.ph y.si w') hC
                              | with_reducible exact grow_call (less_c per cap hold lock sp sg A c n L later y x w' hLn.out (hI3.grow hC) hnl hS hper hcap hlock hlater hy hx HLS.out) hC
                              | with_reducible exact grow_call (start_any sp sg A c n L y.ag y.id y.ph y.cl y.si w' hLn.out (hI3.grow hC) hnl hy.ph hy.si) hC
                              | with_reducible exact grow_call (start_any sp sg A c n L x.ag x.id x.ph x.cl x.si w' hLn.out (hI3.grow hC) hnl hx.ph hx.si) hC
                              | fail); apply Exists.intro; refine ⟨?_, ?_⟩; (go_simp <;> (first | rfl | exact ⟨rfl, rfl⟩)); go_big_quiet_on)))
                  all_goals refine wpQuiet_nil ?_
                  intro w4 hw4
                  clear o0 o1 o2 o3 o4 o5 p0 p1 p2 q0 q1 q2 q3 q4 r0 r1 r2 r3 r4
                  go_wp2
                  go_roundw
                  case rel => exact ⟨j + 1, by omega, by go_num, hb3.trans (hw4.mono hb3.size)⟩
                  case measure => simp [intOf]; omega
            · go_wp2
              go_roundw
              case rel => exact ⟨i + 1, by omega, by go_num, hb6.trans (hbr2.mono hb6.size)⟩
              case measure => simp [intOf]; omega
    · go_wp2_with fail
      refine (awake_any _).mono ?_; rintro e w9 ⟨rfl, hb9⟩
      go_wp2
      go_ret
      exact ⟨rfl, (bW.trans (hbr.mono bW.size)).trans (hb9.mono (bW.trans (hbr.mono bW.size)).size)⟩
end Go.Proofs.Ytdgmfledhcgncaa
