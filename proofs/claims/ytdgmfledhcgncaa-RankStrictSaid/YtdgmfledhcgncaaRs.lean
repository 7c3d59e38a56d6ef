/-
  The law RankStrict answers true: its walk. Conditions: none.
-/
import Derived.Test.YtdgmfledhcgncaaSe
import Derived.Test.YtdgmfledhcgncaaAw
import Derived.Test.YtdgmfledhcgncaaMath
namespace Go.Proofs.Ytdgmfledhcgncaa
open Go.ChangeShapes Go.WideShapes Go.RowKit
set_option linter.unusedVariables false

set_option maxRecDepth 100000 in
set_option maxHeartbeats 20000000 in
theorem strict_any (D : Option Addr) (d : Nat) (l : List Int) (now0 : Int) (w : World) (hs : Ints .i64 w w.heap.size D l) (hn : Nums l) (hl : l.length ≤ 9223372036854775807) (n0 : -9223372036854775808 ≤ now0) (n1 : now0 ≤ 9223372036854775807) :
    Calls Try.prog 4 #[.slice D l.length d, .int .i64 now0] w fun e w' => e = .returned (.bool true) ∧ Below w.heap.size w w' := by
  go_enter Try.func4, Try.ntmps4
  go_wp2_with fail
  refine (mod_any now0 60 (by omega) (by omega) n0 n1 _).mono ?_; rintro e w' ⟨rfl, hw'⟩; subst hw'
  have hnow' := modI_bd now0 60 (by omega)
  generalize modI now0 60 = now at *
  have hnow : 0 ≤ now ∧ now ≤ 10000 := by omega
  go_wp2_with fail
  refine (setting_any D d l now w hs hn hl (by omega)).mono ?_
  rintro e w1 ⟨hb1, per, cap, hold, lock, sp, sg, n, A, c, L, B, m, C, rfl, hset, hIL, hCB⟩
  have hper : 1 ≤ per ∧ per ≤ 10000 := by have := hset.per; omega
  have hcap : 0 ≤ cap ∧ cap ≤ 1000 := by have := hset.cap; omega
  have hlock : 0 ≤ lock ∧ lock ≤ 1000 := by have := hset.lock; omega
  have hnl : n ≤ 1000000 := by have := hset.nn; omega
  have hLn := Lib.hid hset.len
  have hS : Small L := fun x hx => by have := hset.upto x hx; omega
  have hC5 := hset.clen
  have hok : AllOk C := fun x hx => by have h := hset.cls x hx; have := h.ph; have := h.cl; have := h.si; have := hset.nn; exact ⟨by omega, by omega, by omega⟩
  go_wp2_with fail
  have bW := (hb1.alloc hb1.size (.cells #[.slice none 0 0, .slice none 0 0, .int .i64 per, .int .i64 cap, .int .i64 hold, .int .i64 lock] 27)).alloc (hb1.alloc hb1.size (.cells #[.slice none 0 0, .slice none 0 0, .int .i64 per, .int .i64 cap, .int .i64 hold, .int .i64 lock] 27)).size (.cells #[.int .i64 sp, .int .i64 sg, .slice A n c] 29)
  have bX := lat_alloc (lat_alloc (Below.refl w1.heap.size w1) (.cells #[.slice none 0 0, .slice none 0 0, .int .i64 per, .int .i64 cap, .int .i64 hold, .int .i64 lock] 27)) (.cells #[.int .i64 sp, .int .i64 sg, .slice A n c] 29)
  have B0 := Blk.alloc (Blk.new (w := w1) (t := 27) (cs := #[.slice none 0 0, .slice none 0 0, .int .i64 per, .int .i64 cap, .int .i64 hold, .int .i64 lock])) (.cells #[.int .i64 sp, .int .i64 sg, .slice A n c] 29)
  have B1 := Blk.new (w := w1.alloc (.cells #[.slice none 0 0, .slice none 0 0, .int .i64 per, .int .i64 cap, .int .i64 hold, .int .i64 lock] 27)) (t := 29) (cs := #[.int .i64 sp, .int .i64 sg, .slice A n c])
  rw [heap_size] at B1
  have hI := hIL.grow bX
  have hD := hCB.grow bX
  generalize (w1.alloc (.cells #[.slice none 0 0, .slice none 0 0, .int .i64 per, .int .i64 cap, .int .i64 hold, .int .i64 lock] 27)).alloc (.cells #[.int .i64 sp, .int .i64 sg, .slice A n c] 29) = W at *
  generalize w1.heap.size + 1 = gS at *
  generalize w1.heap.size = gC at *
  clear hIL hCB bX hset
  go_loopw [27] (fun i wr => ∃ k : Nat, k ≤ C.length ∧ i = .int .i64 k ∧ Below W.heap.size W wr) (fun i _ => C.length - (intOf i).toNat)
  case atStart => exact ⟨0, by omega, rfl, Below.refl _ _⟩
  case round =>
    obtain ⟨i, hi, rfl, hbr⟩ := hrel
    by_cases hlt : i < C.length
    · have hlt' : (i : Int) < C.length := by omega
      have hE := hD.grow hbr
      obtain ⟨b, off, rfl, hB, h0, h1, h2, h3, h4⟩ := hE.at hlt
      have hx := hok _ (clAt_mem hlt)
      have d0 := B0.below hbr
      have d1 := B1.below hbr
      have hIr := hI.grow hbr
      generalize hxx : clAt C i = x at *
      clear hxx
      have bX := lat_alloc (Below.refl wr.heap.size wr) (.cells #[.int .i64 x.ag, .int .i64 x.id, .int .i64 x.ph, .int .i64 x.cl, .int .i64 x.si] 34)
      have Bx := Blk.new (w := wr) (t := 34) (cs := #[.int .i64 x.ag, .int .i64 x.id, .int .i64 x.ph, .int .i64 x.cl, .int .i64 x.si])
      have e0 := d0.below bX
      have e1 := d1.below bX
      have hIX := hIr.grow bX
      have hEX := hE.grow bX
      have hbX := hbr.trans (bX.mono hbr.size)
      have o0 := e0.at 0 rfl
      have o1 := e0.at 1 rfl
      have o2 := e0.at 2 rfl
      have o3 := e0.at 3 rfl
      have o4 := e0.at 4 rfl
      have o5 := e0.at 5 rfl
      have p0 := e1.at 0 rfl
      have p1 := e1.at 1 rfl
      have p2 := e1.at 2 rfl
      have q0 := Bx.at 0 rfl
      have q1 := Bx.at 1 rfl
      have q2 := Bx.at 2 rfl
      have q3 := Bx.at 3 rfl
      have q4 := Bx.at 4 rfl
      go_wp2_with fail
      clear o0 o1 o2 o3 o4 o5 p0 p1 p2 q0 q1 q2 q3 q4 h0 h1 h2 h3 h4
      refine (less_c per cap hold lock sp sg A c n L now x x _ hLn.out (hIX) hnl hS hper hcap hlock hnow hx hx (less_irr _ _ _ _ _)).mono ?_
      rintro e w2 ⟨rfl, hb2⟩
      have f0 := e0.below hb2
      have f1 := e1.below hb2
      have fx := Bx.below hb2
      have hI2 := hIX.grow hb2
      have hE2 := hEX.grow hb2
      have hW2 := hbX.trans (hb2.mono hbX.size)
      generalize wr.heap.size = gX at *
      clear d0 d1 e0 e1 hIr hE hIX hEX bX Bx hb2
      go_wp2
      go_loopw [39] (fun i wr => ∃ k : Nat, k ≤ C.length ∧ i = .int .i64 k ∧ Below w2.heap.size w2 wr) (fun i _ => C.length - (intOf i).toNat)
      case atStart => exact ⟨0, by omega, rfl, Below.refl _ _⟩
      case round =>
        obtain ⟨j, hj, rfl, hbr2⟩ := hrel
        by_cases hlt2 : j < C.length
        · have hlt2' : (j : Int) < C.length := by omega
          have hEr := hE2.grow hbr2
          obtain ⟨b2, off2, hbo, hB2, h0, h1, h2, h3, h4⟩ := hEr.at hlt2
          injection hbo with hbo
          injection hbo with q1 q2 _
          subst q1 q2
          have hy := hok _ (clAt_mem hlt2)
          generalize hyy : clAt C j = y at *
          clear hyy
          have bY := lat_alloc (Below.refl wr.heap.size wr) (.cells #[.int .i64 y.ag, .int .i64 y.id, .int .i64 y.ph, .int .i64 y.cl, .int .i64 y.si] 34)
          have ey := Blk.new (w := wr) (t := 34) (cs := #[.int .i64 y.ag, .int .i64 y.id, .int .i64 y.ph, .int .i64 y.cl, .int .i64 y.si])
          have e0 := (f0.below hbr2).below bY
          have e1 := (f1.below hbr2).below bY
          have ex := (fx.below hbr2).below bY
          have hI3 := (hI2.grow hbr2).grow bY
          have hE3 := hEr.grow bY
          have hb3 := hbr2.trans (bY.mono hbr2.size)
          go_wp2_with fail
          clear h0 h1 h2 h3 h4
          generalize wr.alloc (.cells #[.int .i64 y.ag, .int .i64 y.id, .int .i64 y.ph, .int .i64 y.cl, .int .i64 y.si] 34) = W3 at *
          generalize wr.heap.size = gY at *
          cases hxy : lessC per cap L now x y with
          | true =>
            have HXY := Lib.hid hxy
            have HYX := Lib.hid (less_asym hxy)
            clear hxy
            cases hex : emB x.cl with
            | false =>
              have HEX := Lib.hid hex
              clear hex
              have o0 := e0.laterN 0 rfl
              have o1 := e0.laterN 1 rfl
              have o2 := e0.laterN 2 rfl
              have o3 := e0.laterN 3 rfl
              have o4 := e0.laterN 4 rfl
              have o5 := e0.laterN 5 rfl
              have p0 := e1.laterN 0 rfl
              have p1 := e1.laterN 1 rfl
              have p2 := e1.laterN 2 rfl
              have q0 := ex.laterN 0 rfl
              have q1 := ex.laterN 1 rfl
              have q2 := ex.laterN 2 rfl
              have q3 := ex.laterN 3 rfl
              have q4 := ex.laterN 4 rfl
              have r0 := ey.laterN 0 rfl
              have r1 := ey.laterN 1 rfl
              have r2 := ey.laterN 2 rfl
              have r3 := ey.laterN 3 rfl
              have r4 := ey.laterN 4 rfl
              refine wp_region_grow (by kernel_rfl) (by kernel_rfl) ?_
              repeat' (first
                  | go_big_quiet_skip
                  | (go_big_quiet_want; first
                      | (go_big_quiet_op; go_big_quiet_on)
                      | (refine quiet_det ?_; apply Exists.intro; refine ⟨fun w' hC => ?_, ?_⟩; (go_simp <;> (first | rfl | exact ⟨rfl, rfl⟩)); apply Exists.intro; refine ⟨?_, ?_⟩; (go_simp <;> (first | rfl | exact ⟨rfl, rfl⟩)); go_big_quiet_on)
                      | (show Oper.quiet _ { dst := _, op := .call { callee := .value _, args := _, argTypes := _ }, type := _, pos := _, after := _, guard := _ } _ _ _; refine quiet_call ?_; apply Exists.intro; apply Exists.intro; refine ⟨fun w' hC => ?_, ?_⟩; (go_simp <;> (first | rfl | exact ⟨rfl, rfl⟩)); apply Exists.intro; refine ⟨fun w' hC => ?_, ?_⟩; (first
                          | with_reducible exact grow_call (less_c per cap hold lock sp sg A c n L now x y w' hLn.out (hI3.grow hC) hnl hS hper hcap hlock hnow hx hy HXY.out) hC
                          | with_reducible exact grow_call (less_c per cap hold lock sp sg A c n L now y x w' hLn.out (hI3.grow hC) hnl hS hper hcap hlock hnow hy hx HYX.out) hC
                          | fail); apply Exists.intro; refine ⟨?_, ?_⟩; (go_simp <;> (first | rfl | exact ⟨rfl, rfl⟩)); go_big_quiet_on)))
              all_goals refine wpQuiet_nil ?_
              intro w4 hw4
              clear o0 o1 o2 o3 o4 o5 p0 p1 p2 q0 q1 q2 q3 q4 r0 r1 r2 r3 r4
              have j0 := e0.below hw4
              have j1 := e1.below hw4
              have jx := ex.below hw4
              have jy := ey.below hw4
              have h24 := hb3.trans (hw4.mono hb3.size)
              have q0 := jx.at 0 rfl
              have q1 := jx.at 1 rfl
              have q2 := jx.at 2 rfl
              have q3 := jx.at 3 rfl
              have q4 := jx.at 4 rfl
              have r0 := jy.at 0 rfl
              have r1 := jy.at 1 rfl
              have r2 := jy.at 2 rfl
              have r3 := jy.at 3 rfl
              have r4 := jy.at 4 rfl
              go_wp2_with fail
              refine (em_of HEX.out _ _ _ _ _).mono ?_
              rintro e w5 ⟨rfl, hb5⟩
              have h45 := hb5
              have h25 := h24.trans (h45.mono h24.size)
              have k0 := j0.below h45
              have k1 := j1.below h45
              have kx := jx.below h45
              have ky := jy.below h45
              have hI5 := (hI3.grow hw4).grow h45
              have hE5 := (hE3.grow hw4).grow h45
              go_wp2
              go_loopw [96] (fun i wr => ∃ k : Nat, k ≤ C.length ∧ i = .int .i64 k ∧ Below w5.heap.size w5 wr) (fun i _ => C.length - (intOf i).toNat)
              case atStart => exact ⟨0, by omega, rfl, Below.refl _ _⟩
              case round =>
                obtain ⟨k, hk, rfl, hbr3⟩ := hrel
                by_cases hlt3 : k < C.length
                · have hlt3' : (k : Int) < C.length := by omega
                  have hE6 := hE5.grow hbr3
                  obtain ⟨b3, off3, hbo3, hB3, g0, g1, g2, g3, g4⟩ := hE6.at hlt3
                  injection hbo3 with hbo3
                  injection hbo3 with q1 q2 _
                  subst q1 q2
                  have hz := hok _ (clAt_mem hlt3)
                  generalize hzz : clAt C k = z at *
                  clear hzz
                  have bZ := lat_alloc (Below.refl wr.heap.size wr) (.cells #[.int .i64 z.ag, .int .i64 z.id, .int .i64 z.ph, .int .i64 z.cl, .int .i64 z.si] 34)
                  have Bz := Blk.new (w := wr) (t := 34) (cs := #[.int .i64 z.ag, .int .i64 z.id, .int .i64 z.ph, .int .i64 z.cl, .int .i64 z.si])
                  have m0 := (k0.below hbr3).below bZ
                  have m1 := (k1.below hbr3).below bZ
                  have mx := (kx.below hbr3).below bZ
                  have my := (ky.below hbr3).below bZ
                  have hIz := (hI5.grow hbr3).grow bZ
                  have hbz := hbr3.trans (bZ.mono hbr3.size)
                  have o0 := m0.at 0 rfl
                  have o1 := m0.at 1 rfl
                  have o2 := m0.at 2 rfl
                  have o3 := m0.at 3 rfl
                  have o4 := m0.at 4 rfl
                  have o5 := m0.at 5 rfl
                  have p0 := m1.at 0 rfl
                  have p1 := m1.at 1 rfl
                  have p2 := m1.at 2 rfl
                  have q0 := mx.at 0 rfl
                  have q1 := mx.at 1 rfl
                  have q2 := mx.at 2 rfl
                  have q3 := mx.at 3 rfl
                  have q4 := mx.at 4 rfl
                  have r0 := my.at 0 rfl
                  have r1 := my.at 1 rfl
                  have r2 := my.at 2 rfl
                  have r3 := my.at 3 rfl
                  have r4 := my.at 4 rfl
                  have s0 := Bz.at 0 rfl
                  have s1 := Bz.at 1 rfl
                  have s2 := Bz.at 2 rfl
                  have s3 := Bz.at 3 rfl
                  have s4 := Bz.at 4 rfl
                  cases hyz : lessC per cap L now y z with
                  | false =>
                    have HYZ := Lib.hid hyz
                    clear hyz
                    go_wp2_with fail
                    refine (less_c per cap hold lock sp sg A c n L now y z _ hLn.out (hIz) hnl hS hper hcap hlock hnow hy hz HYZ.out).mono ?_
                    rintro e w7 ⟨rfl, hb7⟩
                    go_wp2
                    go_roundw
                    case rel => exact ⟨k + 1, by omega, by go_num, hbz.trans (hb7.mono hbz.size)⟩
                    case measure => simp [intOf]; omega
                  | true =>
                    have HYZ := Lib.hid hyz
                    have HXZ := Lib.hid (less_trans HXY.out hyz)
                    clear hyz
                    go_wp2_with fail
                    clear o0 o1 o2 o3 o4 o5 p0 p1 p2 q0 q1 q2 q3 q4 r0 r1 r2 r3 r4 s0 s1 s2 s3 s4
                    refine (less_c per cap hold lock sp sg A c n L now y z _ hLn.out (hIz) hnl hS hper hcap hlock hnow hy hz HYZ.out).mono ?_
                    rintro e w7 ⟨rfl, hb7⟩
                    have z0 := m0.below hb7
                    have z1 := m1.below hb7
                    have zx := mx.below hb7
                    have zz := Bz.below hb7
                    have o0 := z0.at 0 rfl
                    have o1 := z0.at 1 rfl
                    have o2 := z0.at 2 rfl
                    have o3 := z0.at 3 rfl
                    have o4 := z0.at 4 rfl
                    have o5 := z0.at 5 rfl
                    have p0 := z1.at 0 rfl
                    have p1 := z1.at 1 rfl
                    have p2 := z1.at 2 rfl
                    have q0 := zx.at 0 rfl
                    have q1 := zx.at 1 rfl
                    have q2 := zx.at 2 rfl
                    have q3 := zx.at 3 rfl
                    have q4 := zx.at 4 rfl
                    have s0 := zz.at 0 rfl
                    have s1 := zz.at 1 rfl
                    have s2 := zz.at 2 rfl
                    have s3 := zz.at 3 rfl
                    have s4 := zz.at 4 rfl
                    go_wp2_with fail
                    refine (less_c per cap hold lock sp sg A c n L now x z _ hLn.out (hIz.grow hb7) hnl hS hper hcap hlock hnow hx hz HXZ.out).mono ?_
                    rintro e w8 ⟨rfl, hb8⟩
                    have hb78 := hb7.trans (hb8.mono hb7.size)
                    go_wp2
                    go_roundw
                    case rel => exact ⟨k + 1, by omega, by go_num, hbz.trans (hb78.mono hbz.size)⟩
                    case measure => simp [intOf]; omega
                · go_wp2
                  go_roundw
                  case rel => exact ⟨j + 1, by omega, by go_num, h25.trans (hbr3.mono h25.size)⟩
                  case measure => simp [intOf]; omega
            | true =>
              have HEX := Lib.hid hex
              clear hex
              cases hey : emB y.cl with
              | false =>
                have HEY := Lib.hid hey
                clear hey
                have o0 := e0.laterN 0 rfl
                have o1 := e0.laterN 1 rfl
                have o2 := e0.laterN 2 rfl
                have o3 := e0.laterN 3 rfl
                have o4 := e0.laterN 4 rfl
                have o5 := e0.laterN 5 rfl
                have p0 := e1.laterN 0 rfl
                have p1 := e1.laterN 1 rfl
                have p2 := e1.laterN 2 rfl
                have q0 := ex.laterN 0 rfl
                have q1 := ex.laterN 1 rfl
                have q2 := ex.laterN 2 rfl
                have q3 := ex.laterN 3 rfl
                have q4 := ex.laterN 4 rfl
                have r0 := ey.laterN 0 rfl
                have r1 := ey.laterN 1 rfl
                have r2 := ey.laterN 2 rfl
                have r3 := ey.laterN 3 rfl
                have r4 := ey.laterN 4 rfl
                refine wp_region_grow (by kernel_rfl) (by kernel_rfl) ?_
                repeat' (first
                    | go_big_quiet_skip
                    | (go_big_quiet_want; first
                        | (go_big_quiet_op; go_big_quiet_on)
                        | (refine quiet_det ?_; apply Exists.intro; refine ⟨fun w' hC => ?_, ?_⟩; (go_simp <;> (first | rfl | exact ⟨rfl, rfl⟩)); apply Exists.intro; refine ⟨?_, ?_⟩; (go_simp <;> (first | rfl | exact ⟨rfl, rfl⟩)); go_big_quiet_on)
                        | (show Oper.quiet _ { dst := _, op := .call { callee := .value _, args := _, argTypes := _ }, type := _, pos := _, after := _, guard := _ } _ _ _; refine quiet_call ?_; apply Exists.intro; apply Exists.intro; refine ⟨fun w' hC => ?_, ?_⟩; (go_simp <;> (first | rfl | exact ⟨rfl, rfl⟩)); apply Exists.intro; refine ⟨fun w' hC => ?_, ?_⟩; (first
                            | with_reducible exact grow_call (less_c per cap hold lock sp sg A c n L now x y w' hLn.out (hI3.grow hC) hnl hS hper hcap hlock hnow hx hy HXY.out) hC
                            | with_reducible exact grow_call (less_c per cap hold lock sp sg A c n L now y x w' hLn.out (hI3.grow hC) hnl hS hper hcap hlock hnow hy hx HYX.out) hC
                            | fail); apply Exists.intro; refine ⟨?_, ?_⟩; (go_simp <;> (first | rfl | exact ⟨rfl, rfl⟩)); go_big_quiet_on)))
                all_goals refine wpQuiet_nil ?_
                intro w4 hw4
                clear o0 o1 o2 o3 o4 o5 p0 p1 p2 q0 q1 q2 q3 q4 r0 r1 r2 r3 r4
                have j0 := e0.below hw4
                have j1 := e1.below hw4
                have jx := ex.below hw4
                have jy := ey.below hw4
                have h24 := hb3.trans (hw4.mono hb3.size)
                have q0 := jx.at 0 rfl
                have q1 := jx.at 1 rfl
                have q2 := jx.at 2 rfl
                have q3 := jx.at 3 rfl
                have q4 := jx.at 4 rfl
                have r0 := jy.at 0 rfl
                have r1 := jy.at 1 rfl
                have r2 := jy.at 2 rfl
                have r3 := jy.at 3 rfl
                have r4 := jy.at 4 rfl
                go_wp2_with fail
                refine (em_of HEX.out _ _ _ _ _).mono ?_
                rintro e w5 ⟨rfl, hb5⟩
                have h45 := hb5
                clear q0 q1 q2 q3 q4 r0 r1 r2 r3 r4
                have jy' := jy.below hb5
                have r0 := jy'.at 0 rfl
                have r1 := jy'.at 1 rfl
                have r2 := jy'.at 2 rfl
                have r3 := jy'.at 3 rfl
                have r4 := jy'.at 4 rfl
                go_wp2_with fail
                refine (em_of HEY.out _ _ _ _ _).mono ?_
                rintro e w5' ⟨rfl, hb5'⟩
                have h45' := hb5.trans (hb5'.mono hb5.size)
                obtain ⟨w5, hw5⟩ : ∃ v : World, v = w5' := ⟨_, rfl⟩
                subst hw5
                have h45 := h45'
                have h25 := h24.trans (h45.mono h24.size)
                have k0 := j0.below h45
                have k1 := j1.below h45
                have kx := jx.below h45
                have ky := jy.below h45
                have hI5 := (hI3.grow hw4).grow h45
                have hE5 := (hE3.grow hw4).grow h45
                go_wp2
                go_loopw [96] (fun i wr => ∃ k : Nat, k ≤ C.length ∧ i = .int .i64 k ∧ Below w5.heap.size w5 wr) (fun i _ => C.length - (intOf i).toNat)
                case atStart => exact ⟨0, by omega, rfl, Below.refl _ _⟩
                case round =>
                  obtain ⟨k, hk, rfl, hbr3⟩ := hrel
                  by_cases hlt3 : k < C.length
                  · have hlt3' : (k : Int) < C.length := by omega
                    have hE6 := hE5.grow hbr3
                    obtain ⟨b3, off3, hbo3, hB3, g0, g1, g2, g3, g4⟩ := hE6.at hlt3
                    injection hbo3 with hbo3
                    injection hbo3 with q1 q2 _
                    subst q1 q2
                    have hz := hok _ (clAt_mem hlt3)
                    generalize hzz : clAt C k = z at *
                    clear hzz
                    have bZ := lat_alloc (Below.refl wr.heap.size wr) (.cells #[.int .i64 z.ag, .int .i64 z.id, .int .i64 z.ph, .int .i64 z.cl, .int .i64 z.si] 34)
                    have Bz := Blk.new (w := wr) (t := 34) (cs := #[.int .i64 z.ag, .int .i64 z.id, .int .i64 z.ph, .int .i64 z.cl, .int .i64 z.si])
                    have m0 := (k0.below hbr3).below bZ
                    have m1 := (k1.below hbr3).below bZ
                    have mx := (kx.below hbr3).below bZ
                    have my := (ky.below hbr3).below bZ
                    have hIz := (hI5.grow hbr3).grow bZ
                    have hbz := hbr3.trans (bZ.mono hbr3.size)
                    have o0 := m0.at 0 rfl
                    have o1 := m0.at 1 rfl
                    have o2 := m0.at 2 rfl
                    have o3 := m0.at 3 rfl
                    have o4 := m0.at 4 rfl
                    have o5 := m0.at 5 rfl
                    have p0 := m1.at 0 rfl
                    have p1 := m1.at 1 rfl
                    have p2 := m1.at 2 rfl
                    have q0 := mx.at 0 rfl
                    have q1 := mx.at 1 rfl
                    have q2 := mx.at 2 rfl
                    have q3 := mx.at 3 rfl
                    have q4 := mx.at 4 rfl
                    have r0 := my.at 0 rfl
                    have r1 := my.at 1 rfl
                    have r2 := my.at 2 rfl
                    have r3 := my.at 3 rfl
                    have r4 := my.at 4 rfl
                    have s0 := Bz.at 0 rfl
                    have s1 := Bz.at 1 rfl
                    have s2 := Bz.at 2 rfl
                    have s3 := Bz.at 3 rfl
                    have s4 := Bz.at 4 rfl
                    cases hyz : lessC per cap L now y z with
                    | false =>
                      have HYZ := Lib.hid hyz
                      clear hyz
                      go_wp2_with fail
                      refine (less_c per cap hold lock sp sg A c n L now y z _ hLn.out (hIz) hnl hS hper hcap hlock hnow hy hz HYZ.out).mono ?_
                      rintro e w7 ⟨rfl, hb7⟩
                      go_wp2
                      go_roundw
                      case rel => exact ⟨k + 1, by omega, by go_num, hbz.trans (hb7.mono hbz.size)⟩
                      case measure => simp [intOf]; omega
                    | true =>
                      have HYZ := Lib.hid hyz
                      have HXZ := Lib.hid (less_trans HXY.out hyz)
                      clear hyz
                      go_wp2_with fail
                      clear o0 o1 o2 o3 o4 o5 p0 p1 p2 q0 q1 q2 q3 q4 r0 r1 r2 r3 r4 s0 s1 s2 s3 s4
                      refine (less_c per cap hold lock sp sg A c n L now y z _ hLn.out (hIz) hnl hS hper hcap hlock hnow hy hz HYZ.out).mono ?_
                      rintro e w7 ⟨rfl, hb7⟩
                      have z0 := m0.below hb7
                      have z1 := m1.below hb7
                      have zx := mx.below hb7
                      have zz := Bz.below hb7
                      have o0 := z0.at 0 rfl
                      have o1 := z0.at 1 rfl
                      have o2 := z0.at 2 rfl
                      have o3 := z0.at 3 rfl
                      have o4 := z0.at 4 rfl
                      have o5 := z0.at 5 rfl
                      have p0 := z1.at 0 rfl
                      have p1 := z1.at 1 rfl
                      have p2 := z1.at 2 rfl
                      have q0 := zx.at 0 rfl
                      have q1 := zx.at 1 rfl
                      have q2 := zx.at 2 rfl
                      have q3 := zx.at 3 rfl
                      have q4 := zx.at 4 rfl
                      have s0 := zz.at 0 rfl
                      have s1 := zz.at 1 rfl
                      have s2 := zz.at 2 rfl
                      have s3 := zz.at 3 rfl
                      have s4 := zz.at 4 rfl
                      go_wp2_with fail
                      refine (less_c per cap hold lock sp sg A c n L now x z _ hLn.out (hIz.grow hb7) hnl hS hper hcap hlock hnow hx hz HXZ.out).mono ?_
                      rintro e w8 ⟨rfl, hb8⟩
                      have hb78 := hb7.trans (hb8.mono hb7.size)
                      go_wp2
                      go_roundw
                      case rel => exact ⟨k + 1, by omega, by go_num, hbz.trans (hb78.mono hbz.size)⟩
                      case measure => simp [intOf]; omega
                  · go_wp2
                    go_roundw
                    case rel => exact ⟨j + 1, by omega, by go_num, h25.trans (hbr3.mono h25.size)⟩
                    case measure => simp [intOf]; omega
              | true =>
                have HEY := Lib.hid hey
                clear hey
                have o0 := e0.laterN 0 rfl
                have o1 := e0.laterN 1 rfl
                have o2 := e0.laterN 2 rfl
                have o3 := e0.laterN 3 rfl
                have o4 := e0.laterN 4 rfl
                have o5 := e0.laterN 5 rfl
                have p0 := e1.laterN 0 rfl
                have p1 := e1.laterN 1 rfl
                have p2 := e1.laterN 2 rfl
                have q0 := ex.laterN 0 rfl
                have q1 := ex.laterN 1 rfl
                have q2 := ex.laterN 2 rfl
                have q3 := ex.laterN 3 rfl
                have q4 := ex.laterN 4 rfl
                have r0 := ey.laterN 0 rfl
                have r1 := ey.laterN 1 rfl
                have r2 := ey.laterN 2 rfl
                have r3 := ey.laterN 3 rfl
                have r4 := ey.laterN 4 rfl
                refine wp_region_grow (by kernel_rfl) (by kernel_rfl) ?_
                repeat' (first
                    | go_big_quiet_skip
                    | (go_big_quiet_want; first
                        | (go_big_quiet_op; go_big_quiet_on)
                        | (refine quiet_det ?_; apply Exists.intro; refine ⟨fun w' hC => ?_, ?_⟩; (go_simp <;> (first | rfl | exact ⟨rfl, rfl⟩)); apply Exists.intro; refine ⟨?_, ?_⟩; (go_simp <;> (first | rfl | exact ⟨rfl, rfl⟩)); go_big_quiet_on)
                        | (show Oper.quiet _ { dst := _, op := .call { callee := .value _, args := _, argTypes := _ }, type := _, pos := _, after := _, guard := _ } _ _ _; refine quiet_call ?_; apply Exists.intro; apply Exists.intro; refine ⟨fun w' hC => ?_, ?_⟩; (go_simp <;> (first | rfl | exact ⟨rfl, rfl⟩)); apply Exists.intro; refine ⟨fun w' hC => ?_, ?_⟩; (first
                            | with_reducible exact grow_call (less_c per cap hold lock sp sg A c n L now x y w' hLn.out (hI3.grow hC) hnl hS hper hcap hlock hnow hx hy HXY.out) hC
                            | with_reducible exact grow_call (less_c per cap hold lock sp sg A c n L now y x w' hLn.out (hI3.grow hC) hnl hS hper hcap hlock hnow hy hx HYX.out) hC
                            | fail); apply Exists.intro; refine ⟨?_, ?_⟩; (go_simp <;> (first | rfl | exact ⟨rfl, rfl⟩)); go_big_quiet_on)))
                all_goals refine wpQuiet_nil ?_
                intro w4 hw4
                clear o0 o1 o2 o3 o4 o5 p0 p1 p2 q0 q1 q2 q3 q4 r0 r1 r2 r3 r4
                have j0 := e0.below hw4
                have j1 := e1.below hw4
                have jx := ex.below hw4
                have jy := ey.below hw4
                have h24 := hb3.trans (hw4.mono hb3.size)
                have q0 := jx.at 0 rfl
                have q1 := jx.at 1 rfl
                have q2 := jx.at 2 rfl
                have q3 := jx.at 3 rfl
                have q4 := jx.at 4 rfl
                have r0 := jy.at 0 rfl
                have r1 := jy.at 1 rfl
                have r2 := jy.at 2 rfl
                have r3 := jy.at 3 rfl
                have r4 := jy.at 4 rfl
                go_wp2_with fail
                refine (em_of HEX.out _ _ _ _ _).mono ?_
                rintro e w5 ⟨rfl, hb5⟩
                have h45 := hb5
                clear q0 q1 q2 q3 q4 r0 r1 r2 r3 r4
                have jy' := jy.below hb5
                have r0 := jy'.at 0 rfl
                have r1 := jy'.at 1 rfl
                have r2 := jy'.at 2 rfl
                have r3 := jy'.at 3 rfl
                have r4 := jy'.at 4 rfl
                go_wp2_with fail
                refine (em_of HEY.out _ _ _ _ _).mono ?_
                rintro e w5' ⟨rfl, hb5'⟩
                have h45' := hb5.trans (hb5'.mono hb5.size)
                obtain ⟨w5, hw5⟩ : ∃ v : World, v = w5' := ⟨_, rfl⟩
                subst hw5
                have h45 := h45'
                have h25 := h24.trans (h45.mono h24.size)
                have k0 := j0.below h45
                have k1 := j1.below h45
                have kx := jx.below h45
                have ky := jy.below h45
                have hI5 := (hI3.grow hw4).grow h45
                have hE5 := (hE3.grow hw4).grow h45
                go_wp2
                go_loopw [96] (fun i wr => ∃ k : Nat, k ≤ C.length ∧ i = .int .i64 k ∧ Below w5.heap.size w5 wr) (fun i _ => C.length - (intOf i).toNat)
                case atStart => exact ⟨0, by omega, rfl, Below.refl _ _⟩
                case round =>
                  obtain ⟨k, hk, rfl, hbr3⟩ := hrel
                  by_cases hlt3 : k < C.length
                  · have hlt3' : (k : Int) < C.length := by omega
                    have hE6 := hE5.grow hbr3
                    obtain ⟨b3, off3, hbo3, hB3, g0, g1, g2, g3, g4⟩ := hE6.at hlt3
                    injection hbo3 with hbo3
                    injection hbo3 with q1 q2 _
                    subst q1 q2
                    have hz := hok _ (clAt_mem hlt3)
                    generalize hzz : clAt C k = z at *
                    clear hzz
                    have bZ := lat_alloc (Below.refl wr.heap.size wr) (.cells #[.int .i64 z.ag, .int .i64 z.id, .int .i64 z.ph, .int .i64 z.cl, .int .i64 z.si] 34)
                    have Bz := Blk.new (w := wr) (t := 34) (cs := #[.int .i64 z.ag, .int .i64 z.id, .int .i64 z.ph, .int .i64 z.cl, .int .i64 z.si])
                    have m0 := (k0.below hbr3).below bZ
                    have m1 := (k1.below hbr3).below bZ
                    have mx := (kx.below hbr3).below bZ
                    have my := (ky.below hbr3).below bZ
                    have hIz := (hI5.grow hbr3).grow bZ
                    have hbz := hbr3.trans (bZ.mono hbr3.size)
                    have o0 := m0.at 0 rfl
                    have o1 := m0.at 1 rfl
                    have o2 := m0.at 2 rfl
                    have o3 := m0.at 3 rfl
                    have o4 := m0.at 4 rfl
                    have o5 := m0.at 5 rfl
                    have p0 := m1.at 0 rfl
                    have p1 := m1.at 1 rfl
                    have p2 := m1.at 2 rfl
                    have q0 := mx.at 0 rfl
                    have q1 := mx.at 1 rfl
                    have q2 := mx.at 2 rfl
                    have q3 := mx.at 3 rfl
                    have q4 := mx.at 4 rfl
                    have r0 := my.at 0 rfl
                    have r1 := my.at 1 rfl
                    have r2 := my.at 2 rfl
                    have r3 := my.at 3 rfl
                    have r4 := my.at 4 rfl
                    have s0 := Bz.at 0 rfl
                    have s1 := Bz.at 1 rfl
                    have s2 := Bz.at 2 rfl
                    have s3 := Bz.at 3 rfl
                    have s4 := Bz.at 4 rfl
                    cases hyz : lessC per cap L now y z with
                    | false =>
                      have HYZ := Lib.hid hyz
                      clear hyz
                      go_wp2_with fail
                      refine (less_c per cap hold lock sp sg A c n L now y z _ hLn.out (hIz) hnl hS hper hcap hlock hnow hy hz HYZ.out).mono ?_
                      rintro e w7 ⟨rfl, hb7⟩
                      go_wp2
                      go_roundw
                      case rel => exact ⟨k + 1, by omega, by go_num, hbz.trans (hb7.mono hbz.size)⟩
                      case measure => simp [intOf]; omega
                    | true =>
                      have HYZ := Lib.hid hyz
                      have HXZ := Lib.hid (less_trans HXY.out hyz)
                      clear hyz
                      go_wp2_with fail
                      clear o0 o1 o2 o3 o4 o5 p0 p1 p2 q0 q1 q2 q3 q4 r0 r1 r2 r3 r4 s0 s1 s2 s3 s4
                      refine (less_c per cap hold lock sp sg A c n L now y z _ hLn.out (hIz) hnl hS hper hcap hlock hnow hy hz HYZ.out).mono ?_
                      rintro e w7 ⟨rfl, hb7⟩
                      have z0 := m0.below hb7
                      have z1 := m1.below hb7
                      have zx := mx.below hb7
                      have zz := Bz.below hb7
                      have o0 := z0.at 0 rfl
                      have o1 := z0.at 1 rfl
                      have o2 := z0.at 2 rfl
                      have o3 := z0.at 3 rfl
                      have o4 := z0.at 4 rfl
                      have o5 := z0.at 5 rfl
                      have p0 := z1.at 0 rfl
                      have p1 := z1.at 1 rfl
                      have p2 := z1.at 2 rfl
                      have q0 := zx.at 0 rfl
                      have q1 := zx.at 1 rfl
                      have q2 := zx.at 2 rfl
                      have q3 := zx.at 3 rfl
                      have q4 := zx.at 4 rfl
                      have s0 := zz.at 0 rfl
                      have s1 := zz.at 1 rfl
                      have s2 := zz.at 2 rfl
                      have s3 := zz.at 3 rfl
                      have s4 := zz.at 4 rfl
                      go_wp2_with fail
                      refine (less_c per cap hold lock sp sg A c n L now x z _ hLn.out (hIz.grow hb7) hnl hS hper hcap hlock hnow hx hz HXZ.out).mono ?_
                      rintro e w8 ⟨rfl, hb8⟩
                      have hb78 := hb7.trans (hb8.mono hb7.size)
                      go_wp2
                      go_roundw
                      case rel => exact ⟨k + 1, by omega, by go_num, hbz.trans (hb78.mono hbz.size)⟩
                      case measure => simp [intOf]; omega
                  · go_wp2
                    go_roundw
                    case rel => exact ⟨j + 1, by omega, by go_num, h25.trans (hbr3.mono h25.size)⟩
                    case measure => simp [intOf]; omega
          | false =>
            have HXY := Lib.hid hxy
            cases hyx : lessC per cap L now y x with
            | true =>
              have HYX := Lib.hid hyx
              clear hyx
              cases hex : emB x.cl with
              | false =>
                have HEX := Lib.hid hex
                clear hex hxy
                have o0 := e0.laterN 0 rfl
                have o1 := e0.laterN 1 rfl
                have o2 := e0.laterN 2 rfl
                have o3 := e0.laterN 3 rfl
                have o4 := e0.laterN 4 rfl
                have o5 := e0.laterN 5 rfl
                have p0 := e1.laterN 0 rfl
                have p1 := e1.laterN 1 rfl
                have p2 := e1.laterN 2 rfl
                have q0 := ex.laterN 0 rfl
                have q1 := ex.laterN 1 rfl
                have q2 := ex.laterN 2 rfl
                have q3 := ex.laterN 3 rfl
                have q4 := ex.laterN 4 rfl
                have r0 := ey.laterN 0 rfl
                have r1 := ey.laterN 1 rfl
                have r2 := ey.laterN 2 rfl
                have r3 := ey.laterN 3 rfl
                have r4 := ey.laterN 4 rfl
                refine wp_region_grow (by kernel_rfl) (by kernel_rfl) ?_
                repeat' (first
                    | go_big_quiet_skip
                    | (go_big_quiet_want; first
                        | (go_big_quiet_op; go_big_quiet_on)
                        | (refine quiet_det ?_; apply Exists.intro; refine ⟨fun w' hC => ?_, ?_⟩; (go_simp <;> (first | rfl | exact ⟨rfl, rfl⟩)); apply Exists.intro; refine ⟨?_, ?_⟩; (go_simp <;> (first | rfl | exact ⟨rfl, rfl⟩)); go_big_quiet_on)
                        | (show Oper.quiet _ { dst := _, op := .call { callee := .value _, args := _, argTypes := _ }, type := _, pos := _, after := _, guard := _ } _ _ _; refine quiet_call ?_; apply Exists.intro; apply Exists.intro; refine ⟨fun w' hC => ?_, ?_⟩; (go_simp <;> (first | rfl | exact ⟨rfl, rfl⟩)); apply Exists.intro; refine ⟨fun w' hC => ?_, ?_⟩; (first
                            | with_reducible exact grow_call (less_c per cap hold lock sp sg A c n L now x y w' hLn.out (hI3.grow hC) hnl hS hper hcap hlock hnow hx hy HXY.out) hC
                            | with_reducible exact grow_call (less_c per cap hold lock sp sg A c n L now y x w' hLn.out (hI3.grow hC) hnl hS hper hcap hlock hnow hy hx HYX.out) hC
                            | fail); apply Exists.intro; refine ⟨?_, ?_⟩; (go_simp <;> (first | rfl | exact ⟨rfl, rfl⟩)); go_big_quiet_on)))
                all_goals refine wpQuiet_nil ?_
                intro w4 hw4
                clear o0 o1 o2 o3 o4 o5 p0 p1 p2 q0 q1 q2 q3 q4 r0 r1 r2 r3 r4
                have j0 := e0.below hw4
                have j1 := e1.below hw4
                have jx := ex.below hw4
                have jy := ey.below hw4
                have h24 := hb3.trans (hw4.mono hb3.size)
                have q0 := jx.at 0 rfl
                have q1 := jx.at 1 rfl
                have q2 := jx.at 2 rfl
                have q3 := jx.at 3 rfl
                have q4 := jx.at 4 rfl
                have r0 := jy.at 0 rfl
                have r1 := jy.at 1 rfl
                have r2 := jy.at 2 rfl
                have r3 := jy.at 3 rfl
                have r4 := jy.at 4 rfl
                go_wp2_with fail
                refine (em_of HEX.out _ _ _ _ _).mono ?_
                rintro e w5 ⟨rfl, hb5⟩
                have h45 := hb5
                have h25 := h24.trans (h45.mono h24.size)
                have k0 := j0.below h45
                have k1 := j1.below h45
                have kx := jx.below h45
                have ky := jy.below h45
                have hI5 := (hI3.grow hw4).grow h45
                have hE5 := (hE3.grow hw4).grow h45
                go_wp2
                go_loopw [96] (fun i wr => ∃ k : Nat, k ≤ C.length ∧ i = .int .i64 k ∧ Below w5.heap.size w5 wr) (fun i _ => C.length - (intOf i).toNat)
                case atStart => exact ⟨0, by omega, rfl, Below.refl _ _⟩
                case round =>
                  obtain ⟨k, hk, rfl, hbr3⟩ := hrel
                  by_cases hlt3 : k < C.length
                  · have hlt3' : (k : Int) < C.length := by omega
                    have hE6 := hE5.grow hbr3
                    obtain ⟨b3, off3, hbo3, hB3, g0, g1, g2, g3, g4⟩ := hE6.at hlt3
                    injection hbo3 with hbo3
                    injection hbo3 with q1 q2 _
                    subst q1 q2
                    have hz := hok _ (clAt_mem hlt3)
                    generalize hzz : clAt C k = z at *
                    clear hzz
                    go_wp2
                    have bZ := lat_alloc hbr3 ((.cells #[.int .i64 z.ag, .int .i64 z.id, .int .i64 z.ph, .int .i64 z.cl, .int .i64 z.si] 34))
                    go_roundw
                    case rel => exact ⟨k + 1, by omega, by go_num, bZ⟩
                    case measure => simp [intOf]; omega
                  · go_wp2
                    go_roundw
                    case rel => exact ⟨j + 1, by omega, by go_num, h25.trans (hbr3.mono h25.size)⟩
                    case measure => simp [intOf]; omega
              | true =>
                have HEX := Lib.hid hex
                cases hey : emB y.cl with
                | false => rw [less_em hex hey] at hxy; cases hxy
                | true =>
                  have HEY := Lib.hid hey
                  clear hex hey hxy
                  have o0 := e0.laterN 0 rfl
                  have o1 := e0.laterN 1 rfl
                  have o2 := e0.laterN 2 rfl
                  have o3 := e0.laterN 3 rfl
                  have o4 := e0.laterN 4 rfl
                  have o5 := e0.laterN 5 rfl
                  have p0 := e1.laterN 0 rfl
                  have p1 := e1.laterN 1 rfl
                  have p2 := e1.laterN 2 rfl
                  have q0 := ex.laterN 0 rfl
                  have q1 := ex.laterN 1 rfl
                  have q2 := ex.laterN 2 rfl
                  have q3 := ex.laterN 3 rfl
                  have q4 := ex.laterN 4 rfl
                  have r0 := ey.laterN 0 rfl
                  have r1 := ey.laterN 1 rfl
                  have r2 := ey.laterN 2 rfl
                  have r3 := ey.laterN 3 rfl
                  have r4 := ey.laterN 4 rfl
                  refine wp_region_grow (by kernel_rfl) (by kernel_rfl) ?_
                  repeat' (first
                      | go_big_quiet_skip
                      | (go_big_quiet_want; first
                          | (go_big_quiet_op; go_big_quiet_on)
                          | (refine quiet_det ?_; apply Exists.intro; refine ⟨fun w' hC => ?_, ?_⟩; (go_simp <;> (first | rfl | exact ⟨rfl, rfl⟩)); apply Exists.intro; refine ⟨?_, ?_⟩; (go_simp <;> (first | rfl | exact ⟨rfl, rfl⟩)); go_big_quiet_on)
                          | (show Oper.quiet _ { dst := _, op := .call { callee := .value _, args := _, argTypes := _ }, type := _, pos := _, after := _, guard := _ } _ _ _; refine quiet_call ?_; apply Exists.intro; apply Exists.intro; refine ⟨fun w' hC => ?_, ?_⟩; (go_simp <;> (first | rfl | exact ⟨rfl, rfl⟩)); apply Exists.intro; refine ⟨fun w' hC => ?_, ?_⟩; (first
                              | with_reducible exact grow_call (less_c per cap hold lock sp sg A c n L now x y w' hLn.out (hI3.grow hC) hnl hS hper hcap hlock hnow hx hy HXY.out) hC
                              | with_reducible exact grow_call (less_c per cap hold lock sp sg A c n L now y x w' hLn.out (hI3.grow hC) hnl hS hper hcap hlock hnow hy hx HYX.out) hC
                              | fail); apply Exists.intro; refine ⟨?_, ?_⟩; (go_simp <;> (first | rfl | exact ⟨rfl, rfl⟩)); go_big_quiet_on)))
                  all_goals refine wpQuiet_nil ?_
                  intro w4 hw4
                  clear o0 o1 o2 o3 o4 o5 p0 p1 p2 q0 q1 q2 q3 q4 r0 r1 r2 r3 r4
                  have j0 := e0.below hw4
                  have j1 := e1.below hw4
                  have jx := ex.below hw4
                  have jy := ey.below hw4
                  have h24 := hb3.trans (hw4.mono hb3.size)
                  have q0 := jx.at 0 rfl
                  have q1 := jx.at 1 rfl
                  have q2 := jx.at 2 rfl
                  have q3 := jx.at 3 rfl
                  have q4 := jx.at 4 rfl
                  have r0 := jy.at 0 rfl
                  have r1 := jy.at 1 rfl
                  have r2 := jy.at 2 rfl
                  have r3 := jy.at 3 rfl
                  have r4 := jy.at 4 rfl
                  go_wp2_with fail
                  refine (em_of HEX.out _ _ _ _ _).mono ?_
                  rintro e w5 ⟨rfl, hb5⟩
                  have h45 := hb5
                  clear q0 q1 q2 q3 q4 r0 r1 r2 r3 r4
                  have jy' := jy.below hb5
                  have r0 := jy'.at 0 rfl
                  have r1 := jy'.at 1 rfl
                  have r2 := jy'.at 2 rfl
                  have r3 := jy'.at 3 rfl
                  have r4 := jy'.at 4 rfl
                  go_wp2_with fail
                  refine (em_of HEY.out _ _ _ _ _).mono ?_
                  rintro e w5' ⟨rfl, hb5'⟩
                  have h45' := hb5.trans (hb5'.mono hb5.size)
                  obtain ⟨w5, hw5⟩ : ∃ v : World, v = w5' := ⟨_, rfl⟩
                  subst hw5
                  have h45 := h45'
                  have h25 := h24.trans (h45.mono h24.size)
                  have k0 := j0.below h45
                  have k1 := j1.below h45
                  have kx := jx.below h45
                  have ky := jy.below h45
                  have hI5 := (hI3.grow hw4).grow h45
                  have hE5 := (hE3.grow hw4).grow h45
                  go_wp2
                  go_loopw [96] (fun i wr => ∃ k : Nat, k ≤ C.length ∧ i = .int .i64 k ∧ Below w5.heap.size w5 wr) (fun i _ => C.length - (intOf i).toNat)
                  case atStart => exact ⟨0, by omega, rfl, Below.refl _ _⟩
                  case round =>
                    obtain ⟨k, hk, rfl, hbr3⟩ := hrel
                    by_cases hlt3 : k < C.length
                    · have hlt3' : (k : Int) < C.length := by omega
                      have hE6 := hE5.grow hbr3
                      obtain ⟨b3, off3, hbo3, hB3, g0, g1, g2, g3, g4⟩ := hE6.at hlt3
                      injection hbo3 with hbo3
                      injection hbo3 with q1 q2 _
                      subst q1 q2
                      have hz := hok _ (clAt_mem hlt3)
                      generalize hzz : clAt C k = z at *
                      clear hzz
                      go_wp2
                      have bZ := lat_alloc hbr3 ((.cells #[.int .i64 z.ag, .int .i64 z.id, .int .i64 z.ph, .int .i64 z.cl, .int .i64 z.si] 34))
                      go_roundw
                      case rel => exact ⟨k + 1, by omega, by go_num, bZ⟩
                      case measure => simp [intOf]; omega
                    · go_wp2
                      go_roundw
                      case rel => exact ⟨j + 1, by omega, by go_num, h25.trans (hbr3.mono h25.size)⟩
                      case measure => simp [intOf]; omega
            | false =>
              have HYX := Lib.hid hyx
              clear hyx
              cases hex : emB x.cl with
              | false =>
                have HEX := Lib.hid hex
                clear hex hxy
                have o0 := e0.laterN 0 rfl
                have o1 := e0.laterN 1 rfl
                have o2 := e0.laterN 2 rfl
                have o3 := e0.laterN 3 rfl
                have o4 := e0.laterN 4 rfl
                have o5 := e0.laterN 5 rfl
                have p0 := e1.laterN 0 rfl
                have p1 := e1.laterN 1 rfl
                have p2 := e1.laterN 2 rfl
                have q0 := ex.laterN 0 rfl
                have q1 := ex.laterN 1 rfl
                have q2 := ex.laterN 2 rfl
                have q3 := ex.laterN 3 rfl
                have q4 := ex.laterN 4 rfl
                have r0 := ey.laterN 0 rfl
                have r1 := ey.laterN 1 rfl
                have r2 := ey.laterN 2 rfl
                have r3 := ey.laterN 3 rfl
                have r4 := ey.laterN 4 rfl
                refine wp_region_grow (by kernel_rfl) (by kernel_rfl) ?_
                repeat' (first
                    | go_big_quiet_skip
                    | (go_big_quiet_want; first
                        | (go_big_quiet_op; go_big_quiet_on)
                        | (refine quiet_det ?_; apply Exists.intro; refine ⟨fun w' hC => ?_, ?_⟩; (go_simp <;> (first | rfl | exact ⟨rfl, rfl⟩)); apply Exists.intro; refine ⟨?_, ?_⟩; (go_simp <;> (first | rfl | exact ⟨rfl, rfl⟩)); go_big_quiet_on)
                        | (show Oper.quiet _ { dst := _, op := .call { callee := .value _, args := _, argTypes := _ }, type := _, pos := _, after := _, guard := _ } _ _ _; refine quiet_call ?_; apply Exists.intro; apply Exists.intro; refine ⟨fun w' hC => ?_, ?_⟩; (go_simp <;> (first | rfl | exact ⟨rfl, rfl⟩)); apply Exists.intro; refine ⟨fun w' hC => ?_, ?_⟩; (first
                            | with_reducible exact grow_call (less_c per cap hold lock sp sg A c n L now x y w' hLn.out (hI3.grow hC) hnl hS hper hcap hlock hnow hx hy HXY.out) hC
                            | with_reducible exact grow_call (less_c per cap hold lock sp sg A c n L now y x w' hLn.out (hI3.grow hC) hnl hS hper hcap hlock hnow hy hx HYX.out) hC
                            | fail); apply Exists.intro; refine ⟨?_, ?_⟩; (go_simp <;> (first | rfl | exact ⟨rfl, rfl⟩)); go_big_quiet_on)))
                all_goals refine wpQuiet_nil ?_
                intro w4 hw4
                clear o0 o1 o2 o3 o4 o5 p0 p1 p2 q0 q1 q2 q3 q4 r0 r1 r2 r3 r4
                have j0 := e0.below hw4
                have j1 := e1.below hw4
                have jx := ex.below hw4
                have jy := ey.below hw4
                have h24 := hb3.trans (hw4.mono hb3.size)
                have q0 := jx.at 0 rfl
                have q1 := jx.at 1 rfl
                have q2 := jx.at 2 rfl
                have q3 := jx.at 3 rfl
                have q4 := jx.at 4 rfl
                have r0 := jy.at 0 rfl
                have r1 := jy.at 1 rfl
                have r2 := jy.at 2 rfl
                have r3 := jy.at 3 rfl
                have r4 := jy.at 4 rfl
                have zag : (x.ag != y.ag) = false := by have := less_total HXY.out HYX.out; simp [this.1]
                have zid : (x.id != y.id) = false := by have := less_total HXY.out HYX.out; simp [this.2]
                go_wp2_with fail
                refine (em_of HEX.out _ _ _ _ _).mono ?_
                rintro e w5 ⟨rfl, hb5⟩
                have h45 := hb5
                have h25 := h24.trans (h45.mono h24.size)
                have k0 := j0.below h45
                have k1 := j1.below h45
                have kx := jx.below h45
                have ky := jy.below h45
                have hI5 := (hI3.grow hw4).grow h45
                have hE5 := (hE3.grow hw4).grow h45
                go_wp2
                go_loopw [96] (fun i wr => ∃ k : Nat, k ≤ C.length ∧ i = .int .i64 k ∧ Below w5.heap.size w5 wr) (fun i _ => C.length - (intOf i).toNat)
                case atStart => exact ⟨0, by omega, rfl, Below.refl _ _⟩
                case round =>
                  obtain ⟨k, hk, rfl, hbr3⟩ := hrel
                  by_cases hlt3 : k < C.length
                  · have hlt3' : (k : Int) < C.length := by omega
                    have hE6 := hE5.grow hbr3
                    obtain ⟨b3, off3, hbo3, hB3, g0, g1, g2, g3, g4⟩ := hE6.at hlt3
                    injection hbo3 with hbo3
                    injection hbo3 with q1 q2 _
                    subst q1 q2
                    have hz := hok _ (clAt_mem hlt3)
                    generalize hzz : clAt C k = z at *
                    clear hzz
                    go_wp2
                    have bZ := lat_alloc hbr3 ((.cells #[.int .i64 z.ag, .int .i64 z.id, .int .i64 z.ph, .int .i64 z.cl, .int .i64 z.si] 34))
                    go_roundw
                    case rel => exact ⟨k + 1, by omega, by go_num, bZ⟩
                    case measure => simp [intOf]; omega
                  · go_wp2
                    go_roundw
                    case rel => exact ⟨j + 1, by omega, by go_num, h25.trans (hbr3.mono h25.size)⟩
                    case measure => simp [intOf]; omega
              | true =>
                have HEX := Lib.hid hex
                cases hey : emB y.cl with
                | false => rw [less_em hex hey] at hxy; cases hxy
                | true =>
                  have HEY := Lib.hid hey
                  clear hex hey hxy
                  have o0 := e0.laterN 0 rfl
                  have o1 := e0.laterN 1 rfl
                  have o2 := e0.laterN 2 rfl
                  have o3 := e0.laterN 3 rfl
                  have o4 := e0.laterN 4 rfl
                  have o5 := e0.laterN 5 rfl
                  have p0 := e1.laterN 0 rfl
                  have p1 := e1.laterN 1 rfl
                  have p2 := e1.laterN 2 rfl
                  have q0 := ex.laterN 0 rfl
                  have q1 := ex.laterN 1 rfl
                  have q2 := ex.laterN 2 rfl
                  have q3 := ex.laterN 3 rfl
                  have q4 := ex.laterN 4 rfl
                  have r0 := ey.laterN 0 rfl
                  have r1 := ey.laterN 1 rfl
                  have r2 := ey.laterN 2 rfl
                  have r3 := ey.laterN 3 rfl
                  have r4 := ey.laterN 4 rfl
                  refine wp_region_grow (by kernel_rfl) (by kernel_rfl) ?_
                  repeat' (first
                      | go_big_quiet_skip
                      | (go_big_quiet_want; first
                          | (go_big_quiet_op; go_big_quiet_on)
                          | (refine quiet_det ?_; apply Exists.intro; refine ⟨fun w' hC => ?_, ?_⟩; (go_simp <;> (first | rfl | exact ⟨rfl, rfl⟩)); apply Exists.intro; refine ⟨?_, ?_⟩; (go_simp <;> (first | rfl | exact ⟨rfl, rfl⟩)); go_big_quiet_on)
                          | (show Oper.quiet _ { dst := _, op := .call { callee := .value _, args := _, argTypes := _ }, type := _, pos := _, after := _, guard := _ } _ _ _; refine quiet_call ?_; apply Exists.intro; apply Exists.intro; refine ⟨fun w' hC => ?_, ?_⟩; (go_simp <;> (first | rfl | exact ⟨rfl, rfl⟩)); apply Exists.intro; refine ⟨fun w' hC => ?_, ?_⟩; (first
                              | with_reducible exact grow_call (less_c per cap hold lock sp sg A c n L now x y w' hLn.out (hI3.grow hC) hnl hS hper hcap hlock hnow hx hy HXY.out) hC
                              | with_reducible exact grow_call (less_c per cap hold lock sp sg A c n L now y x w' hLn.out (hI3.grow hC) hnl hS hper hcap hlock hnow hy hx HYX.out) hC
                              | fail); apply Exists.intro; refine ⟨?_, ?_⟩; (go_simp <;> (first | rfl | exact ⟨rfl, rfl⟩)); go_big_quiet_on)))
                  all_goals refine wpQuiet_nil ?_
                  intro w4 hw4
                  clear o0 o1 o2 o3 o4 o5 p0 p1 p2 q0 q1 q2 q3 q4 r0 r1 r2 r3 r4
                  have j0 := e0.below hw4
                  have j1 := e1.below hw4
                  have jx := ex.below hw4
                  have jy := ey.below hw4
                  have h24 := hb3.trans (hw4.mono hb3.size)
                  have q0 := jx.at 0 rfl
                  have q1 := jx.at 1 rfl
                  have q2 := jx.at 2 rfl
                  have q3 := jx.at 3 rfl
                  have q4 := jx.at 4 rfl
                  have r0 := jy.at 0 rfl
                  have r1 := jy.at 1 rfl
                  have r2 := jy.at 2 rfl
                  have r3 := jy.at 3 rfl
                  have r4 := jy.at 4 rfl
                  have zag : (x.ag != y.ag) = false := by have := less_total HXY.out HYX.out; simp [this.1]
                  have zid : (x.id != y.id) = false := by have := less_total HXY.out HYX.out; simp [this.2]
                  go_wp2_with fail
                  refine (em_of HEX.out _ _ _ _ _).mono ?_
                  rintro e w5 ⟨rfl, hb5⟩
                  have h45 := hb5
                  clear q0 q1 q2 q3 q4 r0 r1 r2 r3 r4
                  have jy' := jy.below hb5
                  have r0 := jy'.at 0 rfl
                  have r1 := jy'.at 1 rfl
                  have r2 := jy'.at 2 rfl
                  have r3 := jy'.at 3 rfl
                  have r4 := jy'.at 4 rfl
                  go_wp2_with fail
                  refine (em_of HEY.out _ _ _ _ _).mono ?_
                  rintro e w5' ⟨rfl, hb5'⟩
                  have h45' := hb5.trans (hb5'.mono hb5.size)
                  obtain ⟨w5, hw5⟩ : ∃ v : World, v = w5' := ⟨_, rfl⟩
                  subst hw5
                  have h45 := h45'
                  have h25 := h24.trans (h45.mono h24.size)
                  have k0 := j0.below h45
                  have k1 := j1.below h45
                  have kx := jx.below h45
                  have ky := jy.below h45
                  have hI5 := (hI3.grow hw4).grow h45
                  have hE5 := (hE3.grow hw4).grow h45
                  go_wp2
                  go_loopw [96] (fun i wr => ∃ k : Nat, k ≤ C.length ∧ i = .int .i64 k ∧ Below w5.heap.size w5 wr) (fun i _ => C.length - (intOf i).toNat)
                  case atStart => exact ⟨0, by omega, rfl, Below.refl _ _⟩
                  case round =>
                    obtain ⟨k, hk, rfl, hbr3⟩ := hrel
                    by_cases hlt3 : k < C.length
                    · have hlt3' : (k : Int) < C.length := by omega
                      have hE6 := hE5.grow hbr3
                      obtain ⟨b3, off3, hbo3, hB3, g0, g1, g2, g3, g4⟩ := hE6.at hlt3
                      injection hbo3 with hbo3
                      injection hbo3 with q1 q2 _
                      subst q1 q2
                      have hz := hok _ (clAt_mem hlt3)
                      generalize hzz : clAt C k = z at *
                      clear hzz
                      go_wp2
                      have bZ := lat_alloc hbr3 ((.cells #[.int .i64 z.ag, .int .i64 z.id, .int .i64 z.ph, .int .i64 z.cl, .int .i64 z.si] 34))
                      go_roundw
                      case rel => exact ⟨k + 1, by omega, by go_num, bZ⟩
                      case measure => simp [intOf]; omega
                    · go_wp2
                      go_roundw
                      case rel => exact ⟨j + 1, by omega, by go_num, h25.trans (hbr3.mono h25.size)⟩
                      case measure => simp [intOf]; omega

        · go_wp2
          go_roundw
          case rel => exact ⟨i + 1, by omega, by go_num, hW2.trans (hbr2.mono hW2.size)⟩
          case measure => simp [intOf]; omega
    · go_wp2_with fail
      refine (awake_any _).mono ?_; rintro e w9 ⟨rfl, hb9⟩
      go_wp2
      go_ret
      exact ⟨rfl, (bW.trans (hbr.mono bW.size)).trans (hb9.mono (bW.trans (hbr.mono bW.size)).size)⟩
end Go.Proofs.Ytdgmfledhcgncaa
