/-
  The law RankOrders answers true: its walk, from the other side's order of two claims. Conditions: that order's contract.
-/
import Derived.Test.YtdgmfledhcgncaaRbe
import Derived.Test.YtdgmfledhcgncaaAw
namespace Go.Proofs.Ytdgmfledhcgncaa
open Go.ChangeShapes Go.WideShapes Go.RowKit
set_option linter.unusedVariables false

theorem start_le {l : List Int} {ph si now : Int} (hU : Upto now l) (h : si ≤ now) (h0 : 0 ≤ now) : startV l ph si ≤ now := by
  unfold startV endV
  split
  · omega
  · have := hU _ (at_mem (l := l) (i := ph.toNat) (by omega))
    omega
def LessAll : Prop := ∀ (per cap hold lock sp sg : Int) (A : Option Addr) (c n : Nat) (l : List Int) (now : Int), l.length = n → n ≤ 1000000 → Small l → 1 ≤ per ∧ per ≤ 10000 → 0 ≤ cap ∧ cap ≤ 1000 → 0 ≤ lock ∧ lock ≤ 1000 → 0 ≤ now ∧ now ≤ 10000 → LessOk per cap hold lock sp sg A c n l now
set_option maxRecDepth 100000 in
set_option maxHeartbeats 20000000 in
theorem orders_of (HLA : LessAll) (D : Option Addr) (d : Nat) (l : List Int) (now0 : Int) (w : World) (hs : Ints .i64 w w.heap.size D l) (hn : Nums l) (hl : l.length ≤ 9223372036854775807) (n0 : -9223372036854775808 ≤ now0) (n1 : now0 ≤ 9223372036854775807) :
    Calls Try.prog 3 #[.slice D l.length d, .int .i64 now0] w fun e w' => e = .returned (.bool true) ∧ Below w.heap.size w w' := by
  go_enter Try.func3, Try.ntmps3
  go_wp2_with fail
  refine (mod_any now0 60 (by omega) (by omega) n0 n1 _).mono ?_; rintro e w' ⟨rfl, hw'⟩; subst hw'
  have hnow' := modI_bd now0 60 (by omega)
  generalize modI now0 60 = now at *
  have hnow : 0 ≤ now ∧ now ≤ 10000 := by omega
  go_wp2_with fail
  refine (setting_any D d l now w hs hn hl (by omega)).mono ?_
  rintro e w1 ⟨hb1, per, cap, hold, lock, sp, sg, n, A, c, L, B, m, C, rfl, hset, hIL, hCB⟩
  have hper : 1 ≤ per ∧ per ≤ 10000 := by have := hset.per; omega
  have hcap : 0 ≤ cap ∧ cap ≤ 1000 := by have := hset.cap; omega
  have hlock : 0 ≤ lock ∧ lock ≤ 1000 := by have := hset.lock; omega
  have hnl : n ≤ 1000000 := by have := hset.nn; omega
  have hLn := Lib.hid hset.len
  have hS : Small L := fun x hx => by have := hset.upto x hx; omega
  have hC5 := hset.clen
  have hok : AllOk C := fun x hx => by have h := hset.cls x hx; have := h.ph; have := h.cl; have := h.si; have := hset.nn; exact ⟨by omega, by omega, by omega⟩
  go_wp2_with fail
  have bW := (hb1.alloc hb1.size (.cells #[.slice none 0 0, .slice none 0 0, .int .i64 per, .int .i64 cap, .int .i64 hold, .int .i64 lock] 27)).alloc (hb1.alloc hb1.size (.cells #[.slice none 0 0, .slice none 0 0, .int .i64 per, .int .i64 cap, .int .i64 hold, .int .i64 lock] 27)).size (.cells #[.int .i64 sp, .int .i64 sg, .slice A n c] 29)
  have bX := lat_alloc (lat_alloc (Below.refl w1.heap.size w1) (.cells #[.slice none 0 0, .slice none 0 0, .int .i64 per, .int .i64 cap, .int .i64 hold, .int .i64 lock] 27)) (.cells #[.int .i64 sp, .int .i64 sg, .slice A n c] 29)
  have B0 := Blk.alloc (Blk.new (w := w1) (t := 27) (cs := #[.slice none 0 0, .slice none 0 0, .int .i64 per, .int .i64 cap, .int .i64 hold, .int .i64 lock])) (.cells #[.int .i64 sp, .int .i64 sg, .slice A n c] 29)
  have B1 := Blk.new (w := w1.alloc (.cells #[.slice none 0 0, .slice none 0 0, .int .i64 per, .int .i64 cap, .int .i64 hold, .int .i64 lock] 27)) (t := 29) (cs := #[.int .i64 sp, .int .i64 sg, .slice A n c])
  rw [heap_size] at B1
  have hI := hIL.grow bX
  have hD := hCB.grow bX
  generalize (w1.alloc (.cells #[.slice none 0 0, .slice none 0 0, .int .i64 per, .int .i64 cap, .int .i64 hold, .int .i64 lock] 27)).alloc (.cells #[.int .i64 sp, .int .i64 sg, .slice A n c] 29) = W at *
  generalize w1.heap.size + 1 = gS at *
  generalize w1.heap.size = gC at *
  have HL := HLA per cap hold lock sp sg A c n L now hLn.out hnl hS hper hcap hlock hnow
  have hst : ∀ x ∈ C, startV L x.ph x.si ≤ now := fun x hx => start_le hset.upto (hset.cls x hx).si.2 hnow.1
  clear hIL hCB bX hset
  go_loopw [23] (fun i wr => ∃ k : Nat, k ≤ C.length ∧ i = .int .i64 k ∧ Below W.heap.size W wr) (fun i _ => C.length - (intOf i).toNat)
  case atStart => exact ⟨0, by omega, rfl, Below.refl _ _⟩
  case round =>
    obtain ⟨i, hi, rfl, hbr⟩ := hrel
    by_cases hlt : i < C.length
    · have hlt' : (i : Int) < C.length := by omega
      have hE := hD.grow hbr
      obtain ⟨b, off, rfl, hB, h0, h1, h2, h3, h4⟩ := hE.at hlt
      have hx := hok _ (clAt_mem hlt)
      have hstx := hst _ (clAt_mem hlt)
      have d0 := B0.below hbr
      have d1 := B1.below hbr
      have hIr := hI.grow hbr
      generalize hxx : clAt C i = x at h0 h1 h2 h3 h4 hx hstx ⊢
      clear hxx
      have bX := lat_alloc (Below.refl wr.heap.size wr) (.cells #[.int .i64 x.ag, .int .i64 x.id, .int .i64 x.ph, .int .i64 x.cl, .int .i64 x.si] 34)
      have ex := Blk.new (w := wr) (t := 34) (cs := #[.int .i64 x.ag, .int .i64 x.id, .int .i64 x.ph, .int .i64 x.cl, .int .i64 x.si])
      have e0 := d0.below bX
      have e1 := d1.below bX
      have hIX := hIr.grow bX
      have hEX := hE.grow bX
      have hbX := hbr.trans (bX.mono hbr.size)
      go_wp2_with fail
      clear h0 h1 h2 h3 h4 d0 d1 hIr hE
      generalize wr.alloc (.cells #[.int .i64 x.ag, .int .i64 x.id, .int .i64 x.ph, .int .i64 x.cl, .int .i64 x.si] 34) = W1 at *
      generalize wr.heap.size = gX at *
      have o0 := e0.laterN 0 rfl
      have o1 := e0.laterN 1 rfl
      have o2 := e0.laterN 2 rfl
      have o3 := e0.laterN 3 rfl
      have o4 := e0.laterN 4 rfl
      have o5 := e0.laterN 5 rfl
      have p0 := e1.laterN 0 rfl
      have p1 := e1.laterN 1 rfl
      have p2 := e1.laterN 2 rfl
      have q0 := ex.laterN 0 rfl
      have q1 := ex.laterN 1 rfl
      have q2 := ex.laterN 2 rfl
      have q3 := ex.laterN 3 rfl
      have q4 := ex.laterN 4 rfl
      refine wp_region_grow (by kernel_rfl) (by kernel_rfl) ?_
      repeat' (first
          | go_big_quiet_skip
          | (go_big_quiet_want; first
              | (go_big_quiet_op; go_big_quiet_on)
              | (refine quiet_det ?_; apply Exists.intro; refine ⟨fun w' hC => ?_, ?_⟩; (go_simp <;> (first | rfl | exact ⟨rfl, rfl⟩)); apply Exists.intro; refine ⟨?_, ?_⟩; (go_simp <;> (first | rfl | exact ⟨rfl, rfl⟩)); go_big_quiet_on)
              | (show Oper.quiet _ { dst := _, op := .call { callee := .value _, args := _, argTypes := _ }, type := _, pos := _, after := _, guard := _ } _ _ _; refine quiet_call ?_; apply Exists.intro; apply Exists.intro; refine ⟨fun w' hC => ?_, ?_⟩; (go_simp <;> (first | rfl | exact ⟨rfl, rfl⟩)); apply Exists.intro; refine ⟨fun w' hC => ?_, ?_⟩; (first
                  | with_reducible exact grow_call (em_any x.ag x.id x.ph x.cl x.si w') hC
                  | with_reducible exact grow_call (rem_any x.ag x.id x.ph x.cl x.si w') hC
                  | with_reducible exact grow_call (start_any sp sg A c n L x.ag x.id x.ph x.cl x.si w' hLn.out (hIX.grow hC) hnl hx.ph hx.si) hC
                  | with_reducible exact grow_call (rstart_any sp sg A c n L x.ag x.id x.ph x.cl x.si w' hLn.out (hIX.grow hC) hnl hx.ph hx.si) hC
                  | with_reducible exact grow_call (level_any per cap hold lock sp sg A c n L x.ag x.id x.ph x.cl x.si now w' hLn.out (hIX.grow hC) hnl hS hper hcap hlock hx.ph hx.cl hx.si hnow) hC
                  | with_reducible exact grow_call (rlevel_any per cap hold lock sp sg A c n L x.ag x.id x.ph x.cl x.si now w' hLn.out (hIX.grow hC) hnl hS hper hcap hlock hx.ph hx.cl hx.si hnow hstx) hC
                  | with_reducible exact grow_call (lock_c per cap hold lock sp sg A c n L now x w' hLn.out (hIX.grow hC) hnl hS hlock hnow hx rfl) hC
                  | with_reducible exact grow_call (rlock_c per cap hold lock sp sg A c n L now x w' hLn.out (hIX.grow hC) hnl hS hlock hnow hx rfl) hC
                  | fail); apply Exists.intro; refine ⟨?_, ?_⟩; (go_simp <;> (first | rfl | exact ⟨rfl, rfl⟩)); go_big_quiet_on)))
      all_goals refine wpQuiet_nil ?_
      intro w2 hb2
      clear o0 o1 o2 o3 o4 o5 p0 p1 p2 q0 q1 q2 q3 q4
      have f0 := e0.below hb2
      have f1 := e1.below hb2
      have fx := ex.below hb2
      have hI2 := hIX.grow hb2
      have hE2 := hEX.grow hb2
      have hW2 := hbX.trans (hb2.mono hbX.size)
      clear e0 e1 hIX hEX bX ex hb2
      go_wp2
      go_loopw [69] (fun i wr => ∃ k : Nat, k ≤ C.length ∧ i = .int .i64 k ∧ Below w2.heap.size w2 wr) (fun i _ => C.length - (intOf i).toNat)
      case atStart => exact ⟨0, by omega, rfl, Below.refl _ _⟩
      case round =>
        obtain ⟨j, hj, rfl, hbr2⟩ := hrel
        by_cases hlt2 : j < C.length
        · have hlt2' : (j : Int) < C.length := by omega
          have hEr := hE2.grow hbr2
          obtain ⟨b2, off2, hbo, hB2, h0, h1, h2, h3, h4⟩ := hEr.at hlt2
          injection hbo with hbo
          injection hbo with q1 q2 _
          subst q1 q2
          have hy := hok _ (clAt_mem hlt2)
          have hsty := hst _ (clAt_mem hlt2)
          generalize hyy : clAt C j = y at h0 h1 h2 h3 h4 hy hsty ⊢
          clear hyy
          have bY := lat_alloc (Below.refl wr.heap.size wr) (.cells #[.int .i64 y.ag, .int .i64 y.id, .int .i64 y.ph, .int .i64 y.cl, .int .i64 y.si] 34)
          have ey := Blk.new (w := wr) (t := 34) (cs := #[.int .i64 y.ag, .int .i64 y.id, .int .i64 y.ph, .int .i64 y.cl, .int .i64 y.si])
          have e0 := (f0.below hbr2).below bY
          have e1 := (f1.below hbr2).below bY
          have ex := (fx.below hbr2).below bY
          have hI3 := (hI2.grow hbr2).grow bY
          have hb3 := hbr2.trans (bY.mono hbr2.size)
          go_wp2_with fail
          clear h0 h1 h2 h3 h4
          generalize wr.alloc (.cells #[.int .i64 y.ag, .int .i64 y.id, .int .i64 y.ph, .int .i64 y.cl, .int .i64 y.si] 34) = W3 at *
          generalize wr.heap.size = gY at *
          have o0 := e0.laterN 0 rfl
          have o1 := e0.laterN 1 rfl
          have o2 := e0.laterN 2 rfl
          have o3 := e0.laterN 3 rfl
          have o4 := e0.laterN 4 rfl
          have o5 := e0.laterN 5 rfl
          have p0 := e1.laterN 0 rfl
          have p1 := e1.laterN 1 rfl
          have p2 := e1.laterN 2 rfl
          have q0 := ex.laterN 0 rfl
          have q1 := ex.laterN 1 rfl
          have q2 := ex.laterN 2 rfl
          have q3 := ex.laterN 3 rfl
          have q4 := ex.laterN 4 rfl
          have r0 := ey.laterN 0 rfl
          have r1 := ey.laterN 1 rfl
          have r2 := ey.laterN 2 rfl
          have r3 := ey.laterN 3 rfl
          have r4 := ey.laterN 4 rfl
          refine wp_region_grow (by kernel_rfl) (by kernel_rfl) ?_
          repeat' (first
              | go_big_quiet_skip
              | (go_big_quiet_want; first
                  | (go_big_quiet_op; go_big_quiet_on)
                  | (refine quiet_det ?_; apply Exists.intro; refine ⟨fun w' hC => ?_, ?_⟩; (go_simp <;> (first | rfl | exact ⟨rfl, rfl⟩)); apply Exists.intro; refine ⟨?_, ?_⟩; (go_simp <;> (first | rfl | exact ⟨rfl, rfl⟩)); go_big_quiet_on)
                  | (show Oper.quiet _ { dst := _, op := .call { callee := .value _, args := _, argTypes := _ }, type := _, pos := _, after := _, guard := _ } _ _ _; refine quiet_call ?_; apply Exists.intro; apply Exists.intro; refine ⟨fun w' hC => ?_, ?_⟩; (go_simp <;> (first | rfl | exact ⟨rfl, rfl⟩)); apply Exists.intro; refine ⟨fun w' hC => ?_, ?_⟩; (first
                      | with_reducible exact grow_call (less_c per cap hold lock sp sg A c n L now x y w' hLn.out (hI3.grow hC) hnl hS hper hcap hlock hnow hx hy rfl) hC
                      | with_reducible exact grow_call (HL.c x y w' (hI3.grow hC) hx hy hstx hsty rfl) hC
                      | fail); apply Exists.intro; refine ⟨?_, ?_⟩; (go_simp <;> (first | rfl | exact ⟨rfl, rfl⟩)); go_big_quiet_on)))
          all_goals refine wpQuiet_nil ?_
          intro w4 hb4
          clear o0 o1 o2 o3 o4 o5 p0 p1 p2 q0 q1 q2 q3 q4 r0 r1 r2 r3 r4
          go_wp2
          go_roundw
          case rel => exact ⟨j + 1, by omega, by go_num, hb3.trans (hb4.mono hb3.size)⟩
          case measure => simp [intOf]; omega
        · go_wp2
          go_roundw
          case rel => exact ⟨i + 1, by omega, by go_num, hW2.trans (hbr2.mono hW2.size)⟩
          case measure => simp [intOf]; omega
    · have e0 := B0.below hbr
      have e1 := B1.below hbr
      have hI3 := hI.grow hbr
      have hD3 := hD.grow hbr
      go_wp2_with fail
      have o0 := e0.laterN 0 rfl
      have o1 := e0.laterN 1 rfl
      have o2 := e0.laterN 2 rfl
      have o3 := e0.laterN 3 rfl
      have o4 := e0.laterN 4 rfl
      have o5 := e0.laterN 5 rfl
      have p0 := e1.laterN 0 rfl
      have p1 := e1.laterN 1 rfl
      have p2 := e1.laterN 2 rfl
      refine wp_region_grow (by kernel_rfl) (by kernel_rfl) ?_
      repeat' (first
          | go_big_quiet_skip
          | (go_big_quiet_want; first
              | (go_big_quiet_op; go_big_quiet_on)
              | (refine quiet_det ?_; apply Exists.intro; refine ⟨fun w' hC => ?_, ?_⟩; (go_simp <;> (first | rfl | exact ⟨rfl, rfl⟩)); apply Exists.intro; refine ⟨?_, ?_⟩; (go_simp <;> (first | rfl | exact ⟨rfl, rfl⟩)); go_big_quiet_on)
              | (show Oper.quiet _ { dst := _, op := .call { callee := .value _, args := _, argTypes := _ }, type := _, pos := _, after := _, guard := _ } _ _ _; refine quiet_call ?_; apply Exists.intro; apply Exists.intro; refine ⟨fun w' hC => ?_, ?_⟩; (go_simp <;> (first | rfl | exact ⟨rfl, rfl⟩)); apply Exists.intro; refine ⟨fun w' hC => ?_, ?_⟩; (first
                  | with_reducible exact grow_call (best_any per cap hold lock sp sg A c n L now B m C.length C w' hLn.out (hI3.grow hC) hnl hS hper hcap hlock hnow rfl (hD3.grow hC) hok (by omega)) hC
                  | with_reducible exact grow_call (rbest_of per cap hold lock sp sg A c n L now B m C w' HL hLn.out (hI3.grow hC) hnl hS hlock hnow (hD3.grow hC) hok hst (by omega)) hC
                  | with_reducible exact grow_call (awake_any w') hC
                  | fail); apply Exists.intro; refine ⟨?_, ?_⟩; (go_simp <;> (first | rfl | exact ⟨rfl, rfl⟩)); go_big_quiet_on)))
      all_goals refine wpQuiet_nil ?_
      intro w4 hb4
      clear o0 o1 o2 o3 o4 o5 p0 p1 p2
      go_wp2
      go_ret
      exact ⟨rfl, (bW.trans (hbr.mono bW.size)).trans (hb4.mono (bW.trans (hbr.mono bW.size)).size)⟩
end Go.Proofs.Ytdgmfledhcgncaa
