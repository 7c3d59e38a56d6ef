/-
  The law RankBest answers true: its walk. Conditions: none.
-/
import Derived.Test.YtdgmfledhcgncaaSe
import Derived.Test.YtdgmfledhcgncaaAw
import Derived.Test.YtdgmfledhcgncaaMathb
namespace Go.Proofs.Ytdgmfledhcgncaa
open Go.ChangeShapes Go.WideShapes Go.RowKit
set_option linter.unusedVariables false

set_option maxRecDepth 100000 in
set_option maxHeartbeats 20000000 in
theorem bestlaw_any (D : Option Addr) (d : Nat) (l : List Int) (now0 : Int) (w : World) (hs : Ints .i64 w w.heap.size D l) (hn : Nums l) (hl : l.length ≤ 9223372036854775807) (n0 : -9223372036854775808 ≤ now0) (n1 : now0 ≤ 9223372036854775807) :
    Calls Try.prog 6 #[.slice D l.length d, .int .i64 now0] w fun e w' => e = .returned (.bool true) ∧ Below w.heap.size w w' := by
  go_enter Try.func6, Try.ntmps6
  go_wp2_with fail
  refine (mod_any now0 60 (by omega) (by omega) n0 n1 _).mono ?_; rintro e w' ⟨rfl, hw'⟩; subst hw'
  have hnow' := modI_bd now0 60 (by omega)
  generalize modI now0 60 = now at *
  have hnow : 0 ≤ now ∧ now ≤ 10000 := by omega
  go_wp2_with fail
  refine (setting_any D d l now w hs hn hl (by omega)).mono ?_
  rintro e w1 ⟨hb1, per, cap, hold, lock, sp, sg, n, A, c, L, B, m, C, rfl, hset, hIL, hCB⟩
  have hper : 1 ≤ per ∧ per ≤ 10000 := by have := hset.per; omega
  have hcap : 0 ≤ cap ∧ cap ≤ 1000 := by have := hset.cap; omega
  have hlock : 0 ≤ lock ∧ lock ≤ 1000 := by have := hset.lock; omega
  have hnl : n ≤ 1000000 := by have := hset.nn; omega
  have hLn := Lib.hid hset.len
  have hS : Small L := fun x hx => by have := hset.upto x hx; omega
  have hC5 := hset.clen
  have hok : AllOk C := fun x hx => by have h := hset.cls x hx; have := h.ph; have := h.cl; have := h.si; have := hset.nn; exact ⟨by omega, by omega, by omega⟩
  go_wp2_with fail
  have bW := (hb1.alloc hb1.size (.cells #[.slice none 0 0, .slice none 0 0, .int .i64 per, .int .i64 cap, .int .i64 hold, .int .i64 lock] 27)).alloc (hb1.alloc hb1.size (.cells #[.slice none 0 0, .slice none 0 0, .int .i64 per, .int .i64 cap, .int .i64 hold, .int .i64 lock] 27)).size (.cells #[.int .i64 sp, .int .i64 sg, .slice A n c] 29)
  have bX := lat_alloc (lat_alloc (Below.refl w1.heap.size w1) (.cells #[.slice none 0 0, .slice none 0 0, .int .i64 per, .int .i64 cap, .int .i64 hold, .int .i64 lock] 27)) (.cells #[.int .i64 sp, .int .i64 sg, .slice A n c] 29)
  have B0 := Blk.alloc (Blk.new (w := w1) (t := 27) (cs := #[.slice none 0 0, .slice none 0 0, .int .i64 per, .int .i64 cap, .int .i64 hold, .int .i64 lock])) (.cells #[.int .i64 sp, .int .i64 sg, .slice A n c] 29)
  have B1 := Blk.new (w := w1.alloc (.cells #[.slice none 0 0, .slice none 0 0, .int .i64 per, .int .i64 cap, .int .i64 hold, .int .i64 lock] 27)) (t := 29) (cs := #[.int .i64 sp, .int .i64 sg, .slice A n c])
  rw [heap_size] at B1
  have hI := hIL.grow bX
  have hD := hCB.grow bX
  generalize (w1.alloc (.cells #[.slice none 0 0, .slice none 0 0, .int .i64 per, .int .i64 cap, .int .i64 hold, .int .i64 lock] 27)).alloc (.cells #[.int .i64 sp, .int .i64 sg, .slice A n c] 29) = W at *
  generalize w1.heap.size + 1 = gS at *
  generalize w1.heap.size = gC at *
  clear hIL hCB bX hset
  refine (best_any per cap hold lock sp sg A c n L now B m C.length C W hLn.out hI hnl hS hper hcap hlock hnow rfl hD hok (by omega)).mono ?_
  rintro e w2 ⟨rfl, hb2⟩
  have f0 := B0.below hb2
  have f1 := B1.below hb2
  have hI2 := hI.grow hb2
  have hE2 := hD.grow hb2
  have hW2 := bW.trans (hb2.mono bW.size)
  have hbd := bestK_bd per cap lock L now C C.length
  have hall := best_all (per := per) (cap := cap) (lock := lock) (l := L) (now := now) (C := C) C.length
  clear B0 B1 hI hD hb2 bW
  by_cases hneg : bestK per cap lock L now C C.length = -1
  · have hnone := hall.1 hneg
    rw [hneg]
    have HN := Lib.hid hnone
    have hk1 : ¬ (-1 : Int) < -1 := by omega
    have hk2 : decide ((C.length : Int) ≤ -1) = false := by simp; omega
    clear hall hneg hbd hnone
    go_wp2_with fail
    refine wp_region_grow (by kernel_rfl) (by kernel_rfl) ?_
    repeat' (first
        | go_big_quiet_skip
        | (go_big_quiet_want; first
            | (go_big_quiet_op; go_big_quiet_on)
            | (refine quiet_det ?_; apply Exists.intro; refine ⟨fun w' hC => ?_, ?_⟩; (go_simp <;> (first | rfl | exact ⟨rfl, rfl⟩)); apply Exists.intro; refine ⟨?_, ?_⟩; (go_simp <;> (first | rfl | exact ⟨rfl, rfl⟩)); go_big_quiet_on)
            | (show Oper.quiet _ { dst := _, op := .call { callee := .value _, args := _, argTypes := _ }, type := _, pos := _, after := _, guard := _ } _ _ _; refine quiet_call ?_; apply Exists.intro; apply Exists.intro; refine ⟨fun w' hC => ?_, ?_⟩; (go_simp <;> (first | rfl | exact ⟨rfl, rfl⟩)); apply Exists.intro; refine ⟨fun w' hC => ?_, ?_⟩; (first

                | fail); apply Exists.intro; refine ⟨?_, ?_⟩; (go_simp <;> (first | rfl | exact ⟨rfl, rfl⟩)); go_big_quiet_on)))
    all_goals refine wpQuiet_nil ?_
    intro w3 hw3
    have hnone := HN.out
    have h23 := hW2.trans (hw3.mono hW2.size)
    have f0 := f0.below hw3
    have f1 := f1.below hw3
    have hI2 := hI2.grow hw3
    have hE2 := hE2.grow hw3
    have hW2 := h23
    clear h23 hw3
    generalize hww : w3 = w2 at *
    go_wp2
    go_loopw [49] (fun i wr => ∃ k : Nat, k ≤ C.length ∧ i = .int .i64 k ∧ Below w2.heap.size w2 wr) (fun i _ => C.length - (intOf i).toNat)
    case atStart => exact ⟨0, by omega, rfl, Below.refl _ _⟩
    case round =>
      obtain ⟨i, hi, rfl, hbr⟩ := hrel
      by_cases hlt : i < C.length
      · have hlt' : (i : Int) < C.length := by omega
        have hEr := hE2.grow hbr
        obtain ⟨b, off, rfl, hB, h0, h1, h2, h3, h4⟩ := hEr.at hlt
        have hx := hok _ (clAt_mem hlt)
        have hq : lockC lock L now (clAt C i) = true := hnone _ hlt
        generalize hxx : clAt C i = x at h0 h1 h2 h3 h4 hx hq ⊢
        clear hxx
        have bX := lat_alloc (Below.refl wr.heap.size wr) (.cells #[.int .i64 x.ag, .int .i64 x.id, .int .i64 x.ph, .int .i64 x.cl, .int .i64 x.si] 34)
        have ex := Blk.new (w := wr) (t := 34) (cs := #[.int .i64 x.ag, .int .i64 x.id, .int .i64 x.ph, .int .i64 x.cl, .int .i64 x.si])
        have e0 := (f0.below hbr).below bX
        have e1 := (f1.below hbr).below bX
        have hI3 := (hI2.grow hbr).grow bX
        have hE3 := hEr.grow bX
        have hb3 := hbr.trans (bX.mono hbr.size)
        go_wp2_with fail
        clear h0 h1 h2 h3 h4
        generalize wr.alloc (.cells #[.int .i64 x.ag, .int .i64 x.id, .int .i64 x.ph, .int .i64 x.cl, .int .i64 x.si] 34) = W3 at *
        generalize wr.heap.size = gX at *
        cases hlk : lockC lock L now x with
        | true =>
          have HLK := Lib.hid hlk
          clear hlk hq
          have o0 := e0.laterN 0 rfl
          have o1 := e0.laterN 1 rfl
          have o2 := e0.laterN 2 rfl
          have o3 := e0.laterN 3 rfl
          have o4 := e0.laterN 4 rfl
          have o5 := e0.laterN 5 rfl
          have p0 := e1.laterN 0 rfl
          have p1 := e1.laterN 1 rfl
          have p2 := e1.laterN 2 rfl
          have q0 := ex.laterN 0 rfl
          have q1 := ex.laterN 1 rfl
          have q2 := ex.laterN 2 rfl
          have q3 := ex.laterN 3 rfl
          have q4 := ex.laterN 4 rfl
          refine wp_region_grow (by kernel_rfl) (by kernel_rfl) ?_
          repeat' (first
              | go_big_quiet_skip
              | (go_big_quiet_want; first
                  | (go_big_quiet_op; go_big_quiet_on)
                  | (refine quiet_det ?_; apply Exists.intro; refine ⟨fun w' hC => ?_, ?_⟩; (go_simp <;> (first | rfl | exact ⟨rfl, rfl⟩)); apply Exists.intro; refine ⟨?_, ?_⟩; (go_simp <;> (first | rfl | exact ⟨rfl, rfl⟩)); go_big_quiet_on)
                  | (show Oper.quiet _ { dst := _, op := .call { callee := .value _, args := _, argTypes := _ }, type := _, pos := _, after := _, guard := _ } _ _ _; refine quiet_call ?_; apply Exists.intro; apply Exists.intro; refine ⟨fun w' hC => ?_, ?_⟩; (go_simp <;> (first | rfl | exact ⟨rfl, rfl⟩)); apply Exists.intro; refine ⟨fun w' hC => ?_, ?_⟩; (first
                      | with_reducible exact grow_call (lock_c per cap hold lock sp sg A c n L now x w' hLn.out (hI3.grow hC) hnl hS hlock hnow hx HLK.out) hC
                      | fail); apply Exists.intro; refine ⟨?_, ?_⟩; (go_simp <;> (first | rfl | exact ⟨rfl, rfl⟩)); go_big_quiet_on)))
          all_goals refine wpQuiet_nil ?_
          intro w4 hw4
          clear o0 o1 o2 o3 o4 o5 p0 p1 p2 q0 q1 q2 q3 q4
          go_wp2
          go_roundw
          case rel => exact ⟨i + 1, by omega, by go_num, hb3.trans (hw4.mono hb3.size)⟩
          case measure => simp [intOf]; omega
        | false =>
          have HLK := Lib.hid hlk
          rw [hq] at hlk; cases hlk

      · go_wp2_with fail
        refine (awake_any _).mono ?_; rintro e w9 ⟨rfl, hb9⟩
        go_wp2
        go_ret
        exact ⟨rfl, (hW2.trans (hbr.mono hW2.size)).trans (hb9.mono (hW2.trans (hbr.mono hW2.size)).size)⟩

  · obtain ⟨j, hj⟩ : ∃ j : Nat, bestK per cap lock L now C C.length = j := ⟨(bestK per cap lock L now C C.length).toNat, by omega⟩
    have hbest := (hall.2 j hj).2
    have HJL := Lib.hid (hall.2 j hj).1
    rw [hj] at hbd
    rw [hj]
    have hjC : j < C.length := by omega
    have hjlt : (j : Int) < C.length := by omega
    have hk1 : decide ((j : Int) < -1) = false := decide_eq_false (by omega)
    have hk2 : decide (C.length ≤ j) = false := decide_eq_false (by omega)
    have hk3 : decide ((0 : Int) ≤ j) = true := by simp
    have hk4 : decide ((j : Int) < 0) = false := by simp
    have hy := hok _ (clAt_mem hjC)
    have HB := Lib.hid hbest
    clear hall hneg hbd hj hbest
    obtain ⟨b, off, rfl, hB, hjc⟩ := hE2.at hjC
    obtain ⟨c0, c1, c2, c3, c4⟩ := hjc.later hB
    have o0 := f0.laterN 0 rfl
    have o1 := f0.laterN 1 rfl
    have o2 := f0.laterN 2 rfl
    have o3 := f0.laterN 3 rfl
    have o4 := f0.laterN 4 rfl
    have o5 := f0.laterN 5 rfl
    have p0 := f1.laterN 0 rfl
    have p1 := f1.laterN 1 rfl
    have p2 := f1.laterN 2 rfl
    go_wp2_with fail
    refine wp_region_grow (by kernel_rfl) (by kernel_rfl) ?_
    repeat' (first
        | go_big_quiet_skip
        | (go_big_quiet_want; first
            | (go_big_quiet_op; go_big_quiet_on)
            | (refine quiet_det ?_; apply Exists.intro; refine ⟨fun w' hC => ?_, ?_⟩; (go_simp <;> (first | rfl | exact ⟨rfl, rfl⟩)); apply Exists.intro; refine ⟨?_, ?_⟩; (go_simp <;> (first | rfl | exact ⟨rfl, rfl⟩)); go_big_quiet_on)
            | (show Oper.quiet _ { dst := _, op := .call { callee := .value _, args := _, argTypes := _ }, type := _, pos := _, after := _, guard := _ } _ _ _; refine quiet_call ?_; apply Exists.intro; apply Exists.intro; refine ⟨fun w' hC => ?_, ?_⟩; (go_simp <;> (first | rfl | exact ⟨rfl, rfl⟩)); apply Exists.intro; refine ⟨fun w' hC => ?_, ?_⟩; (first
                | with_reducible exact grow_call (lock_c per cap hold lock sp sg A c n L now (clAt C j) w' hLn.out (hI2.grow hC) hnl hS hlock hnow hy HJL.out) hC
                | fail); apply Exists.intro; refine ⟨?_, ?_⟩; (go_simp <;> (first | rfl | exact ⟨rfl, rfl⟩)); go_big_quiet_on)))
    all_goals refine wpQuiet_nil ?_
    intro w3 hw3
    clear o0 o1 o2 o3 o4 o5 p0 p1 p2 c0 c1 c2 c3 c4
    have hbest := HB.out
    have h23 := hW2.trans (hw3.mono hW2.size)
    have f0 := f0.below hw3
    have f1 := f1.below hw3
    have hI2 := hI2.grow hw3
    have hE2 := hE2.grow hw3
    have hW2 := h23
    clear h23 hw3
    generalize hww : w3 = w2 at *
    go_wp2
    go_loopw [49] (fun i wr => ∃ k : Nat, k ≤ C.length ∧ i = .int .i64 k ∧ Below w2.heap.size w2 wr) (fun i _ => C.length - (intOf i).toNat)
    case atStart => exact ⟨0, by omega, rfl, Below.refl _ _⟩
    case round =>
      obtain ⟨i, hi, rfl, hbr⟩ := hrel
      by_cases hlt : i < C.length
      · have hlt' : (i : Int) < C.length := by omega
        have hEr := hE2.grow hbr
        obtain ⟨b, off, hbo, hB, h0, h1, h2, h3, h4⟩ := hEr.at hlt
        injection hbo with hbo
        injection hbo with q1 q2 _
        subst q1 q2
        have hx := hok _ (clAt_mem hlt)
        have hq : lockC lock L now (clAt C i) = false → lessC per cap L now (clAt C i) (clAt C j) = false := hbest _ hlt
        generalize hxx : clAt C i = x at h0 h1 h2 h3 h4 hx hq ⊢
        clear hxx
        have bX := lat_alloc (Below.refl wr.heap.size wr) (.cells #[.int .i64 x.ag, .int .i64 x.id, .int .i64 x.ph, .int .i64 x.cl, .int .i64 x.si] 34)
        have ex := Blk.new (w := wr) (t := 34) (cs := #[.int .i64 x.ag, .int .i64 x.id, .int .i64 x.ph, .int .i64 x.cl, .int .i64 x.si])
        have e0 := (f0.below hbr).below bX
        have e1 := (f1.below hbr).below bX
        have hI3 := (hI2.grow hbr).grow bX
        have hE3 := hEr.grow bX
        have hb3 := hbr.trans (bX.mono hbr.size)
        go_wp2_with fail
        clear h0 h1 h2 h3 h4
        generalize wr.alloc (.cells #[.int .i64 x.ag, .int .i64 x.id, .int .i64 x.ph, .int .i64 x.cl, .int .i64 x.si] 34) = W3 at *
        generalize wr.heap.size = gX at *
        obtain ⟨bj, offj, hboj, hBj, hjc⟩ := hE3.at hjC
        injection hboj with hboj
        injection hboj with q1 q2 _
        subst q1 q2
        cases hlk : lockC lock L now x with
        | true =>
          have HLK := Lib.hid hlk
          clear hlk hq
          have o0 := e0.laterN 0 rfl
          have o1 := e0.laterN 1 rfl
          have o2 := e0.laterN 2 rfl
          have o3 := e0.laterN 3 rfl
          have o4 := e0.laterN 4 rfl
          have o5 := e0.laterN 5 rfl
          have p0 := e1.laterN 0 rfl
          have p1 := e1.laterN 1 rfl
          have p2 := e1.laterN 2 rfl
          have q0 := ex.laterN 0 rfl
          have q1 := ex.laterN 1 rfl
          have q2 := ex.laterN 2 rfl
          have q3 := ex.laterN 3 rfl
          have q4 := ex.laterN 4 rfl
          refine wp_region_grow (by kernel_rfl) (by kernel_rfl) ?_
          repeat' (first
              | go_big_quiet_skip
              | (go_big_quiet_want; first
                  | (go_big_quiet_op; go_big_quiet_on)
                  | (refine quiet_det ?_; apply Exists.intro; refine ⟨fun w' hC => ?_, ?_⟩; (go_simp <;> (first | rfl | exact ⟨rfl, rfl⟩)); apply Exists.intro; refine ⟨?_, ?_⟩; (go_simp <;> (first | rfl | exact ⟨rfl, rfl⟩)); go_big_quiet_on)
                  | (show Oper.quiet _ { dst := _, op := .call { callee := .value _, args := _, argTypes := _ }, type := _, pos := _, after := _, guard := _ } _ _ _; refine quiet_call ?_; apply Exists.intro; apply Exists.intro; refine ⟨fun w' hC => ?_, ?_⟩; (go_simp <;> (first | rfl | exact ⟨rfl, rfl⟩)); apply Exists.intro; refine ⟨fun w' hC => ?_, ?_⟩; (first
                      | with_reducible exact grow_call (lock_c per cap hold lock sp sg A c n L now x w' hLn.out (hI3.grow hC) hnl hS hlock hnow hx HLK.out) hC
                      | fail); apply Exists.intro; refine ⟨?_, ?_⟩; (go_simp <;> (first | rfl | exact ⟨rfl, rfl⟩)); go_big_quiet_on)))
          all_goals refine wpQuiet_nil ?_
          intro w4 hw4
          clear o0 o1 o2 o3 o4 o5 p0 p1 p2 q0 q1 q2 q3 q4
          go_wp2
          go_roundw
          case rel => exact ⟨i + 1, by omega, by go_num, hb3.trans (hw4.mono hb3.size)⟩
          case measure => simp [intOf]; omega
        | false =>
          have HLK := Lib.hid hlk
          have HLS := Lib.hid (hq hlk)
          clear hlk hq
          obtain ⟨c0, c1, c2, c3, c4⟩ := hjc.later hBj
          have o0 := e0.laterN 0 rfl
          have o1 := e0.laterN 1 rfl
          have o2 := e0.laterN 2 rfl
          have o3 := e0.laterN 3 rfl
          have o4 := e0.laterN 4 rfl
          have o5 := e0.laterN 5 rfl
          have p0 := e1.laterN 0 rfl
          have p1 := e1.laterN 1 rfl
          have p2 := e1.laterN 2 rfl
          have q0 := ex.laterN 0 rfl
          have q1 := ex.laterN 1 rfl
          have q2 := ex.laterN 2 rfl
          have q3 := ex.laterN 3 rfl
          have q4 := ex.laterN 4 rfl
          refine wp_region_grow (by kernel_rfl) (by kernel_rfl) ?_
          repeat' (first
              | go_big_quiet_skip
              | (go_big_quiet_want; first
                  | (go_big_quiet_op; go_big_quiet_on)
                  | (refine quiet_det ?_; apply Exists.intro; refine ⟨fun w' hC => ?_, ?_⟩; (go_simp <;> (first | rfl | exact ⟨rfl, rfl⟩)); apply Exists.intro; refine ⟨?_, ?_⟩; (go_simp <;> (first | rfl | exact ⟨rfl, rfl⟩)); go_big_quiet_on)
                  | (show Oper.quiet _ { dst := _, op := .call { callee := .value _, args := _, argTypes := _ }, type := _, pos := _, after := _, guard := _ } _ _ _; refine quiet_call ?_; apply Exists.intro; apply Exists.intro; refine ⟨fun w' hC => ?_, ?_⟩; (go_simp <;> (first | rfl | exact ⟨rfl, rfl⟩)); apply Exists.intro; refine ⟨fun w' hC => ?_, ?_⟩; (first
                      | with_reducible exact grow_call (lock_c per cap hold lock sp sg A c n L now x w' hLn.out (hI3.grow hC) hnl hS hlock hnow hx HLK.out) hC
                      | with_reducible exact grow_call (less_c per cap hold lock sp sg A c n L now x (clAt C j) w' hLn.out (hI3.grow hC) hnl hS hper hcap hlock hnow hx hy HLS.out) hC
                      | fail); apply Exists.intro; refine ⟨?_, ?_⟩; (go_simp <;> (first | rfl | exact ⟨rfl, rfl⟩)); go_big_quiet_on)))
          all_goals refine wpQuiet_nil ?_
          intro w4 hw4
          clear o0 o1 o2 o3 o4 o5 p0 p1 p2 q0 q1 q2 q3 q4 c0 c1 c2 c3 c4
          go_wp2
          go_roundw
          case rel => exact ⟨i + 1, by omega, by go_num, hb3.trans (hw4.mono hb3.size)⟩
          case measure => simp [intOf]; omega

      · go_wp2_with fail
        refine (awake_any _).mono ?_; rintro e w9 ⟨rfl, hb9⟩
        go_wp2
        go_ret
        exact ⟨rfl, (hW2.trans (hbr.mono hW2.size)).trans (hb9.mono (hW2.trans (hbr.mono hW2.size)).size)⟩

end Go.Proofs.Ytdgmfledhcgncaa
