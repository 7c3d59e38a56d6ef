/-
  The law RankShifts answers true: only differences of ticks matter. Conditions: none.
-/
import Derived.Test.YtdgmfledhcgncaaSfm
import Derived.Test.YtdgmfledhcgncaaAw
namespace Go.Proofs.Ytdgmfledhcgncaa
open Go.ChangeShapes Go.WideShapes Go.RowKit
set_option linter.unusedVariables false

theorem blk_new2 {w : World} {o : Obj} {t : TypeId} {cs : Array Value} : Blk ((w.alloc o).alloc (.cells cs t)) (w.heap.size + 1) t cs := by
  have B := Blk.new (w := w.alloc o) (t := t) (cs := cs)
  rw [heap_size] at B
  exact B
set_option maxRecDepth 100000 in
set_option maxHeartbeats 20000000 in
theorem shiftslaw_any (D : Option Addr) (d : Nat) (l : List Int) (now0 by0 : Int) (w : World) (hs : Ints .i64 w w.heap.size D l) (hn : Nums l) (hl : l.length ≤ 9223372036854775807) (n0 : -9223372036854775808 ≤ now0) (n1 : now0 ≤ 9223372036854775807) (y0 : -9223372036854775808 ≤ by0) (y1 : by0 ≤ 9223372036854775807) :
    Calls Try.prog 7 #[.slice D l.length d, .int .i64 now0, .int .i64 by0] w fun e w' => e = .returned (.bool true) ∧ Below w.heap.size w w' := by
  go_enter Try.func7, Try.ntmps7
  go_wp2_with fail
  refine (mod_any now0 50 (by omega) (by omega) n0 n1 _).mono ?_; rintro e w' ⟨rfl, hw'⟩; subst hw'
  have hnow' := modI_bd now0 50 (by omega)
  generalize modI now0 50 = nw at *
  go_wp2_with fail
  refine (mod_any by0 1000 (by omega) (by omega) y0 y1 _).mono ?_; rintro e w' ⟨rfl, hw'⟩; subst hw'
  have hby := modI_bd by0 1000 (by omega)
  generalize modI by0 1000 = dl at *
  have hnow : 0 ≤ 10 + nw ∧ 10 + nw ≤ 10000 := by omega
  have hnow9 : 10 + nw ≤ 59 := by omega
  clear hnow'
  go_wp2_with fail
  generalize 10 + nw = now at *
  refine (setting_any D d l now w hs hn hl (by omega)).mono ?_
  rintro e w1 ⟨hb1, per, cap, hold, lock, sp, sg, n, A, c, L, B, m, C, rfl, hset, hIL, hCB⟩
  have hper : 1 ≤ per ∧ per ≤ 10000 := by have := hset.per; omega
  have hcap : 0 ≤ cap ∧ cap ≤ 1000 := by have := hset.cap; omega
  have hlock : 0 ≤ lock ∧ lock ≤ 1000 := by have := hset.lock; omega
  have hnl : n ≤ 1000000 := by have := hset.nn; omega
  have hLn := Lib.hid hset.len
  have hS : Small L := fun x hx => by have := hset.upto x hx; omega
  have hC5 := hset.clen
  have hok : AllOk C := fun x hx => by have h := hset.cls x hx; have := h.ph; have := h.cl; have := h.si; have := hset.nn; exact ⟨by omega, by omega, by omega⟩
  go_wp2_with fail
  have bW := (hb1.alloc hb1.size (.cells #[.slice none 0 0, .slice none 0 0, .int .i64 per, .int .i64 cap, .int .i64 hold, .int .i64 lock] 27)).alloc (hb1.alloc hb1.size (.cells #[.slice none 0 0, .slice none 0 0, .int .i64 per, .int .i64 cap, .int .i64 hold, .int .i64 lock] 27)).size (.cells #[.int .i64 sp, .int .i64 sg, .slice A n c] 29)
  have bX := lat_alloc (lat_alloc (Below.refl w1.heap.size w1) (.cells #[.slice none 0 0, .slice none 0 0, .int .i64 per, .int .i64 cap, .int .i64 hold, .int .i64 lock] 27)) (.cells #[.int .i64 sp, .int .i64 sg, .slice A n c] 29)
  have B0 := Blk.alloc (Blk.new (w := w1) (t := 27) (cs := #[.slice none 0 0, .slice none 0 0, .int .i64 per, .int .i64 cap, .int .i64 hold, .int .i64 lock])) (.cells #[.int .i64 sp, .int .i64 sg, .slice A n c] 29)
  have B1 := Blk.new (w := w1.alloc (.cells #[.slice none 0 0, .slice none 0 0, .int .i64 per, .int .i64 cap, .int .i64 hold, .int .i64 lock] 27)) (t := 29) (cs := #[.int .i64 sp, .int .i64 sg, .slice A n c])
  rw [heap_size] at B1
  have hI := hIL.grow bX
  have hD := hCB.grow bX
  have hWS : ((w1.alloc (.cells #[.slice none 0 0, .slice none 0 0, .int .i64 per, .int .i64 cap, .int .i64 hold, .int .i64 lock] 27)).alloc (.cells #[.int .i64 sp, .int .i64 sg, .slice A n c] 29)).heap.size = w1.heap.size + 1 + 1 := by rw [heap_size, heap_size]
  generalize (w1.alloc (.cells #[.slice none 0 0, .slice none 0 0, .int .i64 per, .int .i64 cap, .int .i64 hold, .int .i64 lock] 27)).alloc (.cells #[.int .i64 sp, .int .i64 sg, .slice A n c] 29) = W at *
  generalize w1.heap.size + 1 = gS at *
  generalize w1.heap.size = gC at *
  have hup := hset.upto
  have hsi : ∀ x ∈ C, x.si ≤ now := fun x hx => (hset.cls x hx).si.2
  have hnn := hset.nn
  clear hIL hCB bX hset
  have p0 := B1.at 0 rfl
  have p1 := B1.at 1 rfl
  have p2 := B1.at 2 rfl
  have hWS1 : W.heap.size ≤ gS + 1 := by omega
  have hWS2 : gS + 1 ≤ W.heap.size := by omega
  have T0 := Blk.new (w := W) (t := 29) (cs := #[.int .i64 sp, .int .i64 sg, .slice none 0 0])
  rw [hWS] at T0
  clear hWS
  go_wp2_with fail
  clear p0 p1 p2
  have B1t := B1.alloc (.cells #[.int .i64 sp, .int .i64 sg, .slice none 0 0] 29)
  have bT := lat_alloc (Below.refl W.heap.size W) (.cells #[.int .i64 sp, .int .i64 sg, .slice none 0 0] 29)
  have hnt : W.heap.size < (W.alloc (.cells #[.int .i64 sp, .int .i64 sg, .slice none 0 0] 29)).heap.size := by rw [heap_size]; omega
  generalize W.alloc (.cells #[.int .i64 sp, .int .i64 sg, .slice none 0 0] 29) = W0 at *
  generalize gS + 1 = gT at *
  have p0 := B1t.at 0 rfl
  have p1 := B1t.at 1 rfl
  have p2 := B1t.at 2 rfl
  go_wp2_with fail
  clear p0 p1 p2
  go_loopw [38] (fun i wr => ∃ k : Nat, k ≤ n ∧ i = .int .i64 k ∧ Below W.heap.size W wr ∧ W.heap.size < wr.heap.size ∧ ∃ (v : Value) (M : List Int), Blk wr gT 29 #[.int .i64 sp, .int .i64 sg, v] ∧ Own .i64 3 wr (gT + 1) v M ∧ M.length = k ∧ Hid (M = (L.take k).map (shE dl))) (fun i _ => n - (intOf i).toNat)
  case atStart => exact ⟨0, by omega, rfl, bT, hnt, _, [], T0, Own.nil_ _ _ _ _, rfl, Lib.hid (by simp)⟩
  case round =>
    obtain ⟨k, hk, rfl, hbr, hszr, v, M, BM, own, hMl, HM⟩ := hrel
    by_cases hlt : k < n
    · have hlt' : (k : Int) < n := by omega
      have hkL : k < L.length := by rw [hLn.out]; exact hlt
      obtain ⟨b, off, rfl, hB, hc⟩ := (hI.below hbr).sub hkL
      have hxu := hup _ (at_mem hkL)
      have HG := Lib.hid (at_get hkL)
      clear hkL
      generalize at_ L k = x at *
      have fin : ∀ (y : Int) (z : Hid (y = shE dl x)), y = y → True := fun _ _ _ => trivial
      clear fin
      by_cases hx : x = -1
      · subst hx
        obtain ⟨s0, s1, s2, sf0, sf1, sf2⟩ := BM.three
        go_wp2_with (at_builtin; refine wpList_append_ints rfl (.tmp 48) (.tmp 50) _ rfl (gT + 1) 3 .i64 8 Try.underlying22 int_info v M rfl (own.alloc _) _ 1 [-1] 1 rfl rfl (ints_blk Blk.new) (by simp; omega) (by omega) (by rw [heap_size]; omega) ?_; intro v6 w6 own6 g6 a6; have BM6 := (BM.alloc _).grown g6 (fun e => by have := (own.lt e).1; omega); have hb6 := (lat_alloc hbr _).grown g6 (by rw [heap_size]; omega) (fun k e => by have := (own.lt e).1; omega); have hs6 := g6.size; rw [heap_size] at hs6; obtain ⟨t0, t1, t2, tf0, tf1, tf2⟩ := BM6.three; obtain ⟨A6, c6, hv6⟩ := own_len own6 (show (M ++ [-1]).length = k + 1 by simp [hMl]); subst hv6)
        go_roundw
        case rel => exact ⟨k + 1, by omega, by go_num, hb6.setCell (p := ⟨gT, 2, none⟩) (by simp; omega) _, Nat.lt_of_lt_of_le (by omega) (grownBy_set w6 gT 2 _).size, _, M ++ [-1], BM6.set_ 2 _, own6.grownSet _ (by omega), by simp [hMl], Lib.hid (by rw [HM.out, ← take_next (shE dl) L k _ HG.out]; simp [shE])⟩
        case measure => simp [intOf]; omega
      · have hz : (x != -1) = true := by simpa using hx
        have HX := Lib.hid hx
        clear hx
        obtain ⟨s0, s1, s2, sf0, sf1, sf2⟩ := BM.three
        go_wp2_with (at_builtin; refine wpList_append_ints rfl (.tmp 48) (.tmp 50) _ rfl (gT + 1) 3 .i64 8 Try.underlying22 int_info v M rfl (own.alloc _) _ 1 [x + dl] 1 rfl rfl (ints_blk Blk.new) (by simp; omega) (by omega) (by rw [heap_size]; omega) ?_; intro v6 w6 own6 g6 a6; have BM6 := (BM.alloc _).grown g6 (fun e => by have := (own.lt e).1; omega); have hb6 := (lat_alloc hbr _).grown g6 (by rw [heap_size]; omega) (fun k e => by have := (own.lt e).1; omega); have hs6 := g6.size; rw [heap_size] at hs6; obtain ⟨t0, t1, t2, tf0, tf1, tf2⟩ := BM6.three; obtain ⟨A6, c6, hv6⟩ := own_len own6 (show (M ++ [x + dl]).length = k + 1 by simp [hMl]); subst hv6)
        go_roundw
        case rel => exact ⟨k + 1, by omega, by go_num, hb6.setCell (p := ⟨gT, 2, none⟩) (by simp; omega) _, Nat.lt_of_lt_of_le (by omega) (grownBy_set w6 gT 2 _).size, _, M ++ [x + dl], BM6.set_ 2 _, own6.grownSet _ (by omega), by simp [hMl], Lib.hid (by rw [HM.out, ← take_next (shE dl) L k _ HG.out]; simp [shE, HX.out])⟩
        case measure => simp [intOf]; omega
    · have hkn : k = n := by omega
      subst hkn
      obtain ⟨A2, c2, hv, _, _, hIM⟩ := own.ints
      rw [hMl] at hv
      subst hv
      have HM2 : Hid (M = L.map (shE dl)) := Lib.hid (by rw [HM.out, List.take_of_length_le (by have := hLn.out; omega)])
      clear HM own
      have hMn := Lib.hid hMl
      clear hMl
      have hUM : Small M := by rw [HM2.out]; exact small_sh hup (by omega) (by omega)
      have B0r := B0.below hbr
      have B1r := B1.below hbr
      have hIr := (hI.below hbr).more (Nat.le_of_lt hszr)
      have hDr : Cls wr wr.heap.size B C := fun h0 => by
        obtain ⟨b, off, hA, hB, hc⟩ := hD h0
        exact ⟨b, off, hA, by omega, fun i hi => (hc i hi).below hbr hB⟩
      have bR := bW.trans (hbr.mono bW.size)
      clear hbr hI hD B0 B1 T0 bW B1t bT hnt
      generalize hgg : wr = W1 at *
      clear hgg
      go_wp2_with fail
      go_loopw [13, 56] (fun v i wr => ∃ k : Nat, k ≤ C.length ∧ i = .int .i64 k ∧ Below W1.heap.size W1 wr ∧ ∃ C2 : List Cl, wr.ownsRow W1.heap.size 34 5 v C2.length (C2.flatMap Cl.cells) ∧ C2.length = k ∧ Hid (C2 = (C.take k).map (shC dl))) (fun _ i _ => C.length - (intOf i).toNat)
      case atStart => exact ⟨0, by omega, rfl, Below.refl _ _, [], row_nil, rfl, Lib.hid (by simp)⟩
      case round =>
        obtain ⟨k2, hk2, rfl, hbr, C2, hown, hC2, HC⟩ := hrel
        by_cases hlt2 : k2 < C.length
        · have hlt2' : (k2 : Int) < C.length := by omega
          obtain ⟨b, off, rfl, hB, h0, h1, h2, h3, h4⟩ := (hDr.grow hbr).at hlt2
          have hxs := hsi _ (clAt_mem hlt2)
          have hx := hok _ (clAt_mem hlt2)
          have HG := Lib.hid (clAt_get hlt2)
          generalize clAt C k2 = x at *
          have hxsi := hx.si
          have bA2 := lat_alloc (lat_alloc (Below.refl wr.heap.size wr) (.cells #[.int .i64 x.ag, .int .i64 x.id, .int .i64 x.ph, .int .i64 x.cl, .int .i64 (x.si + dl)] 34)) (.cells #[.int .i64 x.ag, .int .i64 x.id, .int .i64 x.ph, .int .i64 x.cl, .int .i64 (x.si + dl)] 34)
          have hownA := row_block hown (w' := (wr.alloc (.cells #[.int .i64 x.ag, .int .i64 x.id, .int .i64 x.ph, .int .i64 x.cl, .int .i64 (x.si + dl)] 34)).alloc (.cells #[.int .i64 x.ag, .int .i64 x.id, .int .i64 x.ph, .int .i64 x.cl, .int .i64 (x.si + dl)] 34)) (fun b h1 h2 _ => bA2.block b h2)
          have hbA := hbr.trans (bA2.mono hbr.size)
          have hsA := hbA.size
          have hBX : Blk ((wr.alloc (.cells #[.int .i64 x.ag, .int .i64 x.id, .int .i64 x.ph, .int .i64 x.cl, .int .i64 (x.si + dl)] 34)).alloc (.cells #[.int .i64 x.ag, .int .i64 x.id, .int .i64 x.ph, .int .i64 x.cl, .int .i64 (x.si + dl)] 34)) (wr.heap.size + 1) 34 #[.int .i64 x.ag, .int .i64 x.id, .int .i64 x.ph, .int .i64 x.cl, .int .i64 (x.si + dl)] := blk_new2
          go_wp2_with (at_builtin; refine wpList_append_one rfl (.tmp 65) (.tmp 67) _ rfl W1.heap.size 34 _ 5 40 Try.underlying30 claim_info rfl (by omega) u13 C2.length _ rfl hownA (wr.heap.size + 1) 1 34 _ rfl rfl hBX (by simp [Value.oneCell']) (by omega) (by omega) (by omega) ?_; intro g6 c6 w6 own6 hg6 a6 hb6; have hG6 := hbA.grown hg6 hsA (fun k e => (row_lt hownA e).1))
          go_roundw
          case rel => exact ⟨k2 + 1, by omega, by go_num, hG6, C2 ++ [shC dl x], by rw [List.flatMap_append, List.length_append, ← hC2]; exact own6, by simp [hC2], Lib.hid (by rw [HC.out]; exact take_next (shC dl) C k2 x HG.out)⟩
          case measure => simp [intOf]; omega
        · have hkc : C.length = k2 := by omega
          have hCl2 : C2.length = C.length := by omega
          have HC2 : Hid (C2 = C.map (shC dl)) := Lib.hid (by rw [HC.out, List.take_of_length_le (by omega)])
          have HN2 := Lib.hid hCl2
          clear HC hC2 hkc
          obtain ⟨A3, c3, hv, hE2, _⟩ := row_cls hown
          subst hv
          clear hown
          have hok2 : ∀ i, i < C.length → clAt C2 i = shC dl (clAt C i) := fun i hi => by rw [HC2.out]; exact clAt_sh dl hi
          have hokA : AllOk C2 := fun x hx => by
            rw [HC2.out] at hx
            obtain ⟨y, hy, rfl⟩ := List.mem_map.1 hx
            exact ok_sh (hok y hy) (by have := (hok y hy).si; have := hsi y hy; omega)
          have b0 := B0r.below hbr
          have b1 := B1r.below hbr
          have bm := BM.below hbr
          have hI := hIr.grow hbr
          have hJ := hIM.grow hbr
          have hE := hDr.grow hbr
          have bW := bR.trans (hbr.mono bR.size)
          have hdl : 0 ≤ dl := by omega
          have hnow2 : 0 ≤ now + dl ∧ now + dl ≤ 10000 := by omega
          have HLV : ∀ x, ClOk x → levelV per cap M (shC dl x).ph (shC dl x).cl (shC dl x).si (now + dl) = levelV per cap L x.ph x.cl x.si now := fun x hx => by rw [HM2.out]; exact level_sh hS hdl hx.si.1 per cap x.ph x.cl now
          have HLK : ∀ x, lockC lock M (now + dl) (shC dl x) = lockC lock L now x := fun x => by rw [HM2.out]; exact lockC_sh hS hdl lock now x
          have HLS : ∀ x y, ClOk x → ClOk y → lessC per cap M (now + dl) (shC dl x) (shC dl y) = lessC per cap L now x y := fun x y hx hy => by rw [HM2.out]; exact less_sh hS hdl per cap now hx hy
          have HBS : bestK per cap lock M (now + dl) C2 C2.length = bestK per cap lock L now C C.length := by rw [HM2.out, HC2.out, List.length_map]; exact best_sh hS hdl per cap lock now hok _ (Nat.le_refl _)
          have HBS := Lib.hid HBS
          have hoky : ∀ x ∈ C, ClOk (shC dl x) := fun x hx => ok_sh (hok x hx) (by have := (hok x hx).si; have := hsi x hx; omega)
          have hC6 : C.length ≤ 1000000 := by omega
          clear bR hbr B0r B1r BM hIr hIM hDr hC5
          rw [hCl2]
          clear hCl2
          have hwp : IntKind.i64.wrap (now + dl) = now + dl := by rw [IntKind.wrap_i64]; omega
          generalize hgg : wr = W2 at *
          clear hgg
          go_wp2_with fail
          go_loopw [72] (fun i wr => ∃ k : Nat, k ≤ C.length ∧ i = .int .i64 k ∧ Below W2.heap.size W2 wr) (fun i _ => C.length - (intOf i).toNat)
          case atStart => exact ⟨0, by omega, rfl, Below.refl _ _⟩
          case round =>
            obtain ⟨i, hi, rfl, hbr⟩ := hrel
            have d0 := b0.below hbr
            have d1 := b1.below hbr
            have dm := bm.below hbr
            have hI1 := hI.grow hbr
            have hJ1 := hJ.grow hbr
            have hE1 := hE.grow hbr
            have hF1 := hE2.grow hbr
            by_cases hlt : i < C.length
            · have hlt' : (i : Int) < C.length := by omega
              obtain ⟨b, off, rfl, hB, hcx⟩ := hE1.at hlt
              obtain ⟨b2, off2, rfl, hB2, hcy⟩ := hF1.at (by rw [HN2.out]; exact hlt)
              have hx := hok _ (clAt_mem hlt)
              have hy := hoky _ (clAt_mem hlt)
              rw [hok2 i hlt] at hcy
              have HV := Lib.hid (HLV _ hx)
              have HK := Lib.hid (HLK (clAt C i))
              have HS0 : ∀ z, ClOk z → Hid (lessC per cap M (now + dl) (shC dl (clAt C i)) (shC dl z) = lessC per cap L now (clAt C i) z) := fun z hz => Lib.hid (HLS _ z hx hz)
              generalize hyy : shC dl (clAt C i) = y at *
              generalize hxx : clAt C i = x at *
              have HYY := Lib.hid hyy
              have HXX := Lib.hid hxx
              clear hyy hxx
              obtain ⟨c0, c1, c2', c3', c4⟩ := hcx.later hB
              obtain ⟨e0, e1, e2, e3, e4⟩ := hcy.later hB2
              go_wp2_with fail
              have o0 := d0.laterN 0 rfl
              have o1 := d0.laterN 1 rfl
              have o2 := d0.laterN 2 rfl
              have o3 := d0.laterN 3 rfl
              have o4 := d0.laterN 4 rfl
              have o5 := d0.laterN 5 rfl
              have p0 := d1.laterN 0 rfl
              have p1 := d1.laterN 1 rfl
              have p2 := d1.laterN 2 rfl
              have q0 := dm.laterN 0 rfl
              have q1 := dm.laterN 1 rfl
              have q2 := dm.laterN 2 rfl
              refine wp_region_grow (by kernel_rfl) (by kernel_rfl) ?_
              repeat' (first
                  | go_big_quiet_skip
                  | (go_big_quiet_want; first
                      | (go_big_quiet_op; go_big_quiet_on)
                      | (refine quiet_det ?_; apply Exists.intro; refine ⟨fun w' hC => ?_, ?_⟩; (go_simp <;> (first | rfl | exact ⟨rfl, rfl⟩)); apply Exists.intro; refine ⟨?_, ?_⟩; (go_simp <;> (first | rfl | exact ⟨rfl, rfl⟩)); go_big_quiet_on)
                      | (show Oper.quiet _ { dst := _, op := .call { callee := .value _, args := _, argTypes := _ }, type := _, pos := _, after := _, guard := _ } _ _ _; refine quiet_call ?_; apply Exists.intro; apply Exists.intro; refine ⟨fun w' hC => ?_, ?_⟩; (go_simp <;> (first | rfl | exact ⟨rfl, rfl⟩)); apply Exists.intro; refine ⟨fun w' hC => ?_, ?_⟩; (first
                          | with_reducible exact grow_call (level_c per cap hold lock sp sg A c k L now x w' hLn.out (hI1.grow hC) hnl hS hper hcap hlock hnow hx rfl) hC
                          | with_reducible exact grow_call (level_c per cap hold lock sp sg A2 c2 k M (now + dl) y w' hMn.out (hJ1.grow hC) hnl hUM hper hcap hlock hnow2 hy HV.out) hC
                          | with_reducible exact grow_call (lock_c per cap hold lock sp sg A c k L now x w' hLn.out (hI1.grow hC) hnl hS hlock hnow hx rfl) hC
                          | with_reducible exact grow_call (lock_c per cap hold lock sp sg A2 c2 k M (now + dl) y w' hMn.out (hJ1.grow hC) hnl hUM hlock hnow2 hy HK.out) hC
                          | fail); apply Exists.intro; refine ⟨?_, ?_⟩; (go_simp <;> (first | rfl | exact ⟨rfl, rfl⟩)); go_big_quiet_on)))
              all_goals refine wpQuiet_nil ?_
              intro w2 hb2
              clear c0 c1 c2' c3' c4 e0 e1 e2 e3 e4 o0 o1 o2 o3 o4 o5 p0 p1 p2 q0 q1 q2
              have f0 := d0.below hb2
              have f1 := d1.below hb2
              have fm := dm.below hb2
              have hI2 := hI1.grow hb2
              have hJ2 := hJ1.grow hb2
              have hE2 := hE1.grow hb2
              have hF2 := hF1.grow hb2
              have hbz := hbr.trans (hb2.mono hbr.size)
              clear d0 d1 dm hI1 hJ1 hE1 hF1 hcx hcy hB hB2
              go_wp2
              go_loopw [117] (fun i wr => ∃ k : Nat, k ≤ C.length ∧ i = .int .i64 k ∧ Below w2.heap.size w2 wr) (fun i _ => C.length - (intOf i).toNat)
              case atStart => exact ⟨0, by omega, rfl, Below.refl _ _⟩
              case round =>
                obtain ⟨j, hj, rfl, hbs⟩ := hrel
                have d0 := f0.below hbs
                have d1 := f1.below hbs
                have dm := fm.below hbs
                have hI3 := hI2.grow hbs
                have hJ3 := hJ2.grow hbs
                have hE3 := hE2.grow hbs
                have hF3 := hF2.grow hbs
                by_cases hltj : j < C.length
                · have hltj' : (j : Int) < C.length := by omega
                  obtain ⟨b3, off3, hbe, hB, hcx⟩ := hE3.at hlt
                  injection hbe with hbe
                  injection hbe with q1 q2 _
                  subst q1 q2
                  obtain ⟨b3, off3, hbe, hB2, hcy⟩ := hF3.at (by rw [HN2.out]; exact hlt)
                  injection hbe with hbe
                  injection hbe with q1 q2 _
                  subst q1 q2
                  obtain ⟨b3, off3, hbe, _, hcz⟩ := hE3.at hltj
                  injection hbe with hbe
                  injection hbe with q1 q2 _
                  subst q1 q2
                  obtain ⟨b3, off3, hbe, _, hcu⟩ := hF3.at (by rw [HN2.out]; exact hltj)
                  injection hbe with hbe
                  injection hbe with q1 q2 _
                  subst q1 q2
                  have hz := hok _ (clAt_mem hltj)
                  have hu := hoky _ (clAt_mem hltj)
                  have HS := HS0 _ hz
                  rw [HXX.out] at hcx
                  rw [hok2 i hlt, HXX.out, HYY.out] at hcy
                  rw [hok2 j hltj] at hcu
                  generalize shC dl (clAt C j) = u at *
                  generalize clAt C j = z at *
                  obtain ⟨c0, c1, c2', c3', c4⟩ := hcx.later hB
                  obtain ⟨e0, e1, e2, e3, e4⟩ := hcy.later hB2
                  obtain ⟨g0, g1, g2, g3, g4⟩ := hcz.later hB
                  obtain ⟨h0, h1, h2, h3, h4⟩ := hcu.later hB2
                  go_wp2_with fail
                  have o0 := d0.laterN 0 rfl
                  have o1 := d0.laterN 1 rfl
                  have o2 := d0.laterN 2 rfl
                  have o3 := d0.laterN 3 rfl
                  have o4 := d0.laterN 4 rfl
                  have o5 := d0.laterN 5 rfl
                  have p0 := d1.laterN 0 rfl
                  have p1 := d1.laterN 1 rfl
                  have p2 := d1.laterN 2 rfl
                  have q0 := dm.laterN 0 rfl
                  have q1 := dm.laterN 1 rfl
                  have q2 := dm.laterN 2 rfl
                  refine wp_region_grow (by kernel_rfl) (by kernel_rfl) ?_
                  repeat' (first
                      | go_big_quiet_skip
                      | (go_big_quiet_want; first
                          | (go_big_quiet_op; go_big_quiet_on)
                          | (refine quiet_det ?_; apply Exists.intro; refine ⟨fun w' hC => ?_, ?_⟩; (go_simp <;> (first | rfl | exact ⟨rfl, rfl⟩)); apply Exists.intro; refine ⟨?_, ?_⟩; (go_simp <;> (first | rfl | exact ⟨rfl, rfl⟩)); go_big_quiet_on)
                          | (show Oper.quiet _ { dst := _, op := .call { callee := .value _, args := _, argTypes := _ }, type := _, pos := _, after := _, guard := _ } _ _ _; refine quiet_call ?_; apply Exists.intro; apply Exists.intro; refine ⟨fun w' hC => ?_, ?_⟩; (go_simp <;> (first | rfl | exact ⟨rfl, rfl⟩)); apply Exists.intro; refine ⟨fun w' hC => ?_, ?_⟩; (first
                              | with_reducible exact grow_call (less_c per cap hold lock sp sg A c k L now x z w' hLn.out (hI3.grow hC) hnl hS hper hcap hlock hnow hx hz rfl) hC
                              | with_reducible exact grow_call (less_c per cap hold lock sp sg A2 c2 k M (now + dl) y u w' hMn.out (hJ3.grow hC) hnl hUM hper hcap hlock hnow2 hy hu HS.out) hC
                              | fail); apply Exists.intro; refine ⟨?_, ?_⟩; (go_simp <;> (first | rfl | exact ⟨rfl, rfl⟩)); go_big_quiet_on)))
                  all_goals refine wpQuiet_nil ?_
                  intro w4 hb4
                  clear c0 c1 c2' c3' c4 e0 e1 e2 e3 e4 o0 o1 o2 o3 o4 o5 p0 p1 p2 q0 q1 q2 g0 g1 g2 g3 g4 h0 h1 h2 h3 h4
                  go_wp2
                  go_roundw
                  case rel => exact ⟨j + 1, by omega, by go_num, hbs.trans (hb4.mono hbs.size)⟩
                  case measure => simp [intOf]; omega
                · go_wp2
                  go_roundw
                  case rel => exact ⟨i + 1, by omega, by go_num, hbz.trans (hbs.mono hbz.size)⟩
                  case measure => simp [intOf]; omega
            · go_wp2_with fail
              have o0 := d0.laterN 0 rfl
              have o1 := d0.laterN 1 rfl
              have o2 := d0.laterN 2 rfl
              have o3 := d0.laterN 3 rfl
              have o4 := d0.laterN 4 rfl
              have o5 := d0.laterN 5 rfl
              have p0 := d1.laterN 0 rfl
              have p1 := d1.laterN 1 rfl
              have p2 := d1.laterN 2 rfl
              have q0 := dm.laterN 0 rfl
              have q1 := dm.laterN 1 rfl
              have q2 := dm.laterN 2 rfl
              refine wp_region_grow (by kernel_rfl) (by kernel_rfl) ?_
              repeat' (first
                  | go_big_quiet_skip
                  | (go_big_quiet_want; first
                      | (go_big_quiet_op; go_big_quiet_on)
                      | (refine quiet_det ?_; apply Exists.intro; refine ⟨fun w' hC => ?_, ?_⟩; (go_simp <;> (first | rfl | exact ⟨rfl, rfl⟩)); apply Exists.intro; refine ⟨?_, ?_⟩; (go_simp <;> (first | rfl | exact ⟨rfl, rfl⟩)); go_big_quiet_on)
                      | (show Oper.quiet _ { dst := _, op := .call { callee := .value _, args := _, argTypes := _ }, type := _, pos := _, after := _, guard := _ } _ _ _; refine quiet_call ?_; apply Exists.intro; apply Exists.intro; refine ⟨fun w' hC => ?_, ?_⟩; (go_simp <;> (first | rfl | exact ⟨rfl, rfl⟩)); apply Exists.intro; refine ⟨fun w' hC => ?_, ?_⟩; (first
                          | with_reducible exact grow_call (best_c per cap hold lock sp sg A c k L now B m C.length C w' hLn.out (hI1.grow hC) hnl hS hper hcap hlock hnow rfl (hE1.grow hC) hok hC6 rfl) hC
                          | with_reducible exact grow_call (best_c per cap hold lock sp sg A2 c2 k M (now + dl) A3 c3 C.length C2 w' hMn.out (hJ1.grow hC) hnl hUM hper hcap hlock hnow2 HN2.out (hF1.grow hC) hokA hC6 HBS.out) hC
                          | with_reducible exact grow_call (awake_any w') hC
                          | fail); apply Exists.intro; refine ⟨?_, ?_⟩; (go_simp <;> (first | rfl | exact ⟨rfl, rfl⟩)); go_big_quiet_on)))
              all_goals refine wpQuiet_nil ?_
              intro w4 hb4
              clear o0 o1 o2 o3 o4 o5 p0 p1 p2 q0 q1 q2
              go_wp2
              go_ret
              exact ⟨rfl, (bW.trans (hbr.mono bW.size)).trans (hb4.mono (bW.trans (hbr.mono bW.size)).size)⟩
end Go.Proofs.Ytdgmfledhcgncaa
