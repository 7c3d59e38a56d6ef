/-
  The law ArbiterDecides answers true: its walk. Conditions: none.
-/
import Derived.Test.YtikffoepndpfjaaDc
import Derived.Test.YtikffoepndpfjaaAw
import Derived.Test.YtikffoepndpfjaaMk
import Derived.Test.YtikffoepndpfjaaCm
namespace Go.Proofs.Ytikffoepndpfjaa
open Go.ChangeShapes Go.WideShapes Go.RowKit
set_option linter.unusedVariables false

set_option maxRecDepth 20000 in
set_option maxHeartbeats 40000000 in
theorem decideslaw_any (rp rg : Int) (RA : Option Addr) (rn rc : Nat) (RE : List Int) (D : Option Addr) (d : Nat) (l : List Int) (m0 now0 : Int) (green : Bool) (w : World) (hrn : RE.length = rn) (hrI : Ints .i64 w w.heap.size RA RE) (hrl : rn ≤ 9223372036854775807) (hs : Ints .i64 w w.heap.size D l) (hnm : Nums l) (hl : l.length ≤ 9223372036854775807) (m1 : -9223372036854775808 ≤ m0) (m2 : m0 ≤ 9223372036854775807) (nw1 : -9223372036854775808 ≤ now0) (nw2 : now0 ≤ 9223372036854775807) :
    Calls Try.prog 3 #[.agg #[.int .i64 rp, .int .i64 rg, .slice RA rn rc], .slice D l.length d, .int .i64 m0, .int .i64 now0, .bool green] w fun e w' => e = .returned (.bool true) ∧ Below w.heap.size w w' := by
  have b0 := lat_alloc (Below.refl w.heap.size w) (.cells #[.int .i64 rp, .int .i64 rg, .slice RA rn rc] 24)
  have R5 := Blk.new (w := w) (t := 24) (cs := #[.int .i64 rp, .int .i64 rg, .slice RA rn rc])
  have hrI0 := hrI.grow b0
  have HRN := Lib.hid hrn
  clear hrn
  by_cases hbig : 20 < rn
  · have z : decide ((rn : Int) > 20) = true := by simp; omega
    have o0 := R5.at 0 rfl
    have o1 := R5.at 1 rfl
    have o2 := R5.at 2 rfl
    go_enter Try.func3, Try.ntmps3
    go_wp2_with fail
    clear o0 o1 o2
    generalize w.alloc (.cells #[.int .i64 rp, .int .i64 rg, .slice RA rn rc] 24) = W at *
    refine (awake_any W).mono ?_
    rintro e w4 ⟨rfl, hw4⟩
    go_wp2
    go_ret
    exact ⟨rfl, b0.trans (hw4.mono b0.size)⟩
  · have z : decide ((rn : Int) > 20) = false := by simp; omega
    have o0 := R5.at 0 rfl
    have o1 := R5.at 1 rfl
    have o2 := R5.at 2 rfl
    go_enter Try.func3, Try.ntmps3
    go_wp2_with fail
    clear o0 o1 o2 z
    generalize w.alloc (.cells #[.int .i64 rp, .int .i64 rg, .slice RA rn rc] 24) = W at *
    refine (new_ok D l d W ((hs.below b0).more b0.size) hnm hl).mono ?_
    rintro e W1 ⟨rfl, hd1, hb1, hlt1⟩
    have b1 := b0.trans (hb1.mono b0.size)
    have S5 := R5.below hb1
    have hrI1 := hrI0.grow hb1
    have hwW := R5.lt
    have hRb : ∀ a, RA = some a → 0 < rn → a.block < W.heap.size := fun a ha h0 => by
      obtain ⟨b, off, h1, h2, _⟩ := hrI0 (by have := HRN.out; omega)
      rw [ha] at h1
      injection h1 with h1
      subst h1
      exact h2
    generalize W.heap.size = g at *
    go_wp2_with fail
    refine (mod_any now0 60 (by omega) (by omega) nw1 nw2 _).mono ?_; rintro e w' ⟨rfl, hw'⟩; subst hw'
    have hnow := modI_bd now0 60 (by omega)
    generalize modI now0 60 = now at *
    go_wp2_with fail
    refine (range_ok g 1 5 W1 hd1 (by omega) (by omega) (by omega)).mono ?_
    rintro e W2 ⟨hg2, hd2, per, p0, p1, rfl⟩
    go_wp2_with fail
    refine (next_ok g 6 W2 hd2 (by omega) (by omega)).mono ?_
    rintro e W3 ⟨hg3, hd3, cap, q0, q1, rfl⟩
    go_wp2_with fail
    refine (range_ok g 1 4 W3 hd3 (by omega) (by omega) (by omega)).mono ?_
    rintro e W4 ⟨hg4, hd4, hold, r0, r1, rfl⟩
    go_wp2_with fail
    refine (next_ok g 7 W4 hd4 (by omega) (by omega)).mono ?_
    rintro e W5 ⟨hg5, hd5, lock, s0, s1, rfl⟩
    have hG5 := ((hg2.trans hg3).trans hg4).trans hg5
    go_wp2_with fail
    have bB := lat_alloc (Below.refl W5.heap.size W5) (.cells #[.slice none 0 0, .slice none 0 0, .int .i64 per, .int .i64 cap, .int .i64 hold, .int .i64 lock] 33)
    have R8 := Blk.new (w := W5) (t := 33) (cs := #[.slice none 0 0, .slice none 0 0, .int .i64 per, .int .i64 cap, .int .i64 hold, .int .i64 lock])
    have hd6 := hd5.below bB
    have hG6 := hG5.trans (Gr.of_below bB)
    have h8 : g ≠ W5.heap.size := by have := hd5.lt; omega
    generalize W5.alloc (.cells #[.slice none 0 0, .slice none 0 0, .int .i64 per, .int .i64 cap, .int .i64 hold, .int .i64 lock] 33) = W6 at *
    generalize W5.heap.size = g8 at *
    refine (range_ok g 1 8 W6 hd6 (by omega) (by omega) (by omega)).mono ?_
    rintro e W7 ⟨hg7, hd7, k, n0, n1, rfl⟩
    obtain ⟨k, rfl⟩ := Int.eq_ofNat_of_zero_le (show 0 ≤ k by omega)
    go_wp2_with fail
    refine (service_any g k now W7 hd7 (by omega) (by omega)).mono ?_
    rintro e W8 ⟨hg8, hd8, sp, sg, A, c, L, rfl, sp0, sp1, sg0, sg1, hL, hup, hLI, hLf⟩
    go_wp2_with fail
    refine (claims_any g k now W8 hd8 (by omega) (by omega)).mono ?_
    rintro e W9 ⟨hg9, hd9, DC, dc, C, rfl, hC5, hCin, hCls, hCf⟩
    have hgw : w.heap.size ≠ g := by omega
    have hG9 := ((hG6.trans hg7).trans hg8).trans hg9
    have T5 := hG9.blk S5 hgw
    have T8 := ((hg7.trans hg8).trans hg9).blk R8 (fun e => h8 e.symm)
    have hg7l := hd7.lt
    have hLI9 := hLI.gr hg9 (fun a ha => by have := hLf a ha; omega)
    have hrI9 : Ints .i64 W9 W9.heap.size RA RE := fun h0 => (hrI1.gr hG9 (fun a ha => by have := hRb a ha (by have := HRN.out; omega); omega)) h0
    have bz9 := hG9.base b1 (by omega)
    have bS := lat_alloc (Below.refl W9.heap.size W9) (.cells #[.int .i64 sp, .int .i64 sg, .slice A k c] 24)
    have B14 := (Blk.new (w := W9) (t := 24) (cs := #[.int .i64 sp, .int .i64 sg, .slice A k c])).alloc (.cells #[.int .i64 rp, .int .i64 rg, .slice RA rn rc, .int .i64 sp, .int .i64 sg, .slice A k c] 24)
    have bL := lat_alloc bS (.cells #[.int .i64 rp, .int .i64 rg, .slice RA rn rc, .int .i64 sp, .int .i64 sg, .slice A k c] 24)
    have BL := Blk.new (w := W9.alloc (.cells #[.int .i64 sp, .int .i64 sg, .slice A k c] 24)) (t := 24) (cs := #[.int .i64 rp, .int .i64 rg, .slice RA rn rc, .int .i64 sp, .int .i64 sg, .slice A k c])
    rw [heap_size] at BL
    have U5 := T5.below bL
    have U8 := T8.below bL
    have V5 := T5.below bS
    have V14 := Blk.new (w := W9) (t := 24) (cs := #[.int .i64 sp, .int .i64 sg, .slice A k c])
    have hLIx := hLI9.grow bL
    have hrIx := hrI9.grow bL
    have hClx := hCls.grow bL
    have bzx := bz9.trans (bL.mono bz9.size)
    have HLN := Lib.hid hL
    clear hL
    have o0 := V5.at 0 rfl
    have o1 := V5.at 1 rfl
    have o2 := V5.at 2 rfl
    have p0 := V14.at 0 rfl
    have p1 := V14.at 1 rfl
    have p2 := V14.at 2 rfl
    go_wp2_with fail
    clear o0 o1 o2 p0 p1 p2 V5 V14
    have hltX := BL.lt
    generalize (W9.alloc (.cells #[.int .i64 sp, .int .i64 sg, .slice A k c] 24)).alloc (.cells #[.int .i64 rp, .int .i64 rg, .slice RA rn rc, .int .i64 sp, .int .i64 sg, .slice A k c] 24) = X at *
    go_loopw [51] (fun i wr => ∃ q : Nat, q ≤ 2 ∧ i = .int .i64 q ∧ Below X.heap.size X wr) (fun i _ => 2 - (intOf i).toNat)
    case atStart => exact ⟨0, by omega, rfl, Below.refl _ _⟩
    case round =>
      obtain ⟨q, hq, rfl, hbq⟩ := hrel
      by_cases hlt : q < 2
      · rcases (show q = 0 ∨ q = 1 by omega) with rfl | rfl
        · have hrn' : rn ≤ 1000000 := by omega
          have YL := BL.below hbq
          have y0 := YL.at 0 rfl
          have y1 := YL.at 1 rfl
          have y2 := YL.at 2 rfl
          have y3 := YL.at 3 rfl
          have y4 := YL.at 4 rfl
          have y5 := YL.at 5 rfl
          have bT := lat_alloc (Below.refl wr.heap.size wr) (.cells #[.int .i64 rp, .int .i64 rg, .slice RA rn rc] 24)
          have BT := Blk.new (w := wr) (t := 24) (cs := #[.int .i64 rp, .int .i64 rg, .slice RA rn rc])
          have hIT := (hrIx.grow hbq).grow bT
          have hbT := hbq.trans (bT.mono hbq.size)
          go_wp2_with fail
          clear y0 y1 y2 y3 y4 y5
          generalize wr.alloc (.cells #[.int .i64 rp, .int .i64 rg, .slice RA rn rc] 24) = Y at *
          have p0 := BT.laterN 0 rfl
          have p1 := BT.laterN 1 rfl
          have p2 := BT.laterN 2 rfl
          refine wp_region_grow (by kernel_rfl) (by kernel_rfl) ?_
          repeat' (first
              | go_big_quiet_skip
              | (go_big_quiet_want; first
                  | (go_big_quiet_op; go_big_quiet_on)
                  | (refine quiet_det ?_; apply Exists.intro; refine ⟨fun w' hC => ?_, ?_⟩; (go_simp <;> (first | rfl | exact ⟨rfl, rfl⟩)); apply Exists.intro; refine ⟨?_, ?_⟩; (go_simp <;> (first | rfl | exact ⟨rfl, rfl⟩)); go_big_quiet_on)
                  | (show Oper.quiet _ { dst := _, op := .call { callee := .value _, args := _, argTypes := _ }, type := _, pos := _, after := _, guard := _ } _ _ _; refine quiet_call ?_; apply Exists.intro; apply Exists.intro; refine ⟨fun w' hC => ?_, ?_⟩; (go_simp <;> (first | rfl | exact ⟨rfl, rfl⟩)); apply Exists.intro; refine ⟨fun w' hC => ?_, ?_⟩; (first
                      | with_reducible exact grow_call (valid_any rp rg RA rn rc RE (k : Int) w' HRN.out (hIT.grow hC) (by omega)) hC
                      | with_reducible exact grow_call (rvalid_any rp rg RA rn rc RE (k : Int) w' HRN.out (hIT.grow hC) (by omega)) hC
                      | with_reducible exact grow_call (valid_any rp rg RA rn rc RE (rn : Int) w' HRN.out (hIT.grow hC) (by omega)) hC
                      | with_reducible exact grow_call (rvalid_any rp rg RA rn rc RE (rn : Int) w' HRN.out (hIT.grow hC) (by omega)) hC
                      | fail); apply Exists.intro; refine ⟨?_, ?_⟩; (go_simp <;> (first | rfl | exact ⟨rfl, rfl⟩)); go_big_quiet_on)))
          all_goals refine wpQuiet_nil ?_
          intro w3 hw3
          clear p0 p1 p2
          go_wp2
          go_roundw
          case rel => exact ⟨1, by omega, by go_num, hbT.trans (hw3.mono hbT.size)⟩
          case measure => simp [intOf]
        · have YL := BL.below hbq
          have y0 := YL.at 0 rfl
          have y1 := YL.at 1 rfl
          have y2 := YL.at 2 rfl
          have y3 := YL.at 3 rfl
          have y4 := YL.at 4 rfl
          have y5 := YL.at 5 rfl
          have bT := lat_alloc (Below.refl wr.heap.size wr) (.cells #[.int .i64 sp, .int .i64 sg, .slice A k c] 24)
          have BT := Blk.new (w := wr) (t := 24) (cs := #[.int .i64 sp, .int .i64 sg, .slice A k c])
          have hIT := (hLIx.grow hbq).grow bT
          have hbT := hbq.trans (bT.mono hbq.size)
          go_wp2_with fail
          clear y0 y1 y2 y3 y4 y5
          generalize wr.alloc (.cells #[.int .i64 sp, .int .i64 sg, .slice A k c] 24) = Y at *
          have p0 := BT.laterN 0 rfl
          have p1 := BT.laterN 1 rfl
          have p2 := BT.laterN 2 rfl
          refine wp_region_grow (by kernel_rfl) (by kernel_rfl) ?_
          repeat' (first
              | go_big_quiet_skip
              | (go_big_quiet_want; first
                  | (go_big_quiet_op; go_big_quiet_on)
                  | (refine quiet_det ?_; apply Exists.intro; refine ⟨fun w' hC => ?_, ?_⟩; (go_simp <;> (first | rfl | exact ⟨rfl, rfl⟩)); apply Exists.intro; refine ⟨?_, ?_⟩; (go_simp <;> (first | rfl | exact ⟨rfl, rfl⟩)); go_big_quiet_on)
                  | (show Oper.quiet _ { dst := _, op := .call { callee := .value _, args := _, argTypes := _ }, type := _, pos := _, after := _, guard := _ } _ _ _; refine quiet_call ?_; apply Exists.intro; apply Exists.intro; refine ⟨fun w' hC => ?_, ?_⟩; (go_simp <;> (first | rfl | exact ⟨rfl, rfl⟩)); apply Exists.intro; refine ⟨fun w' hC => ?_, ?_⟩; (first
                      | with_reducible exact grow_call (valid_any sp sg A k c L (k : Int) w' HLN.out (hIT.grow hC) (by omega)) hC
                      | with_reducible exact grow_call (rvalid_any sp sg A k c L (k : Int) w' HLN.out (hIT.grow hC) (by omega)) hC
                      | with_reducible exact grow_call (valid_any sp sg A k c L (k : Int) w' HLN.out (hIT.grow hC) (by omega)) hC
                      | with_reducible exact grow_call (rvalid_any sp sg A k c L (k : Int) w' HLN.out (hIT.grow hC) (by omega)) hC
                      | fail); apply Exists.intro; refine ⟨?_, ?_⟩; (go_simp <;> (first | rfl | exact ⟨rfl, rfl⟩)); go_big_quiet_on)))
          all_goals refine wpQuiet_nil ?_
          intro w3 hw3
          clear p0 p1 p2
          go_wp2
          go_roundw
          case rel => exact ⟨2, by omega, by go_num, hbT.trans (hw3.mono hbT.size)⟩
          case measure => simp [intOf]
      · have G14 := B14.below hbq
        have G8c := U8.below hbq
        have hLIw := hLIx.grow hbq
        have hClw := hClx.grow hbq
        have bzw := bzx.trans (hbq.mono bzx.size)
        go_wp2_with fail
        refine (mod_any m0 10 (by omega) (by omega) m1 m2 _).mono ?_; rintro e w' ⟨rfl, hw'⟩; subst hw'
        have hmm := modI_bd m0 10 (by omega)
        generalize modI m0 10 = mq at *
        obtain ⟨mm, rfl⟩ := Int.eq_ofNat_of_zero_le (show 0 ≤ mq by omega)
        have HSm : Hid (Small L) := Lib.hid (fun x hx => by have := hup x hx; omega)
        have HUp : Hid (∀ y ∈ L, y ≤ now) := Lib.hid (fun x hx => (hup x hx).2)
        have HOk : Hid (AllOk C) := Lib.hid (fun x hx => by have h := hCin x hx; have := h.ph; have := h.cl; have := h.si; exact ⟨by omega, by omega, by omega⟩)
        have HSi : Hid (∀ x ∈ C, x.si ≤ now) := Lib.hid (fun x hx => (hCin x hx).si.2)
        obtain ⟨E8, hE8⟩ : ∃ E8, endE sp sg L now = E8 := ⟨_, rfl⟩
        have HE8 := Lib.hid hE8
        obtain ⟨G8, hG8⟩ : ∃ G8, grC green sp sg = G8 := ⟨_, rfl⟩
        have HG8 := Lib.hid hG8
        obtain ⟨⟨P, G, E9⟩, hDT⟩ : ∃ T, decT per cap hold lock sp sg L C now = T := ⟨_, rfl⟩
        have HDT := Lib.hid hDT
        clear hE8 hG8 hDT hup hCin
        go_wp2_with fail
        have hg14 := G14.lt
        clear hG9 hg7 hg8 hg9 hG6 hG5 T5 T8 U5 BL hrI9 hLI9 hrI1 hrI0 hCls
        generalize W9.heap.size = g14 at *
        generalize hgW : wr = W at *
        clear hgW
        refine wp_region_preg (R := Bl) 39 117 [fun v _ => v = .int .i64 mm, fun v w => ∃ (A : Option Addr) (c : Nat), v = .agg #[.int .i64 (-1), .int .i64 0, .slice A mm c] ∧ Ints .i64 w (w).heap.size A (List.replicate mm (-1)) ∧ (List.replicate mm (-1)).length = mm, fun v _ => v = .int .i64 mm, fun v w => ∃ (A : Option Addr) (c : Nat), v = .agg #[.int .i64 (-1), .int .i64 0, .slice A mm c] ∧ Ints .i64 w (w).heap.size A (List.replicate mm (-1)) ∧ (List.replicate mm (-1)).length = mm, fun v _ => v = .bool true, fun v _ => v = .bool true, fun v _ => v = .agg #[.int .i64 sp, .int .i64 sg, .slice A k c], fun v _ => v = .int .i64 now, fun v w => ∃ (A : Option Addr) (c : Nat), v = .agg #[.int .i64 (-1), .int .i64 0, .slice A k c] ∧ Ints .i64 w (w).heap.size A E8 ∧ E8.length = k, fun v _ => v = .agg #[.int .i64 sp, .int .i64 sg, .slice A k c], fun v _ => v = .int .i64 now, fun v w => ∃ (A : Option Addr) (c : Nat), v = .agg #[.int .i64 (-1), .int .i64 0, .slice A k c] ∧ Ints .i64 w (w).heap.size A E8 ∧ E8.length = k, fun v _ => v = .bool true, fun v _ => v = .bool true, fun v _ => v = .bool true, fun v _ => v = .agg #[.slice none 0 0, .slice none 0 0, .int .i64 per, .int .i64 cap, .int .i64 hold, .int .i64 lock], fun v _ => v = .agg #[.int .i64 sp, .int .i64 sg, .slice A k c], fun v _ => v = .slice DC C.length dc, fun v _ => v = .int .i64 now, fun v w => ∃ (A : Option Addr) (c : Nat), v = .agg #[.int .i64 P, .int .i64 G, .slice A k c] ∧ Ints .i64 w (w).heap.size A E9 ∧ E9.length = k, fun v _ => v = .agg #[.slice none 0 0, .slice none 0 0, .int .i64 per, .int .i64 cap, .int .i64 hold, .int .i64 lock], fun v _ => v = .agg #[.int .i64 sp, .int .i64 sg, .slice A k c], fun v _ => v = .slice DC C.length dc, fun v _ => v = .int .i64 now, fun v w => ∃ (A : Option Addr) (c : Nat), v = .agg #[.int .i64 P, .int .i64 G, .slice A k c] ∧ Ints .i64 w (w).heap.size A E9 ∧ E9.length = k, fun v _ => v = .bool true, fun v _ => v = .bool true, fun v _ => v = .bool true, fun v _ => v = .agg #[.int .i64 sp, .int .i64 sg, .slice A k c], fun v _ => v = .bool green, fun v w => ∃ (A : Option Addr) (c : Nat), v = .agg #[.int .i64 sp, .int .i64 G8, .slice A k c] ∧ Ints .i64 w (w).heap.size A L ∧ L.length = k, fun v _ => v = .agg #[.int .i64 sp, .int .i64 sg, .slice A k c], fun v _ => v = .bool green, fun v w => ∃ (A : Option Addr) (c : Nat), v = .agg #[.int .i64 sp, .int .i64 G8, .slice A k c] ∧ Ints .i64 w (w).heap.size A L ∧ L.length = k, fun v _ => v = .bool true, fun v _ => v = .bool true, fun v _ => v = .bool true, fun v _ => v = .bool true, fun v _ => v = .bool true] (Bl.trans) (Bl.drew) (by kernel_rfl) (fun _ _ d _ _ h => by cases d <;> exact h) rfl (by kernel_rfl) (stay_cons (stays_v _) (stay_cons (fun v w w1 h hb => by obtain ⟨A, c, h1, h2, h3⟩ := h; exact ⟨A, c, h1, h2.grow hb, h3⟩) (stay_cons (stays_v _) (stay_cons (fun v w w1 h hb => by obtain ⟨A, c, h1, h2, h3⟩ := h; exact ⟨A, c, h1, h2.grow hb, h3⟩) (stay_cons (stays_v _) (stay_cons (stays_v _) (stay_cons (stays_v _) (stay_cons (stays_v _) (stay_cons (fun v w w1 h hb => by obtain ⟨A, c, h1, h2, h3⟩ := h; exact ⟨A, c, h1, h2.grow hb, h3⟩) (stay_cons (stays_v _) (stay_cons (stays_v _) (stay_cons (fun v w w1 h hb => by obtain ⟨A, c, h1, h2, h3⟩ := h; exact ⟨A, c, h1, h2.grow hb, h3⟩) (stay_cons (stays_v _) (stay_cons (stays_v _) (stay_cons (stays_v _) (stay_cons (stays_v _) (stay_cons (stays_v _) (stay_cons (stays_v _) (stay_cons (stays_v _) (stay_cons (fun v w w1 h hb => by obtain ⟨A, c, h1, h2, h3⟩ := h; exact ⟨A, c, h1, h2.grow hb, h3⟩) (stay_cons (stays_v _) (stay_cons (stays_v _) (stay_cons (stays_v _) (stay_cons (stays_v _) (stay_cons (fun v w w1 h hb => by obtain ⟨A, c, h1, h2, h3⟩ := h; exact ⟨A, c, h1, h2.grow hb, h3⟩) (stay_cons (stays_v _) (stay_cons (stays_v _) (stay_cons (stays_v _) (stay_cons (stays_v _) (stay_cons (stays_v _) (stay_cons (fun v w w1 h hb => by obtain ⟨A, c, h1, h2, h3⟩ := h; exact ⟨A, c, h1, h2.grow hb, h3⟩) (stay_cons (stays_v _) (stay_cons (stays_v _) (stay_cons (fun v w w1 h hb => by obtain ⟨A, c, h1, h2, h3⟩ := h; exact ⟨A, c, h1, h2.grow hb, h3⟩) (stay_cons (stays_v _) (stay_cons (stays_v _) (stay_cons (stays_v _) (stay_cons (stays_v _) (stay_cons (stays_v _) (stay_nil)))))))))))))))))))))))))))))))))))))))) ?_ ?_ ?_
        · simp only [List.take_succ_cons, List.take_zero]
          exact guards_none rfl (guards_none rfl (guards_none rfl (guards_none rfl (guards_none rfl (guards_none rfl (guards_some 5 true rfl (fun _ _ h => h) (guards_some 5 true rfl (fun _ _ h => h) (guards_some 5 true rfl (fun _ _ h => h) (guards_some 5 true rfl (fun _ _ h => h) (guards_some 5 true rfl (fun _ _ h => h) (guards_some 5 true rfl (fun _ _ h => h) (guards_some 5 true rfl (fun _ _ h => h) (guards_none rfl (guards_none rfl (guards_some 14 true rfl (fun _ _ h => h) (guards_some 14 true rfl (fun _ _ h => h) (guards_some 14 true rfl (fun _ _ h => h) (guards_some 14 true rfl (fun _ _ h => h) (guards_some 14 true rfl (fun _ _ h => h) (guards_some 14 true rfl (fun _ _ h => h) (guards_some 14 true rfl (fun _ _ h => h) (guards_some 14 true rfl (fun _ _ h => h) (guards_some 14 true rfl (fun _ _ h => h) (guards_some 14 true rfl (fun _ _ h => h) (guards_some 14 true rfl (fun _ _ h => h) (guards_none rfl (guards_none rfl (guards_some 27 true rfl (fun _ _ h => h) (guards_some 27 true rfl (fun _ _ h => h) (guards_some 27 true rfl (fun _ _ h => h) (guards_some 27 true rfl (fun _ _ h => h) (guards_some 27 true rfl (fun _ _ h => h) (guards_some 27 true rfl (fun _ _ h => h) (guards_some 27 true rfl (fun _ _ h => h) (guards_none rfl (guards_none rfl (guards_some 36 true rfl (fun _ _ h => h) (guards_none rfl (guards_nil)))))))))))))))))))))))))))))))))))))))
        · simp only [List.take_succ_cons, List.take_zero]
          refine steps_cons (Bl.refl) (fun ev xw hb hc hf hfr hd hr => ?_) ?_
          · have e18 : ev (.tmp 18) = .int .i64 mm := hfr 18 (by kernel_rfl)
            clear hfr hd
            show OpOk _ _ ev xw fun v w' => Bl xw w' ∧ (v = .int .i64 mm)
            refine opOk_hid (fun Rp HR => ?_)
            unfold OpOk
            go_simp
            rw [HR.out]
            exact ⟨hr, rfl⟩
          refine steps_cons (Bl.refl) (fun ev xw hb hc hf hfr hd hr => ?_) ?_
          · have e78 : ev (.tmp 78) = .int .i64 mm := hd 0 78 (by kernel_rfl)
            clear hfr hd
            show OpOk _ _ ev xw fun v w' => Bl xw w' ∧ (∃ (A : Option Addr) (c : Nat), v = .agg #[.int .i64 (-1), .int .i64 0, .slice A mm c] ∧ Ints .i64 w' (w').heap.size A (List.replicate mm (-1)) ∧ (List.replicate mm (-1)).length = mm)
            refine opOk_hid (fun Rp HR => ?_)
            unfold OpOk
            go_simp
            refine (new_any mm xw (by omega)).mono ?_
            intro e w'' hS
            obtain ⟨A, c, rfl, hw, ho⟩ := hS
            refine ⟨_, rfl, ?_⟩
            rw [HR.out]
            exact ⟨hw, A, c, rfl, ho.intsN.1, ho.intsN.2⟩
          refine steps_cons (Bl.refl) (fun ev xw hb hc hf hfr hd hr => ?_) ?_
          · have e18 : ev (.tmp 18) = .int .i64 mm := hfr 18 (by kernel_rfl)
            clear hfr hd
            show OpOk _ _ ev xw fun v w' => Bl xw w' ∧ (v = .int .i64 mm)
            refine opOk_hid (fun Rp HR => ?_)
            unfold OpOk
            go_simp
            rw [HR.out]
            exact ⟨hr, rfl⟩
          refine steps_cons (Bl.refl) (fun ev xw hb hc hf hfr hd hr => ?_) ?_
          · have e80 : ev (.tmp 80) = .int .i64 mm := hd 2 80 (by kernel_rfl)
            clear hfr hd
            show OpOk _ _ ev xw fun v w' => Bl xw w' ∧ (∃ (A : Option Addr) (c : Nat), v = .agg #[.int .i64 (-1), .int .i64 0, .slice A mm c] ∧ Ints .i64 w' (w').heap.size A (List.replicate mm (-1)) ∧ (List.replicate mm (-1)).length = mm)
            refine opOk_hid (fun Rp HR => ?_)
            unfold OpOk
            go_simp
            refine (rnew_any mm xw (by omega)).mono ?_
            intro e w'' hS
            obtain ⟨A, c, rfl, hw, ho, hn8, _⟩ := hS
            refine ⟨_, rfl, ?_⟩
            rw [HR.out]
            exact ⟨hw, A, c, rfl, ho, hn8⟩
          refine steps_cons (Bl.refl) (fun ev xw hb hc hf hfr hd hr => ?_) ?_
          · obtain ⟨A79, c79, e79, I79, N79⟩ : ∃ (A : Option Addr) (c : Nat), ev (.tmp 79) = .agg #[.int .i64 (-1), .int .i64 0, .slice A mm c] ∧ Ints .i64 xw (xw).heap.size A (List.replicate mm (-1)) ∧ (List.replicate mm (-1)).length = mm := hd 1 79 (by kernel_rfl)
            obtain ⟨A81, c81, e81, I81, N81⟩ : ∃ (A : Option Addr) (c : Nat), ev (.tmp 81) = .agg #[.int .i64 (-1), .int .i64 0, .slice A mm c] ∧ Ints .i64 xw (xw).heap.size A (List.replicate mm (-1)) ∧ (List.replicate mm (-1)).length = mm := hd 3 81 (by kernel_rfl)
            clear hfr hd
            show OpOk _ _ ev xw fun v w' => Bl xw w' ∧ (v = .bool true)
            refine opOk_hid (fun Rp HR => ?_)
            unfold OpOk
            go_simp
            refine (rsame_any (-1) 0 A79 A81 mm c79 c81 (List.replicate mm (-1)) xw N79 I79 I81 (by omega)).mono ?_
            rintro e w'' ⟨rfl, hw⟩
            refine ⟨_, rfl, ?_⟩
            rw [HR.out]
            exact ⟨hw, rfl⟩
          refine steps_cons (Bl.refl) (fun ev xw hb hc hf hfr hd hr => ?_) ?_
          · have e82 : ev (.tmp 82) = .bool true := hd 4 82 (by kernel_rfl)
            clear hfr hd
            show OpOk _ _ ev xw fun v w' => Bl xw w' ∧ (v = .bool true)
            refine opOk_hid (fun Rp HR => ?_)
            unfold OpOk
            go_simp
            rw [HR.out]
            exact ⟨hr, rfl⟩
          refine steps_cons (Bl.refl) (fun ev xw hb hc hf hfr hd hr => ?_) ?_
          · have e14 : ev (.tmp 14) = .pointer (some ⟨g14, 0, none⟩) := hfr 14 (by kernel_rfl)
            clear hfr hd
            have o0 := (G14.below hb).at 0 rfl
            have o1 := (G14.below hb).at 1 rfl
            have o2 := (G14.below hb).at 2 rfl
            show OpOk _ _ ev xw fun v w' => Bl xw w' ∧ (v = .agg #[.int .i64 sp, .int .i64 sg, .slice A k c])
            refine opOk_hid (fun Rp HR => ?_)
            unfold OpOk
            go_simp
            rw [HR.out]
            exact ⟨hr, rfl⟩
          refine steps_cons (Bl.refl) (fun ev xw hb hc hf hfr hd hr => ?_) ?_
          · have e3 : ev (.tmp 3) = .int .i64 now := hfr 3 (by kernel_rfl)
            clear hfr hd
            show OpOk _ _ ev xw fun v w' => Bl xw w' ∧ (v = .int .i64 now)
            refine opOk_hid (fun Rp HR => ?_)
            unfold OpOk
            go_simp
            rw [HR.out]
            exact ⟨hr, rfl⟩
          refine steps_cons (Bl.refl) (fun ev xw hb hc hf hfr hd hr => ?_) ?_
          · have e84 : ev (.tmp 84) = .agg #[.int .i64 sp, .int .i64 sg, .slice A k c] := hd 6 84 (by kernel_rfl)
            have e85 : ev (.tmp 85) = .int .i64 now := hd 7 85 (by kernel_rfl)
            clear hfr hd
            show OpOk _ _ ev xw fun v w' => Bl xw w' ∧ (∃ (A : Option Addr) (c : Nat), v = .agg #[.int .i64 (-1), .int .i64 0, .slice A k c] ∧ Ints .i64 w' (w').heap.size A E8 ∧ E8.length = k)
            refine opOk_hid (fun Rp HR => ?_)
            unfold OpOk
            go_simp
            have hc0 := end_any sp sg A k c L now xw HLN.out (hLIw.grow hb) (by omega) (by omega)
            rw [HE8.out] at hc0
            refine (hc0).mono ?_
            intro e w'' hS
            obtain ⟨A, c, rfl, hw, ho⟩ := hS
            refine ⟨_, rfl, ?_⟩
            rw [HR.out]
            exact ⟨hw, A, c, rfl, ho.intsN.1, ho.intsN.2⟩
          refine steps_cons (Bl.refl) (fun ev xw hb hc hf hfr hd hr => ?_) ?_
          · have e14 : ev (.tmp 14) = .pointer (some ⟨g14, 0, none⟩) := hfr 14 (by kernel_rfl)
            clear hfr hd
            have o0 := (G14.below hb).at 0 rfl
            have o1 := (G14.below hb).at 1 rfl
            have o2 := (G14.below hb).at 2 rfl
            show OpOk _ _ ev xw fun v w' => Bl xw w' ∧ (v = .agg #[.int .i64 sp, .int .i64 sg, .slice A k c])
            refine opOk_hid (fun Rp HR => ?_)
            unfold OpOk
            go_simp
            rw [HR.out]
            exact ⟨hr, rfl⟩
          refine steps_cons (Bl.refl) (fun ev xw hb hc hf hfr hd hr => ?_) ?_
          · have e3 : ev (.tmp 3) = .int .i64 now := hfr 3 (by kernel_rfl)
            clear hfr hd
            show OpOk _ _ ev xw fun v w' => Bl xw w' ∧ (v = .int .i64 now)
            refine opOk_hid (fun Rp HR => ?_)
            unfold OpOk
            go_simp
            rw [HR.out]
            exact ⟨hr, rfl⟩
          refine steps_cons (Bl.refl) (fun ev xw hb hc hf hfr hd hr => ?_) ?_
          · have e87 : ev (.tmp 87) = .agg #[.int .i64 sp, .int .i64 sg, .slice A k c] := hd 9 87 (by kernel_rfl)
            have e88 : ev (.tmp 88) = .int .i64 now := hd 10 88 (by kernel_rfl)
            clear hfr hd
            show OpOk _ _ ev xw fun v w' => Bl xw w' ∧ (∃ (A : Option Addr) (c : Nat), v = .agg #[.int .i64 (-1), .int .i64 0, .slice A k c] ∧ Ints .i64 w' (w').heap.size A E8 ∧ E8.length = k)
            refine opOk_hid (fun Rp HR => ?_)
            unfold OpOk
            go_simp
            have hc0 := rend_any sp sg A k c L now xw HLN.out (hLIw.grow hb) (by omega)
            rw [HE8.out] at hc0
            refine (hc0).mono ?_
            intro e w'' hS
            obtain ⟨A, c, rfl, hw, ho, hn8, _⟩ := hS
            refine ⟨_, rfl, ?_⟩
            rw [HR.out]
            exact ⟨hw, A, c, rfl, ho, hn8⟩
          refine steps_cons (Bl.refl) (fun ev xw hb hc hf hfr hd hr => ?_) ?_
          · obtain ⟨A86, c86, e86, I86, N86⟩ : ∃ (A : Option Addr) (c : Nat), ev (.tmp 86) = .agg #[.int .i64 (-1), .int .i64 0, .slice A k c] ∧ Ints .i64 xw (xw).heap.size A E8 ∧ E8.length = k := hd 8 86 (by kernel_rfl)
            obtain ⟨A89, c89, e89, I89, N89⟩ : ∃ (A : Option Addr) (c : Nat), ev (.tmp 89) = .agg #[.int .i64 (-1), .int .i64 0, .slice A k c] ∧ Ints .i64 xw (xw).heap.size A E8 ∧ E8.length = k := hd 11 89 (by kernel_rfl)
            clear hfr hd
            show OpOk _ _ ev xw fun v w' => Bl xw w' ∧ (v = .bool true)
            refine opOk_hid (fun Rp HR => ?_)
            unfold OpOk
            go_simp
            refine (rsame_any (-1) 0 A86 A89 k c86 c89 E8 xw N86 I86 I89 (by omega)).mono ?_
            rintro e w'' ⟨rfl, hw⟩
            refine ⟨_, rfl, ?_⟩
            rw [HR.out]
            exact ⟨hw, rfl⟩
          refine steps_cons (Bl.refl) (fun ev xw hb hc hf hfr hd hr => ?_) ?_
          · have e83 : ev (.tmp 83) = .bool true := hd 5 83 (by kernel_rfl)
            have e90 : ev (.tmp 90) = .bool true := hd 12 90 (by kernel_rfl)
            clear hfr hd
            show OpOk _ _ ev xw fun v w' => Bl xw w' ∧ (v = .bool true)
            refine opOk_hid (fun Rp HR => ?_)
            unfold OpOk
            go_simp
            rw [HR.out]
            exact ⟨hr, rfl⟩
          refine steps_cons (Bl.refl) (fun ev xw hb hc hf hfr hd hr => ?_) ?_
          · have e91 : ev (.tmp 91) = .bool true := hd 13 91 (by kernel_rfl)
            clear hfr hd
            show OpOk _ _ ev xw fun v w' => Bl xw w' ∧ (v = .bool true)
            refine opOk_hid (fun Rp HR => ?_)
            unfold OpOk
            go_simp
            rw [HR.out]
            exact ⟨hr, rfl⟩
          refine steps_cons (Bl.refl) (fun ev xw hb hc hf hfr hd hr => ?_) ?_
          · have e12 : ev (.tmp 12) = .pointer (some ⟨g8, 0, none⟩) := hfr 12 (by kernel_rfl)
            clear hfr hd
            have r0 := (G8c.below hb).at 0 rfl
            have r1 := (G8c.below hb).at 1 rfl
            have r2 := (G8c.below hb).at 2 rfl
            have r3 := (G8c.below hb).at 3 rfl
            have r4 := (G8c.below hb).at 4 rfl
            have r5 := (G8c.below hb).at 5 rfl
            show OpOk _ _ ev xw fun v w' => Bl xw w' ∧ (v = .agg #[.slice none 0 0, .slice none 0 0, .int .i64 per, .int .i64 cap, .int .i64 hold, .int .i64 lock])
            refine opOk_hid (fun Rp HR => ?_)
            unfold OpOk
            go_simp
            rw [HR.out]
            exact ⟨hr, rfl⟩
          refine steps_cons (Bl.refl) (fun ev xw hb hc hf hfr hd hr => ?_) ?_
          · have e14 : ev (.tmp 14) = .pointer (some ⟨g14, 0, none⟩) := hfr 14 (by kernel_rfl)
            clear hfr hd
            have o0 := (G14.below hb).at 0 rfl
            have o1 := (G14.below hb).at 1 rfl
            have o2 := (G14.below hb).at 2 rfl
            show OpOk _ _ ev xw fun v w' => Bl xw w' ∧ (v = .agg #[.int .i64 sp, .int .i64 sg, .slice A k c])
            refine opOk_hid (fun Rp HR => ?_)
            unfold OpOk
            go_simp
            rw [HR.out]
            exact ⟨hr, rfl⟩
          refine steps_cons (Bl.refl) (fun ev xw hb hc hf hfr hd hr => ?_) ?_
          · have e15 : ev (.tmp 15) = .slice DC C.length dc := hfr 15 (by kernel_rfl)
            clear hfr hd
            show OpOk _ _ ev xw fun v w' => Bl xw w' ∧ (v = .slice DC C.length dc)
            refine opOk_hid (fun Rp HR => ?_)
            unfold OpOk
            go_simp
            rw [HR.out]
            exact ⟨hr, rfl⟩
          refine steps_cons (Bl.refl) (fun ev xw hb hc hf hfr hd hr => ?_) ?_
          · have e3 : ev (.tmp 3) = .int .i64 now := hfr 3 (by kernel_rfl)
            clear hfr hd
            show OpOk _ _ ev xw fun v w' => Bl xw w' ∧ (v = .int .i64 now)
            refine opOk_hid (fun Rp HR => ?_)
            unfold OpOk
            go_simp
            rw [HR.out]
            exact ⟨hr, rfl⟩
          refine steps_cons (Bl.refl) (fun ev xw hb hc hf hfr hd hr => ?_) ?_
          · have e93 : ev (.tmp 93) = .agg #[.slice none 0 0, .slice none 0 0, .int .i64 per, .int .i64 cap, .int .i64 hold, .int .i64 lock] := hd 15 93 (by kernel_rfl)
            have e94 : ev (.tmp 94) = .agg #[.int .i64 sp, .int .i64 sg, .slice A k c] := hd 16 94 (by kernel_rfl)
            have e95 : ev (.tmp 95) = .slice DC C.length dc := hd 17 95 (by kernel_rfl)
            have e96 : ev (.tmp 96) = .int .i64 now := hd 18 96 (by kernel_rfl)
            clear hfr hd
            show OpOk _ _ ev xw fun v w' => Bl xw w' ∧ (∃ (A : Option Addr) (c : Nat), v = .agg #[.int .i64 P, .int .i64 G, .slice A k c] ∧ Ints .i64 w' (w').heap.size A E9 ∧ E9.length = k)
            refine opOk_hid (fun Rp HR => ?_)
            unfold OpOk
            go_simp
            have hc0 := decide_any per cap hold lock sp sg A k c L DC dc C now xw HLN.out (hLIw.grow hb) (by omega) (by omega) HSm.out (by omega) (by omega) (by omega) (by omega) (hClw.grow hb) HOk.out (by omega)
            rw [HDT.out] at hc0
            refine (hc0).mono ?_
            intro e w'' hS
            obtain ⟨A, c, rfl, hw, ho⟩ := hS
            refine ⟨_, rfl, ?_⟩
            rw [HR.out]
            exact ⟨hw, A, c, rfl, ho.intsN.1, ho.intsN.2⟩
          refine steps_cons (Bl.refl) (fun ev xw hb hc hf hfr hd hr => ?_) ?_
          · have e12 : ev (.tmp 12) = .pointer (some ⟨g8, 0, none⟩) := hfr 12 (by kernel_rfl)
            clear hfr hd
            have r0 := (G8c.below hb).at 0 rfl
            have r1 := (G8c.below hb).at 1 rfl
            have r2 := (G8c.below hb).at 2 rfl
            have r3 := (G8c.below hb).at 3 rfl
            have r4 := (G8c.below hb).at 4 rfl
            have r5 := (G8c.below hb).at 5 rfl
            show OpOk _ _ ev xw fun v w' => Bl xw w' ∧ (v = .agg #[.slice none 0 0, .slice none 0 0, .int .i64 per, .int .i64 cap, .int .i64 hold, .int .i64 lock])
            refine opOk_hid (fun Rp HR => ?_)
            unfold OpOk
            go_simp
            rw [HR.out]
            exact ⟨hr, rfl⟩
          refine steps_cons (Bl.refl) (fun ev xw hb hc hf hfr hd hr => ?_) ?_
          · have e14 : ev (.tmp 14) = .pointer (some ⟨g14, 0, none⟩) := hfr 14 (by kernel_rfl)
            clear hfr hd
            have o0 := (G14.below hb).at 0 rfl
            have o1 := (G14.below hb).at 1 rfl
            have o2 := (G14.below hb).at 2 rfl
            show OpOk _ _ ev xw fun v w' => Bl xw w' ∧ (v = .agg #[.int .i64 sp, .int .i64 sg, .slice A k c])
            refine opOk_hid (fun Rp HR => ?_)
            unfold OpOk
            go_simp
            rw [HR.out]
            exact ⟨hr, rfl⟩
          refine steps_cons (Bl.refl) (fun ev xw hb hc hf hfr hd hr => ?_) ?_
          · have e15 : ev (.tmp 15) = .slice DC C.length dc := hfr 15 (by kernel_rfl)
            clear hfr hd
            show OpOk _ _ ev xw fun v w' => Bl xw w' ∧ (v = .slice DC C.length dc)
            refine opOk_hid (fun Rp HR => ?_)
            unfold OpOk
            go_simp
            rw [HR.out]
            exact ⟨hr, rfl⟩
          refine steps_cons (Bl.refl) (fun ev xw hb hc hf hfr hd hr => ?_) ?_
          · have e3 : ev (.tmp 3) = .int .i64 now := hfr 3 (by kernel_rfl)
            clear hfr hd
            show OpOk _ _ ev xw fun v w' => Bl xw w' ∧ (v = .int .i64 now)
            refine opOk_hid (fun Rp HR => ?_)
            unfold OpOk
            go_simp
            rw [HR.out]
            exact ⟨hr, rfl⟩
          refine steps_cons (Bl.refl) (fun ev xw hb hc hf hfr hd hr => ?_) ?_
          · have e98 : ev (.tmp 98) = .agg #[.slice none 0 0, .slice none 0 0, .int .i64 per, .int .i64 cap, .int .i64 hold, .int .i64 lock] := hd 20 98 (by kernel_rfl)
            have e99 : ev (.tmp 99) = .agg #[.int .i64 sp, .int .i64 sg, .slice A k c] := hd 21 99 (by kernel_rfl)
            have e100 : ev (.tmp 100) = .slice DC C.length dc := hd 22 100 (by kernel_rfl)
            have e101 : ev (.tmp 101) = .int .i64 now := hd 23 101 (by kernel_rfl)
            clear hfr hd
            show OpOk _ _ ev xw fun v w' => Bl xw w' ∧ (∃ (A : Option Addr) (c : Nat), v = .agg #[.int .i64 P, .int .i64 G, .slice A k c] ∧ Ints .i64 w' (w').heap.size A E9 ∧ E9.length = k)
            refine opOk_hid (fun Rp HR => ?_)
            unfold OpOk
            go_simp
            have hc0 := rdecide_any per cap hold lock sp sg A k c L DC dc C now xw HLN.out (hLIw.grow hb) (by omega) HSm.out (by omega) (by omega) (by omega) (by omega) (hClw.grow hb) HOk.out (by omega) HSi.out HUp.out
            rw [HDT.out] at hc0
            refine (hc0).mono ?_
            intro e w'' hS
            obtain ⟨A, c, rfl, hw, ho, hn8, _⟩ := hS
            refine ⟨_, rfl, ?_⟩
            rw [HR.out]
            exact ⟨hw, A, c, rfl, ho, hn8⟩
          refine steps_cons (Bl.refl) (fun ev xw hb hc hf hfr hd hr => ?_) ?_
          · obtain ⟨A97, c97, e97, I97, N97⟩ : ∃ (A : Option Addr) (c : Nat), ev (.tmp 97) = .agg #[.int .i64 P, .int .i64 G, .slice A k c] ∧ Ints .i64 xw (xw).heap.size A E9 ∧ E9.length = k := hd 19 97 (by kernel_rfl)
            obtain ⟨A102, c102, e102, I102, N102⟩ : ∃ (A : Option Addr) (c : Nat), ev (.tmp 102) = .agg #[.int .i64 P, .int .i64 G, .slice A k c] ∧ Ints .i64 xw (xw).heap.size A E9 ∧ E9.length = k := hd 24 102 (by kernel_rfl)
            clear hfr hd
            show OpOk _ _ ev xw fun v w' => Bl xw w' ∧ (v = .bool true)
            refine opOk_hid (fun Rp HR => ?_)
            unfold OpOk
            go_simp
            refine (rsame_any P G A97 A102 k c97 c102 E9 xw N97 I97 I102 (by omega)).mono ?_
            rintro e w'' ⟨rfl, hw⟩
            refine ⟨_, rfl, ?_⟩
            rw [HR.out]
            exact ⟨hw, rfl⟩
          refine steps_cons (Bl.refl) (fun ev xw hb hc hf hfr hd hr => ?_) ?_
          · have e92 : ev (.tmp 92) = .bool true := hd 14 92 (by kernel_rfl)
            have e103 : ev (.tmp 103) = .bool true := hd 25 103 (by kernel_rfl)
            clear hfr hd
            show OpOk _ _ ev xw fun v w' => Bl xw w' ∧ (v = .bool true)
            refine opOk_hid (fun Rp HR => ?_)
            unfold OpOk
            go_simp
            rw [HR.out]
            exact ⟨hr, rfl⟩
          refine steps_cons (Bl.refl) (fun ev xw hb hc hf hfr hd hr => ?_) ?_
          · have e104 : ev (.tmp 104) = .bool true := hd 26 104 (by kernel_rfl)
            clear hfr hd
            show OpOk _ _ ev xw fun v w' => Bl xw w' ∧ (v = .bool true)
            refine opOk_hid (fun Rp HR => ?_)
            unfold OpOk
            go_simp
            rw [HR.out]
            exact ⟨hr, rfl⟩
          refine steps_cons (Bl.refl) (fun ev xw hb hc hf hfr hd hr => ?_) ?_
          · have e14 : ev (.tmp 14) = .pointer (some ⟨g14, 0, none⟩) := hfr 14 (by kernel_rfl)
            clear hfr hd
            have o0 := (G14.below hb).at 0 rfl
            have o1 := (G14.below hb).at 1 rfl
            have o2 := (G14.below hb).at 2 rfl
            show OpOk _ _ ev xw fun v w' => Bl xw w' ∧ (v = .agg #[.int .i64 sp, .int .i64 sg, .slice A k c])
            refine opOk_hid (fun Rp HR => ?_)
            unfold OpOk
            go_simp
            rw [HR.out]
            exact ⟨hr, rfl⟩
          refine steps_cons (Bl.refl) (fun ev xw hb hc hf hfr hd hr => ?_) ?_
          · have e4 : ev (.tmp 4) = .bool green := hfr 4 (by kernel_rfl)
            clear hfr hd
            show OpOk _ _ ev xw fun v w' => Bl xw w' ∧ (v = .bool green)
            refine opOk_hid (fun Rp HR => ?_)
            unfold OpOk
            go_simp
            rw [HR.out]
            exact ⟨hr, rfl⟩
          refine steps_cons (Bl.refl) (fun ev xw hb hc hf hfr hd hr => ?_) ?_
          · have e106 : ev (.tmp 106) = .agg #[.int .i64 sp, .int .i64 sg, .slice A k c] := hd 28 106 (by kernel_rfl)
            have e107 : ev (.tmp 107) = .bool green := hd 29 107 (by kernel_rfl)
            clear hfr hd
            show OpOk _ _ ev xw fun v w' => Bl xw w' ∧ (∃ (A : Option Addr) (c : Nat), v = .agg #[.int .i64 sp, .int .i64 G8, .slice A k c] ∧ Ints .i64 w' (w').heap.size A L ∧ L.length = k)
            refine opOk_hid (fun Rp HR => ?_)
            unfold OpOk
            go_simp
            have hc0 := count_any sp sg A k c L green xw HLN.out (hLIw.grow hb) (by omega) (by omega) (by omega)
            rw [HG8.out] at hc0
            refine (hc0).mono ?_
            intro e w'' hS
            obtain ⟨A, c, rfl, hw, ho⟩ := hS
            refine ⟨_, rfl, ?_⟩
            rw [HR.out]
            exact ⟨hw, A, c, rfl, ho.intsN.1, ho.intsN.2⟩
          refine steps_cons (Bl.refl) (fun ev xw hb hc hf hfr hd hr => ?_) ?_
          · have e14 : ev (.tmp 14) = .pointer (some ⟨g14, 0, none⟩) := hfr 14 (by kernel_rfl)
            clear hfr hd
            have o0 := (G14.below hb).at 0 rfl
            have o1 := (G14.below hb).at 1 rfl
            have o2 := (G14.below hb).at 2 rfl
            show OpOk _ _ ev xw fun v w' => Bl xw w' ∧ (v = .agg #[.int .i64 sp, .int .i64 sg, .slice A k c])
            refine opOk_hid (fun Rp HR => ?_)
            unfold OpOk
            go_simp
            rw [HR.out]
            exact ⟨hr, rfl⟩
          refine steps_cons (Bl.refl) (fun ev xw hb hc hf hfr hd hr => ?_) ?_
          · have e4 : ev (.tmp 4) = .bool green := hfr 4 (by kernel_rfl)
            clear hfr hd
            show OpOk _ _ ev xw fun v w' => Bl xw w' ∧ (v = .bool green)
            refine opOk_hid (fun Rp HR => ?_)
            unfold OpOk
            go_simp
            rw [HR.out]
            exact ⟨hr, rfl⟩
          refine steps_cons (Bl.refl) (fun ev xw hb hc hf hfr hd hr => ?_) ?_
          · have e109 : ev (.tmp 109) = .agg #[.int .i64 sp, .int .i64 sg, .slice A k c] := hd 31 109 (by kernel_rfl)
            have e110 : ev (.tmp 110) = .bool green := hd 32 110 (by kernel_rfl)
            clear hfr hd
            show OpOk _ _ ev xw fun v w' => Bl xw w' ∧ (∃ (A : Option Addr) (c : Nat), v = .agg #[.int .i64 sp, .int .i64 G8, .slice A k c] ∧ Ints .i64 w' (w').heap.size A L ∧ L.length = k)
            refine opOk_hid (fun Rp HR => ?_)
            unfold OpOk
            go_simp
            have hc0 := rcount_any sp sg A k c L green xw HLN.out (hLIw.grow hb) (by omega) (by omega)
            rw [HG8.out] at hc0
            refine (hc0).mono ?_
            intro e w'' hS
            obtain ⟨A, c, rfl, hw, ho, hn8, _⟩ := hS
            refine ⟨_, rfl, ?_⟩
            rw [HR.out]
            exact ⟨hw, A, c, rfl, ho, hn8⟩
          refine steps_cons (Bl.refl) (fun ev xw hb hc hf hfr hd hr => ?_) ?_
          · obtain ⟨A108, c108, e108, I108, N108⟩ : ∃ (A : Option Addr) (c : Nat), ev (.tmp 108) = .agg #[.int .i64 sp, .int .i64 G8, .slice A k c] ∧ Ints .i64 xw (xw).heap.size A L ∧ L.length = k := hd 30 108 (by kernel_rfl)
            obtain ⟨A111, c111, e111, I111, N111⟩ : ∃ (A : Option Addr) (c : Nat), ev (.tmp 111) = .agg #[.int .i64 sp, .int .i64 G8, .slice A k c] ∧ Ints .i64 xw (xw).heap.size A L ∧ L.length = k := hd 33 111 (by kernel_rfl)
            clear hfr hd
            show OpOk _ _ ev xw fun v w' => Bl xw w' ∧ (v = .bool true)
            refine opOk_hid (fun Rp HR => ?_)
            unfold OpOk
            go_simp
            refine (rsame_any sp G8 A108 A111 k c108 c111 L xw N108 I108 I111 (by omega)).mono ?_
            rintro e w'' ⟨rfl, hw⟩
            refine ⟨_, rfl, ?_⟩
            rw [HR.out]
            exact ⟨hw, rfl⟩
          refine steps_cons (Bl.refl) (fun ev xw hb hc hf hfr hd hr => ?_) ?_
          · have e105 : ev (.tmp 105) = .bool true := hd 27 105 (by kernel_rfl)
            have e112 : ev (.tmp 112) = .bool true := hd 34 112 (by kernel_rfl)
            clear hfr hd
            show OpOk _ _ ev xw fun v w' => Bl xw w' ∧ (v = .bool true)
            refine opOk_hid (fun Rp HR => ?_)
            unfold OpOk
            go_simp
            rw [HR.out]
            exact ⟨hr, rfl⟩
          refine steps_cons (Bl.refl) (fun ev xw hb hc hf hfr hd hr => ?_) ?_
          · have e113 : ev (.tmp 113) = .bool true := hd 35 113 (by kernel_rfl)
            clear hfr hd
            show OpOk _ _ ev xw fun v w' => Bl xw w' ∧ (v = .bool true)
            refine opOk_hid (fun Rp HR => ?_)
            unfold OpOk
            go_simp
            rw [HR.out]
            exact ⟨hr, rfl⟩
          refine steps_cons (Bl.refl) (fun ev xw hb hc hf hfr hd hr => ?_) ?_
          · clear hfr hd
            show OpOk _ _ ev xw fun v w' => Bl xw w' ∧ (v = .bool true)
            refine opOk_hid (fun Rp HR => ?_)
            unfold OpOk
            go_simp
            refine (awake_any xw).mono ?_
            rintro e w'' ⟨rfl, hw⟩
            refine ⟨_, rfl, ?_⟩
            rw [HR.out]
            exact ⟨hw, rfl⟩
          refine steps_cons (Bl.refl) (fun ev xw hb hc hf hfr hd hr => ?_) ?_
          · have e114 : ev (.tmp 114) = .bool true := hd 36 114 (by kernel_rfl)
            have e115 : ev (.tmp 115) = .bool true := hd 37 115 (by kernel_rfl)
            clear hfr hd
            show OpOk _ _ ev xw fun v w' => Bl xw w' ∧ (v = .bool true)
            refine opOk_hid (fun Rp HR => ?_)
            unfold OpOk
            go_simp
            rw [HR.out]
            exact ⟨hr, rfl⟩
          exact steps_nil
        · intro vs W5 hb5 hk
          have k38 : vs 38 = .bool true := hk 38 (by omega)
          clear hk
          simp only [List.take_succ_cons, List.take_zero, List.drop_succ_cons, List.drop_zero, putAll, Act.put, List.setIfInBounds_toArray, List.set_cons_zero, List.set_cons_succ, k38, Nat.reduceAdd]
          clear k38
          go_wp2
          go_ret
          exact ⟨rfl, bzw.trans (hb5.mono bzw.size)⟩
end Go.Proofs.Ytikffoepndpfjaa
