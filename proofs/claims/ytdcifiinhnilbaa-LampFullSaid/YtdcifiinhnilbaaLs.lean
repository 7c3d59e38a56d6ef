/-
  The law LampSteps answers true: its walk. Conditions: none.
-/
import Derived.Test.YtdcifiinhnilbaaLr
namespace Go.Proofs.Ytdcifiinhnilbaa
open Go.ChangeShapes Go.WideShapes Go.RowKit
set_option linter.unusedVariables false

theorem valid_c (p : Ph) (lm tk : Int) (w : World) (hp : PhOk p) (h : LiOk p lm tk) (hb : 0 ≤ lm ∧ lm ≤ 3 ∧ 0 ≤ tk ∧ tk ≤ 1073741824) : Calls Try.prog 10 #[.agg #[.int .i64 p.ri, .int .i64 p.gr, .int .i64 p.mn, .int .i64 p.mx, .int .i64 p.yl, .int .i64 p.rd, .int .i64 p.wk, .int .i64 p.cl], .agg #[.int .i64 lm, .int .i64 tk]] w fun e w' => e = .returned (.bool true) ∧ Below w.heap.size w w' := by
  have := valid_any p lm tk w hp (by omega) (by omega)
  rw [valB_ok h] at this
  exact this
set_option maxHeartbeats 2000000 in
theorem steps_any (ra rb : Int) (A : Option Addr) (c : Nat) (l : List Int) (n m : Int) (lv : Bool) (w : World) (a0 : -9223372036854775808 ≤ ra) (a1 : ra ≤ 9223372036854775807) (b0 : -9223372036854775808 ≤ rb) (b1 : rb ≤ 9223372036854775807) (hs : Ints .i64 w w.heap.size A l) (hn : Nums l) (hl : l.length ≤ 9223372036854775807) (n0 : -9223372036854775808 ≤ n) (n1 : n ≤ 9223372036854775807) (m0 : -9223372036854775808 ≤ m) (m1 : m ≤ 9223372036854775807) :
    Calls Try.prog 3 #[.agg #[.int .i64 ra, .int .i64 rb], .slice A l.length c, .int .i64 n, .int .i64 m, .bool lv] w fun e w' => e = .returned (.bool true) ∧ Below w.heap.size w w' := by
  have bR := lat_alloc (Below.refl w.heap.size w) (.cells #[.int .i64 ra, .int .i64 rb] 23)
  have Br := Blk.new (w := w) (t := 23) (cs := #[.int .i64 ra, .int .i64 rb])
  have hs1 := hs.grow bR
  go_enter Try.func3, Try.ntmps3
  go_wp2_with fail
  generalize w.alloc (.cells #[.int .i64 ra, .int .i64 rb] 23) = w0 at *
  obtain ⟨gr, hgr⟩ : ∃ g, g = w.heap.size := ⟨_, rfl⟩
  rw [← hgr] at Br
  simp only [← hgr]
  have bW := bR
  clear bR
  refine (phase_any A c l m w0 hs1 hn hl m0 m1).mono ?_
  rintro e w1 ⟨hb1, p, hp, rfl⟩
  have bA := lat_alloc (Below.refl w1.heap.size w1) (.cells #[.int .i64 p.ri, .int .i64 p.gr, .int .i64 p.mn, .int .i64 p.mx, .int .i64 p.yl, .int .i64 p.rd, .int .i64 p.wk, .int .i64 p.cl] 26)
  have Bp := Blk.new (w := w1) (t := 26) (cs := #[.int .i64 p.ri, .int .i64 p.gr, .int .i64 p.mn, .int .i64 p.mx, .int .i64 p.yl, .int .i64 p.rd, .int .i64 p.wk, .int .i64 p.cl])
  have Br1 := (Br.below hb1).below bA
  have bW := bW.trans (hb1.mono bW.size)
  have bW := bW.trans (bA.mono bW.size)
  clear Br hgr
  have o0 := Bp.at 0 rfl
  have o1 := Bp.at 1 rfl
  have o2 := Bp.at 2 rfl
  have o3 := Bp.at 3 rfl
  have o4 := Bp.at 4 rfl
  have o5 := Bp.at 5 rfl
  have o6 := Bp.at 6 rfl
  have o7 := Bp.at 7 rfl
  go_wp2_with fail
  generalize w1.alloc (.cells #[.int .i64 p.ri, .int .i64 p.gr, .int .i64 p.mn, .int .i64 p.mx, .int .i64 p.yl, .int .i64 p.rd, .int .i64 p.wk, .int .i64 p.cl] 26) = W1 at *
  generalize w1.heap.size = gp at *
  clear o0 o1 o2 o3 o4 o5 o6 o7 bA
  refine (light_any p n _ hp n0 n1).mono ?_
  rintro e w2 ⟨hb2, lm, tk, hli, rfl⟩
  have bA := lat_alloc (Below.refl w2.heap.size w2) (.cells #[.int .i64 lm, .int .i64 tk] 23)
  have Bp := (Bp.below hb2).below bA
  have Br := (Br1.below hb2).below bA
  have Bx := Blk.new (w := w2) (t := 23) (cs := #[.int .i64 lm, .int .i64 tk])
  have bW := bW.trans (hb2.mono bW.size)
  have bW := bW.trans (bA.mono bW.size)
  have hbd := hli.bd hp
  go_wp2_with fail
  generalize w2.alloc (.cells #[.int .i64 lm, .int .i64 tk] 23) = W2 at *
  generalize w2.heap.size = gx at *
  clear bA Br1
  have hm6 := modI_bd ra 6 (by omega)
  have hm5 := modI_bd rb 5 (by omega)
  obtain ⟨su, hu⟩ : ∃ u, modI ra 6 = u + 1 := ⟨modI ra 6 - 1, by omega⟩
  obtain ⟨sv, hv⟩ : ∃ v, modI rb 5 = v + 1 := ⟨modI rb 5 - 1, by omega⟩
  have HU := Lib.hid hu
  have HV := Lib.hid hv
  rw [hu] at hm6
  rw [hv] at hm5
  clear hu hv
  refine wp_region_pre (R := Bl) 14 95 [fun v _ => v = .agg #[.int .i64 ra, .int .i64 rb], fun v _ => v = .agg #[.int .i64 lm, .int .i64 tk], fun v _ => v = .pointer (some ⟨gr, 0, none⟩), fun v _ => v = .int .i64 ra, fun v _ => v = .int .i64 (su + 1), fun v _ => v = .int .i64 su, fun v _ => v = .pointer (some ⟨gr, 1, none⟩), fun v _ => v = .int .i64 rb, fun v _ => v = .int .i64 (sv + 1), fun v _ => v = .int .i64 sv, fun v _ => v = .agg #[.int .i64 su, .int .i64 sv], fun v w => ∃ b : Nat, v = .slice (some ⟨b, 0, none⟩) 3 3 ∧ Blk w b 23 #[.int .i64 ra, .int .i64 rb, .int .i64 lm, .int .i64 tk, .int .i64 su, .int .i64 sv], fun v _ => v = .int .i64 3, fun v _ => v = .int .i64 0] (Bl.trans) (Bl.drew) (by kernel_rfl) (fun _ _ d _ _ h => by cases d <;> exact h) rfl (by kernel_rfl) (stay_cons (stays_v _) (stay_cons (stays_v _) (stay_cons (stays_v _) (stay_cons (stays_v _) (stay_cons (stays_v _) (stay_cons (stays_v _) (stay_cons (stays_v _) (stay_cons (stays_v _) (stay_cons (stays_v _) (stay_cons (stays_v _) (stay_cons (stays_v _) (stay_cons (fun _ _ _ ⟨b, h1, h5⟩ hb => ⟨b, h1, h5.below hb⟩) (stay_cons (stays_v _) (stay_cons (stays_v _) (stay_nil))))))))))))))) ?_ ?_
  · simp only [List.take_succ_cons, List.take_zero]
    refine steps_cons (Bl.refl) (fun ev xw hb hc hf hfr hd hr => ?_) ?_
    · have e5 : ev (.tmp 5) = .pointer (some ⟨gr, 0, none⟩) := hfr 5 (by kernel_rfl)
      clear hfr hd
      have k0 := (Br.below hb).at 0 rfl
      have k1 := (Br.below hb).at 1 rfl
      show OpOk _ _ ev xw fun v w' => Bl xw w' ∧ v = .agg #[.int .i64 ra, .int .i64 rb]
      refine opOk_hid (fun Rp HR => ?_)
      unfold OpOk
      go_simp
      rw [HR.out]
      exact ⟨hr, rfl⟩
    refine steps_cons (Bl.refl) (fun ev xw hb hc hf hfr hd hr => ?_) ?_
    · have e12 : ev (.tmp 12) = .pointer (some ⟨gx, 0, none⟩) := hfr 12 (by kernel_rfl)
      clear hfr hd
      have k0 := (Bx.below hb).at 0 rfl
      have k1 := (Bx.below hb).at 1 rfl
      show OpOk _ _ ev xw fun v w' => Bl xw w' ∧ v = .agg #[.int .i64 lm, .int .i64 tk]
      refine opOk_hid (fun Rp HR => ?_)
      unfold OpOk
      go_simp
      rw [HR.out]
      exact ⟨hr, rfl⟩
    refine steps_cons (Bl.refl) (fun ev xw hb hc hf hfr hd hr => ?_) ?_
    · have e5 : ev (.tmp 5) = .pointer (some ⟨gr, 0, none⟩) := hfr 5 (by kernel_rfl)
      clear hfr hd
      show OpOk _ _ ev xw fun v w' => Bl xw w' ∧ v = .pointer (some ⟨gr, 0, none⟩)
      refine opOk_hid (fun Rp HR => ?_)
      unfold OpOk
      go_simp
      rw [HR.out]
      exact ⟨hr, rfl⟩
    refine steps_cons (Bl.refl) (fun ev xw hb hc hf hfr hd hr => ?_) ?_
    · have e23 : ev (.tmp 23) = .pointer (some ⟨gr, 0, none⟩) := hd 2 23 (by kernel_rfl)
      clear hfr hd
      have k0 := (Br.below hb).at 0 rfl
      have k1 := (Br.below hb).at 1 rfl
      show OpOk _ _ ev xw fun v w' => Bl xw w' ∧ v = .int .i64 ra
      refine opOk_hid (fun Rp HR => ?_)
      unfold OpOk
      go_simp
      rw [HR.out]
      exact ⟨hr, rfl⟩
    refine steps_cons (Bl.refl) (fun ev xw hb hc hf hfr hd hr => ?_) ?_
    · have e24 : ev (.tmp 24) = .int .i64 ra := hd 3 24 (by kernel_rfl)
      clear hfr hd
      show OpOk _ _ ev xw fun v w' => Bl xw w' ∧ v = .int .i64 (su + 1)
      refine opOk_hid (fun Rp HR => ?_)
      unfold OpOk
      go_simp
      refine (mod_q ra 6 (by omega) (by omega) (by omega) (by omega) xw).mono ?_
      rintro e w'' ⟨rfl, rfl⟩
      refine ⟨_, rfl, ?_⟩
      rw [HR.out]
      exact ⟨hr, by rw [HU.out]⟩
    refine steps_cons (Bl.refl) (fun ev xw hb hc hf hfr hd hr => ?_) ?_
    · have e25 : ev (.tmp 25) = .int .i64 (su + 1) := hd 4 25 (by kernel_rfl)
      clear hfr hd
      have hw : IntKind.i64.wrap (su + 1 - 1) = su := by rw [IntKind.wrap_i64]; omega
      have hw2 : IntKind.i64.wrap su = su := by rw [IntKind.wrap_i64]; omega
      show OpOk _ _ ev xw fun v w' => Bl xw w' ∧ v = .int .i64 su
      refine opOk_hid (fun Rp HR => ?_)
      unfold OpOk
      go_simp
      rw [HR.out]
      exact ⟨hr, rfl⟩
    refine steps_cons (Bl.refl) (fun ev xw hb hc hf hfr hd hr => ?_) ?_
    · have e5 : ev (.tmp 5) = .pointer (some ⟨gr, 0, none⟩) := hfr 5 (by kernel_rfl)
      clear hfr hd
      show OpOk _ _ ev xw fun v w' => Bl xw w' ∧ v = .pointer (some ⟨gr, 1, none⟩)
      refine opOk_hid (fun Rp HR => ?_)
      unfold OpOk
      go_simp
      rw [HR.out]
      exact ⟨hr, rfl⟩
    refine steps_cons (Bl.refl) (fun ev xw hb hc hf hfr hd hr => ?_) ?_
    · have e27 : ev (.tmp 27) = .pointer (some ⟨gr, 1, none⟩) := hd 6 27 (by kernel_rfl)
      clear hfr hd
      have k0 := (Br.below hb).at 0 rfl
      have k1 := (Br.below hb).at 1 rfl
      show OpOk _ _ ev xw fun v w' => Bl xw w' ∧ v = .int .i64 rb
      refine opOk_hid (fun Rp HR => ?_)
      unfold OpOk
      go_simp
      rw [HR.out]
      exact ⟨hr, rfl⟩
    refine steps_cons (Bl.refl) (fun ev xw hb hc hf hfr hd hr => ?_) ?_
    · have e28 : ev (.tmp 28) = .int .i64 rb := hd 7 28 (by kernel_rfl)
      clear hfr hd
      show OpOk _ _ ev xw fun v w' => Bl xw w' ∧ v = .int .i64 (sv + 1)
      refine opOk_hid (fun Rp HR => ?_)
      unfold OpOk
      go_simp
      refine (mod_q rb 5 (by omega) (by omega) (by omega) (by omega) xw).mono ?_
      rintro e w'' ⟨rfl, rfl⟩
      refine ⟨_, rfl, ?_⟩
      rw [HR.out]
      exact ⟨hr, by rw [HV.out]⟩
    refine steps_cons (Bl.refl) (fun ev xw hb hc hf hfr hd hr => ?_) ?_
    · have e29 : ev (.tmp 29) = .int .i64 (sv + 1) := hd 8 29 (by kernel_rfl)
      clear hfr hd
      have hw : IntKind.i64.wrap (sv + 1 - 1) = sv := by rw [IntKind.wrap_i64]; omega
      have hw2 : IntKind.i64.wrap sv = sv := by rw [IntKind.wrap_i64]; omega
      show OpOk _ _ ev xw fun v w' => Bl xw w' ∧ v = .int .i64 sv
      refine opOk_hid (fun Rp HR => ?_)
      unfold OpOk
      go_simp
      rw [HR.out]
      exact ⟨hr, rfl⟩
    refine steps_cons (Bl.refl) (fun ev xw hb hc hf hfr hd hr => ?_) ?_
    · have e26 : ev (.tmp 26) = .int .i64 su := hd 5 26 (by kernel_rfl)
      have e30 : ev (.tmp 30) = .int .i64 sv := hd 9 30 (by kernel_rfl)
      clear hfr hd
      show OpOk _ _ ev xw fun v w' => Bl xw w' ∧ v = .agg #[.int .i64 su, .int .i64 sv]
      refine opOk_hid (fun Rp HR => ?_)
      unfold OpOk
      go_simp
      rw [HR.out]
      exact ⟨hr, rfl⟩
    refine steps_cons (Bl.refl) (fun ev xw hb hc hf hfr hd hr => ?_) ?_
    · have e21 : ev (.tmp 21) = .agg #[.int .i64 ra, .int .i64 rb] := hd 0 21 (by kernel_rfl)
      have e22 : ev (.tmp 22) = .agg #[.int .i64 lm, .int .i64 tk] := hd 1 22 (by kernel_rfl)
      have e31 : ev (.tmp 31) = .agg #[.int .i64 su, .int .i64 sv] := hd 10 31 (by kernel_rfl)
      clear hfr hd
      show OpOk _ _ ev xw fun v w' => Bl xw w' ∧ ∃ b : Nat, v = .slice (some ⟨b, 0, none⟩) 3 3 ∧ Blk w' b 23 #[.int .i64 ra, .int .i64 rb, .int .i64 lm, .int .i64 tk, .int .i64 su, .int .i64 sv]
      refine opOk_hid (fun Rp HR => ?_)
      unfold OpOk
      go_simp
      rw [HR.out]
      exact ⟨lat_alloc (Below.refl _ _) _, _, rfl, Blk.new⟩
    refine steps_cons (Bl.refl) (fun ev xw hb hc hf hfr hd hr => ?_) ?_
    · obtain ⟨b32, e32, B32⟩ : ∃ b : Nat, ev (.tmp 32) = .slice (some ⟨b, 0, none⟩) 3 3 ∧ Blk xw b 23 #[.int .i64 ra, .int .i64 rb, .int .i64 lm, .int .i64 tk, .int .i64 su, .int .i64 sv] := hd 11 32 (by kernel_rfl)
      clear hfr hd
      show OpOk _ _ ev xw fun v w' => Bl xw w' ∧ v = .int .i64 3
      refine opOk_hid (fun Rp HR => ?_)
      unfold OpOk
      go_simp
      rw [HR.out]
      exact ⟨hr, rfl⟩
    refine steps_cons (Bl.refl) (fun ev xw hb hc hf hfr hd hr => ?_) ?_
    · clear hfr hd
      show OpOk _ _ ev xw fun v w' => Bl xw w' ∧ v = .int .i64 0
      refine opOk_hid (fun Rp HR => ?_)
      unfold OpOk
      go_simp
      rw [HR.out]
      exact ⟨hr, rfl⟩
    exact steps_nil
  · intro vs W5 hb5 hk
    obtain ⟨b, k32, B5⟩ : ∃ b : Nat, vs 11 = .slice (some ⟨b, 0, none⟩) 3 3 ∧ Blk W5 b 23 #[.int .i64 ra, .int .i64 rb, .int .i64 lm, .int .i64 tk, .int .i64 su, .int .i64 sv] := hk 11 (by omega)
    have k33 : vs 12 = .int .i64 3 := hk 12 (by omega)
    have k34 : vs 13 = .int .i64 0 := hk 13 (by omega)
    clear hk
    simp only [List.take_succ_cons, List.take_zero, List.drop_succ_cons, List.drop_zero, putAll, Act.put, List.setIfInBounds_toArray, List.set_cons_zero, List.set_cons_succ, k32, k33, k34, Nat.reduceAdd, Nat.reduceSub]
    clear k32 k33 k34
    have hb5' : Below W2.heap.size W2 W5 := hb5
    have Bp5 := Bp.below hb5'
    have Bx5 := Bx.below hb5'
    have bW5 := bW.trans (hb5'.mono bW.size)
    go_wp2
    go_loopw [34] (fun i wr => ∃ k : Nat, k ≤ 3 ∧ i = .int .i64 k ∧ Below W5.heap.size W5 wr) (fun i _ => 3 - (intOf i).toNat)
    case atStart => exact ⟨0, by omega, rfl, Below.refl _ _⟩
    case round =>
      obtain ⟨k, hk, rfl, hbr⟩ := hrel
      have Rb := B5.below hbr
      have Rp := Bp5.below hbr
      have Rx := Bx5.below hbr
      have hc : k = 0 ∨ k = 1 ∨ k = 2 ∨ k = 3 := by omega
      clear hk
      rcases hc with rfl | rfl | rfl | rfl
      · skip
        have o0 := Rb.at 0 rfl
        have o1 := Rb.at 1 rfl
        have o2 := Rb.at 2 rfl
        have o3 := Rb.at 3 rfl
        have o4 := Rb.at 4 rfl
        have o5 := Rb.at 5 rfl
        have bY := lat_alloc (Below.refl wr.heap.size wr) (.cells #[.int .i64 ra, .int .i64 rb] 23)
        have By := Blk.new (w := wr) (t := 23) (cs := #[.int .i64 ra, .int .i64 rb])
        have Py := Rp.below bY
        have hbY := hbr.trans (bY.mono hbr.size)
        go_wp2_with fail
        clear o0 o1 o2 o3 o4 o5
        generalize wr.alloc (.cells #[.int .i64 ra, .int .i64 rb] 23) = W6 at *
        generalize wr.heap.size = gy at *
        have q0 := By.laterN 0 rfl
        have q1 := By.laterN 1 rfl
        have o0 := Py.laterN 0 rfl
        have o1 := Py.laterN 1 rfl
        have o2 := Py.laterN 2 rfl
        have o3 := Py.laterN 3 rfl
        have o4 := Py.laterN 4 rfl
        have o5 := Py.laterN 5 rfl
        have o6 := Py.laterN 6 rfl
        have o7 := Py.laterN 7 rfl
        refine wp_region_grow (by kernel_rfl) (by kernel_rfl) ?_
        repeat' (first
            | go_big_quiet_skip
            | (go_big_quiet_want; first
                | (go_big_quiet_op; go_big_quiet_on)
                | (refine quiet_det ?_; apply Exists.intro; refine ⟨fun w' hC => ?_, ?_⟩; (go_simp <;> (first | rfl | exact ⟨rfl, rfl⟩)); apply Exists.intro; refine ⟨?_, ?_⟩; (go_simp <;> (first | rfl | exact ⟨rfl, rfl⟩)); go_big_quiet_on)
                | (show Oper.quiet _ { dst := _, op := .call { callee := .value _, args := _, argTypes := _ }, type := _, pos := _, after := _, guard := _ } _ _ _; refine quiet_call ?_; apply Exists.intro; apply Exists.intro; refine ⟨fun w' hC => ?_, ?_⟩; (go_simp <;> (first | rfl | exact ⟨rfl, rfl⟩)); apply Exists.intro; refine ⟨fun w' hC => ?_, ?_⟩; (first
                    | with_reducible exact grow_call (valid_any p ra rb w' hp (by omega) (by omega)) hC
                    | with_reducible exact grow_call (rvalid_any p ra rb w' hp (by omega) (by omega)) hC
                    | with_reducible exact grow_call (red_any ra rb w') hC
                    | with_reducible exact grow_call (rred_any ra rb w') hC
                    | fail); apply Exists.intro; refine ⟨?_, ?_⟩; (go_simp <;> (first | rfl | exact ⟨rfl, rfl⟩)); go_big_quiet_on)))
        all_goals refine wpQuiet_nil ?_
        intro w7 hb7
        clear q0 q1 o0 o1 o2 o3 o4 o5 o6 o7
        go_wp2
        go_roundw
        case rel => exact ⟨1, by omega, by go_num, hbY.trans (hb7.mono hbY.size)⟩
        case measure => simp [intOf]
    
      · skip
        have o0 := Rb.at 0 rfl
        have o1 := Rb.at 1 rfl
        have o2 := Rb.at 2 rfl
        have o3 := Rb.at 3 rfl
        have o4 := Rb.at 4 rfl
        have o5 := Rb.at 5 rfl
        have bY := lat_alloc (Below.refl wr.heap.size wr) (.cells #[.int .i64 lm, .int .i64 tk] 23)
        have By := Blk.new (w := wr) (t := 23) (cs := #[.int .i64 lm, .int .i64 tk])
        have Py := Rp.below bY
        have hbY := hbr.trans (bY.mono hbr.size)
        go_wp2_with fail
        clear o0 o1 o2 o3 o4 o5
        generalize wr.alloc (.cells #[.int .i64 lm, .int .i64 tk] 23) = W6 at *
        generalize wr.heap.size = gy at *
        have q0 := By.laterN 0 rfl
        have q1 := By.laterN 1 rfl
        have o0 := Py.laterN 0 rfl
        have o1 := Py.laterN 1 rfl
        have o2 := Py.laterN 2 rfl
        have o3 := Py.laterN 3 rfl
        have o4 := Py.laterN 4 rfl
        have o5 := Py.laterN 5 rfl
        have o6 := Py.laterN 6 rfl
        have o7 := Py.laterN 7 rfl
        refine wp_region_grow (by kernel_rfl) (by kernel_rfl) ?_
        repeat' (first
            | go_big_quiet_skip
            | (go_big_quiet_want; first
                | (go_big_quiet_op; go_big_quiet_on)
                | (refine quiet_det ?_; apply Exists.intro; refine ⟨fun w' hC => ?_, ?_⟩; (go_simp <;> (first | rfl | exact ⟨rfl, rfl⟩)); apply Exists.intro; refine ⟨?_, ?_⟩; (go_simp <;> (first | rfl | exact ⟨rfl, rfl⟩)); go_big_quiet_on)
                | (show Oper.quiet _ { dst := _, op := .call { callee := .value _, args := _, argTypes := _ }, type := _, pos := _, after := _, guard := _ } _ _ _; refine quiet_call ?_; apply Exists.intro; apply Exists.intro; refine ⟨fun w' hC => ?_, ?_⟩; (go_simp <;> (first | rfl | exact ⟨rfl, rfl⟩)); apply Exists.intro; refine ⟨fun w' hC => ?_, ?_⟩; (first
                    | with_reducible exact grow_call (valid_any p lm tk w' hp (by omega) (by omega)) hC
                    | with_reducible exact grow_call (rvalid_any p lm tk w' hp (by omega) (by omega)) hC
                    | with_reducible exact grow_call (red_any lm tk w') hC
                    | with_reducible exact grow_call (rred_any lm tk w') hC
                    | fail); apply Exists.intro; refine ⟨?_, ?_⟩; (go_simp <;> (first | rfl | exact ⟨rfl, rfl⟩)); go_big_quiet_on)))
        all_goals refine wpQuiet_nil ?_
        intro w7 hb7
        clear q0 q1 o0 o1 o2 o3 o4 o5 o6 o7
        go_wp2
        go_roundw
        case rel => exact ⟨2, by omega, by go_num, hbY.trans (hb7.mono hbY.size)⟩
        case measure => simp [intOf]
    
      · skip
        have o0 := Rb.at 0 rfl
        have o1 := Rb.at 1 rfl
        have o2 := Rb.at 2 rfl
        have o3 := Rb.at 3 rfl
        have o4 := Rb.at 4 rfl
        have o5 := Rb.at 5 rfl
        have bY := lat_alloc (Below.refl wr.heap.size wr) (.cells #[.int .i64 su, .int .i64 sv] 23)
        have By := Blk.new (w := wr) (t := 23) (cs := #[.int .i64 su, .int .i64 sv])
        have Py := Rp.below bY
        have hbY := hbr.trans (bY.mono hbr.size)
        go_wp2_with fail
        clear o0 o1 o2 o3 o4 o5
        generalize wr.alloc (.cells #[.int .i64 su, .int .i64 sv] 23) = W6 at *
        generalize wr.heap.size = gy at *
        have q0 := By.laterN 0 rfl
        have q1 := By.laterN 1 rfl
        have o0 := Py.laterN 0 rfl
        have o1 := Py.laterN 1 rfl
        have o2 := Py.laterN 2 rfl
        have o3 := Py.laterN 3 rfl
        have o4 := Py.laterN 4 rfl
        have o5 := Py.laterN 5 rfl
        have o6 := Py.laterN 6 rfl
        have o7 := Py.laterN 7 rfl
        refine wp_region_grow (by kernel_rfl) (by kernel_rfl) ?_
        repeat' (first
            | go_big_quiet_skip
            | (go_big_quiet_want; first
                | (go_big_quiet_op; go_big_quiet_on)
                | (refine quiet_det ?_; apply Exists.intro; refine ⟨fun w' hC => ?_, ?_⟩; (go_simp <;> (first | rfl | exact ⟨rfl, rfl⟩)); apply Exists.intro; refine ⟨?_, ?_⟩; (go_simp <;> (first | rfl | exact ⟨rfl, rfl⟩)); go_big_quiet_on)
                | (show Oper.quiet _ { dst := _, op := .call { callee := .value _, args := _, argTypes := _ }, type := _, pos := _, after := _, guard := _ } _ _ _; refine quiet_call ?_; apply Exists.intro; apply Exists.intro; refine ⟨fun w' hC => ?_, ?_⟩; (go_simp <;> (first | rfl | exact ⟨rfl, rfl⟩)); apply Exists.intro; refine ⟨fun w' hC => ?_, ?_⟩; (first
                    | with_reducible exact grow_call (valid_any p su sv w' hp (by omega) (by omega)) hC
                    | with_reducible exact grow_call (rvalid_any p su sv w' hp (by omega) (by omega)) hC
                    | with_reducible exact grow_call (red_any su sv w') hC
                    | with_reducible exact grow_call (rred_any su sv w') hC
                    | fail); apply Exists.intro; refine ⟨?_, ?_⟩; (go_simp <;> (first | rfl | exact ⟨rfl, rfl⟩)); go_big_quiet_on)))
        all_goals refine wpQuiet_nil ?_
        intro w7 hb7
        clear q0 q1 o0 o1 o2 o3 o4 o5 o6 o7
        go_wp2
        go_roundw
        case rel => exact ⟨3, by omega, by go_num, hbY.trans (hb7.mono hbY.size)⟩
        case measure => simp [intOf]
    
      · go_wp2_with fail
        have q0 := Rx.laterN 0 rfl
        have q1 := Rx.laterN 1 rfl
        have o0 := Rp.laterN 0 rfl
        have o1 := Rp.laterN 1 rfl
        have o2 := Rp.laterN 2 rfl
        have o3 := Rp.laterN 3 rfl
        have o4 := Rp.laterN 4 rfl
        have o5 := Rp.laterN 5 rfl
        have o6 := Rp.laterN 6 rfl
        have o7 := Rp.laterN 7 rfl
        refine wp_region_grow (by kernel_rfl) (by kernel_rfl) ?_
        repeat' (first
            | go_big_quiet_skip
            | (go_big_quiet_want; first
                | (go_big_quiet_op; go_big_quiet_on)
                | (refine quiet_det ?_; apply Exists.intro; refine ⟨fun w' hC => ?_, ?_⟩; (go_simp <;> (first | rfl | exact ⟨rfl, rfl⟩)); apply Exists.intro; refine ⟨?_, ?_⟩; (go_simp <;> (first | rfl | exact ⟨rfl, rfl⟩)); go_big_quiet_on)
                | (show Oper.quiet _ { dst := _, op := .call { callee := .value _, args := _, argTypes := _ }, type := _, pos := _, after := _, guard := _ } _ _ _; refine quiet_call ?_; apply Exists.intro; apply Exists.intro; refine ⟨fun w' hC => ?_, ?_⟩; (go_simp <;> (first | rfl | exact ⟨rfl, rfl⟩)); apply Exists.intro; refine ⟨fun w' hC => ?_, ?_⟩; (first
                    | with_reducible exact grow_call (need_any p w' hp) hC
                    | with_reducible exact grow_call (rneed_any p w' hp) hC
                    | with_reducible exact grow_call (step_any p lm tk lv w' hp (by omega)) hC
                    | with_reducible exact grow_call (rstep_any p lm tk lv w' hp hli) hC
                    | with_reducible exact grow_call (count_any p lm tk w' hp (by omega)) hC
                    | with_reducible exact grow_call (rcount_any p lm tk w' hp (by omega)) hC
                    | with_reducible exact grow_call (walk_any p lm tk w' hp (by omega)) hC
                    | with_reducible exact grow_call (rwalk_any p lm tk w' hp (by omega)) hC
                    | with_reducible exact grow_call (valid_c p lm tk w' hp hli hbd) hC
                    | with_reducible exact grow_call (awake_any w') hC
                    | fail); apply Exists.intro; refine ⟨?_, ?_⟩; (go_simp <;> (first | rfl | exact ⟨rfl, rfl⟩)); go_big_quiet_on)))
        all_goals refine wpQuiet_nil ?_
        intro w9 hb9
        clear q0 q1 o0 o1 o2 o3 o4 o5 o6 o7
        go_wp2
        go_ret
        exact ⟨rfl, (bW5.trans (hbr.mono bW5.size)).trans (hb9.mono (bW5.trans (hbr.mono bW5.size)).size)⟩
end Go.Proofs.Ytdcifiinhnilbaa
