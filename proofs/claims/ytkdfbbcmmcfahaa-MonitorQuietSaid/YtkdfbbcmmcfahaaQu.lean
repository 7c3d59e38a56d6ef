/-
  The law MonitorQuiet answers true: its walk. Conditions: none.
-/
import Derived.Test.YtkdfbbcmmcfahaaSn
import Derived.Test.YtkdfbbcmmcfahaaJq
import Derived.Test.YtkdfbbcmmcfahaaMk
namespace Go.Proofs.Ytkdfbbcmmcfahaa
open Go.ChangeShapes Go.WideShapes Go.RowKit
set_option linter.unusedVariables false

theorem frm_of {l : List Oper} {n : Nat} {t : Tmp} (h : ((List.range n).all fun i => ((l[i]?).bind (·.dst)) != some t) = true) : ∀ i, i < n → ((l[i]?).bind (·.dst)) ≠ some t := fun i hi => by
  have := List.all_eq_true.1 h i (List.mem_range.2 hi)
  simpa using this
theorem wp_seq_mid {P : Program} {x : Code} {K0 : Act → World → Prop} {Q : Exit → Act → World → Prop} {a : Act} {w : World} (K : Act → World → Prop) (h : x.wp P (Exit.then K Q) a w) (hy : ∀ a w, K a w → K0 a w) : x.wp P (Exit.then K0 Q) a w :=
  (wp_mono h fun e a w hq => by
    cases e <;> first | exact hy _ _ hq | exact hq)
theorem modI_nat (a : Int) (n : Nat) (h : 0 < n) : ∃ k : Nat, modI a n = k ∧ k < n := by
  have := modI_bd a n (by omega)
  exact ⟨(modI a n).toNat, by omega, by omega⟩
theorem mod_n {a : Int} {n k : Nat} (hk : modI a n = k) (h : 0 < n) (h8 : n ≤ 8) (a0 : -9223372036854775808 ≤ a) (a1 : a ≤ 9223372036854775807) (w : World) : Calls Try.prog 8 #[.int .i64 a, .int .i64 n] w fun e w' => e = .returned (.int .i64 k) ∧ w = w' := by
  rw [← hk]; exact mod_any a n (by omega) (by omega) a0 a1 w
theorem bit_any (x : Int) (k : Nat) : (bits .and .i64 (x / 2 ^ k) 1 == 1) = hasB x k := by unfold hasB; exact and_1 _
set_option maxRecDepth 100000 in
set_option maxHeartbeats 8000000 in
theorem quiet_any (A0 : Option Addr) (cA : Nat) (l : List Int) (B0 : Option Addr) (cB : Nat) (m : List Int) (stuck : Int) (w : World) (hs : Ints .i64 w w.heap.size A0 l) (hn : Nums l) (hl : l.length ≤ 9223372036854775807) (hsm0 : Ints .i64 w w.heap.size B0 m) (hnm : Nums m) (hlm : m.length ≤ 9223372036854775807) (a0 : -9223372036854775808 ≤ stuck) (a1 : stuck ≤ 9223372036854775807) :
    Calls Try.prog 3 #[.slice A0 l.length cA, .slice B0 m.length cB, .int .i64 stuck] w fun e w' => e = .returned (.bool true) ∧ Below w.heap.size w w' := by
  go_enter Try.func3, Try.ntmps3
  go_wp2_with fail
  refine (new_ok A0 l cA _ hs hn hl).mono ?_
  rintro e w2 ⟨rfl, hdk, hb2, hlt2⟩
  go_wp2_with fail
  refine (junction_any w.heap.size w2 hdk).mono ?_
  rintro e w3 ⟨hgr, hdk3, q, st, ex, P, A1, B1, c1, d1, rfl, hj, hP, hI, hA1, hB1, hc1, hd1⟩
  have hb3 := hgr.base hb2 (Nat.le_refl _)
  have hjc := junC_drawn hj
  obtain ⟨n, hnn⟩ : ∃ n, P.length = n := ⟨_, rfl⟩
  obtain ⟨C, hCC⟩ : ∃ C, rowsL P ex = C := ⟨_, rfl⟩
  rw [hnn, hCC] at hjc
  rw [hCC] at hI
  rw [hnn] at hc1 hd1 ⊢
  have HN := Lib.hid hnn
  have HRC := Lib.hid hjc.rows.len
  clear hnn hCC hgr hdk hdk3 hb2 hj hA1 hB1
  have h1 := hjc.h1
  have h8 := hjc.h8
  obtain ⟨s, hs1, hs2⟩ := modI_nat stuck n h1
  have HS1 := Lib.hid hs1
  clear hs1
  obtain ⟨bA, oA, rfl, hbA, _⟩ := hP (by have := HN.out; omega)
  obtain ⟨bB, oB, rfl, hbB, _⟩ := hI (by have := HRC.out; omega)
  have bJ := lat_alloc (Below.refl w3.heap.size w3) (.cells #[.slice (some ⟨bA, oA, none⟩) n c1, .slice (some ⟨bB, oB, none⟩) n d1, .int .i64 st] 25)
  have BJ := Blk.new (w := w3) (t := 25) (cs := #[.slice (some ⟨bA, oA, none⟩) n c1, .slice (some ⟨bB, oB, none⟩) n d1, .int .i64 st])
  have hI4 := hI.grow bJ
  have hP4 := hP.grow bJ
  have hb4 := hb3.trans (bJ.mono hb3.size)
  have hsm := (hsm0.below hb4).more hb4.size
  go_wp2_with fail
  have HGC := Lib.hid (heap_size w3 (.cells #[.slice (some ⟨bA, oA, none⟩) n c1, .slice (some ⟨bB, oB, none⟩) n d1, .int .i64 st] 25))
  generalize w3.alloc (.cells #[.slice (some ⟨bA, oA, none⟩) n c1, .slice (some ⟨bB, oB, none⟩) n d1, .int .i64 st] 25) = W4 at *
  generalize w3.heap.size = gj at *
  clear bJ hI hP hb3 hs hsm0
  obtain ⟨B, hBB⟩ : ∃ B, W4.heap.size = B := ⟨_, rfl⟩
  have HBB := Lib.hid hBB
  have hgjB : gj < B := by have := HGC.out; omega
  have hbAB : bA < B := by have := HGC.out; omega
  have hbBB : bB < B := by have := HGC.out; omega
  rw [hBB] at hI4 hP4 hsm
  have hBWle : B ≤ W4.heap.size := by omega
  clear hBB
  refine wp_seq_mid (fun a' w' => ∃ (v16 v17 v18 v19 : Value) (g8 : Nat) (c : Ct) (gl cl gx cx : Nat), a' = { tmps := #[.slice A0 l.length cA, .slice B0 m.length cB, .int .i64 stuck, undef, undef, undef, .bool false, .pointer (some ⟨gj, 0, none⟩), .pointer (some ⟨g8, 0, none⟩), undef, undef, undef, undef, .slice A0 l.length cA, .pointer (some ⟨w.heap.size, 0, none⟩), .agg #[.slice (some ⟨bA, oA, none⟩) n c1, .slice (some ⟨bB, oB, none⟩) n d1, .int .i64 st], v16, v17, v18, v19, undef, undef, undef, undef, undef, undef, undef, undef, undef, undef, undef, undef, undef, undef, undef, undef, undef, undef, undef, undef, undef, undef, undef, undef, undef, undef, undef, undef, undef, undef, undef, undef, undef, undef, undef, undef, undef, undef, undef, undef, undef, undef, undef, undef, undef, undef, undef, undef, undef, undef, undef, undef, undef, undef, undef, undef, undef, undef, undef, undef, undef, undef, undef, undef, undef, undef, undef, undef], defers := [] } ∧ CtV P C n st c ∧ Blk w' g8 31 #[.slice (some ⟨gl, 0, none⟩) n cl, .int .i64 c.gr, .slice (some ⟨gx, 0, none⟩) 2 cx, .int .i64 c.wt] ∧ LiB w' gl c.li ∧ NxB w' gx c.nx ∧ B ≤ g8 ∧ B ≤ gl ∧ B ≤ gx ∧ Below B W4 w') ?_ ?_
  · refine wp_region_invs 6 88 (JQ W4 B n P C st (.slice B0 m.length cB) (.agg #[.slice (some ⟨bA, oA, none⟩) n c1, .slice (some ⟨bB, oB, none⟩) n d1, .int .i64 st])) (by kernel_rfl) (fun _ _ d _ _ h => by cases d <;> exact h) rfl (by kernel_rfl) (JQ.start HBB.out.symm) ?_ ?_
    · intro k' o hk' ho
      have hk6 : k' = 0 ∨ k' = 1 ∨ k' = 2 ∨ k' = 3 ∨ k' = 4 ∨ k' = 5 := by omega
      rcases hk6 with rfl | rfl | rfl | rfl | rfl | rfl
      · obtain rfl := Option.some.inj ho
        intro lst vs ev xw hJ hl hc hf hfr hd
        have e1 : ev (.tmp 1) = .slice B0 m.length cB := hfr 1 (frm_of (by kernel_rfl))
        clear hfr hd
        refine opS_hid (fun Rp HR => ?_)
        unfold OpS
        go_simp
        rw [HR.out]
        exact hJ.op0 rfl
      · obtain rfl := Option.some.inj ho
        intro lst vs ev xw hJ hl hc hf hfr hd
        have d16 := hd 0 16 (by kernel_rfl) rfl
        have e16 : ev (.tmp 16) = .slice B0 m.length cB := d16.2.trans (hJ.v0 d16.1)
        clear hfr hd d16
        have hb := hJ.grew
        have hbig := hJ.big
        refine opS_hid (fun Rp HR => ?_)
        unfold OpS
        go_simp
        refine (new_ok B0 m cB xw (hsm.low hb (Nat.le_of_eq HBB.out.symm)) hnm hlm).mono ?_
        rintro e w'' ⟨rfl, h1, h2, h3⟩
        refine ⟨_, rfl, ?_⟩
        rw [HR.out]
        exact hJ.op1 hl rfl h1 h2
      · obtain rfl := Option.some.inj ho
        intro lst vs ev xw hJ hl hc hf hfr hd
        have e7 : ev (.tmp 7) = .pointer (some ⟨gj, 0, none⟩) := hfr 7 (frm_of (by kernel_rfl))
        clear hfr hd
        have hb := hJ.grew
        have Jx := BJ.low hb hgjB
        have k0 := Jx.at 0 rfl
        have k1 := Jx.at 1 rfl
        have k2 := Jx.at 2 rfl
        refine opS_hid (fun Rp HR => ?_)
        unfold OpS
        go_simp
        rw [HR.out]
        exact hJ.op2 rfl
      · obtain rfl := Option.some.inj ho
        intro lst vs ev xw hJ hl hc hf hfr hd
        have d17 := hd 1 17 (by kernel_rfl) rfl
        have d18 := hd 2 18 (by kernel_rfl) rfl
        obtain ⟨g, g1, g2, g3, g4⟩ := hJ.v1 d17.1
        have e17 : ev (.tmp 17) = .pointer (some ⟨g, 0, none⟩) := d17.2.trans g1
        have e18 : ev (.tmp 18) = .agg #[.slice (some ⟨bA, oA, none⟩) n c1, .slice (some ⟨bB, oB, none⟩) n d1, .int .i64 st] := d18.2.trans (hJ.v2 d18.1)
        have hdk := g4 hl
        have h1 := d17.1
        have hb := hJ.grew
        clear hfr hd d17 d18
        refine opS_hid (fun Rp HR => ?_)
        unfold OpS
        go_simp
        refine (control_any g (some ⟨bA, oA, none⟩) (some ⟨bB, oB, none⟩) c1 d1 n P C st xw hjc hdk (hP4.low hb (Nat.le_of_eq HBB.out.symm)) (hI4.low hb (Nat.le_of_eq HBB.out.symm)) (fun a ha => by injection ha with ha; subst ha; show bA ≠ g; omega) (fun a ha => by injection ha with ha; subst ha; show bB ≠ g; omega)).mono ?_
        rintro e w'' ⟨v, rfl, q1, q2, c, q3, q4⟩
        refine ⟨_, rfl, ?_⟩
        rw [HR.out]
        exact hJ.op3 HBB.out hl h1 g1 g2 q1 q3 q4
      · obtain rfl := Option.some.inj ho
        intro lst vs ev xw hJ hl hc hf hfr hd
        clear hfr hd
        refine opS_hid (fun Rp HR => ?_)
        unfold OpS
        go_simp
        rw [HR.out]
        exact hJ.op4 hl rfl
      · obtain rfl := Option.some.inj ho
        intro lst vs ev xw hJ hl hc hf hfr hd
        have d8 := hd 4 8 (by kernel_rfl) rfl
        have d19 := hd 3 19 (by kernel_rfl) rfl
        obtain ⟨g, g1, g2, g3, _⟩ := hJ.v4 d8.1
        obtain ⟨c, q1, gl, cl, gx, cx, q2, q3, q4, q5, q6⟩ := hJ.v3 d19.1
        have e8 : ev (.tmp 8) = .pointer (some ⟨g, 0, none⟩) := d8.2.trans g1
        have e19 : ev (.tmp 19) = .agg #[.slice (some ⟨gl, 0, none⟩) n cl, .int .i64 c.gr, .slice (some ⟨gx, 0, none⟩) 2 cx, .int .i64 c.wt] := d19.2.trans q2
        have h3 := d19.1
        have h4 := d8.1
        have hB := g3 hl
        clear hfr hd d8 d19
        have hB : Blk xw g 31 #[.slice none 0 0, .int .i64 0, .slice none 0 0, .int .i64 0] := hB
        have f0 := hB.frozen 0
        have f1 := hB.frozen 1
        have f2 := hB.frozen 2
        have f3 := hB.frozen 3
        have c0 := hB.at 0 rfl
        have c1 := hB.at 1 rfl
        have c2 := hB.at 2 rfl
        have c3 := hB.at 3 rfl
        have hst4 := hB.set4 (.slice (some ⟨gl, 0, none⟩) n cl) (.int .i64 c.gr) (.slice (some ⟨gx, 0, none⟩) 2 cx) (.int .i64 c.wt)
        have hgr4 := grownBy_setAt (grownBy_setAt (grownBy_setAt (grownBy_set xw g 0 (.slice (some ⟨gl, 0, none⟩) n cl)) g 1 (.int .i64 c.gr) rfl) g 2 (.slice (some ⟨gx, 0, none⟩) 2 cx) rfl) g 3 (.int .i64 c.wt) rfl
        refine opS_hid (fun Rp HR => ?_)
        unfold OpS
        go_simp
        rw [HR.out]
        exact hJ.op5 hl h3 h4 g1 q2 hgr4 hst4
    · intro vs w5 hJ
      have k0 := hJ.v0 rfl
      obtain ⟨g, k1, _, _, _⟩ := hJ.v1 rfl
      have k2 := hJ.v2 rfl
      obtain ⟨c, q1, gl, cl, gx, cx, k3, q3, q4, q5, q6⟩ := hJ.v3 rfl
      obtain ⟨g8, k4, r1, _, r2⟩ := hJ.v4 rfl
      obtain ⟨cs, r3, r4⟩ := r2 rfl
      rw [k3] at r3
      injection r3 with r3
      subst r3
      simp only [List.take_succ_cons, List.take_zero, List.drop_succ_cons, List.drop_zero, putAll, Act.put, List.setIfInBounds_toArray, List.set_cons_zero, List.set_cons_succ, k0, k1, k2, k3, k4, Nat.reduceAdd, Nat.reduceSub]
      exact ⟨_, _, _, _, g8, c, gl, cl, gx, cx, rfl, q1, r4, q5, q6, r1, q3, q4, hJ.grew⟩
  · rintro a1' W5 ⟨v16, v17, v18, v19, g8, c, gl, cl, gx, cx, rfl, hv, CW, LW, XW, hg8, hgl, hgx, hb5⟩
    have HV := Lib.hid hv
    clear hv
    have JW := BJ.low hb5 hgjB
    have j0 := JW.at 0 rfl
    have c0 := CW.at 0 rfl
    have hP5 := hP4.low hb5 hBWle
    have hI5 := hI4.low hb5 hBWle
    have hbw5 : Below w.heap.size w W5 := hb4.trans (HBB.out ▸ hb5 |>.mono hb4.size)
    have HQN := Lib.hid (quiet_none hjc.rows HV.out)
    have HQS0 := Lib.hid (quiet_stuck (s := s) hjc.rows HV.out hs2)
    go_wp2_with fail
    refine (mod_n HS1.out h1 h8 a0 a1 _).mono ?_
    rintro e w' ⟨rfl, rfl⟩
    go_wp2_with fail
    clear j0 c0
    go_loopw [10, 28] (fun s10 v wr => ∃ (i : Nat) (f : Bool), i ≤ n ∧ s10 = .bool f ∧ v = .int .i64 i ∧ Below W5.heap.size W5 wr ∧ (f = true ↔ WantP C c.li s i)) (fun _ v _ => n - (intOf v).toNat)
    case atStart => exact ⟨0, false, by omega, rfl, rfl, Below.refl _ _, by simp only [Bool.false_eq_true, false_iff]; rintro ⟨p, hp, _⟩; omega⟩
    case round =>
      obtain ⟨i, f, hi, rfl, rfl, hbr, hf⟩ := hrel
      have HF := Lib.hid hf
      clear hf
      by_cases hlt : i < n
      · have hltZ : (i : Int) < n := by omega
        have Lr := LW.below hbr
        obtain ⟨l0, l1, _, _⟩ := Lr.at (i := i) (by have := HV.out.li; omega)
        have B12 := Blk.new (w := wr) (t := 35) (cs := #[.int .i64 (prAt c.li i).1, .int .i64 (prAt c.li i).2])
        have bX := lat_alloc hbr (.cells #[.int .i64 (prAt c.li i).1, .int .i64 (prAt c.li i).2] 35)
        have k0 := B12.at 0 rfl
        have j1 := ((JW.below hbr).alloc (.cells #[.int .i64 (prAt c.li i).1, .int .i64 (prAt c.li i).2] 35)).at 1 rfl
        obtain ⟨bb, ob, hBe, _, hcc⟩ := (hI5.grow bX) (by have := HRC.out; omega)
        injection Option.some.inj hBe with hB2 hB3 _
        subst hB2; subst hB3
        have m0 := hcc s (by have := HRC.out; omega)
        clear hcc hBe
        have hsZ : (s : Int) < n := by omega
        have HD := Lib.hid (show lmp c.li i = (prAt c.li i).1 from rfl)
        have HNXT := Lib.hid (fun (hn : ¬ (i ≠ s ∧ hasB (at_ C s) i = true ∧ passB (lmp c.li i) = true)) => show WantP C c.li s (i + 1) ↔ WantP C c.li s i from ⟨fun ⟨p, hp, h⟩ => ⟨p, by
          by_cases e : p = i
          · subst e; exact absurd h hn
          · omega, h⟩, fun ⟨p, hp, h⟩ => ⟨p, by omega, h⟩⟩)
        clear B12
        generalize prAt c.li i = y at *
        cases f with
        | true =>
          go_wp2
          go_roundw
          case rel => exact ⟨i + 1, true, hlt, rfl, by go_num, bX, by
            simp only [true_iff]
            obtain ⟨p, hp, h⟩ := HF.out.1 (by trivial)
            exact ⟨p, by omega, h⟩⟩
          case measure => simp [intOf]; omega
        | false =>
          by_cases his : i = s
          · have z1 : ((i : Int) != (s : Int)) = false := by simp; omega
            have HI := Lib.hid his
            clear his
            go_wp2
            go_roundw
            case rel => exact ⟨i + 1, false, hlt, rfl, by go_num, bX, HF.out.trans (HNXT.out (fun h => h.1 HI.out)).symm⟩
            case measure => simp [intOf]; omega
          have z1 : ((i : Int) != (s : Int)) = true := by simp; omega
          have HI := Lib.hid his
          clear his
          obtain ⟨hb1, hbe⟩ : ∃ b1, hasB (at_ C s) i = b1 := ⟨_, rfl⟩
          have z2 := bit_any (at_ C s) i
          rw [hbe] at z2
          have HB := Lib.hid hbe
          clear hbe
          cases hb1 with
          | false =>
            go_wp2
            go_roundw
            case rel => exact ⟨i + 1, false, hlt, rfl, by go_num, bX, HF.out.trans (HNXT.out (fun h => by have := h.2.1; rw [HB.out] at this; cases this)).symm⟩
            case measure => simp [intOf]; omega
          | true =>
            by_cases y1 : y.1 = 1
            · have z3 : (y.1 == 1) = true := by simpa using y1
              have HY := Lib.hid y1
              clear y1
              go_wp2
              go_roundw
              case rel => exact ⟨i + 1, true, hlt, rfl, by go_num, bX, by
                simp only [true_iff]
                exact ⟨i, by omega, HI.out, HB.out, by rw [HD.out, HY.out]; decide⟩⟩
              case measure => simp [intOf]; omega
            · have z3 : (y.1 == 1) = false := by simpa using y1
              by_cases y2 : y.1 = 2
              · have z4 : (y.1 == 2) = true := by simpa using y2
                have HY := Lib.hid y2
                clear y1 y2
                go_wp2
                go_roundw
                case rel => exact ⟨i + 1, true, hlt, rfl, by go_num, bX, by
                  simp only [true_iff]
                  exact ⟨i, by omega, HI.out, HB.out, by rw [HD.out, HY.out]; decide⟩⟩
                case measure => simp [intOf]; omega
              · have z4 : (y.1 == 2) = false := by simpa using y2
                have HP := Lib.hid (show passB (lmp c.li i) = false by rw [HD.out]; unfold passB; rw [decide_eq_false]; rintro (h | h) <;> contradiction)
                clear y1 y2
                go_wp2
                go_roundw
                case rel => exact ⟨i + 1, false, hlt, rfl, by go_num, bX, HF.out.trans (HNXT.out (fun h => by have := h.2.2; rw [HP.out] at this; cases this)).symm⟩
                case measure => simp [intOf]; omega
      · have hltZ : ¬ (i : Int) < n := by omega
        obtain rfl : n = i := by omega
        have HQS := Lib.hid (show Fb C (seenV c.li n s) ↔ f = true by rw [HQS0.out]; exact HF.out.symm)
        obtain ⟨ff, hff⟩ : ∃ ff, f = ff := ⟨_, rfl⟩
        subst hff
        have JR := JW.below hbr
        have CR := CW.below hbr
        have hPR := hP5.grow hbr
        have hIR := hI5.grow hbr
        have hLR := LW.below hbr
        have hXR := XW.below hbr
        have hbF := hbw5.trans (hbr.mono hbw5.size)
        clear HQS0 HF
        go_wp2_with fail
        refine wp_region_preg (R := Bl) 26 88 [fun v _ => v = .agg #[.slice (some ⟨bA, oA, none⟩) n c1, .slice (some ⟨bB, oB, none⟩) n d1, .int .i64 st], fun v _ => v = .agg #[.slice (some ⟨gl, 0, none⟩) n cl, .int .i64 c.gr, .slice (some ⟨gx, 0, none⟩) 2 cx, .int .i64 c.wt], fun v _ => v = .bool true, fun v _ => v = .bool true, fun v _ => v = .pointer (some ⟨gj, 1, none⟩), fun v _ => v = .slice (some ⟨bB, oB, none⟩) n d1, fun v _ => v = .pointer (some ⟨g8, 0, none⟩), fun v _ => v = .slice (some ⟨gl, 0, none⟩) n cl, fun v w => ∃ (A' : Option Addr) (c' : Nat), v = .slice A' n c' ∧ Ints .i64 w w.heap.size A' (seenV c.li n (-1)), fun v _ => v = .bool false, fun v _ => v = .bool true, fun v _ => v = .bool true, fun v _ => v = .bool true, fun v _ => v = .pointer (some ⟨gj, 1, none⟩), fun v _ => v = .slice (some ⟨bB, oB, none⟩) n d1, fun v _ => v = .pointer (some ⟨g8, 0, none⟩), fun v _ => v = .slice (some ⟨gl, 0, none⟩) n cl, fun v _ => v = .int .i64 s, fun v w => ∃ (A' : Option Addr) (c' : Nat), v = .slice A' n c' ∧ Ints .i64 w w.heap.size A' (seenV c.li n s), fun v _ => v = .bool f, fun v _ => v = .bool f, fun v _ => v = .bool true, fun v _ => v = .bool true, fun v _ => v = .bool true, fun v _ => v = .bool true, fun v _ => v = .bool true] (Bl.trans) (Bl.drew) (by kernel_rfl) (fun _ _ d _ _ h => by cases d <;> exact h) rfl (by kernel_rfl) (stay_cons (stays_v _) (stay_cons (stays_v _) (stay_cons (stays_v _) (stay_cons (stays_v _) (stay_cons (stays_v _) (stay_cons (stays_v _) (stay_cons (stays_v _) (stay_cons (stays_v _) (stay_cons (fun v w w1 h hb => by obtain ⟨A', c', h1, h2⟩ := h; exact ⟨A', c', h1, h2.grow hb⟩) (stay_cons (stays_v _) (stay_cons (stays_v _) (stay_cons (stays_v _) (stay_cons (stays_v _) (stay_cons (stays_v _) (stay_cons (stays_v _) (stay_cons (stays_v _) (stay_cons (stays_v _) (stay_cons (stays_v _) (stay_cons (fun v w w1 h hb => by obtain ⟨A', c', h1, h2⟩ := h; exact ⟨A', c', h1, h2.grow hb⟩) (stay_cons (stays_v _) (stay_cons (stays_v _) (stay_cons (stays_v _) (stay_cons (stays_v _) (stay_cons (stays_v _) (stay_cons (stays_v _) (stay_cons (stays_v _) (stay_nil))))))))))))))))))))))))))) ?_ ?_ ?_
        · simp only [List.take_succ_cons, List.take_zero]
          exact guards_none rfl (guards_none rfl (guards_none rfl (guards_none rfl (guards_some 3 true rfl (fun _ _ h => h) (guards_some 3 true rfl (fun _ _ h => h) (guards_some 3 true rfl (fun _ _ h => h) (guards_some 3 true rfl (fun _ _ h => h) (guards_some 3 true rfl (fun _ _ h => h) (guards_some 3 true rfl (fun _ _ h => h) (guards_some 3 true rfl (fun _ _ h => h) (guards_none rfl (guards_none rfl (guards_some 12 true rfl (fun _ _ h => h) (guards_some 12 true rfl (fun _ _ h => h) (guards_some 12 true rfl (fun _ _ h => h) (guards_some 12 true rfl (fun _ _ h => h) (guards_some 12 true rfl (fun _ _ h => h) (guards_some 12 true rfl (fun _ _ h => h) (guards_some 12 true rfl (fun _ _ h => h) (guards_some 12 true rfl (fun _ _ h => h) (guards_some 12 true rfl (fun _ _ h => h) (guards_none rfl (guards_none rfl (guards_some 23 true rfl (fun _ _ h => h) (guards_none rfl (guards_nil))))))))))))))))))))))))))
        · simp only [List.take_succ_cons, List.take_zero]
          refine steps_cons (Bl.refl) (fun ev xw hb hc hf hfr hd hr => ?_) ?_
          · have e7 : ev (.tmp 7) = .pointer (some ⟨gj, 0, none⟩) := hfr 7 (by kernel_rfl)
            clear hfr hd
            have k0 := (JR.below hb).at 0 rfl
            have k1 := (JR.below hb).at 1 rfl
            have k2 := (JR.below hb).at 2 rfl
            show OpOk _ _ ev xw fun v w' => Bl xw w' ∧ (v = .agg #[.slice (some ⟨bA, oA, none⟩) n c1, .slice (some ⟨bB, oB, none⟩) n d1, .int .i64 st])
            refine opOk_hid (fun Rp HR => ?_)
            unfold OpOk
            go_simp
            rw [HR.out]
            exact ⟨hr, rfl⟩
          refine steps_cons (Bl.refl) (fun ev xw hb hc hf hfr hd hr => ?_) ?_
          · have e8 : ev (.tmp 8) = .pointer (some ⟨g8, 0, none⟩) := hfr 8 (by kernel_rfl)
            clear hfr hd
            have k0 := (CR.below hb).at 0 rfl
            have k1 := (CR.below hb).at 1 rfl
            have k2 := (CR.below hb).at 2 rfl
            have k3 := (CR.below hb).at 3 rfl
            show OpOk _ _ ev xw fun v w' => Bl xw w' ∧ (v = .agg #[.slice (some ⟨gl, 0, none⟩) n cl, .int .i64 c.gr, .slice (some ⟨gx, 0, none⟩) 2 cx, .int .i64 c.wt])
            refine opOk_hid (fun Rp HR => ?_)
            unfold OpOk
            go_simp
            rw [HR.out]
            exact ⟨hr, rfl⟩
          refine steps_cons (Bl.refl) (fun ev xw hb hc hf hfr hd hr => ?_) ?_
          · have e62 : ev (.tmp 62) = .agg #[.slice (some ⟨bA, oA, none⟩) n c1, .slice (some ⟨bB, oB, none⟩) n d1, .int .i64 st] := hd 0 62 (by kernel_rfl)
            have e63 : ev (.tmp 63) = .agg #[.slice (some ⟨gl, 0, none⟩) n cl, .int .i64 c.gr, .slice (some ⟨gx, 0, none⟩) 2 cx, .int .i64 c.wt] := hd 1 63 (by kernel_rfl)
            clear hfr hd
            show OpOk _ _ ev xw fun v w' => Bl xw w' ∧ (v = .bool true)
            refine opOk_hid (fun Rp HR => ?_)
            unfold OpOk
            go_simp
            refine (vtrue_any (some ⟨bA, oA, none⟩) (some ⟨bB, oB, none⟩) (some ⟨gl, 0, none⟩) (some ⟨gx, 0, none⟩) c1 d1 cl cx n P C c st xw hjc HV.out (hPR.grow hb) (hIR.grow hb) (hLR.below hb).prs (hXR.below hb).ints).mono ?_
            rintro e w'' ⟨rfl, hw⟩
            refine ⟨_, rfl, ?_⟩
            rw [HR.out]
            exact ⟨hw, rfl⟩
          refine steps_cons (Bl.refl) (fun ev xw hb hc hf hfr hd hr => ?_) ?_
          · have e64 : ev (.tmp 64) = .bool true := hd 2 64 (by kernel_rfl)
            clear hfr hd
            show OpOk _ _ ev xw fun v w' => Bl xw w' ∧ (v = .bool true)
            refine opOk_hid (fun Rp HR => ?_)
            unfold OpOk
            go_simp
            rw [HR.out]
            exact ⟨hr, rfl⟩
          refine steps_cons (Bl.refl) (fun ev xw hb hc hf hfr hd hr => ?_) ?_
          · have e7 : ev (.tmp 7) = .pointer (some ⟨gj, 0, none⟩) := hfr 7 (by kernel_rfl)
            clear hfr hd
            show OpOk _ _ ev xw fun v w' => Bl xw w' ∧ (v = .pointer (some ⟨gj, 1, none⟩))
            refine opOk_hid (fun Rp HR => ?_)
            unfold OpOk
            go_simp
            rw [HR.out]
            exact ⟨hr, rfl⟩
          refine steps_cons (Bl.refl) (fun ev xw hb hc hf hfr hd hr => ?_) ?_
          · have e66 : ev (.tmp 66) = .pointer (some ⟨gj, 1, none⟩) := hd 4 66 (by kernel_rfl)
            clear hfr hd
            have k1 := (JR.below hb).at 1 rfl
            show OpOk _ _ ev xw fun v w' => Bl xw w' ∧ (v = .slice (some ⟨bB, oB, none⟩) n d1)
            refine opOk_hid (fun Rp HR => ?_)
            unfold OpOk
            go_simp
            rw [HR.out]
            exact ⟨hr, rfl⟩
          refine steps_cons (Bl.refl) (fun ev xw hb hc hf hfr hd hr => ?_) ?_
          · have e8 : ev (.tmp 8) = .pointer (some ⟨g8, 0, none⟩) := hfr 8 (by kernel_rfl)
            clear hfr hd
            show OpOk _ _ ev xw fun v w' => Bl xw w' ∧ (v = .pointer (some ⟨g8, 0, none⟩))
            refine opOk_hid (fun Rp HR => ?_)
            unfold OpOk
            go_simp
            rw [HR.out]
            exact ⟨hr, rfl⟩
          refine steps_cons (Bl.refl) (fun ev xw hb hc hf hfr hd hr => ?_) ?_
          · have e68 : ev (.tmp 68) = .pointer (some ⟨g8, 0, none⟩) := hd 6 68 (by kernel_rfl)
            clear hfr hd
            have k0 := (CR.below hb).at 0 rfl
            show OpOk _ _ ev xw fun v w' => Bl xw w' ∧ (v = .slice (some ⟨gl, 0, none⟩) n cl)
            refine opOk_hid (fun Rp HR => ?_)
            unfold OpOk
            go_simp
            rw [HR.out]
            exact ⟨hr, rfl⟩
          refine steps_cons (Bl.refl) (fun ev xw hb hc hf hfr hd hr => ?_) ?_
          · have e69 : ev (.tmp 69) = .slice (some ⟨gl, 0, none⟩) n cl := hd 7 69 (by kernel_rfl)
            clear hfr hd
            show OpOk _ _ ev xw fun v w' => Bl xw w' ∧ (∃ (A' : Option Addr) (c' : Nat), v = .slice A' n c' ∧ Ints .i64 w' w'.heap.size A' (seenV c.li n (-1)))
            refine opOk_hid (fun Rp HR => ?_)
            unfold OpOk
            go_simp
            refine (seen_any (some ⟨gl, 0, none⟩) cl n c.li (-1) xw HV.out.li (hLR.below hb).prs (by omega)).mono ?_
            rintro e w'' ⟨A', c', rfl, hw, hi'⟩
            refine ⟨_, rfl, ?_⟩
            rw [HR.out]
            exact ⟨hw, A', c', rfl, hi'⟩
          refine steps_cons (Bl.refl) (fun ev xw hb hc hf hfr hd hr => ?_) ?_
          · have e67 : ev (.tmp 67) = .slice (some ⟨bB, oB, none⟩) n d1 := hd 5 67 (by kernel_rfl)
            obtain ⟨A70, c70, e70, I70⟩ : ∃ (A' : Option Addr) (c' : Nat), ev (.tmp 70) = .slice A' n c' ∧ Ints .i64 xw xw.heap.size A' (seenV c.li n (-1)) := hd 8 70 (by kernel_rfl)
            clear hfr hd
            show OpOk _ _ ev xw fun v w' => Bl xw w' ∧ (v = .bool false)
            refine opOk_hid (fun Rp HR => ?_)
            unfold OpOk
            go_simp
            refine (forb_any (some ⟨bB, oB, none⟩) A70 d1 c70 n n C _ xw HRC.out (seen_len _ _ _) (hIR.grow hb) I70 (by omega) (by omega)).mono ?_
            rintro e w'' ⟨rfl, r, rfl, hr'⟩
            have hrr : r = false := by cases r with | false => rfl | true => exact absurd (hr'.1 rfl) HQN.out
            subst hrr
            refine ⟨_, rfl, ?_⟩
            rw [HR.out]
            exact ⟨Bl.refl _, rfl⟩
          refine steps_cons (Bl.refl) (fun ev xw hb hc hf hfr hd hr => ?_) ?_
          · have e71 : ev (.tmp 71) = .bool false := hd 9 71 (by kernel_rfl)
            clear hfr hd
            show OpOk _ _ ev xw fun v w' => Bl xw w' ∧ (v = .bool true)
            refine opOk_hid (fun Rp HR => ?_)
            unfold OpOk
            go_simp
            rw [HR.out]
            exact ⟨hr, rfl⟩
          refine steps_cons (Bl.refl) (fun ev xw hb hc hf hfr hd hr => ?_) ?_
          · have e65 : ev (.tmp 65) = .bool true := hd 3 65 (by kernel_rfl)
            have e72 : ev (.tmp 72) = .bool true := hd 10 72 (by kernel_rfl)
            clear hfr hd
            show OpOk _ _ ev xw fun v w' => Bl xw w' ∧ (v = .bool true)
            refine opOk_hid (fun Rp HR => ?_)
            unfold OpOk
            go_simp
            rw [HR.out]
            exact ⟨hr, rfl⟩
          refine steps_cons (Bl.refl) (fun ev xw hb hc hf hfr hd hr => ?_) ?_
          · have e73 : ev (.tmp 73) = .bool true := hd 11 73 (by kernel_rfl)
            clear hfr hd
            show OpOk _ _ ev xw fun v w' => Bl xw w' ∧ (v = .bool true)
            refine opOk_hid (fun Rp HR => ?_)
            unfold OpOk
            go_simp
            rw [HR.out]
            exact ⟨hr, rfl⟩
          refine steps_cons (Bl.refl) (fun ev xw hb hc hf hfr hd hr => ?_) ?_
          · have e7 : ev (.tmp 7) = .pointer (some ⟨gj, 0, none⟩) := hfr 7 (by kernel_rfl)
            clear hfr hd
            show OpOk _ _ ev xw fun v w' => Bl xw w' ∧ (v = .pointer (some ⟨gj, 1, none⟩))
            refine opOk_hid (fun Rp HR => ?_)
            unfold OpOk
            go_simp
            rw [HR.out]
            exact ⟨hr, rfl⟩
          refine steps_cons (Bl.refl) (fun ev xw hb hc hf hfr hd hr => ?_) ?_
          · have e75 : ev (.tmp 75) = .pointer (some ⟨gj, 1, none⟩) := hd 13 75 (by kernel_rfl)
            clear hfr hd
            have k1 := (JR.below hb).at 1 rfl
            show OpOk _ _ ev xw fun v w' => Bl xw w' ∧ (v = .slice (some ⟨bB, oB, none⟩) n d1)
            refine opOk_hid (fun Rp HR => ?_)
            unfold OpOk
            go_simp
            rw [HR.out]
            exact ⟨hr, rfl⟩
          refine steps_cons (Bl.refl) (fun ev xw hb hc hf hfr hd hr => ?_) ?_
          · have e8 : ev (.tmp 8) = .pointer (some ⟨g8, 0, none⟩) := hfr 8 (by kernel_rfl)
            clear hfr hd
            show OpOk _ _ ev xw fun v w' => Bl xw w' ∧ (v = .pointer (some ⟨g8, 0, none⟩))
            refine opOk_hid (fun Rp HR => ?_)
            unfold OpOk
            go_simp
            rw [HR.out]
            exact ⟨hr, rfl⟩
          refine steps_cons (Bl.refl) (fun ev xw hb hc hf hfr hd hr => ?_) ?_
          · have e77 : ev (.tmp 77) = .pointer (some ⟨g8, 0, none⟩) := hd 15 77 (by kernel_rfl)
            clear hfr hd
            have k0 := (CR.below hb).at 0 rfl
            show OpOk _ _ ev xw fun v w' => Bl xw w' ∧ (v = .slice (some ⟨gl, 0, none⟩) n cl)
            refine opOk_hid (fun Rp HR => ?_)
            unfold OpOk
            go_simp
            rw [HR.out]
            exact ⟨hr, rfl⟩
          refine steps_cons (Bl.refl) (fun ev xw hb hc hf hfr hd hr => ?_) ?_
          · have e9 : ev (.tmp 9) = .int .i64 s := hfr 9 (by kernel_rfl)
            clear hfr hd
            show OpOk _ _ ev xw fun v w' => Bl xw w' ∧ (v = .int .i64 s)
            refine opOk_hid (fun Rp HR => ?_)
            unfold OpOk
            go_simp
            rw [HR.out]
            exact ⟨hr, rfl⟩
          refine steps_cons (Bl.refl) (fun ev xw hb hc hf hfr hd hr => ?_) ?_
          · have e78 : ev (.tmp 78) = .slice (some ⟨gl, 0, none⟩) n cl := hd 16 78 (by kernel_rfl)
            have e79 : ev (.tmp 79) = .int .i64 s := hd 17 79 (by kernel_rfl)
            clear hfr hd
            show OpOk _ _ ev xw fun v w' => Bl xw w' ∧ (∃ (A' : Option Addr) (c' : Nat), v = .slice A' n c' ∧ Ints .i64 w' w'.heap.size A' (seenV c.li n s))
            refine opOk_hid (fun Rp HR => ?_)
            unfold OpOk
            go_simp
            refine (seen_any (some ⟨gl, 0, none⟩) cl n c.li s xw HV.out.li (hLR.below hb).prs (by omega)).mono ?_
            rintro e w'' ⟨A', c', rfl, hw, hi'⟩
            refine ⟨_, rfl, ?_⟩
            rw [HR.out]
            exact ⟨hw, A', c', rfl, hi'⟩
          refine steps_cons (Bl.refl) (fun ev xw hb hc hf hfr hd hr => ?_) ?_
          · have e76 : ev (.tmp 76) = .slice (some ⟨bB, oB, none⟩) n d1 := hd 14 76 (by kernel_rfl)
            obtain ⟨A80, c80, e80, I80⟩ : ∃ (A' : Option Addr) (c' : Nat), ev (.tmp 80) = .slice A' n c' ∧ Ints .i64 xw xw.heap.size A' (seenV c.li n s) := hd 18 80 (by kernel_rfl)
            clear hfr hd
            show OpOk _ _ ev xw fun v w' => Bl xw w' ∧ (v = .bool f)
            refine opOk_hid (fun Rp HR => ?_)
            unfold OpOk
            go_simp
            refine (forb_any (some ⟨bB, oB, none⟩) A80 d1 c80 n n C _ xw HRC.out (seen_len _ _ _) (hIR.grow hb) I80 (by omega) (by omega)).mono ?_
            rintro e w'' ⟨rfl, r, rfl, hr'⟩
            have hrr : r = f := Bool.eq_iff_iff.2 (hr'.trans HQS.out)
            subst hrr
            refine ⟨_, rfl, ?_⟩
            rw [HR.out]
            exact ⟨Bl.refl _, rfl⟩
          refine steps_cons (Bl.refl) (fun ev xw hb hc hf hfr hd hr => ?_) ?_
          · have e10 : ev (.tmp 10) = .bool f := hfr 10 (by kernel_rfl)
            clear hfr hd
            show OpOk _ _ ev xw fun v w' => Bl xw w' ∧ (v = .bool f)
            refine opOk_hid (fun Rp HR => ?_)
            unfold OpOk
            go_simp
            rw [HR.out]
            exact ⟨hr, rfl⟩
          refine steps_cons (Bl.refl) (fun ev xw hb hc hf hfr hd hr => ?_) ?_
          · have e81 : ev (.tmp 81) = .bool f := hd 19 81 (by kernel_rfl)
            have e82 : ev (.tmp 82) = .bool f := hd 20 82 (by kernel_rfl)
            clear hfr hd
            show OpOk _ _ ev xw fun v w' => Bl xw w' ∧ (v = .bool true)
            refine opOk_hid (fun Rp HR => ?_)
            unfold OpOk
            go_simp
            rw [HR.out]
            exact ⟨hr, rfl⟩
          refine steps_cons (Bl.refl) (fun ev xw hb hc hf hfr hd hr => ?_) ?_
          · have e74 : ev (.tmp 74) = .bool true := hd 12 74 (by kernel_rfl)
            have e83 : ev (.tmp 83) = .bool true := hd 21 83 (by kernel_rfl)
            clear hfr hd
            show OpOk _ _ ev xw fun v w' => Bl xw w' ∧ (v = .bool true)
            refine opOk_hid (fun Rp HR => ?_)
            unfold OpOk
            go_simp
            rw [HR.out]
            exact ⟨hr, rfl⟩
          refine steps_cons (Bl.refl) (fun ev xw hb hc hf hfr hd hr => ?_) ?_
          · have e84 : ev (.tmp 84) = .bool true := hd 22 84 (by kernel_rfl)
            clear hfr hd
            show OpOk _ _ ev xw fun v w' => Bl xw w' ∧ (v = .bool true)
            refine opOk_hid (fun Rp HR => ?_)
            unfold OpOk
            go_simp
            rw [HR.out]
            exact ⟨hr, rfl⟩
          refine steps_cons (Bl.refl) (fun ev xw hb hc hf hfr hd hr => ?_) ?_
          · clear hfr hd
            show OpOk _ _ ev xw fun v w' => Bl xw w' ∧ (v = .bool true)
            refine opOk_hid (fun Rp HR => ?_)
            unfold OpOk
            go_simp
            refine (awake_any xw).mono ?_
            rintro e w'' ⟨rfl, hw⟩
            refine ⟨_, rfl, ?_⟩
            rw [HR.out]
            exact ⟨hw, rfl⟩
          refine steps_cons (Bl.refl) (fun ev xw hb hc hf hfr hd hr => ?_) ?_
          · have e85 : ev (.tmp 85) = .bool true := hd 23 85 (by kernel_rfl)
            have e86 : ev (.tmp 86) = .bool true := hd 24 86 (by kernel_rfl)
            clear hfr hd
            show OpOk _ _ ev xw fun v w' => Bl xw w' ∧ (v = .bool true)
            refine opOk_hid (fun Rp HR => ?_)
            unfold OpOk
            go_simp
            rw [HR.out]
            exact ⟨hr, rfl⟩
          exact steps_nil
        · intro vs W5 hb5 hk
          have k25 : vs 25 = .bool true := hk 25 (by omega)
          clear hk
          simp only [List.take_succ_cons, List.take_zero, List.drop_succ_cons, List.drop_zero, putAll, Act.put, List.setIfInBounds_toArray, List.set_cons_zero, List.set_cons_succ, k25, Nat.reduceAdd]
          clear k25
          go_wp2
          go_ret
          exact ⟨rfl, hbF.trans (hb5.mono hbF.size)⟩
end Go.Proofs.Ytkdfbbcmmcfahaa
