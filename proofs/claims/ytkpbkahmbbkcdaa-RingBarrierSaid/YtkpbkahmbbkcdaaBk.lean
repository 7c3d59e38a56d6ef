/-
  The law RingBarrier. Conditions: none.
-/
import Derived.Test.YtkpbkahmbbkcdaaGv
import Derived.Test.YtkpbkahmbbkcdaaTs
import Derived.BigQuiet
namespace Go.Proofs.Ytkpbkahmbbkcdaa
open Go.ChangeShapes Go.WideShapes Go.RowKit
set_option linter.unusedVariables false

set_option maxRecDepth 40000 in
set_option maxHeartbeats 8000000 in
theorem barrier_any (A0 : Option Addr) (cA : Nat) (l : List Int) (B0 : Option Addr) (cB : Nat) (ts : List Int) (w : World) (hs : Ints .i64 w w.heap.size A0 l) (hn : Nums l) (hl : l.length ≤ 9223372036854775807) (hsm0 : Ints .i64 w w.heap.size B0 ts) (hnm : Nums ts) (hlm : ts.length ≤ 9223372036854775807) :
    Calls Try.prog 9 #[.slice A0 l.length cA, .slice B0 ts.length cB] w fun e w' => e = .returned (.bool true) ∧ Below w.heap.size w w' := by
  go_enter Try.func9, Try.ntmps9
  by_cases hlen : (150 : Int) < ts.length
  · go_wp2_with fail
    refine (awake_any _).mono ?_
    rintro e w2 ⟨rfl, hb⟩
    go_wp2
    go_ret
    exact ⟨rfl, hb⟩
  go_wp2_with fail
  refine (new_ok A0 l cA _ hs hn hl).mono ?_
  rintro e w2 ⟨rfl, hdk, hb2, hlt2⟩
  go_wp2_with fail
  refine (junction_any w.heap.size w2 hdk).mono ?_
  rintro e w3 ⟨hgr, hdk3, q, st, ex, P, A1, B1, cU, cW, rfl, hj, hP, hI, hA1, hB1, hcU, hdW⟩
  have hb3 := hgr.base hb2 (Nat.le_refl _)
  have hjc := junC_drawn hj
  have hjv := jun_drawn hj
  obtain ⟨n, hnn⟩ : ∃ n, P.length = n := ⟨_, rfl⟩
  obtain ⟨C, hCC⟩ : ∃ C, rowsL P ex = C := ⟨_, rfl⟩
  rw [hnn, hCC] at hjc
  rw [hCC] at hI hjv
  rw [hnn] at hcU hdW ⊢
  have HN := Lib.hid hnn
  have HRC := Lib.hid hjc.rows.len
  clear hnn hCC hgr hdk hdk3 hb2 hj hA1 hB1
  have h1 := hjc.h1
  have h8 := hjc.h8
  obtain ⟨bA, oA, rfl, hbA, _⟩ := hP (by have := HN.out; omega)
  obtain ⟨bB, oB, rfl, hbB, _⟩ := hI (by have := HRC.out; omega)
  have bJ := lat_alloc (Below.refl w3.heap.size w3) (.cells #[.slice (some ⟨bA, oA, none⟩) n cU, .slice (some ⟨bB, oB, none⟩) n cW, .int .i64 st] 30)
  have BJ := Blk.new (w := w3) (t := 30) (cs := #[.slice (some ⟨bA, oA, none⟩) n cU, .slice (some ⟨bB, oB, none⟩) n cW, .int .i64 st])
  have hI4 := hI.grow bJ
  have hP4 := hP.grow bJ
  have hb4 := hb3.trans (bJ.mono hb3.size)
  have hsm := (hsm0.below hb4).more hb4.size
  go_wp2_with fail
  have HGC := Lib.hid (heap_size w3 (.cells #[.slice (some ⟨bA, oA, none⟩) n cU, .slice (some ⟨bB, oB, none⟩) n cW, .int .i64 st] 30))
  generalize w3.alloc (.cells #[.slice (some ⟨bA, oA, none⟩) n cU, .slice (some ⟨bB, oB, none⟩) n cW, .int .i64 st] 30) = W4 at *
  generalize w3.heap.size = gj at *
  clear bJ hI hP hb3 hs hsm0
  obtain ⟨B, hBB⟩ : ∃ B, W4.heap.size = B := ⟨_, rfl⟩
  have HBB := Lib.hid hBB
  have hgjB : gj < B := by have := HGC.out; omega
  have hbAB : bA < B := by have := HGC.out; omega
  have hbBB : bB < B := by have := HGC.out; omega
  have hBW : B ≤ W4.heap.size := by omega
  have hwB : w.heap.size ≤ B := by have := hb4.size; omega
  refine (pinit_any (some ⟨bA, oA, none⟩) (some ⟨bB, oB, none⟩) cU cW n n P st W4 HN.out hP4 h1 (by omega)).mono ?_
  rintro e w5 ⟨v, rfl, b5, gl, cl, gx, cx, rfl, hgl, hgx, L5, N5⟩
  rw [hBB] at hI4 hP4 hsm hgl hgx b5
  clear hBB
  go_wp2_with fail
  have hgl5 := L5.lt
  have hgx5 := N5.lt
  have hs5 := b5.size
  have bC := lat_alloc (Below.refl w5.heap.size w5) (.cells #[.slice (some ⟨gl, 0, none⟩) n cl, .int .i64 (initC P n st).gr, .slice (some ⟨gx, 0, none⟩) 2 cx, .int .i64 (initC P n st).wt] 25)
  have BC := Blk.new (w := w5) (t := 25) (cs := #[.slice (some ⟨gl, 0, none⟩) n cl, .int .i64 (initC P n st).gr, .slice (some ⟨gx, 0, none⟩) 2 cx, .int .i64 (initC P n st).wt])
  have L6 := L5.below bC
  have N6 := N5.below bC
  have b6 := b5.trans (bC.mono (by omega))
  generalize w5.alloc (.cells #[.slice (some ⟨gl, 0, none⟩) n cl, .int .i64 (initC P n st).gr, .slice (some ⟨gx, 0, none⟩) 2 cx, .int .i64 (initC P n st).wt] 25) = W6 at *
  obtain ⟨gc, hgc⟩ : ∃ gc, w5.heap.size = gc := ⟨_, rfl⟩
  rw [hgc] at BC hgl5 hgx5 ⊢
  have hBgc : B ≤ gc := by omega
  have hlc : gl ≠ gc := by omega
  have hxc : gx ≠ gc := by omega
  have S6 : StdC W4 W6 B gc n (initC P n st) := ⟨gl, cl, gx, cx, b6, BC, L6, N6, hlc, hxc⟩
  have hv0 : CtV P C n st (initC P n st) := init_v h1 hjc.st.1 hjc.gr
  clear bC b5 L5 N5 hgl hgx hgl5 hgx5 hs5 hgc L6 N6 b6 BC hlc hxc
  have hg0 := init_g P n st
  go_loopw [26] (fun v wr => ∃ i c, i ≤ ts.length ∧ v = .int .i64 (i : Nat) ∧ StdC W4 wr B gc n c ∧ CtV P C n st c ∧ GrV P n c) (fun v _ => ts.length - (intOf v).toNat)
  case atStart => exact ⟨0, _, Nat.zero_le _, rfl, S6, hv0, hg0⟩
  case round =>
    obtain ⟨i, c, hi, rfl, hS, hvc, hgc2⟩ := hrel
    clear S6 hv0 hg0
    by_cases hlt : i < ts.length
    · as_aux_lemma =>
      have hltZ : (i : Int) < ts.length := by omega
      obtain ⟨bT, oT, rfl, hbT, hcT⟩ := hsm (by omega)
      obtain ⟨x, hx⟩ : ∃ x, at_ ts i = x := ⟨_, rfl⟩
      have hxb : -9223372036854775808 ≤ x ∧ x ≤ 9223372036854775807 := by rw [← hx]; exact hnm _ (by simp [at_, hlt])
      obtain ⟨gl, cl, gx, cx, Br, Cr, Lr, Nr, hlc, hxc⟩ := hS
      have t0 := (Br.cell (p := ⟨bT, oT + i, none⟩) hbT).trans (hcT i hlt)
      rw [hx] at t0
      clear hcT hx
      have Jr := BJ.low Br hgjB
      obtain ⟨k, hk, hkn⟩ := modI_nat' x ((n : Int) + 2) (by omega)
      have HMD := Lib.hid (fun xw => mod_b (a := x) (m := (n : Int) + 2) (k := k) hk (by omega) (by omega) (by omega) (by omega) xw)
      clear hk
      have HGC2 := Lib.hid hgc2
      clear hgc2
      go_wp2_with fail
      clear t0
      refine wp_region_pre (R := Bl) 9 118 [fun v _ => v = .agg #[.slice (some ⟨bA, oA, none⟩) n cU, .slice (some ⟨bB, oB, none⟩) n cW, .int .i64 st], fun v _ => v = .agg #[.slice (some ⟨gl, 0, none⟩) n cl, .int .i64 (c).gr, .slice (some ⟨gx, 0, none⟩) 2 cx, .int .i64 (c).wt], fun v _ => v = .int .i64 x, fun v _ => v = .pointer (some ⟨gj, 0, none⟩), fun v _ => v = .slice (some ⟨bA, oA, none⟩) n cU, fun v _ => v = .int .i64 n, fun v _ => v = .int .i64 ((n : Int) + 2), fun v _ => v = .int .i64 (k : Nat), fun v _ => v = .int .i64 ((k : Nat) - 1)] (Bl.trans) (Bl.drew) (by kernel_rfl) (fun _ _ d _ _ h => by cases d <;> exact h) rfl (by kernel_rfl) (stay_cons (stays_v _) (stay_cons (stays_v _) (stay_cons (stays_v _) (stay_cons (stays_v _) (stay_cons (stays_v _) (stay_cons (stays_v _) (stay_cons (stays_v _) (stay_cons (stays_v _) (stay_cons (stays_v _) (stay_nil)))))))))) ?_ ?_
      · simp only [List.take_succ_cons, List.take_zero]
        refine steps_cons (Bl.refl) (fun ev xw hb hc hf hfr hd hr => ?_) ?_
        · have e5 : ev (.tmp 5) = .pointer (some ⟨gj, 0, none⟩) := hfr 5 (by kernel_rfl)
          clear hfr hd
          have k0 := (Jr.below hb).at 0 rfl
          have k1 := (Jr.below hb).at 1 rfl
          have k2 := (Jr.below hb).at 2 rfl
          show OpOk _ _ ev xw fun v w' => Bl xw w' ∧ (v = .agg #[.slice (some ⟨bA, oA, none⟩) n cU, .slice (some ⟨bB, oB, none⟩) n cW, .int .i64 st])
          refine opOk_hid (fun Rp HR => ?_)
          unfold OpOk
          go_simp
          rw [HR.out]
          exact ⟨hr, rfl⟩
        refine steps_cons (Bl.refl) (fun ev xw hb hc hf hfr hd hr => ?_) ?_
        · have e6 : ev (.tmp 6) = .pointer (some ⟨gc, 0, none⟩) := hfr 6 (by kernel_rfl)
          clear hfr hd
          have k0 := (Cr.below hb).at 0 rfl
          have k1 := (Cr.below hb).at 1 rfl
          have k2 := (Cr.below hb).at 2 rfl
          have k3 := (Cr.below hb).at 3 rfl
          show OpOk _ _ ev xw fun v w' => Bl xw w' ∧ (v = .agg #[.slice (some ⟨gl, 0, none⟩) n cl, .int .i64 (c).gr, .slice (some ⟨gx, 0, none⟩) 2 cx, .int .i64 (c).wt])
          refine opOk_hid (fun Rp HR => ?_)
          unfold OpOk
          go_simp
          rw [HR.out]
          exact ⟨hr, rfl⟩
        refine steps_cons (Bl.refl) (fun ev xw hb hc hf hfr hd hr => ?_) ?_
        · have e8 : ev (.tmp 8) = .int .i64 x := hfr 8 (by kernel_rfl)
          clear hfr hd
          show OpOk _ _ ev xw fun v w' => Bl xw w' ∧ (v = .int .i64 x)
          refine opOk_hid (fun Rp HR => ?_)
          unfold OpOk
          go_simp
          rw [HR.out]
          exact ⟨hr, rfl⟩
        refine steps_cons (Bl.refl) (fun ev xw hb hc hf hfr hd hr => ?_) ?_
        · have e5 : ev (.tmp 5) = .pointer (some ⟨gj, 0, none⟩) := hfr 5 (by kernel_rfl)
          clear hfr hd
          show OpOk _ _ ev xw fun v w' => Bl xw w' ∧ (v = .pointer (some ⟨gj, 0, none⟩))
          refine opOk_hid (fun Rp HR => ?_)
          unfold OpOk
          go_simp
          rw [HR.out]
          exact ⟨hr, rfl⟩
        refine steps_cons (Bl.refl) (fun ev xw hb hc hf hfr hd hr => ?_) ?_
        · have e33 : ev (.tmp 33) = .pointer (some ⟨gj, 0, none⟩) := hd 3 33 (by kernel_rfl)
          clear hfr hd
          have k0 := (Jr.below hb).at 0 rfl
          show OpOk _ _ ev xw fun v w' => Bl xw w' ∧ (v = .slice (some ⟨bA, oA, none⟩) n cU)
          refine opOk_hid (fun Rp HR => ?_)
          unfold OpOk
          go_simp
          rw [HR.out]
          exact ⟨hr, rfl⟩
        refine steps_cons (Bl.refl) (fun ev xw hb hc hf hfr hd hr => ?_) ?_
        · have e34 : ev (.tmp 34) = .slice (some ⟨bA, oA, none⟩) n cU := hd 4 34 (by kernel_rfl)
          clear hfr hd
          show OpOk _ _ ev xw fun v w' => Bl xw w' ∧ (v = .int .i64 n)
          refine opOk_hid (fun Rp HR => ?_)
          unfold OpOk
          go_simp
          rw [HR.out]
          exact ⟨hr, rfl⟩
        refine steps_cons (Bl.refl) (fun ev xw hb hc hf hfr hd hr => ?_) ?_
        · have e35 : ev (.tmp 35) = .int .i64 n := hd 5 35 (by kernel_rfl)
          clear hfr hd
          have zw : IntKind.i64.wrap ((n : Int) + 2) = (n : Int) + 2 := by rw [IntKind.wrap_i64]; omega
          show OpOk _ _ ev xw fun v w' => Bl xw w' ∧ (v = .int .i64 ((n : Int) + 2))
          refine opOk_hid (fun Rp HR => ?_)
          unfold OpOk
          go_simp
          rw [HR.out]
          exact ⟨hr, rfl⟩
        refine steps_cons (Bl.refl) (fun ev xw hb hc hf hfr hd hr => ?_) ?_
        · have e32 : ev (.tmp 32) = .int .i64 x := hd 2 32 (by kernel_rfl)
          have e36 : ev (.tmp 36) = .int .i64 ((n : Int) + 2) := hd 6 36 (by kernel_rfl)
          clear hfr hd
          show OpOk _ _ ev xw fun v w' => Bl xw w' ∧ (v = .int .i64 (k : Nat))
          refine opOk_hid (fun Rp HR => ?_)
          unfold OpOk
          go_simp
          refine (HMD.out xw).mono ?_
          rintro e w'' ⟨rfl, hw⟩
          refine ⟨_, rfl, ?_⟩
          rw [HR.out]
          exact ⟨hw, rfl⟩
        refine steps_cons (Bl.refl) (fun ev xw hb hc hf hfr hd hr => ?_) ?_
        · have e37 : ev (.tmp 37) = .int .i64 (k : Nat) := hd 7 37 (by kernel_rfl)
          clear hfr hd
          have zw : IntKind.i64.wrap ((k : Nat) - 1) = ((k : Nat) - 1 : Int) := by rw [IntKind.wrap_i64]; omega
          show OpOk _ _ ev xw fun v w' => Bl xw w' ∧ (v = .int .i64 ((k : Nat) - 1))
          refine opOk_hid (fun Rp HR => ?_)
          unfold OpOk
          go_simp
          rw [HR.out]
          exact ⟨hr, rfl⟩
        exact steps_nil
      · intro vs W11 hb11 hk
        have k0 : vs 0 = .agg #[.slice (some ⟨bA, oA, none⟩) n cU, .slice (some ⟨bB, oB, none⟩) n cW, .int .i64 st] := hk 0 (by omega)
        have k1 : vs 1 = .agg #[.slice (some ⟨gl, 0, none⟩) n cl, .int .i64 (c).gr, .slice (some ⟨gx, 0, none⟩) 2 cx, .int .i64 (c).wt] := hk 1 (by omega)
        have k8 : vs 8 = .int .i64 ((k : Nat) - 1) := hk 8 (by omega)
        clear hk
        simp only [List.take_succ_cons, List.take_zero, List.drop_succ_cons, List.drop_zero, putAll, Act.put, List.setIfInBounds_toArray, List.set_cons_zero, List.set_cons_succ, k0, k1, k8, Nat.reduceAdd, Nat.reduceSub]
        have B11 := Br.trans (Below.mono hb11 (Nat.le_trans hBW Br.size))
        have C11 := Cr.below hb11
        have L11 := Lr.below hb11
        have N11 := Nr.below hb11
        clear Br Cr Lr Nr Jr hb11
        go_wp2_with fail
        refine (pstep_any (some ⟨bA, oA, none⟩) (some ⟨bB, oB, none⟩) (some ⟨gl, 0, none⟩) (some ⟨gx, 0, none⟩) cU cW cl cx n P C c st ((k : Nat) - 1) W11 hjc hjv hvc (hP4.low B11 hBW) (hI4.low B11 hBW) hcU L11.prs N11.ints).mono ?_
        rintro e w12 ⟨v, rfl, b12, gl2, cl2, gx2, cx2, rfl, hgl2, hgx2, L12, N12⟩
        have hgcs := C11.lt
        have C12 := C11.below b12
        have B12 := B11.trans (b12.mono (Nat.le_trans hBW B11.size))
        have hlc2 : gl2 ≠ gc := by omega
        have hxc2 : gx2 ≠ gc := by omega
        clear C11 L11 N11 B11 b12
        go_wp2_with (refine step_store_ct (by rfl) (by rfl) (by rfl) (by rfl) (by rfl) C12 ?_; intro w13 C13 hg13; have c0 := C13.at 0 rfl; have Jx := BJ.low (B12.grown hg13 (Nat.le_trans hBW B12.size) (fun k e => by injection e with e; omega)) hgjB; have j0 := Jx.at 0 rfl)
        clear c0 j0
        have L13 := L12.grown hg13 (by intro e; injection e with e; omega)
        have N13 := N12.grown hg13 (by intro e; injection e with e; omega)
        have B13 : Below B W4 w13 := B12.grown hg13 (Nat.le_trans hBW B12.size) (fun k e => by injection e with e; omega)
        have hvs := step_v hjc.rows hvc h1 hjc.pok hjc.ri hjc.gr ((k : Nat) - 1)
        have hgs := step_g hjc hjv hvc HGC2.out ((k : Nat) - 1)
        clear hg13 C12 L12 N12 B12
        obtain ⟨s, hss⟩ : ∃ s, stepC P C n c ((k : Nat) - 1) = s := ⟨_, rfl⟩
        rw [hss] at C13 L13 N13 hvs hgs
        clear hss hvc
        have hli := hvs.li
        have HLI := Lib.hid hli
        have HVS := Lib.hid hvs
        have HGS := Lib.hid hgs
        clear hli hvs hgs
        go_loopw [50] (fun v wr => ∃ p : Nat, p ≤ n ∧ v = .int .i64 p ∧ Below w13.heap.size w13 wr) (fun v _ => n - (intOf v).toNat)
        case atStart => exact ⟨0, by omega, rfl, Below.refl _ _⟩
        case round =>
          obtain ⟨p, hp, rfl, hbr⟩ := hrel
          by_cases hlp : p < n
          · as_aux_lemma =>
            have hltZ : (p : Int) < n := by omega
            obtain ⟨l0, l1, f0, f1⟩ := (L13.below hbr).at (i := p) (by rw [HLI.out]; omega)
            clear f0 f1
            obtain ⟨lp, hlpe⟩ : ∃ lp, (prAt s.li p).1 = lp := ⟨_, rfl⟩
            obtain ⟨tp, htpe⟩ : ∃ tp, (prAt s.li p).2 = tp := ⟨_, rfl⟩
            have HLP := Lib.hid (show lmp s.li p = lp from hlpe)
            rw [hlpe] at l0
            rw [htpe] at l1
            clear hlpe htpe
            have T8 := Blk.new (w := wr) (t := 45) (cs := #[.int .i64 lp, .int .i64 tp])
            have bx := lat_alloc (Below.refl wr.heap.size wr) (.cells #[.int .i64 lp, .int .i64 tp] 45)
            have b8 := hbr.trans (bx.mono hbr.size)
            have c0 := (C13.below b8).at 0 rfl
            go_wp2_with fail
            clear c0 l0 l1 bx hbr
            generalize wr.alloc (.cells #[.int .i64 lp, .int .i64 tp] 45) = W8 at *
            generalize hg8 : wr.heap.size = g8 at T8 ⊢
            clear hg8
            go_loopw [58] (fun v wr => ∃ q : Nat, q ≤ n ∧ v = .int .i64 q ∧ Below W8.heap.size W8 wr) (fun v _ => n - (intOf v).toNat)
            case atStart => exact ⟨0, by omega, rfl, Below.refl _ _⟩
            case round =>
              obtain ⟨q, hq, rfl, hbr⟩ := hrel
              by_cases hlq : q < n
              · as_aux_lemma =>
                have hltZ : (q : Int) < n := by omega
                obtain ⟨l0, l1, f0, f1⟩ := ((L13.below b8).below hbr).at (i := q) (by rw [HLI.out]; omega)
                clear f0 f1
                obtain ⟨lq, hlqe⟩ : ∃ lq, (prAt s.li q).1 = lq := ⟨_, rfl⟩
                obtain ⟨tq, htqe⟩ : ∃ tq, (prAt s.li q).2 = tq := ⟨_, rfl⟩
                have HLQ := Lib.hid (show lmp s.li q = lq from hlqe)
                rw [hlqe] at l0
                rw [htqe] at l1
                clear hlqe htqe
                have T9q := Blk.new (w := wr) (t := 45) (cs := #[.int .i64 lq, .int .i64 tq])
                have bx := lat_alloc (Below.refl wr.heap.size wr) (.cells #[.int .i64 lq, .int .i64 tq] 45)
                have b9 := hbr.trans (bx.mono hbr.size)
                have T9p := T8.below b9
                have B9 : Below B W4 (wr.alloc (.cells #[.int .i64 lq, .int .i64 tq] 45)) := (B13.trans (b8.mono (Nat.le_trans hBW B13.size))).trans (b9.mono (Nat.le_trans hBW (Nat.le_trans B13.size b8.size)))
                have J9 := BJ.low B9 hgjB
                have hP9 := hP4.low B9 hBW
                have hbA9 : bA < (wr.alloc (.cells #[.int .i64 lq, .int .i64 tq] 45)).heap.size := Nat.lt_of_lt_of_le (Nat.lt_of_lt_of_le hbAB hBW) B9.size
                obtain ⟨bA', oA', hA', hbA', hph⟩ := hP9 (by have := HN.out; omega)
                injection Option.some.inj hA' with hA2 hA3 _
                subst hA2; subst hA3
                have hXp := hph p (by have := HN.out; omega)
                have hXq := hph q (by have := HN.out; omega)
                have hap := fun (hne : p ≠ q) (h1 : lmp s.li p ≠ 0) (h2 : lmp s.li q ≠ 0) => apart_of hjc hjv hlp hlq hne (HVS.out.no p q hlp hlq h1 h2)
                rw [HLP.out, HLQ.out] at hap
                obtain ⟨xp, hxp⟩ : ∃ xp, phAt P p = xp := ⟨_, rfl⟩
                obtain ⟨xq, hxq⟩ : ∃ xq, phAt P q = xq := ⟨_, rfl⟩
                rw [hxp] at hXp hap
                rw [hxq] at hXq hap
                have HAP := Lib.hid hap
                clear hxp hxq hap hph hA' hbA' hP9
                go_wp2_with fail
                clear l0 l1 bx hbr
                generalize wr.alloc (.cells #[.int .i64 lq, .int .i64 tq] 45) = W9 at *
                generalize hg9 : wr.heap.size = g9 at T9q ⊢
                clear hg9 B9
                obtain ⟨K, hK⟩ : ∃ K, K = known ([fun v _ => v = .pointer (some ⟨gj, 0, none⟩), fun v _ => v = .slice (some ⟨bA, oA, none⟩) n cU, fun v _ => v = .int .i64 (p : Nat), fun v _ => v = .pointer (some ⟨bA, oA + p * 8, none⟩), fun v _ => v = .agg #[.int .i64 xp.ri, .int .i64 xp.gr, .int .i64 xp.mn, .int .i64 xp.mx, .int .i64 xp.yl, .int .i64 xp.rd, .int .i64 xp.wk, .int .i64 xp.cl], fun v _ => v = .pointer (some ⟨gj, 0, none⟩), fun v _ => v = .slice (some ⟨bA, oA, none⟩) n cU, fun v _ => v = .int .i64 (q : Nat), fun v _ => v = .pointer (some ⟨bA, oA + q * 8, none⟩), fun v _ => v = .agg #[.int .i64 xq.ri, .int .i64 xq.gr, .int .i64 xq.mn, .int .i64 xq.mx, .int .i64 xq.yl, .int .i64 xq.rd, .int .i64 xq.wk, .int .i64 xq.cl], fun _ _ => True, fun _ _ => True, fun _ _ => True, fun _ _ => True]) := ⟨_, rfl⟩
                have hg : ∀ i v (w w' : World), K i v w → Below w.heap.size w w' → K i v w' := by rw [hK]; exact fun i v w w' h hb => known_stays (R := Bl) (stay_cons (stays_v _) (stay_cons (stays_v _) (stay_cons (stays_v _) (stay_cons (stays_v _) (stay_cons (stays_v _) (stay_cons (stays_v _) (stay_cons (stays_v _) (stay_cons (stays_v _) (stay_cons (stays_v _) (stay_cons (stays_v _) (stay_cons (fun _ _ _ _ _ => trivial) (stay_cons (fun _ _ _ _ _ => trivial) (stay_cons (fun _ _ _ _ _ => trivial) (stay_cons (fun _ _ _ _ _ => trivial) (stay_nil))))))))))))))) i v w w' h hb
                have hs0 : ∀ i v (w w' : World) b cs, K i v w → Blk w b 51 cs → w.grownBy w' (some b) → K i v w' := by rw [hK]; exact fun i v w w' b cs h hB hg => known_stays (R := fun w w' => ∃ b cs, Blk w b 51 cs ∧ w.grownBy w' (some b)) (stay_cons (stays_v _) (stay_cons (stays_v _) (stay_cons (stays_v _) (stay_cons (stays_v _) (stay_cons (stays_v _) (stay_cons (stays_v _) (stay_cons (stays_v _) (stay_cons (stays_v _) (stay_cons (stays_v _) (stay_cons (stays_v _) (stay_cons (fun _ _ _ _ _ => trivial) (stay_cons (fun _ _ _ _ _ => trivial) (stay_cons (fun _ _ _ _ _ => trivial) (stay_cons (fun _ _ _ _ _ => trivial) (stay_nil))))))))))))))) i v w w' h ⟨b, cs, hB, hg⟩
                have hs1 : ∀ i v (w w' : World) b cs, K i v w → Blk w b 51 cs → w.grownBy w' (some b) → K i v w' := by rw [hK]; exact fun i v w w' b cs h hB hg => known_stays (R := fun w w' => ∃ b cs, Blk w b 51 cs ∧ w.grownBy w' (some b)) (stay_cons (stays_v _) (stay_cons (stays_v _) (stay_cons (stays_v _) (stay_cons (stays_v _) (stay_cons (stays_v _) (stay_cons (stays_v _) (stay_cons (stays_v _) (stay_cons (stays_v _) (stay_cons (stays_v _) (stay_cons (stays_v _) (stay_cons (fun _ _ _ _ _ => trivial) (stay_cons (fun _ _ _ _ _ => trivial) (stay_cons (fun _ _ _ _ _ => trivial) (stay_cons (fun _ _ _ _ _ => trivial) (stay_nil))))))))))))))) i v w w' h ⟨b, cs, hB, hg⟩
                have K0 : ∀ v w, K 0 v w ↔ (fun v _ => v = .pointer (some ⟨gj, 0, none⟩) : Value → World → Prop) v w := fun v w => by rw [hK]; exact Iff.rfl
                have K1 : ∀ v w, K 1 v w ↔ (fun v _ => v = .slice (some ⟨bA, oA, none⟩) n cU : Value → World → Prop) v w := fun v w => by rw [hK]; exact Iff.rfl
                have K2 : ∀ v w, K 2 v w ↔ (fun v _ => v = .int .i64 (p : Nat) : Value → World → Prop) v w := fun v w => by rw [hK]; exact Iff.rfl
                have K3 : ∀ v w, K 3 v w ↔ (fun v _ => v = .pointer (some ⟨bA, oA + p * 8, none⟩) : Value → World → Prop) v w := fun v w => by rw [hK]; exact Iff.rfl
                have K4 : ∀ v w, K 4 v w ↔ (fun v _ => v = .agg #[.int .i64 xp.ri, .int .i64 xp.gr, .int .i64 xp.mn, .int .i64 xp.mx, .int .i64 xp.yl, .int .i64 xp.rd, .int .i64 xp.wk, .int .i64 xp.cl] : Value → World → Prop) v w := fun v w => by rw [hK]; exact Iff.rfl
                have K5 : ∀ v w, K 5 v w ↔ (fun v _ => v = .pointer (some ⟨gj, 0, none⟩) : Value → World → Prop) v w := fun v w => by rw [hK]; exact Iff.rfl
                have K6 : ∀ v w, K 6 v w ↔ (fun v _ => v = .slice (some ⟨bA, oA, none⟩) n cU : Value → World → Prop) v w := fun v w => by rw [hK]; exact Iff.rfl
                have K7 : ∀ v w, K 7 v w ↔ (fun v _ => v = .int .i64 (q : Nat) : Value → World → Prop) v w := fun v w => by rw [hK]; exact Iff.rfl
                have K8 : ∀ v w, K 8 v w ↔ (fun v _ => v = .pointer (some ⟨bA, oA + q * 8, none⟩) : Value → World → Prop) v w := fun v w => by rw [hK]; exact Iff.rfl
                have K9 : ∀ v w, K 9 v w ↔ (fun v _ => v = .agg #[.int .i64 xq.ri, .int .i64 xq.gr, .int .i64 xq.mn, .int .i64 xq.mx, .int .i64 xq.yl, .int .i64 xq.rd, .int .i64 xq.wk, .int .i64 xq.cl] : Value → World → Prop) v w := fun v w => by rw [hK]; exact Iff.rfl
                have K10 : ∀ v w, K 10 v w ↔ (fun _ _ => True : Value → World → Prop) v w := fun v w => by rw [hK]; exact Iff.rfl
                have K11 : ∀ v w, K 11 v w ↔ (fun _ _ => True : Value → World → Prop) v w := fun v w => by rw [hK]; exact Iff.rfl
                have K12 : ∀ v w, K 12 v w ↔ (fun _ _ => True : Value → World → Prop) v w := fun v w => by rw [hK]; exact Iff.rfl
                have K13 : ∀ v w, K 13 v w ↔ (fun _ _ => True : Value → World → Prop) v w := fun v w => by rw [hK]; exact Iff.rfl
                clear hK
                refine wp_region_invs 14 118 (TwoB W9 K 10 12 4 11 13 9 51 51 #[.int .i64 0, .int .i64 0, .int .i64 0, .int .i64 0, .int .i64 0, .int .i64 0, .int .i64 0, .int .i64 0] #[.int .i64 0, .int .i64 0, .int .i64 0, .int .i64 0, .int .i64 0, .int .i64 0, .int .i64 0, .int .i64 0]) (by kernel_rfl) (fun _ _ d _ _ h => by cases d <;> exact h) rfl (by kernel_rfl) (fun vs => TwoB.start vs) ?_ ?_
                · intro k' o hk' ho
                  have hk6 : k' = 0 ∨ k' = 1 ∨ k' = 2 ∨ k' = 3 ∨ k' = 4 ∨ k' = 5 ∨ k' = 6 ∨ k' = 7 ∨ k' = 8 ∨ k' = 9 ∨ k' = 10 ∨ k' = 11 ∨ k' = 12 ∨ k' = 13 := by omega
                  rcases hk6 with rfl | rfl | rfl | rfl | rfl | rfl | rfl | rfl | rfl | rfl | rfl | rfl | rfl | rfl
                  · obtain rfl := Option.some.inj ho
                    intro lst vs ev xw hJ hl hc hf hfr hd
                    have e5 : ev (.tmp 5) = .pointer (some ⟨gj, 0, none⟩) := hfr 5 (frm_of (by kernel_rfl))
                    have hb := hJ.grew
                    clear hfr hd 
                    refine opS_hid (fun Rp HR => ?_)
                    unfold OpS
                    go_simp
                    rw [HR.out]
                    exact hJ.op hg hl (by decide) (by decide) (by decide) (by decide) (Below.refl _ _) ((K0 _ _).2 rfl)
                  · obtain rfl := Option.some.inj ho
                    intro lst vs ev xw hJ hl hc hf hfr hd
                    have d63 := hd 0 63 (by kernel_rfl) rfl
                    have e63 : ev (.tmp 63) = .pointer (some ⟨gj, 0, none⟩) := d63.2.trans ((K0 _ _).1 (hJ.known 0 d63.1))
                    have hb := hJ.grew
                    clear hfr hd d63
                    have k0 := (J9.below hb).at 0 rfl
                    refine opS_hid (fun Rp HR => ?_)
                    unfold OpS
                    go_simp
                    rw [HR.out]
                    exact hJ.op hg hl (by decide) (by decide) (by decide) (by decide) (Below.refl _ _) ((K1 _ _).2 rfl)
                  · obtain rfl := Option.some.inj ho
                    intro lst vs ev xw hJ hl hc hf hfr hd
                    have e9 : ev (.tmp 9) = .int .i64 (p : Nat) := hfr 9 (frm_of (by kernel_rfl))
                    have hb := hJ.grew
                    clear hfr hd 
                    refine opS_hid (fun Rp HR => ?_)
                    unfold OpS
                    go_simp
                    rw [HR.out]
                    exact hJ.op hg hl (by decide) (by decide) (by decide) (by decide) (Below.refl _ _) ((K2 _ _).2 rfl)
                  · obtain rfl := Option.some.inj ho
                    intro lst vs ev xw hJ hl hc hf hfr hd
                    have d64 := hd 1 64 (by kernel_rfl) rfl
                    have e64 : ev (.tmp 64) = .slice (some ⟨bA, oA, none⟩) n cU := d64.2.trans ((K1 _ _).1 (hJ.known 1 d64.1))
                    have d65 := hd 2 65 (by kernel_rfl) rfl
                    have e65 : ev (.tmp 65) = .int .i64 (p : Nat) := d65.2.trans ((K2 _ _).1 (hJ.known 2 d65.1))
                    have hb := hJ.grew
                    clear hfr hd d64 d65
                    refine opS_hid (fun Rp HR => ?_)
                    unfold OpS
                    go_simp
                    rw [HR.out]
                    exact hJ.op hg hl (by decide) (by decide) (by decide) (by decide) (Below.refl _ _) ((K3 _ _).2 rfl)
                  · obtain rfl := Option.some.inj ho
                    intro lst vs ev xw hJ hl hc hf hfr hd
                    have d66 := hd 3 66 (by kernel_rfl) rfl
                    have e66 : ev (.tmp 66) = .pointer (some ⟨bA, oA + p * 8, none⟩) := d66.2.trans ((K3 _ _).1 (hJ.known 3 d66.1))
                    have hb := hJ.grew
                    clear hfr hd d66
                    obtain ⟨x0, x1, x2, x3, x4, x5, x6, x7⟩ := hXp.block (hb.block bA hbA9)
                    refine opS_hid (fun Rp HR => ?_)
                    unfold OpS
                    go_simp
                    rw [HR.out]
                    exact hJ.op hg hl (by decide) (by decide) (by decide) (by decide) (Below.refl _ _) ((K4 _ _).2 rfl)
                  · obtain rfl := Option.some.inj ho
                    intro lst vs ev xw hJ hl hc hf hfr hd
                    have e5 : ev (.tmp 5) = .pointer (some ⟨gj, 0, none⟩) := hfr 5 (frm_of (by kernel_rfl))
                    have hb := hJ.grew
                    clear hfr hd 
                    refine opS_hid (fun Rp HR => ?_)
                    unfold OpS
                    go_simp
                    rw [HR.out]
                    exact hJ.op hg hl (by decide) (by decide) (by decide) (by decide) (Below.refl _ _) ((K5 _ _).2 rfl)
                  · obtain rfl := Option.some.inj ho
                    intro lst vs ev xw hJ hl hc hf hfr hd
                    have d68 := hd 5 68 (by kernel_rfl) rfl
                    have e68 : ev (.tmp 68) = .pointer (some ⟨gj, 0, none⟩) := d68.2.trans ((K5 _ _).1 (hJ.known 5 d68.1))
                    have hb := hJ.grew
                    clear hfr hd d68
                    have k0 := (J9.below hb).at 0 rfl
                    refine opS_hid (fun Rp HR => ?_)
                    unfold OpS
                    go_simp
                    rw [HR.out]
                    exact hJ.op hg hl (by decide) (by decide) (by decide) (by decide) (Below.refl _ _) ((K6 _ _).2 rfl)
                  · obtain rfl := Option.some.inj ho
                    intro lst vs ev xw hJ hl hc hf hfr hd
                    have e11 : ev (.tmp 11) = .int .i64 (q : Nat) := hfr 11 (frm_of (by kernel_rfl))
                    have hb := hJ.grew
                    clear hfr hd 
                    refine opS_hid (fun Rp HR => ?_)
                    unfold OpS
                    go_simp
                    rw [HR.out]
                    exact hJ.op hg hl (by decide) (by decide) (by decide) (by decide) (Below.refl _ _) ((K7 _ _).2 rfl)
                  · obtain rfl := Option.some.inj ho
                    intro lst vs ev xw hJ hl hc hf hfr hd
                    have d69 := hd 6 69 (by kernel_rfl) rfl
                    have e69 : ev (.tmp 69) = .slice (some ⟨bA, oA, none⟩) n cU := d69.2.trans ((K6 _ _).1 (hJ.known 6 d69.1))
                    have d70 := hd 7 70 (by kernel_rfl) rfl
                    have e70 : ev (.tmp 70) = .int .i64 (q : Nat) := d70.2.trans ((K7 _ _).1 (hJ.known 7 d70.1))
                    have hb := hJ.grew
                    clear hfr hd d69 d70
                    refine opS_hid (fun Rp HR => ?_)
                    unfold OpS
                    go_simp
                    rw [HR.out]
                    exact hJ.op hg hl (by decide) (by decide) (by decide) (by decide) (Below.refl _ _) ((K8 _ _).2 rfl)
                  · obtain rfl := Option.some.inj ho
                    intro lst vs ev xw hJ hl hc hf hfr hd
                    have d71 := hd 8 71 (by kernel_rfl) rfl
                    have e71 : ev (.tmp 71) = .pointer (some ⟨bA, oA + q * 8, none⟩) := d71.2.trans ((K8 _ _).1 (hJ.known 8 d71.1))
                    have hb := hJ.grew
                    clear hfr hd d71
                    obtain ⟨x0, x1, x2, x3, x4, x5, x6, x7⟩ := hXq.block (hb.block bA hbA9)
                    refine opS_hid (fun Rp HR => ?_)
                    unfold OpS
                    go_simp
                    rw [HR.out]
                    exact hJ.op hg hl (by decide) (by decide) (by decide) (by decide) (Below.refl _ _) ((K9 _ _).2 rfl)
                  · obtain rfl := Option.some.inj ho
                    intro lst vs ev xw hJ hl hc hf hfr hd
                    have hb := hJ.grew
                    clear hfr hd 
                    refine opS_hid (fun Rp HR => ?_)
                    unfold OpS
                    go_simp
                    rw [HR.out]
                    exact hJ.lay1 hg hl (by decide) (fun v w => (K10 v w).2 trivial)
                  · obtain rfl := Option.some.inj ho
                    intro lst vs ev xw hJ hl hc hf hfr hd
                    have hb := hJ.grew
                    clear hfr hd 
                    refine opS_hid (fun Rp HR => ?_)
                    unfold OpS
                    go_simp
                    rw [HR.out]
                    exact hJ.lay2 hg hl (by decide) (fun v w => (K11 v w).2 trivial)
                  · obtain rfl := Option.some.inj ho
                    intro lst vs ev xw hJ hl hc hf hfr hd
                    have d13 := hd 10 13 (by kernel_rfl) rfl
                    have d67 := hd 4 67 (by kernel_rfl) rfl
                    have e67 : ev (.tmp 67) = .agg #[.int .i64 xp.ri, .int .i64 xp.gr, .int .i64 xp.mn, .int .i64 xp.mx, .int .i64 xp.yl, .int .i64 xp.rd, .int .i64 xp.wk, .int .i64 xp.cl] := d67.2.trans ((K4 _ _).1 (hJ.known 4 d67.1))
                    have hb := hJ.grew
                    obtain ⟨bb, e1, e2, hB⟩ := hJ.at1 d13.1 hl
                    have e13 := d13.2.trans e1
                    have hB : Blk xw bb 51 #[.int .i64 0, .int .i64 0, .int .i64 0, .int .i64 0, .int .i64 0, .int .i64 0, .int .i64 0, .int .i64 0] := hB
                    refine opS_store_ph rfl e13 e67 hB ?_
                    intro w' hst hgr
                    exact hJ.store1 hs0 hl d13.1 d67.1 (by decide) (fun v w => (K12 v w).2 trivial) e1 ((K4 _ _).1 (hJ.known 4 d67.1)) hgr hst
                  · obtain rfl := Option.some.inj ho
                    intro lst vs ev xw hJ hl hc hf hfr hd
                    have d14 := hd 11 14 (by kernel_rfl) rfl
                    have d72 := hd 9 72 (by kernel_rfl) rfl
                    have e72 : ev (.tmp 72) = .agg #[.int .i64 xq.ri, .int .i64 xq.gr, .int .i64 xq.mn, .int .i64 xq.mx, .int .i64 xq.yl, .int .i64 xq.rd, .int .i64 xq.wk, .int .i64 xq.cl] := d72.2.trans ((K9 _ _).1 (hJ.known 9 d72.1))
                    have hb := hJ.grew
                    obtain ⟨bb, e1, e2, hB⟩ := hJ.at2 d14.1 hl
                    have e14 := d14.2.trans e1
                    have hB : Blk xw bb 51 #[.int .i64 0, .int .i64 0, .int .i64 0, .int .i64 0, .int .i64 0, .int .i64 0, .int .i64 0, .int .i64 0] := hB
                    refine opS_store_ph rfl e14 e72 hB ?_
                    intro w' hst hgr
                    exact hJ.store2 hs1 hl d14.1 d72.1 (by decide) (fun v w => (K13 v w).2 trivial) e1 ((K9 _ _).1 (hJ.known 9 d72.1)) hgr hst
                · intro vs w5 hJ
                  obtain ⟨g1, g2, cs1, cs2, k_a1, k_a2, hg1, hg2, hne, k_f1, k_f2, X1, X2⟩ := hJ.fin rfl rfl rfl rfl
                  have hb5 := hJ.grew
                  have k0 : vs 0 = .pointer (some ⟨gj, 0, none⟩) := (K0 _ _).1 (hJ.known 0 rfl)
                  have k1 : vs 1 = .slice (some ⟨bA, oA, none⟩) n cU := (K1 _ _).1 (hJ.known 1 rfl)
                  have k2 : vs 2 = .int .i64 (p : Nat) := (K2 _ _).1 (hJ.known 2 rfl)
                  have k3 : vs 3 = .pointer (some ⟨bA, oA + p * 8, none⟩) := (K3 _ _).1 (hJ.known 3 rfl)
                  have k4 : vs 4 = .agg #[.int .i64 xp.ri, .int .i64 xp.gr, .int .i64 xp.mn, .int .i64 xp.mx, .int .i64 xp.yl, .int .i64 xp.rd, .int .i64 xp.wk, .int .i64 xp.cl] := (K4 _ _).1 (hJ.known 4 rfl)
                  have k5 : vs 5 = .pointer (some ⟨gj, 0, none⟩) := (K5 _ _).1 (hJ.known 5 rfl)
                  have k6 : vs 6 = .slice (some ⟨bA, oA, none⟩) n cU := (K6 _ _).1 (hJ.known 6 rfl)
                  have k7 : vs 7 = .int .i64 (q : Nat) := (K7 _ _).1 (hJ.known 7 rfl)
                  have k8 : vs 8 = .pointer (some ⟨bA, oA + q * 8, none⟩) := (K8 _ _).1 (hJ.known 8 rfl)
                  have k9 : vs 9 = .agg #[.int .i64 xq.ri, .int .i64 xq.gr, .int .i64 xq.mn, .int .i64 xq.mx, .int .i64 xq.yl, .int .i64 xq.rd, .int .i64 xq.wk, .int .i64 xq.cl] := (K9 _ _).1 (hJ.known 9 rfl)
                  rw [k4] at k_f1
                  obtain rfl := (Value.agg.inj k_f1).symm
                  rw [k9] at k_f2
                  obtain rfl := (Value.agg.inj k_f2).symm
                  simp only [List.take_succ_cons, List.take_zero, List.drop_succ_cons, List.drop_zero, putAll, Act.put, List.setIfInBounds_toArray, List.set_cons_zero, List.set_cons_succ, k0, k1, k2, k3, k4, k5, k6, k7, k8, k9, k_a1, k_a2, Nat.reduceAdd, Nat.reduceSub]
                  have a0 := X1.at 0 rfl
                  have a1 := X1.at 1 rfl
                  have b0 := X2.at 0 rfl
                  have b1' := X2.at 1 rfl
                  have u0 := (T9p.below hb5).at 0 rfl
                  have v0 := (T9q.below hb5).at 0 rfl
                  have hF := b9.trans (hb5.mono b9.size)
                  clear X1 X2 hJ k_a1 k_a2 k_f1 k_f2
                  unfold wpList
                  by_cases hpq : p = q
                  · have hpqZ : ((p : Int) != (q : Int)) = false := by simp [hpq]
                    go_wp2
                    go_roundw
                    case rel => exact ⟨q + 1, hlq, by go_num, hF⟩
                    case measure => simp [intOf]; omega
                  · have hpqZ : ((p : Int) != (q : Int)) = true := by simp; omega
                    by_cases hlp0 : lp = 0
                    · have hpz : (lp != 0) = false := by simpa using hlp0
                      have HH := Lib.hid hlp0
                      clear hlp0
                      go_wp2
                      go_roundw
                      case rel => exact ⟨q + 1, hlq, by go_num, hF⟩
                      case measure => simp [intOf]; omega
                    · have hpz : (lp != 0) = true := by simpa using hlp0
                      by_cases hlq0 : lq = 0
                      · have hqz : (lq != 0) = false := by simpa using hlq0
                        have HH := Lib.hid hlq0
                        clear hlq0
                        go_wp2
                        go_roundw
                        case rel => exact ⟨q + 1, hlq, by go_num, hF⟩
                        case measure => simp [intOf]; omega
                      · have hqz : (lq != 0) = true := by simpa using hlq0
                        have hap := HAP.out hpq hlp0 hlq0
                        have e1 : (xp.ri == xq.ri) = false := by simpa using hap.1
                        have e2 : (xp.gr != xq.gr) = false := by simpa using hap.2
                        clear hap hlp0 hlq0
                        go_wp2
                        go_roundw
                        case rel => exact ⟨q + 1, hlq, by go_num, hF⟩
                        case measure => simp [intOf]; omega
              · as_aux_lemma =>
                have hltZ : ¬ (q : Int) < n := by omega
                have b10 := b8.trans (hbr.mono b8.size)
                have B10 := B13.trans (b10.mono (Nat.le_trans hBW B13.size))
                have J10 := BJ.low B10 hgjB
                have C10 := C13.below b10
                have T10 := T8.below hbr
                have hP10 := hP4.low B10 hBW
                obtain ⟨bA', oA', hA', hbA', hph⟩ := hP10 (by have := HN.out; omega)
                injection Option.some.inj hA' with hA2 hA3 _
                subst hA2; subst hA3
                obtain ⟨x0, x1, x2, x3, x4, x5, x6, x7⟩ := hph p (by have := HN.out; omega)
                have hgr := HGS.out p hlp
                rw [HLP.out] at hgr
                clear hph hA' hbA' hP10 x0 x2 x3 x4 x5 x6 x7
                have j0 := J10.at 0 rfl
                have t0 := T10.at 0 rfl
                have c1 := C10.at 1 rfl
                by_cases hlp0 : lp = 0
                · have hpz : (lp != 0) = false := by simpa using hlp0
                  have HH := Lib.hid hlp0
                  clear hlp0 hgr
                  go_wp2
                  go_quiet (fail)
                  go_wp2
                  go_roundw
                  case rel => exact ⟨p + 1, hlp, by go_num, below_drewN b10⟩
                  case measure => simp [intOf]; omega
                · have hpz : (lp != 0) = true := by simpa using hlp0
                  have ez : ((phAt P p).gr != s.gr) = false := by simpa using hgr hlp0
                  clear hlp0 hgr
                  go_wp2
                  go_quiet (fail)
                  go_wp2
                  go_roundw
                  case rel => exact ⟨p + 1, hlp, by go_num, below_drewN b10⟩
                  case measure => simp [intOf]; omega
          · as_aux_lemma =>
            have hltZ : ¬ (p : Int) < n := by omega
            have B15 := B13.trans (hbr.mono (Nat.le_trans hBW B13.size))
            go_wp2
            go_roundw
            case rel => exact ⟨i + 1, s, hlt, by go_num, ⟨gl2, cl2, gx2, cx2, B15, C13.below hbr, L13.below hbr, N13.below hbr, hlc2, hxc2⟩, HVS.out, HGS.out⟩
            case measure => simp [intOf]; omega
    · as_aux_lemma =>
      have hltZ : ¬ (i : Int) < ts.length := by omega
      have hBr : Below B W4 wr := by obtain ⟨_, _, _, _, h, _⟩ := hS; exact h
      go_wp2_with fail
      refine (awake_any _).mono ?_
      rintro e w2 ⟨rfl, hb⟩
      go_wp2
      go_ret
      exact ⟨rfl, hb4.trans ((hBr.mono hwB).trans (hb.mono (Nat.le_trans hb4.size hBr.size)))⟩
end Go.Proofs.Ytkpbkahmbbkcdaa
