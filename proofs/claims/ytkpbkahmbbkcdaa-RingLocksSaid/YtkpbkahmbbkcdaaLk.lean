/-
  The law RingLocks. Conditions: none.
-/
import Derived.Test.YtkpbkahmbbkcdaaLc
import Derived.BigQuiet
namespace Go.Proofs.Ytkpbkahmbbkcdaa
open Go.ChangeShapes Go.WideShapes Go.RowKit
set_option linter.unusedVariables false

set_option maxRecDepth 40000 in
set_option maxHeartbeats 8000000 in
theorem locks_any (A0 : Option Addr) (cA : Nat) (l : List Int) (B0 : Option Addr) (cB : Nat) (ts : List Int) (w : World) (hs : Ints .i64 w w.heap.size A0 l) (hn : Nums l) (hl : l.length ≤ 9223372036854775807) (hsm0 : Ints .i64 w w.heap.size B0 ts) (hnm : Nums ts) (hlm : ts.length ≤ 9223372036854775807) :
    Calls Try.prog 5 #[.slice A0 l.length cA, .slice B0 ts.length cB] w fun e w' => e = .returned (.bool true) ∧ Below w.heap.size w w' := by
  go_enter Try.func5, Try.ntmps5
  by_cases hlen : (150 : Int) < ts.length
  · go_wp2_with fail
    refine (awake_any _).mono ?_
    rintro e w2 ⟨rfl, hb⟩
    go_wp2
    go_ret
    exact ⟨rfl, hb⟩
  go_wp2_with fail
  refine (new_ok A0 l cA _ hs hn hl).mono ?_
  rintro e w2 ⟨rfl, hdk, hb2, hlt2⟩
  go_wp2_with fail
  refine (junction_any w.heap.size w2 hdk).mono ?_
  rintro e w3 ⟨hgr, hdk3, q, st, ex, P, A1, B1, cU, cW, rfl, hj, hP, hI, hA1, hB1, hcU, hdW⟩
  have hb3 := hgr.base hb2 (Nat.le_refl _)
  have hjc := junC_drawn hj
  have hjv := jun_drawn hj
  obtain ⟨n, hnn⟩ : ∃ n, P.length = n := ⟨_, rfl⟩
  obtain ⟨C, hCC⟩ : ∃ C, rowsL P ex = C := ⟨_, rfl⟩
  rw [hnn, hCC] at hjc
  rw [hCC] at hI hjv
  rw [hnn] at hcU hdW ⊢
  have HN := Lib.hid hnn
  have HRC := Lib.hid hjc.rows.len
  clear hnn hCC hgr hdk hdk3 hb2 hj hA1 hB1
  have h1 := hjc.h1
  have h8 := hjc.h8
  obtain ⟨bA, oA, rfl, hbA, _⟩ := hP (by have := HN.out; omega)
  obtain ⟨bB, oB, rfl, hbB, _⟩ := hI (by have := HRC.out; omega)
  have bJ := lat_alloc (Below.refl w3.heap.size w3) (.cells #[.slice (some ⟨bA, oA, none⟩) n cU, .slice (some ⟨bB, oB, none⟩) n cW, .int .i64 st] 30)
  have BJ := Blk.new (w := w3) (t := 30) (cs := #[.slice (some ⟨bA, oA, none⟩) n cU, .slice (some ⟨bB, oB, none⟩) n cW, .int .i64 st])
  have hI4 := hI.grow bJ
  have hP4 := hP.grow bJ
  have hb4 := hb3.trans (bJ.mono hb3.size)
  have hsm := (hsm0.below hb4).more hb4.size
  go_wp2_with fail
  have HGC := Lib.hid (heap_size w3 (.cells #[.slice (some ⟨bA, oA, none⟩) n cU, .slice (some ⟨bB, oB, none⟩) n cW, .int .i64 st] 30))
  generalize w3.alloc (.cells #[.slice (some ⟨bA, oA, none⟩) n cU, .slice (some ⟨bB, oB, none⟩) n cW, .int .i64 st] 30) = W4 at *
  generalize w3.heap.size = gj at *
  clear bJ hI hP hb3 hs hsm0
  obtain ⟨B, hBB⟩ : ∃ B, W4.heap.size = B := ⟨_, rfl⟩
  have HBB := Lib.hid hBB
  have hgjB : gj < B := by have := HGC.out; omega
  have hbAB : bA < B := by have := HGC.out; omega
  have hbBB : bB < B := by have := HGC.out; omega
  have hBW : B ≤ W4.heap.size := by omega
  have hwB : w.heap.size ≤ B := by have := hb4.size; omega
  refine (pinit_any (some ⟨bA, oA, none⟩) (some ⟨bB, oB, none⟩) cU cW n n P st W4 HN.out hP4 h1 (by omega)).mono ?_
  rintro e w5 ⟨v, rfl, b5, gl, cl, gx, cx, rfl, hgl, hgx, L5, N5⟩
  rw [hBB] at hI4 hP4 hsm hgl hgx b5
  clear hBB
  go_wp2_with fail
  have hgl5 := L5.lt
  have hgx5 := N5.lt
  have hs5 := b5.size
  have bC := lat_alloc (Below.refl w5.heap.size w5) (.cells #[.slice (some ⟨gl, 0, none⟩) n cl, .int .i64 (initC P n st).gr, .slice (some ⟨gx, 0, none⟩) 2 cx, .int .i64 (initC P n st).wt] 25)
  have BC := Blk.new (w := w5) (t := 25) (cs := #[.slice (some ⟨gl, 0, none⟩) n cl, .int .i64 (initC P n st).gr, .slice (some ⟨gx, 0, none⟩) 2 cx, .int .i64 (initC P n st).wt])
  have L6 := L5.below bC
  have N6 := N5.below bC
  have b6 := b5.trans (bC.mono (by omega))
  generalize w5.alloc (.cells #[.slice (some ⟨gl, 0, none⟩) n cl, .int .i64 (initC P n st).gr, .slice (some ⟨gx, 0, none⟩) 2 cx, .int .i64 (initC P n st).wt] 25) = W6 at *
  obtain ⟨gc, hgc⟩ : ∃ gc, w5.heap.size = gc := ⟨_, rfl⟩
  rw [hgc] at BC hgl5 hgx5 ⊢
  have hBgc : B ≤ gc := by omega
  have hlc : gl ≠ gc := by omega
  have hxc : gx ≠ gc := by omega
  have S6 : StdC W4 W6 B gc n (initC P n st) := ⟨gl, cl, gx, cx, b6, BC, L6, N6, hlc, hxc⟩
  have hv0 : CtV P C n st (initC P n st) := init_v h1 hjc.st.1 hjc.gr
  clear bC b5 L5 N5 hgl hgx hgl5 hgx5 hs5 hgc L6 N6 b6 BC hlc hxc
  go_loopw [25] (fun v wr => ∃ i c, i ≤ ts.length ∧ v = .int .i64 (i : Nat) ∧ StdC W4 wr B gc n c ∧ CtV P C n st c) (fun v _ => ts.length - (intOf v).toNat)
  case atStart => exact ⟨0, _, Nat.zero_le _, rfl, S6, hv0⟩
  case round =>
    obtain ⟨i, c, hi, rfl, hS, hvc⟩ := hrel
    clear S6 hv0
    by_cases hlt : i < ts.length
    · have hltZ : (i : Int) < ts.length := by omega
      obtain ⟨bT, oT, rfl, hbT, hcT⟩ := hsm (by omega)
      obtain ⟨x, hx⟩ : ∃ x, at_ ts i = x := ⟨_, rfl⟩
      have hxb : -9223372036854775808 ≤ x ∧ x ≤ 9223372036854775807 := by rw [← hx]; exact hnm _ (by simp [at_, hlt])
      have hBr : Below B W4 wr := by obtain ⟨_, _, _, _, h, _⟩ := hS; exact h
      have t0 := (hBr.cell (p := ⟨bT, oT + i, none⟩) hbT).trans (hcT i hlt)
      rw [hx] at t0
      clear hcT
      have hq := tdiv_bd x 16 (by omega) hxb.1 hxb.2
      obtain ⟨m, hm, hm3⟩ := modI_nat' (x.tdiv 16) 3 (by omega)
      have HM := Lib.hid hm
      clear hm hx
      go_wp2_with fail
      refine (mod_k HM.out (by omega) (by omega) (by omega) (by omega) _).mono ?_
      rintro e w' ⟨rfl, rfl⟩
      go_wp2_with fail
      have S0 := hS
      have V0 := hvc
      clear hS hvc t0
      go_loopw [33] (fun v wr => ∃ (r : Nat) (c : Ct), r ≤ 1 + m ∧ v = .int .i64 r ∧ StdC W4 wr B gc n c ∧ CtV P C n st c) (fun v _ => 1 + m - (intOf v).toNat)
      case atStart => exact ⟨0, c, by omega, rfl, S0, V0⟩
      case round =>
        obtain ⟨r, c, hr, rfl, hS, hvc⟩ := hrel
        clear S0 V0 hBr
        by_cases hlr : r < 1 + m
        · as_aux_lemma =>
          have hlrZ : (r : Int) < 1 + (m : Int) := by omega
          obtain ⟨gl, cl, gx, cx, Br, Cr, Lr, Nr, hlc, hxc⟩ := hS
          have Jr := BJ.low Br hgjB
          obtain ⟨k, hk, hkn⟩ := modI_nat' x ((n : Int) + 2) (by omega)
          have HMD := Lib.hid (fun xw => mod_b (a := x) (m := (n : Int) + 2) (k := k) hk (by omega) (by omega) (by omega) (by omega) xw)
          clear hk
          go_wp2_with fail
          refine wp_region_pre (R := Bl) 9 93 [fun v _ => v = .agg #[.slice (some ⟨bA, oA, none⟩) n cU, .slice (some ⟨bB, oB, none⟩) n cW, .int .i64 st], fun v _ => v = .agg #[.slice (some ⟨gl, 0, none⟩) n cl, .int .i64 (c).gr, .slice (some ⟨gx, 0, none⟩) 2 cx, .int .i64 (c).wt], fun v _ => v = .int .i64 x, fun v _ => v = .pointer (some ⟨gj, 0, none⟩), fun v _ => v = .slice (some ⟨bA, oA, none⟩) n cU, fun v _ => v = .int .i64 n, fun v _ => v = .int .i64 ((n : Int) + 2), fun v _ => v = .int .i64 (k : Nat), fun v _ => v = .int .i64 ((k : Nat) - 1)] (Bl.trans) (Bl.drew) (by kernel_rfl) (fun _ _ d _ _ h => by cases d <;> exact h) rfl (by kernel_rfl) (stay_cons (stays_v _) (stay_cons (stays_v _) (stay_cons (stays_v _) (stay_cons (stays_v _) (stay_cons (stays_v _) (stay_cons (stays_v _) (stay_cons (stays_v _) (stay_cons (stays_v _) (stay_cons (stays_v _) (stay_nil)))))))))) ?_ ?_
          · simp only [List.take_succ_cons, List.take_zero]
            refine steps_cons (Bl.refl) (fun ev xw hb hc hf hfr hd hr => ?_) ?_
            · have e5 : ev (.tmp 5) = .pointer (some ⟨gj, 0, none⟩) := hfr 5 (by kernel_rfl)
              clear hfr hd
              have k0 := (Jr.below hb).at 0 rfl
              have k1 := (Jr.below hb).at 1 rfl
              have k2 := (Jr.below hb).at 2 rfl
              show OpOk _ _ ev xw fun v w' => Bl xw w' ∧ (v = .agg #[.slice (some ⟨bA, oA, none⟩) n cU, .slice (some ⟨bB, oB, none⟩) n cW, .int .i64 st])
              refine opOk_hid (fun Rp HR => ?_)
              unfold OpOk
              go_simp
              rw [HR.out]
              exact ⟨hr, rfl⟩
            refine steps_cons (Bl.refl) (fun ev xw hb hc hf hfr hd hr => ?_) ?_
            · have e6 : ev (.tmp 6) = .pointer (some ⟨gc, 0, none⟩) := hfr 6 (by kernel_rfl)
              clear hfr hd
              have k0 := (Cr.below hb).at 0 rfl
              have k1 := (Cr.below hb).at 1 rfl
              have k2 := (Cr.below hb).at 2 rfl
              have k3 := (Cr.below hb).at 3 rfl
              show OpOk _ _ ev xw fun v w' => Bl xw w' ∧ (v = .agg #[.slice (some ⟨gl, 0, none⟩) n cl, .int .i64 (c).gr, .slice (some ⟨gx, 0, none⟩) 2 cx, .int .i64 (c).wt])
              refine opOk_hid (fun Rp HR => ?_)
              unfold OpOk
              go_simp
              rw [HR.out]
              exact ⟨hr, rfl⟩
            refine steps_cons (Bl.refl) (fun ev xw hb hc hf hfr hd hr => ?_) ?_
            · have e8 : ev (.tmp 8) = .int .i64 x := hfr 8 (by kernel_rfl)
              clear hfr hd
              show OpOk _ _ ev xw fun v w' => Bl xw w' ∧ (v = .int .i64 x)
              refine opOk_hid (fun Rp HR => ?_)
              unfold OpOk
              go_simp
              rw [HR.out]
              exact ⟨hr, rfl⟩
            refine steps_cons (Bl.refl) (fun ev xw hb hc hf hfr hd hr => ?_) ?_
            · have e5 : ev (.tmp 5) = .pointer (some ⟨gj, 0, none⟩) := hfr 5 (by kernel_rfl)
              clear hfr hd
              show OpOk _ _ ev xw fun v w' => Bl xw w' ∧ (v = .pointer (some ⟨gj, 0, none⟩))
              refine opOk_hid (fun Rp HR => ?_)
              unfold OpOk
              go_simp
              rw [HR.out]
              exact ⟨hr, rfl⟩
            refine steps_cons (Bl.refl) (fun ev xw hb hc hf hfr hd hr => ?_) ?_
            · have e38 : ev (.tmp 38) = .pointer (some ⟨gj, 0, none⟩) := hd 3 38 (by kernel_rfl)
              clear hfr hd
              have k0 := (Jr.below hb).at 0 rfl
              show OpOk _ _ ev xw fun v w' => Bl xw w' ∧ (v = .slice (some ⟨bA, oA, none⟩) n cU)
              refine opOk_hid (fun Rp HR => ?_)
              unfold OpOk
              go_simp
              rw [HR.out]
              exact ⟨hr, rfl⟩
            refine steps_cons (Bl.refl) (fun ev xw hb hc hf hfr hd hr => ?_) ?_
            · have e39 : ev (.tmp 39) = .slice (some ⟨bA, oA, none⟩) n cU := hd 4 39 (by kernel_rfl)
              clear hfr hd
              show OpOk _ _ ev xw fun v w' => Bl xw w' ∧ (v = .int .i64 n)
              refine opOk_hid (fun Rp HR => ?_)
              unfold OpOk
              go_simp
              rw [HR.out]
              exact ⟨hr, rfl⟩
            refine steps_cons (Bl.refl) (fun ev xw hb hc hf hfr hd hr => ?_) ?_
            · have e40 : ev (.tmp 40) = .int .i64 n := hd 5 40 (by kernel_rfl)
              clear hfr hd
              have zw : IntKind.i64.wrap ((n : Int) + 2) = (n : Int) + 2 := by rw [IntKind.wrap_i64]; omega
              show OpOk _ _ ev xw fun v w' => Bl xw w' ∧ (v = .int .i64 ((n : Int) + 2))
              refine opOk_hid (fun Rp HR => ?_)
              unfold OpOk
              go_simp
              rw [HR.out]
              exact ⟨hr, rfl⟩
            refine steps_cons (Bl.refl) (fun ev xw hb hc hf hfr hd hr => ?_) ?_
            · have e37 : ev (.tmp 37) = .int .i64 x := hd 2 37 (by kernel_rfl)
              have e41 : ev (.tmp 41) = .int .i64 ((n : Int) + 2) := hd 6 41 (by kernel_rfl)
              clear hfr hd
              show OpOk _ _ ev xw fun v w' => Bl xw w' ∧ (v = .int .i64 (k : Nat))
              refine opOk_hid (fun Rp HR => ?_)
              unfold OpOk
              go_simp
              refine (HMD.out xw).mono ?_
              rintro e w'' ⟨rfl, hw⟩
              refine ⟨_, rfl, ?_⟩
              rw [HR.out]
              exact ⟨hw, rfl⟩
            refine steps_cons (Bl.refl) (fun ev xw hb hc hf hfr hd hr => ?_) ?_
            · have e42 : ev (.tmp 42) = .int .i64 (k : Nat) := hd 7 42 (by kernel_rfl)
              clear hfr hd
              have zw : IntKind.i64.wrap ((k : Nat) - 1) = ((k : Nat) - 1 : Int) := by rw [IntKind.wrap_i64]; omega
              show OpOk _ _ ev xw fun v w' => Bl xw w' ∧ (v = .int .i64 ((k : Nat) - 1))
              refine opOk_hid (fun Rp HR => ?_)
              unfold OpOk
              go_simp
              rw [HR.out]
              exact ⟨hr, rfl⟩
            exact steps_nil
          · intro vs W11 hb11 hk
            have k0 : vs 0 = .agg #[.slice (some ⟨bA, oA, none⟩) n cU, .slice (some ⟨bB, oB, none⟩) n cW, .int .i64 st] := hk 0 (by omega)
            have k1 : vs 1 = .agg #[.slice (some ⟨gl, 0, none⟩) n cl, .int .i64 (c).gr, .slice (some ⟨gx, 0, none⟩) 2 cx, .int .i64 (c).wt] := hk 1 (by omega)
            have k8 : vs 8 = .int .i64 ((k : Nat) - 1) := hk 8 (by omega)
            clear hk
            simp only [List.take_succ_cons, List.take_zero, List.drop_succ_cons, List.drop_zero, putAll, Act.put, List.setIfInBounds_toArray, List.set_cons_zero, List.set_cons_succ, k0, k1, k8, Nat.reduceAdd, Nat.reduceSub]
            have B11 := Br.trans (Below.mono hb11 (Nat.le_trans hBW Br.size))
            have C11 := Cr.below hb11
            have L11 := Lr.below hb11
            have N11 := Nr.below hb11
            clear Br Cr Lr Nr Jr hb11
            go_wp2_with fail
            refine (pstep_any (some ⟨bA, oA, none⟩) (some ⟨bB, oB, none⟩) (some ⟨gl, 0, none⟩) (some ⟨gx, 0, none⟩) cU cW cl cx n P C c st ((k : Nat) - 1) W11 hjc hjv hvc (hP4.low B11 hBW) (hI4.low B11 hBW) hcU L11.prs N11.ints).mono ?_
            rintro e w12 ⟨v, rfl, b12, gl2, cl2, gx2, cx2, rfl, hgl2, hgx2, L12, N12⟩
            have hgcs := C11.lt
            have C12 := C11.below b12
            have B12 := B11.trans (b12.mono (Nat.le_trans hBW B11.size))
            have hlc2 : gl2 ≠ gc := by omega
            have hxc2 : gx2 ≠ gc := by omega
            clear C11 L11 N11 B11 b12
            go_wp2_with (refine step_store_ct (by rfl) (by rfl) (by rfl) (by rfl) (by rfl) C12 ?_; intro w13 C13 hg13; have c0 := C13.at 0 rfl; have c1 := C13.at 1 rfl; have c2 := C13.at 2 rfl; have c3 := C13.at 3 rfl; have Jx := BJ.low (B12.grown hg13 (Nat.le_trans hBW B12.size) (fun k e => by injection e with e; omega)) hgjB; have j0 := Jx.at 0 rfl; have j1 := Jx.at 1 rfl; have j2 := Jx.at 2 rfl)
            have L13 := L12.grown hg13 (by intro e; injection e with e; omega)
            have N13 := N12.grown hg13 (by intro e; injection e with e; omega)
            have B13 : Below B W4 w13 := B12.grown hg13 (Nat.le_trans hBW B12.size) (fun k e => by injection e with e; omega)
            have hvs := step_v hjc.rows hvc h1 hjc.pok hjc.ri hjc.gr ((k : Nat) - 1)
            clear hg13 C12 L12 N12 B12
            obtain ⟨s, hss⟩ : ∃ s, stepC P C n c ((k : Nat) - 1) = s := ⟨_, rfl⟩
            rw [hss] at C13 L13 N13 hvs c0 c1 c2 c3 ⊢
            clear hss
            refine (pvalid_any (some ⟨bA, oA, none⟩) (some ⟨bB, oB, none⟩) (some ⟨gl2, 0, none⟩) (some ⟨gx2, 0, none⟩) cU cW cl2 cx2 n P C s st w13 hjc hjv hvs (hP4.low B13 hBW) (hI4.low B13 hBW) hcU L13.prs N13.ints).mono ?_
            rintro e w14 ⟨rfl, b14⟩
            clear c0 c1 c2 c3 j0 j1 j2 Jx
            have C14 := C13.below b14
            have L14 := L13.below b14
            have N14 := N13.below b14
            have B14 := B13.trans (b14.mono (Nat.le_trans hBW B13.size))
            have J14 := BJ.low B14 hgjB
            have hli := hvs.li
            have HLI := Lib.hid hli
            have HNX := Lib.hid hvs.nx
            have HVS := Lib.hid hvs
            clear C13 L13 N13 B13 b14 hli hvc
            have c0 := C14.at 0 rfl
            have j0 := J14.at 0 rfl
            have HNO := Lib.hid (show ∀ p q, p < n → q < n → hasB ((setV s.li n : Nat) : Int) p = true → hasB ((setV s.li n : Nat) : Int) q = true → hasB (at_ C p) q = false by
              intro p q hp hq h3 h4
              rw [set_bit] at h3 h4
              simp only [Bool.and_eq_true, decide_eq_true_eq] at h3 h4
              exact hvs.no p q hp hq h3.2 h4.2)
            clear hvs
            go_wp2_with fail
            clear c0 j0
            obtain ⟨gS, hgS⟩ : ∃ gS, w14.heap.size = gS := ⟨_, rfl⟩
            go_loopw [9, 61] (fun s9 v wr => ∃ p : Nat, p ≤ n ∧ s9 = .int .i64 (setV s.li p : Nat) ∧ v = .int .i64 p ∧ Below w14.heap.size w14 wr) (fun _ v _ => n - (intOf v).toNat)
            case atStart => exact ⟨0, by omega, rfl, rfl, Below.refl _ _⟩
            case round =>
              obtain ⟨p, hp, rfl, rfl, hbr⟩ := hrel
              by_cases hlp : p < n
              · as_aux_lemma =>
                have hltZ : (p : Int) < n := by omega
                obtain ⟨l0, l1, f0, f1⟩ := (L14.below hbr).at (i := p) (by have := HLI.out; omega)
                clear f0 f1
                have B8 := Blk.new (w := wr) (t := 45) (cs := #[.int .i64 (prAt s.li p).1, .int .i64 (prAt s.li p).2])
                have bX := lat_alloc hbr (.cells #[.int .i64 (prAt s.li p).1, .int .i64 (prAt s.li p).2] 45)
                have k0 := B8.at 0 rfl
                have HD := Lib.hid (show lmp s.li p = (prAt s.li p).1 from rfl)
                have HS := Lib.hid (show setV s.li (p + 1) = setV s.li p + if lmp s.li p ≠ 0 then 2 ^ p else 0 by rw [setV])
                have hp60 : p ≤ 60 := by omega
                have hsl := setV_lt s.li p
                have hpw := pow_60 (k := p) (by omega)
                have hwp := wrap_pow (k := p) (by omega)
                clear B8
                generalize setV s.li p = sv at *
                generalize prAt s.li p = y at *
                by_cases h2 : y.1 = 0
                · have z2 : (y.1 != 0) = false := by simpa using h2
                  have H2 := Lib.hid h2
                  clear h2 hwp hsl hpw
                  go_wp2
                  go_roundw
                  case rel => exact ⟨p + 1, hlp, by rw [HS.out, if_neg (by rw [HD.out, H2.out]; simp)]; rfl, by go_num, bX⟩
                  case measure => simp [intOf]; omega
                · have z2 : (y.1 != 0) = true := by simpa using h2
                  have H2 := Lib.hid h2
                  clear h2
                  have HS2 := Lib.hid (show setV s.li (p + 1) = sv + 2 ^ p by rw [HS.out, if_pos (by rw [HD.out]; exact H2.out)])
                  obtain ⟨m2, hm2⟩ : ∃ m2 : Nat, 2 ^ p = m2 := ⟨_, rfl⟩
                  rw [hm2] at hwp hsl hpw HS2
                  have hor := or_pow2 hm2 hsl hp60
                  clear hm2 HS
                  have hm2 : sv < 1152921504606846976 ∧ m2 ≤ 1152921504606846976 := ⟨Nat.lt_of_lt_of_le hsl hpw, hpw⟩
                  clear hsl hpw
                  go_wp2
                  go_roundw
                  case rel => exact ⟨p + 1, hlp, by rw [HS2.out]; simp, by go_num, bX⟩
                  case measure => simp [intOf]; omega
              · as_aux_lemma =>
                have hltZ : ¬ (p : Int) < n := by omega
                have hpn : p = n := by omega
                rw [hpn]
                have B15 := B14.trans (hbr.mono (Nat.le_trans hBW B14.size))
                have C15 := C14.below hbr
                have L15 := L14.below hbr
                have N15 := N14.below hbr
                have J15 := BJ.low B15 hgjB
                have j1 := J15.at 1 rfl
                have hlz : ¬ (n : Int) < n := by omega
                clear hltZ hpn hbr C14 L14 N14 J14 B14
                go_wp2_with fail
                refine (rclash_c (A := some ⟨bB, oB, none⟩) (cA := cW) wr HRC.out (hI4.low B15 hBW) (by omega) HNO.out).mono ?_
                rintro e w16 ⟨rfl, b16⟩
                have C16 := C15.below b16
                have c0 := C16.at 0 rfl; have c1 := C16.at 1 rfl; have c2 := C16.at 2 rfl; have c3 := C16.at 3 rfl
                clear j1
                go_wp2_with fail
                refine (pset_c (D := some ⟨gl2, 0, none⟩) (vX := .slice (some ⟨gx2, 0, none⟩) 2 cx2) (cL := cl2) (g := s.gr) (wt := s.wt) w16 HLI.out (L15.below b16).prs (by omega) rfl).mono ?_
                rintro e w17 ⟨rfl, b17⟩
                clear c0 c1 c2 c3
                go_wp2
                go_roundw
                case rel => exact ⟨r + 1, s, by omega, by go_num, ⟨gl2, cl2, gx2, cx2, (B15.trans (b16.mono (Nat.le_trans hBW B15.size))).trans (b17.mono (Nat.le_trans hBW (Nat.le_trans B15.size b16.size))), C16.below b17, (L15.below b16).below b17, (N15.below b16).below b17, hlc2, hxc2⟩, HVS.out⟩
                case measure => simp [intOf]; omega
        · have hlrZ : ¬ (r : Int) < 1 + (m : Int) := by omega
          go_wp2
          go_roundw
          case rel => exact ⟨i + 1, c, hlt, by go_num, hS, hvc⟩
          case measure => simp [intOf]; omega
    · have hltZ : ¬ (i : Int) < ts.length := by omega
      have hBr : Below B W4 wr := by obtain ⟨_, _, _, _, h, _⟩ := hS; exact h
      go_wp2_with fail
      refine (awake_any _).mono ?_
      rintro e w2 ⟨rfl, hb⟩
      go_wp2
      go_ret
      exact ⟨rfl, hb4.trans ((hBr.mono hwB).trans (hb.mono (Nat.le_trans hb4.size hBr.size)))⟩
end Go.Proofs.Ytkpbkahmbbkcdaa
