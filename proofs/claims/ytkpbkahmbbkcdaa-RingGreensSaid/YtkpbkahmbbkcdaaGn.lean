/-
  The law RingGreens. Conditions: none.
-/
import Derived.Test.YtkpbkahmbbkcdaaGg
import Derived.Test.YtkpbkahmbbkcdaaTs
import Derived.Deep.OwnRows
import Derived.BigQuiet
namespace Go.Proofs.Ytkpbkahmbbkcdaa
open Go.ChangeShapes Go.WideShapes Go.RowKit
set_option linter.unusedVariables false

theorem LiB.ne_nx {w : World} {g b : Nat} {L : List (Int × Int)} {X : List Int} (h : LiB w g L) (hB : NxB w b X) : g ≠ b := fun e => by
  obtain ⟨ds, hd, _⟩ := h
  obtain ⟨es, he, _⟩ := hB
  rw [e] at hd
  have := hd.symm.trans he
  injection this with this; injection this with _ this; exact absurd this (by decide)
set_option maxRecDepth 40000 in
set_option maxHeartbeats 8000000 in
theorem greens_any (A0 : Option Addr) (cA : Nat) (l : List Int) (B0 : Option Addr) (cB : Nat) (ts : List Int) (w : World) (hs : Ints .i64 w w.heap.size A0 l) (hn : Nums l) (hl : l.length ≤ 9223372036854775807) (hsm0 : Ints .i64 w w.heap.size B0 ts) (hnm : Nums ts) (hlm : ts.length ≤ 9223372036854775807) :
    Calls Try.prog 6 #[.slice A0 l.length cA, .slice B0 ts.length cB] w fun e w' => e = .returned (.bool true) ∧ Below w.heap.size w w' := by
  go_enter Try.func6, Try.ntmps6
  by_cases hlen : (150 : Int) < ts.length
  · go_wp2_with fail
    refine (awake_any _).mono ?_
    rintro e w2 ⟨rfl, hb⟩
    go_wp2
    go_ret
    exact ⟨rfl, hb⟩
  go_wp2_with fail
  refine (new_ok A0 l cA _ hs hn hl).mono ?_
  rintro e w2 ⟨rfl, hdk, hb2, hlt2⟩
  go_wp2_with fail
  refine (junction_any w.heap.size w2 hdk).mono ?_
  rintro e w3 ⟨hgr, hdk3, q, st, ex, P, A1, B1, cU, cW, rfl, hj, hP, hI, hA1, hB1, hcU, hdW⟩
  have hb3 := hgr.base hb2 (Nat.le_refl _)
  have hjc := junC_drawn hj
  have hjv := jun_drawn hj
  obtain ⟨n, hnn⟩ : ∃ n, P.length = n := ⟨_, rfl⟩
  obtain ⟨C, hCC⟩ : ∃ C, rowsL P ex = C := ⟨_, rfl⟩
  rw [hnn, hCC] at hjc
  rw [hCC] at hI hjv
  rw [hnn] at hcU hdW ⊢
  have HN := Lib.hid hnn
  have HRC := Lib.hid hjc.rows.len
  clear hnn hCC hgr hdk hdk3 hb2 hj hA1 hB1
  have h1 := hjc.h1
  have h8 := hjc.h8
  obtain ⟨bA, oA, rfl, hbA, _⟩ := hP (by have := HN.out; omega)
  obtain ⟨bB, oB, rfl, hbB, _⟩ := hI (by have := HRC.out; omega)
  have bJ := lat_alloc (Below.refl w3.heap.size w3) (.cells #[.slice (some ⟨bA, oA, none⟩) n cU, .slice (some ⟨bB, oB, none⟩) n cW, .int .i64 st] 30)
  have BJ := Blk.new (w := w3) (t := 30) (cs := #[.slice (some ⟨bA, oA, none⟩) n cU, .slice (some ⟨bB, oB, none⟩) n cW, .int .i64 st])
  have hI4 := hI.grow bJ
  have hP4 := hP.grow bJ
  have hb4 := hb3.trans (bJ.mono hb3.size)
  have hsm := (hsm0.below hb4).more hb4.size
  go_wp2_with fail
  have HGC := Lib.hid (heap_size w3 (.cells #[.slice (some ⟨bA, oA, none⟩) n cU, .slice (some ⟨bB, oB, none⟩) n cW, .int .i64 st] 30))
  generalize w3.alloc (.cells #[.slice (some ⟨bA, oA, none⟩) n cU, .slice (some ⟨bB, oB, none⟩) n cW, .int .i64 st] 30) = W4 at *
  generalize w3.heap.size = gj at *
  clear bJ hI hP hb3 hs hsm0
  obtain ⟨B, hBB⟩ : ∃ B, W4.heap.size = B := ⟨_, rfl⟩
  have HBB := Lib.hid hBB
  have hgjB : gj < B := by have := HGC.out; omega
  have hbAB : bA < B := by have := HGC.out; omega
  have hbBB : bB < B := by have := HGC.out; omega
  have hBW : B ≤ W4.heap.size := by omega
  have hwB : w.heap.size ≤ B := by have := hb4.size; omega
  refine (pinit_any (some ⟨bA, oA, none⟩) (some ⟨bB, oB, none⟩) cU cW n n P st W4 HN.out hP4 h1 (by omega)).mono ?_
  rintro e w5 ⟨v, rfl, b5, gl, cl, gx, cx, rfl, hgl, hgx, L5, N5⟩
  rw [hBB] at hI4 hP4 hsm hgl hgx b5
  clear hBB
  have Jx := (BJ.low b5 hgjB).alloc (.cells #[.slice (some ⟨gl, 0, none⟩) n cl, .int .i64 (initC P n st).gr, .slice (some ⟨gx, 0, none⟩) 2 cx, .int .i64 (initC P n st).wt] 25)
  have j0 := Jx.at 0 rfl
  go_wp2_with (obtain ⟨ii, hi0, hi1, hi2, hi3⟩ := info_parts int_info; refine wpList_make_row _ rfl _ _ 23 rfl 3 ii (.int .i64 0) Try.underlying23 hi0 hi1 hi2 rfl .i64 .i64 n rfl rfl (by rw [hi3]; omega) (by omega) ?_)
  clear j0 Jx
  have hgl5 := L5.lt
  have hgx5 := N5.lt
  have hs5 := b5.size
  have bC := lat_alloc (Below.refl w5.heap.size w5) (.cells #[.slice (some ⟨gl, 0, none⟩) n cl, .int .i64 (initC P n st).gr, .slice (some ⟨gx, 0, none⟩) 2 cx, .int .i64 (initC P n st).wt] 25)
  have BC := Blk.new (w := w5) (t := 25) (cs := #[.slice (some ⟨gl, 0, none⟩) n cl, .int .i64 (initC P n st).gr, .slice (some ⟨gx, 0, none⟩) 2 cx, .int .i64 (initC P n st).wt])
  have N0 := zeros_nxb (w := w5.alloc (.cells #[.slice (some ⟨gl, 0, none⟩) n cl, .int .i64 (initC P n st).gr, .slice (some ⟨gx, 0, none⟩) 2 cx, .int .i64 (initC P n st).wt] 25)) n (by omega)
  have bZ := lat_alloc (Below.refl (w5.alloc (.cells #[.slice (some ⟨gl, 0, none⟩) n cl, .int .i64 (initC P n st).gr, .slice (some ⟨gx, 0, none⟩) 2 cx, .int .i64 (initC P n st).wt] 25)).heap.size (w5.alloc (.cells #[.slice (some ⟨gl, 0, none⟩) n cl, .int .i64 (initC P n st).gr, .slice (some ⟨gx, 0, none⟩) 2 cx, .int .i64 (initC P n st).wt] 25))) (.cells (madeCells #[.int .i64 0] n) 3)
  have hb2 := bC.trans (bZ.mono bC.size)
  have L6 := (L5.below bC).below bZ
  have N6 := (N5.below bC).below bZ
  have BC6 := BC.below bZ
  have b6 := b5.trans (hb2.mono (by omega))
  rw [heap_size] at N0
  generalize (w5.alloc (.cells #[.slice (some ⟨gl, 0, none⟩) n cl, .int .i64 (initC P n st).gr, .slice (some ⟨gx, 0, none⟩) 2 cx, .int .i64 (initC P n st).wt] 25)).alloc (.cells (madeCells #[.int .i64 0] n) 3) = W6 at *
  obtain ⟨gc, hgc⟩ : ∃ gc, w5.heap.size = gc := ⟨_, rfl⟩
  obtain ⟨gs, hgs⟩ : ∃ gs, w5.heap.size + 1 = gs := ⟨_, rfl⟩
  rw [hgs] at N0 ⊢
  rw [hgc] at BC6 hgl5 hgx5 ⊢
  have hBgc : B ≤ gc := by omega
  have hBgs : B ≤ gs := by omega
  have hgsc : gs ≠ gc := by omega
  have S6 : StdC W4 W6 B gc n (initC P n st) := ⟨gl, cl, gx, cx, b6, BC6, L6, N6, by omega, by omega⟩
  have hv0 : CtV P C n st (initC P n st) := init_v h1 hjc.st.1 hjc.gr
  have hl0 : ∀ p, p < n → lmp (initC P n st).li p = 0 := fun p hp => by
    show lmp (List.replicate n ((0, 0) : Int × Int)) p = 0
    unfold lmp; rw [prAt_rep hp]
  have hz0 : ∀ q, q < n → at_ (List.replicate n (0 : Int)) q = 0 := fun q hq => by simp [at_, hq]
  clear bC b5 L5 N5 hgl hgx hgl5 hgx5 hs5 hgc hgs L6 N6 b6 BC BC6 bZ hb2
  go_loopw [31] (fun v wr => ∃ (i : Nat) (c : Ct) (S : List Int), i ≤ ts.length ∧ v = .int .i64 (i : Nat) ∧ StdC W4 wr B gc n c ∧ CtV P C n st c ∧ NxB wr gs S ∧ S.length = n ∧ (∀ q, q < n → 0 ≤ at_ S q ∧ at_ S q ≤ (i : Int)) ∧ ∀ q, q < n → lmp c.li q ≠ 0 → at_ S q = tck c.li q) (fun v _ => ts.length - (intOf v).toNat)
  case atStart => exact ⟨0, _, _, Nat.zero_le _, rfl, S6, hv0, N0, List.length_replicate, fun q hq => by rw [hz0 q hq]; simp, fun q hq h => absurd (hl0 q hq) h⟩
  case round =>
    obtain ⟨i, c, S, hi, rfl, hS, hvc, Rr, hSl, hSb, hSo⟩ := hrel
    clear S6 hv0 N0 hl0 hz0
    by_cases hlt : i < ts.length
    · as_aux_lemma =>
      have hltZ : (i : Int) < ts.length := by omega
      obtain ⟨bT, oT, rfl, hbT, hcT⟩ := hsm (by omega)
      obtain ⟨x, hx⟩ : ∃ x, at_ ts i = x := ⟨_, rfl⟩
      have hxb : -9223372036854775808 ≤ x ∧ x ≤ 9223372036854775807 := by rw [← hx]; exact hnm _ (by simp [at_, hlt])
      obtain ⟨gl, cl, gx, cx, Br, Cr, Lr, Nr, hlc, hxc⟩ := hS
      have t0 := (Br.cell (p := ⟨bT, oT + i, none⟩) hbT).trans (hcT i hlt)
      rw [hx] at t0
      clear hcT hx
      have Jr := BJ.low Br hgjB
      have hBr : B ≤ wr.heap.size := Nat.le_trans hBW Br.size
      obtain ⟨k, hk, hkn⟩ := modI_nat' x ((n : Int) + 2) (by omega)
      have HMD := Lib.hid (fun xw => mod_b (a := x) (m := (n : Int) + 2) (k := k) hk (by omega) (by omega) (by omega) (by omega) xw)
      have hvs := step_v hjc.rows hvc h1 hjc.pok hjc.ri hjc.gr ((k : Nat) - 1)
      obtain ⟨s, hss⟩ : ∃ s, stepC P C n c ((k : Nat) - 1) = s := ⟨_, rfl⟩
      rw [hss] at hvs
      have HSS := Lib.hid hss
      have HVC := Lib.hid hvc
      have HVS := Lib.hid hvs
      have HLI := Lib.hid hvs.li
      have HLC := Lib.hid hvc.li
      have HSL := Lib.hid hSl
      have HSB := Lib.hid hSb
      have HSO := Lib.hid hSo
      have hlsne : gl ≠ gs := Lr.ne_nx Rr
      clear hk hss hvs hvc hSl hSb hSo
      go_wp2_with fail
      clear t0
      refine wp_region_pre (R := Bl) 11 158 [fun v _ => v = .agg #[.slice (some ⟨bA, oA, none⟩) n cU, .slice (some ⟨bB, oB, none⟩) n cW, .int .i64 st], fun v _ => v = .agg #[.slice (some ⟨gl, 0, none⟩) n cl, .int .i64 (c).gr, .slice (some ⟨gx, 0, none⟩) 2 cx, .int .i64 (c).wt], fun v _ => v = .int .i64 x, fun v _ => v = .pointer (some ⟨gj, 0, none⟩), fun v _ => v = .slice (some ⟨bA, oA, none⟩) n cU, fun v _ => v = .int .i64 n, fun v _ => v = .int .i64 ((n : Int) + 2), fun v _ => v = .int .i64 (k : Nat), fun v _ => v = .int .i64 ((k : Nat) - 1), fun v w => CtH w wr.heap.size n (v) s, fun v w => ∃ b, v = .pointer (some ⟨b, 0, none⟩) ∧ Blk w b 25 #[.slice none 0 0, .int .i64 0, .slice none 0 0, .int .i64 0] ∧ wr.heap.size ≤ b] (Bl.trans) (Bl.drew) (by kernel_rfl) (fun _ _ d _ _ h => by cases d <;> exact h) rfl (by kernel_rfl) (stay_cons (stays_v _) (stay_cons (stays_v _) (stay_cons (stays_v _) (stay_cons (stays_v _) (stay_cons (stays_v _) (stay_cons (stays_v _) (stay_cons (stays_v _) (stay_cons (stays_v _) (stay_cons (stays_v _) (stay_cons (fun v w w1 h hb => CtH.below h hb) (stay_cons (fun v w w1 h hb => by obtain ⟨b, h1, h2, h3⟩ := h; exact ⟨b, h1, h2.below hb, h3⟩) (stay_nil)))))))))))) ?_ ?_
      · simp only [List.take_succ_cons, List.take_zero]
        refine steps_cons (Bl.refl) (fun ev xw hb hc hf hfr hd hr => ?_) ?_
        · have e5 : ev (.tmp 5) = .pointer (some ⟨gj, 0, none⟩) := hfr 5 (by kernel_rfl)
          clear hfr hd
          have k0 := (Jr.below hb).at 0 rfl
          have k1 := (Jr.below hb).at 1 rfl
          have k2 := (Jr.below hb).at 2 rfl
          show OpOk _ _ ev xw fun v w' => Bl xw w' ∧ (v = .agg #[.slice (some ⟨bA, oA, none⟩) n cU, .slice (some ⟨bB, oB, none⟩) n cW, .int .i64 st])
          refine opOk_hid (fun Rp HR => ?_)
          unfold OpOk
          go_simp
          rw [HR.out]
          exact ⟨hr, rfl⟩
        refine steps_cons (Bl.refl) (fun ev xw hb hc hf hfr hd hr => ?_) ?_
        · have e6 : ev (.tmp 6) = .pointer (some ⟨gc, 0, none⟩) := hfr 6 (by kernel_rfl)
          clear hfr hd
          have k0 := (Cr.below hb).at 0 rfl
          have k1 := (Cr.below hb).at 1 rfl
          have k2 := (Cr.below hb).at 2 rfl
          have k3 := (Cr.below hb).at 3 rfl
          show OpOk _ _ ev xw fun v w' => Bl xw w' ∧ (v = .agg #[.slice (some ⟨gl, 0, none⟩) n cl, .int .i64 (c).gr, .slice (some ⟨gx, 0, none⟩) 2 cx, .int .i64 (c).wt])
          refine opOk_hid (fun Rp HR => ?_)
          unfold OpOk
          go_simp
          rw [HR.out]
          exact ⟨hr, rfl⟩
        refine steps_cons (Bl.refl) (fun ev xw hb hc hf hfr hd hr => ?_) ?_
        · have e9 : ev (.tmp 9) = .int .i64 x := hfr 9 (by kernel_rfl)
          clear hfr hd
          show OpOk _ _ ev xw fun v w' => Bl xw w' ∧ (v = .int .i64 x)
          refine opOk_hid (fun Rp HR => ?_)
          unfold OpOk
          go_simp
          rw [HR.out]
          exact ⟨hr, rfl⟩
        refine steps_cons (Bl.refl) (fun ev xw hb hc hf hfr hd hr => ?_) ?_
        · have e5 : ev (.tmp 5) = .pointer (some ⟨gj, 0, none⟩) := hfr 5 (by kernel_rfl)
          clear hfr hd
          show OpOk _ _ ev xw fun v w' => Bl xw w' ∧ (v = .pointer (some ⟨gj, 0, none⟩))
          refine opOk_hid (fun Rp HR => ?_)
          unfold OpOk
          go_simp
          rw [HR.out]
          exact ⟨hr, rfl⟩
        refine steps_cons (Bl.refl) (fun ev xw hb hc hf hfr hd hr => ?_) ?_
        · have e38 : ev (.tmp 38) = .pointer (some ⟨gj, 0, none⟩) := hd 3 38 (by kernel_rfl)
          clear hfr hd
          have k0 := (Jr.below hb).at 0 rfl
          show OpOk _ _ ev xw fun v w' => Bl xw w' ∧ (v = .slice (some ⟨bA, oA, none⟩) n cU)
          refine opOk_hid (fun Rp HR => ?_)
          unfold OpOk
          go_simp
          rw [HR.out]
          exact ⟨hr, rfl⟩
        refine steps_cons (Bl.refl) (fun ev xw hb hc hf hfr hd hr => ?_) ?_
        · have e39 : ev (.tmp 39) = .slice (some ⟨bA, oA, none⟩) n cU := hd 4 39 (by kernel_rfl)
          clear hfr hd
          show OpOk _ _ ev xw fun v w' => Bl xw w' ∧ (v = .int .i64 n)
          refine opOk_hid (fun Rp HR => ?_)
          unfold OpOk
          go_simp
          rw [HR.out]
          exact ⟨hr, rfl⟩
        refine steps_cons (Bl.refl) (fun ev xw hb hc hf hfr hd hr => ?_) ?_
        · have e40 : ev (.tmp 40) = .int .i64 n := hd 5 40 (by kernel_rfl)
          clear hfr hd
          have zw : IntKind.i64.wrap ((n : Int) + 2) = (n : Int) + 2 := by rw [IntKind.wrap_i64]; omega
          show OpOk _ _ ev xw fun v w' => Bl xw w' ∧ (v = .int .i64 ((n : Int) + 2))
          refine opOk_hid (fun Rp HR => ?_)
          unfold OpOk
          go_simp
          rw [HR.out]
          exact ⟨hr, rfl⟩
        refine steps_cons (Bl.refl) (fun ev xw hb hc hf hfr hd hr => ?_) ?_
        · have e37 : ev (.tmp 37) = .int .i64 x := hd 2 37 (by kernel_rfl)
          have e41 : ev (.tmp 41) = .int .i64 ((n : Int) + 2) := hd 6 41 (by kernel_rfl)
          clear hfr hd
          show OpOk _ _ ev xw fun v w' => Bl xw w' ∧ (v = .int .i64 (k : Nat))
          refine opOk_hid (fun Rp HR => ?_)
          unfold OpOk
          go_simp
          refine (HMD.out xw).mono ?_
          rintro e w'' ⟨rfl, hw⟩
          refine ⟨_, rfl, ?_⟩
          rw [HR.out]
          exact ⟨hw, rfl⟩
        refine steps_cons (Bl.refl) (fun ev xw hb hc hf hfr hd hr => ?_) ?_
        · have e42 : ev (.tmp 42) = .int .i64 (k : Nat) := hd 7 42 (by kernel_rfl)
          clear hfr hd
          have zw : IntKind.i64.wrap ((k : Nat) - 1) = ((k : Nat) - 1 : Int) := by rw [IntKind.wrap_i64]; omega
          show OpOk _ _ ev xw fun v w' => Bl xw w' ∧ (v = .int .i64 ((k : Nat) - 1))
          refine opOk_hid (fun Rp HR => ?_)
          unfold OpOk
          go_simp
          rw [HR.out]
          exact ⟨hr, rfl⟩
        refine steps_cons (Bl.refl) (fun ev xw hb hc hf hfr hd hr => ?_) ?_
        · have e35 : ev (.tmp 35) = .agg #[.slice (some ⟨bA, oA, none⟩) n cU, .slice (some ⟨bB, oB, none⟩) n cW, .int .i64 st] := hd 0 35 (by kernel_rfl)
          have e36 : ev (.tmp 36) = .agg #[.slice (some ⟨gl, 0, none⟩) n cl, .int .i64 (c).gr, .slice (some ⟨gx, 0, none⟩) 2 cx, .int .i64 (c).wt] := hd 1 36 (by kernel_rfl)
          have e43 : ev (.tmp 43) = .int .i64 ((k : Nat) - 1) := hd 8 43 (by kernel_rfl)
          clear hfr hd
          show OpOk _ _ ev xw fun v w' => Bl xw w' ∧ (CtH w' wr.heap.size n (v) s)
          refine opOk_hid (fun Rp HR => ?_)
          unfold OpOk
          go_simp
          refine (pstep_any (some ⟨bA, oA, none⟩) (some ⟨bB, oB, none⟩) (some ⟨gl, 0, none⟩) (some ⟨gx, 0, none⟩) cU cW cl cx n P C c st ((k : Nat) - 1) xw hjc hjv HVC.out (hP4.low (Br.trans (Below.mono hb hBr)) hBW) (hI4.low (Br.trans (Below.mono hb hBr)) hBW) hcU (Lr.below hb).prs (Nr.below hb).ints).mono ?_
          rintro e w'' ⟨v, rfl, hw, hh⟩
          refine ⟨_, rfl, ?_⟩
          rw [HR.out]
          rw [HSS.out] at hh
          exact ⟨hw, hh.lower (Below.size hb)⟩
        refine steps_cons (Bl.refl) (fun ev xw hb hc hf hfr hd hr => ?_) ?_
        · clear hfr hd
          show OpOk _ _ ev xw fun v w' => Bl xw w' ∧ (∃ b, v = .pointer (some ⟨b, 0, none⟩) ∧ Blk w' b 25 #[.slice none 0 0, .int .i64 0, .slice none 0 0, .int .i64 0] ∧ wr.heap.size ≤ b)
          refine opOk_hid (fun Rp HR => ?_)
          unfold OpOk
          go_simp
          rw [HR.out]
          exact ⟨lat_alloc (Below.refl _ _) _, _, rfl, Blk.new, Below.size hb⟩
        exact steps_nil
      · intro vs W11 hb11 hk
        obtain ⟨gl2, cl2, gx2, cx2, k9, ⟨hgl2, hcl2⟩, hgx2, L11, N11⟩ : CtH W11 wr.heap.size n (vs 9) s := hk 9 (by omega)
        obtain ⟨gX, k10, X11, hgX⟩ : ∃ b, vs 10 = .pointer (some ⟨b, 0, none⟩) ∧ Blk W11 b 25 #[.slice none 0 0, .int .i64 0, .slice none 0 0, .int .i64 0] ∧ wr.heap.size ≤ b := hk 10 (by omega)
        clear hk
        simp only [List.take_succ_cons, List.take_zero, List.drop_succ_cons, List.drop_zero, putAll, Act.put, List.setIfInBounds_toArray, List.set_cons_zero, List.set_cons_succ, k9, k10, Nat.reduceAdd]
        have hgcs := Cr.lt
        have hgss := Rr.lt
        have hgls := Lr.lt
        have B11 := Br.trans (Below.mono hb11 hBr)
        have C11 := Cr.below hb11
        have L1a := Lr.below hb11
        have R11 := Rr.below hb11
        have hlX : gl2 ≠ gX := L11.ne_ct X11
        have hxX : gx2 ≠ gX := N11.ne_ct X11
        refine step_store_ct (by rfl) (by rfl) (by rfl) (by rfl) (by rfl) X11 ?_
        intro w13 X13 hg13
        have L13 := L11.grown hg13 (by intro e; injection e with e; exact hlX e.symm)
        have N13 := N11.grown hg13 (by intro e; injection e with e; exact hxX e.symm)
        have C13 := C11.grown hg13 (by intro e; injection e with e; omega)
        have L1 := L1a.grown hg13 (by intro e; injection e with e; omega)
        have R13 := R11.grown hg13 (by intro e; injection e with e; omega)
        have B13 : Below B W4 w13 := B11.grown hg13 (Nat.le_trans hBW B11.size) (fun k e => by injection e with e; omega)
        have J13 := BJ.low B13 hgjB
        have hgls13 : wr.heap.size ≤ w13.heap.size := Nat.le_trans (Below.size hb11) hg13.size
        have hgXc : gX ≠ gc := by omega
        have hgXs : gX ≠ gs := by omega
        have hlc2 : gl2 ≠ gc := by omega
        have hxc2 : gx2 ≠ gc := by omega
        have hls2 : gl2 ≠ gs := by omega
        have hxs2 : gx2 ≠ gs := by omega
        have hB13 : B ≤ w13.heap.size := Nat.le_trans hBW B13.size
        clear Br Cr Lr Nr Jr Rr hb11 X11 C11 L1a R11 L11 N11 B11 hg13 hgl2 hgx2 hgX hgls hlX hxX k9 k10
        have x0 := X13.at 0 rfl
        have c0 := C13.at 0 rfl
        unfold wpList
        go_wp2_with fail
        clear x0 c0 J13
        go_loopw [54] (fun v wr => ∃ (p : Nat) (S : List Int), p ≤ n ∧ v = .int .i64 p ∧ w13.grownBy wr (some gs) ∧ NxB wr gs S ∧ SinI n c s i p S) (fun v _ => n - (intOf v).toNat)
        case atStart => exact ⟨0, S, by omega, rfl, World.grownBy.refl _ _, R13, SinI.zero HSL.out HSB.out HSO.out⟩
        case round =>
          obtain ⟨p, S, hp, rfl, hgw, Ns, hsn⟩ := hrel
          have HSN := Lib.hid hsn
          have HLS := Lib.hid hsn.len
          by_cases hlp : p < n
          · as_aux_lemma =>
            have hltZ : (p : Int) < n := by omega
            obtain ⟨s0, hs0e⟩ : ∃ s0, at_ S p = s0 := ⟨_, rfl⟩
            have hs0b := hsn.bd p hlp
            rw [hs0e, if_neg (by omega)] at hs0b
            have hs0o := hsn.old p hlp (Nat.le_refl p)
            rw [hs0e] at hs0o
            have HS0 := Lib.hid hs0e
            obtain ⟨l0, l1, f0, f1⟩ := (L1.grown hgw (by intro e; injection e with e; exact hlsne e.symm)).at (i := p) (by rw [HLC.out]; exact hlp)
            clear f0 f1
            have hst1 := greens_step hjc HVC.out ((k : Nat) - 1) hlp hs0o (by omega)
            rw [HSS.out] at hst1
            obtain ⟨la, hla⟩ : ∃ la, lmp c.li p = la := ⟨_, rfl⟩
            obtain ⟨ka, hka⟩ : ∃ ka, tck c.li p = ka := ⟨_, rfl⟩
            obtain ⟨lb, hlb⟩ : ∃ lb, lmp s.li p = lb := ⟨_, rfl⟩
            obtain ⟨kb, hkb⟩ : ∃ kb, tck s.li p = kb := ⟨_, rfl⟩
            have e0 : (prAt c.li p).1 = la := hla
            have e1 : (prAt c.li p).2 = ka := hka
            rw [e0] at l0
            rw [e1] at l1
            obtain ⟨xp, hxp⟩ : ∃ xp, phAt P p = xp := ⟨_, rfl⟩
            rw [hla, hlb, hkb, hxp] at hst1
            have HGS := Lib.hid hst1
            have HTBE := Lib.hid hkb
            have HLBE := Lib.hid hlb
            have HPX := Lib.hid (show PhOk xp by rw [← hxp]; exact hjc.pok p hlp)
            have T8 := Blk.new (w := wr) (t := 45) (cs := #[.int .i64 la, .int .i64 ka])
            have bx := lat_alloc (Below.refl wr.heap.size wr) (.cells #[.int .i64 la, .int .i64 ka] 45)
            have hgws : w13.heap.size ≤ wr.heap.size := hgw.size
            have hgsl : gs < wr.heap.size := Ns.lt
            have hg8w := grown_more hgw (grown_of_below (row := none) bx) (fun j e => by cases e)
            have X8 := X13.grown hg8w (by intro e; injection e with e; exact hgXs e.symm)
            have L8 := L13.grown hg8w (by intro e; injection e with e; exact hls2 e.symm)
            have N8a := Ns.below bx
            have B8 : Below B W4 (wr.alloc (.cells #[.int .i64 la, .int .i64 ka] 45)) := B13.grown hg8w hB13 (fun k e => by injection e with e; omega)
            have J8 := BJ.low B8 hgjB
            have hP8 := hP4.low B8 hBW
            have hbA8 : bA < (wr.alloc (.cells #[.int .i64 la, .int .i64 ka] 45)).heap.size := Nat.lt_of_lt_of_le (Nat.lt_of_lt_of_le hbAB hBW) B8.size
            obtain ⟨bA', oA', hA', hbA', hph⟩ := hP8 (by have := HN.out; omega)
            injection Option.some.inj hA' with hA2 hA3 _
            subst hA2; subst hA3
            have hXp := hph p (by have := HN.out; omega)
            rw [hxp] at hXp
            have hLBf : ∀ xw, Below (wr.alloc (.cells #[.int .i64 la, .int .i64 ka] 45)).heap.size (wr.alloc (.cells #[.int .i64 la, .int .i64 ka] 45)) xw → xw.cell? ⟨gl2, p * 2, none⟩ = some (.int .i64 lb) ∧ xw.cell? ⟨gl2, p * 2 + 1, none⟩ = some (.int .i64 kb) := fun xw hb => by
              have h := (L8.below hb).at (i := p) (by rw [HLI.out]; exact hlp)
              have q0 : (prAt s.li p).1 = lb := HLBE.out
              have q1 : (prAt s.li p).2 = kb := HTBE.out
              rw [q0, q1] at h
              exact ⟨h.1, h.2.1⟩
            have HLB := Lib.hid hLBf
            clear hsn hs0e hs0o hst1 hla hka hlb hkb e0 e1 hxp hph hA' hbA' hP8 hLBf L8
            go_wp2_with fail
            clear l0 l1 bx Ns hgw
            generalize wr.alloc (.cells #[.int .i64 la, .int .i64 ka] 45) = W8 at *
            obtain ⟨g8, hg8e⟩ : ∃ g8, wr.heap.size = g8 := ⟨_, rfl⟩
            rw [hg8e] at T8 hgsl hgws ⊢
            have hT8l := T8.lt
            clear hg8e B8
            obtain ⟨K, hK⟩ : ∃ K, K = known ([fun v _ => v = .pointer (some ⟨gX, 0, none⟩), fun v _ => v = .slice (some ⟨gl2, 0, none⟩) n cl2, fun v _ => v = .int .i64 (p : Nat), fun v _ => v = .pointer (some ⟨gl2, p * 2, none⟩), fun v _ => v = .agg #[.int .i64 lb, .int .i64 kb], fun v _ => v = .pointer (some ⟨gj, 0, none⟩), fun v _ => v = .slice (some ⟨bA, oA, none⟩) n cU, fun v _ => v = .int .i64 (p : Nat), fun v _ => v = .pointer (some ⟨bA, oA + p * 8, none⟩), fun v _ => v = .agg #[.int .i64 xp.ri, .int .i64 xp.gr, .int .i64 xp.mn, .int .i64 xp.mx, .int .i64 xp.yl, .int .i64 xp.rd, .int .i64 xp.wk, .int .i64 xp.cl], fun _ _ => True, fun _ _ => True, fun _ _ => True, fun _ _ => True]) := ⟨_, rfl⟩
            have hg : ∀ i v (w w' : World), K i v w → Below w.heap.size w w' → K i v w' := by rw [hK]; exact fun i v w w' h hb => known_stays (L := [fun v _ => v = .pointer (some ⟨gX, 0, none⟩), fun v _ => v = .slice (some ⟨gl2, 0, none⟩) n cl2, fun v _ => v = .int .i64 (p : Nat), fun v _ => v = .pointer (some ⟨gl2, p * 2, none⟩), fun v _ => v = .agg #[.int .i64 lb, .int .i64 kb], fun v _ => v = .pointer (some ⟨gj, 0, none⟩), fun v _ => v = .slice (some ⟨bA, oA, none⟩) n cU, fun v _ => v = .int .i64 (p : Nat), fun v _ => v = .pointer (some ⟨bA, oA + p * 8, none⟩), fun v _ => v = .agg #[.int .i64 xp.ri, .int .i64 xp.gr, .int .i64 xp.mn, .int .i64 xp.mx, .int .i64 xp.yl, .int .i64 xp.rd, .int .i64 xp.wk, .int .i64 xp.cl], fun _ _ => True, fun _ _ => True, fun _ _ => True, fun _ _ => True]) (R := Bl) (stay_cons (stays_v _) (stay_cons (stays_v _) (stay_cons (stays_v _) (stay_cons (stays_v _) (stay_cons (stays_v _) (stay_cons (stays_v _) (stay_cons (stays_v _) (stay_cons (stays_v _) (stay_cons (stays_v _) (stay_cons (stays_v _) (stay_cons (fun _ _ _ _ _ => trivial) (stay_cons (fun _ _ _ _ _ => trivial) (stay_cons (fun _ _ _ _ _ => trivial) (stay_cons (fun _ _ _ _ _ => trivial) (stay_nil))))))))))))))) i v w w' h hb
            have hs0 : ∀ i v (w w' : World) b cs, K i v w → Blk w b 45 cs → w.grownBy w' (some b) → K i v w' := by rw [hK]; exact fun i v w w' b cs h hB hg => known_stays (L := [fun v _ => v = .pointer (some ⟨gX, 0, none⟩), fun v _ => v = .slice (some ⟨gl2, 0, none⟩) n cl2, fun v _ => v = .int .i64 (p : Nat), fun v _ => v = .pointer (some ⟨gl2, p * 2, none⟩), fun v _ => v = .agg #[.int .i64 lb, .int .i64 kb], fun v _ => v = .pointer (some ⟨gj, 0, none⟩), fun v _ => v = .slice (some ⟨bA, oA, none⟩) n cU, fun v _ => v = .int .i64 (p : Nat), fun v _ => v = .pointer (some ⟨bA, oA + p * 8, none⟩), fun v _ => v = .agg #[.int .i64 xp.ri, .int .i64 xp.gr, .int .i64 xp.mn, .int .i64 xp.mx, .int .i64 xp.yl, .int .i64 xp.rd, .int .i64 xp.wk, .int .i64 xp.cl], fun _ _ => True, fun _ _ => True, fun _ _ => True, fun _ _ => True]) (R := fun w w' => ∃ b cs, Blk w b 45 cs ∧ w.grownBy w' (some b)) (stay_cons (stays_v _) (stay_cons (stays_v _) (stay_cons (stays_v _) (stay_cons (stays_v _) (stay_cons (stays_v _) (stay_cons (stays_v _) (stay_cons (stays_v _) (stay_cons (stays_v _) (stay_cons (stays_v _) (stay_cons (stays_v _) (stay_cons (fun _ _ _ _ _ => trivial) (stay_cons (fun _ _ _ _ _ => trivial) (stay_cons (fun _ _ _ _ _ => trivial) (stay_cons (fun _ _ _ _ _ => trivial) (stay_nil))))))))))))))) i v w w' h ⟨b, cs, hB, hg⟩
            have hs1 : ∀ i v (w w' : World) b cs, K i v w → Blk w b 51 cs → w.grownBy w' (some b) → K i v w' := by rw [hK]; exact fun i v w w' b cs h hB hg => known_stays (L := [fun v _ => v = .pointer (some ⟨gX, 0, none⟩), fun v _ => v = .slice (some ⟨gl2, 0, none⟩) n cl2, fun v _ => v = .int .i64 (p : Nat), fun v _ => v = .pointer (some ⟨gl2, p * 2, none⟩), fun v _ => v = .agg #[.int .i64 lb, .int .i64 kb], fun v _ => v = .pointer (some ⟨gj, 0, none⟩), fun v _ => v = .slice (some ⟨bA, oA, none⟩) n cU, fun v _ => v = .int .i64 (p : Nat), fun v _ => v = .pointer (some ⟨bA, oA + p * 8, none⟩), fun v _ => v = .agg #[.int .i64 xp.ri, .int .i64 xp.gr, .int .i64 xp.mn, .int .i64 xp.mx, .int .i64 xp.yl, .int .i64 xp.rd, .int .i64 xp.wk, .int .i64 xp.cl], fun _ _ => True, fun _ _ => True, fun _ _ => True, fun _ _ => True]) (R := fun w w' => ∃ b cs, Blk w b 51 cs ∧ w.grownBy w' (some b)) (stay_cons (stays_v _) (stay_cons (stays_v _) (stay_cons (stays_v _) (stay_cons (stays_v _) (stay_cons (stays_v _) (stay_cons (stays_v _) (stay_cons (stays_v _) (stay_cons (stays_v _) (stay_cons (stays_v _) (stay_cons (stays_v _) (stay_cons (fun _ _ _ _ _ => trivial) (stay_cons (fun _ _ _ _ _ => trivial) (stay_cons (fun _ _ _ _ _ => trivial) (stay_cons (fun _ _ _ _ _ => trivial) (stay_nil))))))))))))))) i v w w' h ⟨b, cs, hB, hg⟩
            have K0 : ∀ v w, K 0 v w ↔ (fun v _ => v = .pointer (some ⟨gX, 0, none⟩) : Value → World → Prop) v w := fun v w => by rw [hK]; exact Iff.rfl
            have K1 : ∀ v w, K 1 v w ↔ (fun v _ => v = .slice (some ⟨gl2, 0, none⟩) n cl2 : Value → World → Prop) v w := fun v w => by rw [hK]; exact Iff.rfl
            have K2 : ∀ v w, K 2 v w ↔ (fun v _ => v = .int .i64 (p : Nat) : Value → World → Prop) v w := fun v w => by rw [hK]; exact Iff.rfl
            have K3 : ∀ v w, K 3 v w ↔ (fun v _ => v = .pointer (some ⟨gl2, p * 2, none⟩) : Value → World → Prop) v w := fun v w => by rw [hK]; exact Iff.rfl
            have K4 : ∀ v w, K 4 v w ↔ (fun v _ => v = .agg #[.int .i64 lb, .int .i64 kb] : Value → World → Prop) v w := fun v w => by rw [hK]; exact Iff.rfl
            have K5 : ∀ v w, K 5 v w ↔ (fun v _ => v = .pointer (some ⟨gj, 0, none⟩) : Value → World → Prop) v w := fun v w => by rw [hK]; exact Iff.rfl
            have K6 : ∀ v w, K 6 v w ↔ (fun v _ => v = .slice (some ⟨bA, oA, none⟩) n cU : Value → World → Prop) v w := fun v w => by rw [hK]; exact Iff.rfl
            have K7 : ∀ v w, K 7 v w ↔ (fun v _ => v = .int .i64 (p : Nat) : Value → World → Prop) v w := fun v w => by rw [hK]; exact Iff.rfl
            have K8 : ∀ v w, K 8 v w ↔ (fun v _ => v = .pointer (some ⟨bA, oA + p * 8, none⟩) : Value → World → Prop) v w := fun v w => by rw [hK]; exact Iff.rfl
            have K9 : ∀ v w, K 9 v w ↔ (fun v _ => v = .agg #[.int .i64 xp.ri, .int .i64 xp.gr, .int .i64 xp.mn, .int .i64 xp.mx, .int .i64 xp.yl, .int .i64 xp.rd, .int .i64 xp.wk, .int .i64 xp.cl] : Value → World → Prop) v w := fun v w => by rw [hK]; exact Iff.rfl
            have K10 : ∀ v w, K 10 v w ↔ (fun _ _ => True : Value → World → Prop) v w := fun v w => by rw [hK]; exact Iff.rfl
            have K11 : ∀ v w, K 11 v w ↔ (fun _ _ => True : Value → World → Prop) v w := fun v w => by rw [hK]; exact Iff.rfl
            have K12 : ∀ v w, K 12 v w ↔ (fun _ _ => True : Value → World → Prop) v w := fun v w => by rw [hK]; exact Iff.rfl
            have K13 : ∀ v w, K 13 v w ↔ (fun _ _ => True : Value → World → Prop) v w := fun v w => by rw [hK]; exact Iff.rfl
            clear hK
            refine wp_region_invs 14 158 (TwoB W8 K 10 12 4 11 13 9 45 51 #[.int .i64 0, .int .i64 0] #[.int .i64 0, .int .i64 0, .int .i64 0, .int .i64 0, .int .i64 0, .int .i64 0, .int .i64 0, .int .i64 0]) (by kernel_rfl) (fun _ _ d _ _ h => by cases d <;> exact h) rfl (by kernel_rfl) (fun vs => TwoB.start vs) ?_ ?_
            · intro k' o hk' ho
              have hk6 : k' = 0 ∨ k' = 1 ∨ k' = 2 ∨ k' = 3 ∨ k' = 4 ∨ k' = 5 ∨ k' = 6 ∨ k' = 7 ∨ k' = 8 ∨ k' = 9 ∨ k' = 10 ∨ k' = 11 ∨ k' = 12 ∨ k' = 13 := by omega
              rcases hk6 with rfl | rfl | rfl | rfl | rfl | rfl | rfl | rfl | rfl | rfl | rfl | rfl | rfl | rfl
              · obtain rfl := Option.some.inj ho
                intro lst vs ev xw hJ hl hc hf hfr hd
                have e10 : ev (.tmp 10) = .pointer (some ⟨gX, 0, none⟩) := hfr 10 (frm_of (by kernel_rfl))
                have hb := hJ.grew
                clear hfr hd 
                refine opS_hid (fun Rp HR => ?_)
                unfold OpS
                go_simp
                rw [HR.out]
                exact hJ.op hg hl (by decide) (by decide) (by decide) (by decide) (Below.refl _ _) ((K0 _ _).2 rfl)
              · obtain rfl := Option.some.inj ho
                intro lst vs ev xw hJ hl hc hf hfr hd
                have d59 := hd 0 59 (by kernel_rfl) rfl
                have e59 : ev (.tmp 59) = .pointer (some ⟨gX, 0, none⟩) := d59.2.trans ((K0 _ _).1 (hJ.known 0 d59.1))
                have hb := hJ.grew
                clear hfr hd d59
                have k0 := (X8.below hb).at 0 rfl
                refine opS_hid (fun Rp HR => ?_)
                unfold OpS
                go_simp
                rw [HR.out]
                exact hJ.op hg hl (by decide) (by decide) (by decide) (by decide) (Below.refl _ _) ((K1 _ _).2 rfl)
              · obtain rfl := Option.some.inj ho
                intro lst vs ev xw hJ hl hc hf hfr hd
                have e11 : ev (.tmp 11) = .int .i64 (p : Nat) := hfr 11 (frm_of (by kernel_rfl))
                have hb := hJ.grew
                clear hfr hd 
                refine opS_hid (fun Rp HR => ?_)
                unfold OpS
                go_simp
                rw [HR.out]
                exact hJ.op hg hl (by decide) (by decide) (by decide) (by decide) (Below.refl _ _) ((K2 _ _).2 rfl)
              · obtain rfl := Option.some.inj ho
                intro lst vs ev xw hJ hl hc hf hfr hd
                have d60 := hd 1 60 (by kernel_rfl) rfl
                have e60 : ev (.tmp 60) = .slice (some ⟨gl2, 0, none⟩) n cl2 := d60.2.trans ((K1 _ _).1 (hJ.known 1 d60.1))
                have d61 := hd 2 61 (by kernel_rfl) rfl
                have e61 : ev (.tmp 61) = .int .i64 (p : Nat) := d61.2.trans ((K2 _ _).1 (hJ.known 2 d61.1))
                have hb := hJ.grew
                clear hfr hd d60 d61
                refine opS_hid (fun Rp HR => ?_)
                unfold OpS
                go_simp
                rw [HR.out]
                exact hJ.op hg hl (by decide) (by decide) (by decide) (by decide) (Below.refl _ _) ((K3 _ _).2 rfl)
              · obtain rfl := Option.some.inj ho
                intro lst vs ev xw hJ hl hc hf hfr hd
                have d62 := hd 3 62 (by kernel_rfl) rfl
                have e62 : ev (.tmp 62) = .pointer (some ⟨gl2, p * 2, none⟩) := d62.2.trans ((K3 _ _).1 (hJ.known 3 d62.1))
                have hb := hJ.grew
                clear hfr hd d62
                obtain ⟨k0, k1⟩ := HLB.out xw hb
                refine opS_hid (fun Rp HR => ?_)
                unfold OpS
                go_simp
                rw [HR.out]
                exact hJ.op hg hl (by decide) (by decide) (by decide) (by decide) (Below.refl _ _) ((K4 _ _).2 rfl)
              · obtain rfl := Option.some.inj ho
                intro lst vs ev xw hJ hl hc hf hfr hd
                have e5 : ev (.tmp 5) = .pointer (some ⟨gj, 0, none⟩) := hfr 5 (frm_of (by kernel_rfl))
                have hb := hJ.grew
                clear hfr hd 
                refine opS_hid (fun Rp HR => ?_)
                unfold OpS
                go_simp
                rw [HR.out]
                exact hJ.op hg hl (by decide) (by decide) (by decide) (by decide) (Below.refl _ _) ((K5 _ _).2 rfl)
              · obtain rfl := Option.some.inj ho
                intro lst vs ev xw hJ hl hc hf hfr hd
                have d64 := hd 5 64 (by kernel_rfl) rfl
                have e64 : ev (.tmp 64) = .pointer (some ⟨gj, 0, none⟩) := d64.2.trans ((K5 _ _).1 (hJ.known 5 d64.1))
                have hb := hJ.grew
                clear hfr hd d64
                have k0 := (J8.below hb).at 0 rfl
                refine opS_hid (fun Rp HR => ?_)
                unfold OpS
                go_simp
                rw [HR.out]
                exact hJ.op hg hl (by decide) (by decide) (by decide) (by decide) (Below.refl _ _) ((K6 _ _).2 rfl)
              · obtain rfl := Option.some.inj ho
                intro lst vs ev xw hJ hl hc hf hfr hd
                have e11 : ev (.tmp 11) = .int .i64 (p : Nat) := hfr 11 (frm_of (by kernel_rfl))
                have hb := hJ.grew
                clear hfr hd 
                refine opS_hid (fun Rp HR => ?_)
                unfold OpS
                go_simp
                rw [HR.out]
                exact hJ.op hg hl (by decide) (by decide) (by decide) (by decide) (Below.refl _ _) ((K7 _ _).2 rfl)
              · obtain rfl := Option.some.inj ho
                intro lst vs ev xw hJ hl hc hf hfr hd
                have d65 := hd 6 65 (by kernel_rfl) rfl
                have e65 : ev (.tmp 65) = .slice (some ⟨bA, oA, none⟩) n cU := d65.2.trans ((K6 _ _).1 (hJ.known 6 d65.1))
                have d66 := hd 7 66 (by kernel_rfl) rfl
                have e66 : ev (.tmp 66) = .int .i64 (p : Nat) := d66.2.trans ((K7 _ _).1 (hJ.known 7 d66.1))
                have hb := hJ.grew
                clear hfr hd d65 d66
                refine opS_hid (fun Rp HR => ?_)
                unfold OpS
                go_simp
                rw [HR.out]
                exact hJ.op hg hl (by decide) (by decide) (by decide) (by decide) (Below.refl _ _) ((K8 _ _).2 rfl)
              · obtain rfl := Option.some.inj ho
                intro lst vs ev xw hJ hl hc hf hfr hd
                have d67 := hd 8 67 (by kernel_rfl) rfl
                have e67 : ev (.tmp 67) = .pointer (some ⟨bA, oA + p * 8, none⟩) := d67.2.trans ((K8 _ _).1 (hJ.known 8 d67.1))
                have hb := hJ.grew
                clear hfr hd d67
                obtain ⟨x0, x1, x2, x3, x4, x5, x6, x7⟩ := hXp.block (hb.block bA hbA8)
                refine opS_hid (fun Rp HR => ?_)
                unfold OpS
                go_simp
                rw [HR.out]
                exact hJ.op hg hl (by decide) (by decide) (by decide) (by decide) (Below.refl _ _) ((K9 _ _).2 rfl)
              · obtain rfl := Option.some.inj ho
                intro lst vs ev xw hJ hl hc hf hfr hd
                have hb := hJ.grew
                clear hfr hd 
                refine opS_hid (fun Rp HR => ?_)
                unfold OpS
                go_simp
                rw [HR.out]
                exact hJ.lay1 hg hl (by decide) (fun v w => (K10 v w).2 trivial)
              · obtain rfl := Option.some.inj ho
                intro lst vs ev xw hJ hl hc hf hfr hd
                have hb := hJ.grew
                clear hfr hd 
                refine opS_hid (fun Rp HR => ?_)
                unfold OpS
                go_simp
                rw [HR.out]
                exact hJ.lay2 hg hl (by decide) (fun v w => (K11 v w).2 trivial)
              · obtain rfl := Option.some.inj ho
                intro lst vs ev xw hJ hl hc hf hfr hd
                have d13 := hd 10 13 (by kernel_rfl) rfl
                have d63 := hd 4 63 (by kernel_rfl) rfl
                have e63 : ev (.tmp 63) = .agg #[.int .i64 lb, .int .i64 kb] := d63.2.trans ((K4 _ _).1 (hJ.known 4 d63.1))
                have hb := hJ.grew
                obtain ⟨bb, e1, e2, hB⟩ := hJ.at1 d13.1 hl
                have e13 := d13.2.trans e1
                have hB : Blk xw bb 45 #[.int .i64 0, .int .i64 0] := hB
                refine opS_store_li rfl e13 e63 hB ?_
                intro w' hst hgr
                exact hJ.store1 hs0 hl d13.1 d63.1 (by decide) (fun v w => (K12 v w).2 trivial) e1 ((K4 _ _).1 (hJ.known 4 d63.1)) hgr hst
              · obtain rfl := Option.some.inj ho
                intro lst vs ev xw hJ hl hc hf hfr hd
                have d14 := hd 11 14 (by kernel_rfl) rfl
                have d68 := hd 9 68 (by kernel_rfl) rfl
                have e68 : ev (.tmp 68) = .agg #[.int .i64 xp.ri, .int .i64 xp.gr, .int .i64 xp.mn, .int .i64 xp.mx, .int .i64 xp.yl, .int .i64 xp.rd, .int .i64 xp.wk, .int .i64 xp.cl] := d68.2.trans ((K9 _ _).1 (hJ.known 9 d68.1))
                have hb := hJ.grew
                obtain ⟨bb, e1, e2, hB⟩ := hJ.at2 d14.1 hl
                have e14 := d14.2.trans e1
                have hB : Blk xw bb 51 #[.int .i64 0, .int .i64 0, .int .i64 0, .int .i64 0, .int .i64 0, .int .i64 0, .int .i64 0, .int .i64 0] := hB
                refine opS_store_ph rfl e14 e68 hB ?_
                intro w' hst hgr
                exact hJ.store2 hs1 hl d14.1 d68.1 (by decide) (fun v w => (K13 v w).2 trivial) e1 ((K9 _ _).1 (hJ.known 9 d68.1)) hgr hst
            · intro vs w5 hJ
              obtain ⟨g1, g2, cs1, cs2, k_a1, k_a2, hg1, hg2, hne, k_f1, k_f2, X1, X2⟩ := hJ.fin rfl rfl rfl rfl
              have hb5 := hJ.grew
              have k0 : vs 0 = .pointer (some ⟨gX, 0, none⟩) := (K0 _ _).1 (hJ.known 0 rfl)
              have k1 : vs 1 = .slice (some ⟨gl2, 0, none⟩) n cl2 := (K1 _ _).1 (hJ.known 1 rfl)
              have k2 : vs 2 = .int .i64 (p : Nat) := (K2 _ _).1 (hJ.known 2 rfl)
              have k3 : vs 3 = .pointer (some ⟨gl2, p * 2, none⟩) := (K3 _ _).1 (hJ.known 3 rfl)
              have k4 : vs 4 = .agg #[.int .i64 lb, .int .i64 kb] := (K4 _ _).1 (hJ.known 4 rfl)
              have k5 : vs 5 = .pointer (some ⟨gj, 0, none⟩) := (K5 _ _).1 (hJ.known 5 rfl)
              have k6 : vs 6 = .slice (some ⟨bA, oA, none⟩) n cU := (K6 _ _).1 (hJ.known 6 rfl)
              have k7 : vs 7 = .int .i64 (p : Nat) := (K7 _ _).1 (hJ.known 7 rfl)
              have k8 : vs 8 = .pointer (some ⟨bA, oA + p * 8, none⟩) := (K8 _ _).1 (hJ.known 8 rfl)
              have k9 : vs 9 = .agg #[.int .i64 xp.ri, .int .i64 xp.gr, .int .i64 xp.mn, .int .i64 xp.mx, .int .i64 xp.yl, .int .i64 xp.rd, .int .i64 xp.wk, .int .i64 xp.cl] := (K9 _ _).1 (hJ.known 9 rfl)
              rw [k4] at k_f1
              obtain rfl := (Value.agg.inj k_f1).symm
              rw [k9] at k_f2
              obtain rfl := (Value.agg.inj k_f2).symm
              simp only [List.take_succ_cons, List.take_zero, List.drop_succ_cons, List.drop_zero, putAll, Act.put, List.setIfInBounds_toArray, List.set_cons_zero, List.set_cons_succ, k0, k1, k2, k3, k4, k5, k6, k7, k8, k9, k_a1, k_a2, Nat.reduceAdd]
              have T9 := T8.below hb5
              have NS := N8a.below hb5
              have hgsT : (some gs : Option Nat) ≠ some g8 := by intro e; injection e with e; omega
              have hgs1 : (some gs : Option Nat) ≠ some g1 := by intro e; injection e with e; omega
              have hgs2 : (some gs : Option Nat) ≠ some g2 := by intro e; injection e with e; omega
              have s0c := (NS.at (i := p) (by rw [HLS.out]; exact hlp)).1
              rw [HS0.out] at s0c
              have hgA := grown_more hg8w (grown_of_below (row := none) hb5) (fun j e => by cases e)
              have zws : IntKind.i64.wrap (s0 + 1) = s0 + 1 := by rw [IntKind.wrap_i64]; omega
              clear hJ k_a1 k_a2 k_f1 k_f2 hg hs0 hs1
              unfold wpList
              rcases HGS.out with ⟨hab, hkb⟩ | ⟨hab, hok, hkb⟩
              · have HAB := Lib.hid hab
                have HKB := Lib.hid hkb
                have zab : (la == lb) = true := by rw [hab]; simp
                clear hab hkb
                go_wp2_with (refine step_store_nx (by rfl) (by rfl) (by rfl) (g := gs) (i := p) (by rfl) (by rfl) NS (by rw [HLS.out]; exact hlp) ?_; intro w6 N6 hg6; have u0 := (T9.grown hg6 hgsT).at 0 rfl; have Y1 := X1.grown hg6 hgs1; have Y2 := X2.grown hg6 hgs2; have y0 := Y1.at 0 rfl; have z0 := Y2.at 0 rfl; have z1 := Y2.at 1 rfl; have z2 := Y2.at 2 rfl; have z3 := Y2.at 3 rfl; have z4 := Y2.at 4 rfl; have z5 := Y2.at 5 rfl; have z6 := Y2.at 6 rfl; have z7 := Y2.at 7 rfl; have s1 := ((N6.at (i := p) (by rw [List.length_set, HLS.out]; exact hlp)).1.trans (by rw [at_set (by rw [HLS.out]; exact hlp), if_pos rfl])))
                have hgE := grown_more hgA hg6 (fun j e => .inr e)
                go_roundw
                case rel => exact ⟨p + 1, _, hlp, by go_num, hgE, N6, HSN.out.next hlp (by omega) (fun h => by rw [HTBE.out]; exact HKB.out (by rw [← HLBE.out]; exact h))⟩
                case measure => simp [intOf]; omega
              · have zab : (la == lb) = false := by simpa using hab
                have HTB := Lib.hid (show lmp s.li p ≠ 0 → tck s.li p = 0 from fun _ => by rw [HTBE.out]; exact hkb)
                clear hab hkb
                rcases hok with ⟨ha, hb'⟩ | ⟨ha, hb', hnd⟩ | ⟨ha, hyl, hrd⟩ | ⟨ha, hrd, hb'⟩
                · subst ha
                  subst hb'
                  clear zab
                  go_wp2_with (refine step_store_nx (by rfl) (by rfl) (by rfl) (g := gs) (i := p) (by rfl) (by rfl) NS (by rw [HLS.out]; exact hlp) ?_; intro w6 N6 hg6; have u0 := (T9.grown hg6 hgsT).at 0 rfl; have Y1 := X1.grown hg6 hgs1; have Y2 := X2.grown hg6 hgs2; have y0 := Y1.at 0 rfl; have z0 := Y2.at 0 rfl; have z1 := Y2.at 1 rfl; have z2 := Y2.at 2 rfl; have z3 := Y2.at 3 rfl; have z4 := Y2.at 4 rfl; have z5 := Y2.at 5 rfl; have z6 := Y2.at 6 rfl; have z7 := Y2.at 7 rfl; have s1 := ((N6.at (i := p) (by rw [List.length_set, HLS.out]; exact hlp)).1.trans (by rw [at_set (by rw [HLS.out]; exact hlp), if_pos rfl])))
                  go_quiet (fail)
                  have N7 := N6.below (below_drewN (Below.refl w6.heap.size w6) (n := nq))
                  have hg67 := grown_more hg6 (grown_of_below (row := none) (below_drewN (Below.refl w6.heap.size w6) (n := nq))) (fun j e => by cases e)
                  clear u0 y0 z0 z1 z2 z3 z4 z5 z6 z7 s1
                  go_wp2_with (refine step_store_nx (by rfl) (by rfl) (by rfl) (g := gs) (i := p) (by rfl) (by rfl) N7 (by rw [List.length_set, HLS.out]; exact hlp) ?_; intro w8 N8 hg8)
                  have hgE := grown_more hgA hg67 (fun j e => .inr e)
                  have hgF := grown_more hgE hg8 (fun j e => .inr e)
                  go_roundw
                  case rel => exact ⟨p + 1, _, hlp, by go_num, hgF, N8, by rw [List.set_set]; exact HSN.out.next hlp (by omega) (fun h => (HTB.out h).symm)⟩
                  case measure => simp [intOf]; omega
                · subst ha
                  subst hb'
                  clear zab
                  have hnd2 : needV xp ≤ s0 + 1 := hnd
                  clear hnd
                  go_wp2_with (refine step_store_nx (by rfl) (by rfl) (by rfl) (g := gs) (i := p) (by rfl) (by rfl) NS (by rw [HLS.out]; exact hlp) ?_; intro w6 N6 hg6; have u0 := (T9.grown hg6 hgsT).at 0 rfl; have Y1 := X1.grown hg6 hgs1; have Y2 := X2.grown hg6 hgs2; have y0 := Y1.at 0 rfl; have z0 := Y2.at 0 rfl; have z1 := Y2.at 1 rfl; have z2 := Y2.at 2 rfl; have z3 := Y2.at 3 rfl; have z4 := Y2.at 4 rfl; have z5 := Y2.at 5 rfl; have z6 := Y2.at 6 rfl; have z7 := Y2.at 7 rfl; have s1 := ((N6.at (i := p) (by rw [List.length_set, HLS.out]; exact hlp)).1.trans (by rw [at_set (by rw [HLS.out]; exact hlp), if_pos rfl])))
                  clear u0 y0 z0 z1 z2 z3 z4 z5 z6 z7 s1
                  have u0 := (T9.grown hg6 hgsT).laterN 0 rfl
                  have y0 := Y1.laterN 0 rfl
                  have z0 := Y2.laterN 0 rfl
                  have z1 := Y2.laterN 1 rfl
                  have z2 := Y2.laterN 2 rfl
                  have z3 := Y2.laterN 3 rfl
                  have z4 := Y2.laterN 4 rfl
                  have z5 := Y2.laterN 5 rfl
                  have z6 := Y2.laterN 6 rfl
                  have z7 := Y2.laterN 7 rfl
                  have s1 : ∀ w', Below w6.heap.size w6 w' → w'.cell? ⟨gs, p, none⟩ = some (.int .i64 (s0 + 1)) := fun w' hb => ((N6.below hb).at (i := p) (by rw [List.length_set, HLS.out]; exact hlp)).1.trans (by rw [at_set (by rw [HLS.out]; exact hlp), if_pos rfl])
                  refine wp_region_grow (by kernel_rfl) (by kernel_rfl) ?_
                  repeat' (first
                      | go_big_quiet_skip
                      | (go_big_quiet_want; first
                          | (go_big_quiet_op; go_big_quiet_on)
                          | (refine quiet_det ?_; apply Exists.intro; refine ⟨fun w' hC => ?_, ?_⟩; (go_simp <;> (first | rfl | exact ⟨rfl, rfl⟩)); apply Exists.intro; refine ⟨?_, ?_⟩; (go_simp <;> (first | rfl | exact ⟨rfl, rfl⟩)); go_big_quiet_on)
                          | (show Oper.quiet _ { dst := _, op := .call { callee := .value _, args := _, argTypes := _ }, type := _, pos := _, after := _, guard := _ } _ _ _; refine quiet_call ?_; apply Exists.intro; apply Exists.intro; refine ⟨fun w' hC => ?_, ?_⟩; (go_simp <;> (first | rfl | exact ⟨rfl, rfl⟩)); apply Exists.intro; refine ⟨fun w' hC => ?_, ?_⟩; (first
                              | with_reducible exact grow_call (rneed_any xp w' HPX.out) hC
                              | fail); apply Exists.intro; refine ⟨?_, ?_⟩; (go_simp <;> (first | rfl | exact ⟨rfl, rfl⟩)); go_big_quiet_on)))
                  all_goals refine wpQuiet_nil ?_
                  intro w7 b7
                  have N7 := N6.below b7
                  have hg67 := grown_more hg6 (grown_of_below (row := none) b7) (fun j e => by cases e)
                  clear u0 y0 z0 z1 z2 z3 z4 z5 z6 z7 s1
                  go_wp2_with (refine step_store_nx (by rfl) (by rfl) (by rfl) (g := gs) (i := p) (by rfl) (by rfl) N7 (by rw [List.length_set, HLS.out]; exact hlp) ?_; intro w8 N8 hg8)
                  have hgE := grown_more hgA hg67 (fun j e => .inr e)
                  have hgF := grown_more hgE hg8 (fun j e => .inr e)
                  go_roundw
                  case rel => exact ⟨p + 1, _, hlp, by go_num, hgF, N8, by rw [List.set_set]; exact HSN.out.next hlp (by omega) (fun h => (HTB.out h).symm)⟩
                  case measure => simp [intOf]; omega
                · subst ha
                  have zyl : (s0 + 1 == xp.yl) = true := by rw [hyl]; simp
                  have HYL := Lib.hid hyl
                  clear hyl
                  rcases hrd with ⟨hb', hr⟩ | ⟨hb', hr⟩
                  · subst hb'
                    have zr : decide (0 < xp.rd) = true := decide_eq_true hr
                    clear zab
                    go_wp2_with (refine step_store_nx (by rfl) (by rfl) (by rfl) (g := gs) (i := p) (by rfl) (by rfl) NS (by rw [HLS.out]; exact hlp) ?_; intro w6 N6 hg6; have u0 := (T9.grown hg6 hgsT).at 0 rfl; have Y1 := X1.grown hg6 hgs1; have Y2 := X2.grown hg6 hgs2; have y0 := Y1.at 0 rfl; have z0 := Y2.at 0 rfl; have z1 := Y2.at 1 rfl; have z2 := Y2.at 2 rfl; have z3 := Y2.at 3 rfl; have z4 := Y2.at 4 rfl; have z5 := Y2.at 5 rfl; have z6 := Y2.at 6 rfl; have z7 := Y2.at 7 rfl; have s1 := ((N6.at (i := p) (by rw [List.length_set, HLS.out]; exact hlp)).1.trans (by rw [at_set (by rw [HLS.out]; exact hlp), if_pos rfl])))
                    go_quiet (fail)
                    have N7 := N6.below (below_drewN (Below.refl w6.heap.size w6) (n := nq))
                    have hg67 := grown_more hg6 (grown_of_below (row := none) (below_drewN (Below.refl w6.heap.size w6) (n := nq))) (fun j e => by cases e)
                    clear u0 y0 z0 z1 z2 z3 z4 z5 z6 z7 s1
                    go_wp2_with (refine step_store_nx (by rfl) (by rfl) (by rfl) (g := gs) (i := p) (by rfl) (by rfl) N7 (by rw [List.length_set, HLS.out]; exact hlp) ?_; intro w8 N8 hg8)
                    have hgE := grown_more hgA hg67 (fun j e => .inr e)
                    have hgF := grown_more hgE hg8 (fun j e => .inr e)
                    go_roundw
                    case rel => exact ⟨p + 1, _, hlp, by go_num, hgF, N8, by rw [List.set_set]; exact HSN.out.next hlp (by omega) (fun h => (HTB.out h).symm)⟩
                    case measure => simp [intOf]; omega
                  · have zb3 : (lb == 3) = false := by simpa using hb'
                    have zr : decide (0 < xp.rd) = false := decide_eq_false hr
                    clear hb' hr
                    go_wp2_with (refine step_store_nx (by rfl) (by rfl) (by rfl) (g := gs) (i := p) (by rfl) (by rfl) NS (by rw [HLS.out]; exact hlp) ?_; intro w6 N6 hg6; have u0 := (T9.grown hg6 hgsT).at 0 rfl; have Y1 := X1.grown hg6 hgs1; have Y2 := X2.grown hg6 hgs2; have y0 := Y1.at 0 rfl; have z0 := Y2.at 0 rfl; have z1 := Y2.at 1 rfl; have z2 := Y2.at 2 rfl; have z3 := Y2.at 3 rfl; have z4 := Y2.at 4 rfl; have z5 := Y2.at 5 rfl; have z6 := Y2.at 6 rfl; have z7 := Y2.at 7 rfl; have s1 := ((N6.at (i := p) (by rw [List.length_set, HLS.out]; exact hlp)).1.trans (by rw [at_set (by rw [HLS.out]; exact hlp), if_pos rfl])))
                    go_quiet (fail)
                    have N7 := N6.below (below_drewN (Below.refl w6.heap.size w6) (n := nq))
                    have hg67 := grown_more hg6 (grown_of_below (row := none) (below_drewN (Below.refl w6.heap.size w6) (n := nq))) (fun j e => by cases e)
                    clear u0 y0 z0 z1 z2 z3 z4 z5 z6 z7 s1
                    go_wp2_with (refine step_store_nx (by rfl) (by rfl) (by rfl) (g := gs) (i := p) (by rfl) (by rfl) N7 (by rw [List.length_set, HLS.out]; exact hlp) ?_; intro w8 N8 hg8)
                    have hgE := grown_more hgA hg67 (fun j e => .inr e)
                    have hgF := grown_more hgE hg8 (fun j e => .inr e)
                    go_roundw
                    case rel => exact ⟨p + 1, _, hlp, by go_num, hgF, N8, by rw [List.set_set]; exact HSN.out.next hlp (by omega) (fun h => (HTB.out h).symm)⟩
                    case measure => simp [intOf]; omega
                · subst ha
                  have zrd : (s0 + 1 == xp.rd) = true := by rw [hrd]; simp
                  have HRD := Lib.hid hrd
                  have zb2 : (lb != 2) = true := by simpa using hb'
                  clear hrd hb'
                  go_wp2_with (refine step_store_nx (by rfl) (by rfl) (by rfl) (g := gs) (i := p) (by rfl) (by rfl) NS (by rw [HLS.out]; exact hlp) ?_; intro w6 N6 hg6; have u0 := (T9.grown hg6 hgsT).at 0 rfl; have Y1 := X1.grown hg6 hgs1; have Y2 := X2.grown hg6 hgs2; have y0 := Y1.at 0 rfl; have z0 := Y2.at 0 rfl; have z1 := Y2.at 1 rfl; have z2 := Y2.at 2 rfl; have z3 := Y2.at 3 rfl; have z4 := Y2.at 4 rfl; have z5 := Y2.at 5 rfl; have z6 := Y2.at 6 rfl; have z7 := Y2.at 7 rfl; have s1 := ((N6.at (i := p) (by rw [List.length_set, HLS.out]; exact hlp)).1.trans (by rw [at_set (by rw [HLS.out]; exact hlp), if_pos rfl])))
                  go_quiet (fail)
                  have N7 := N6.below (below_drewN (Below.refl w6.heap.size w6) (n := nq))
                  have hg67 := grown_more hg6 (grown_of_below (row := none) (below_drewN (Below.refl w6.heap.size w6) (n := nq))) (fun j e => by cases e)
                  clear u0 y0 z0 z1 z2 z3 z4 z5 z6 z7 s1
                  go_wp2_with (refine step_store_nx (by rfl) (by rfl) (by rfl) (g := gs) (i := p) (by rfl) (by rfl) N7 (by rw [List.length_set, HLS.out]; exact hlp) ?_; intro w8 N8 hg8)
                  have hgE := grown_more hgA hg67 (fun j e => .inr e)
                  have hgF := grown_more hgE hg8 (fun j e => .inr e)
                  go_roundw
                  case rel => exact ⟨p + 1, _, hlp, by go_num, hgF, N8, by rw [List.set_set]; exact HSN.out.next hlp (by omega) (fun h => (HTB.out h).symm)⟩
                  case measure => simp [intOf]; omega
          · as_aux_lemma =>
            have hltZ : ¬ (p : Int) < n := by omega
            have hpn : p = n := by omega
            rw [hpn] at hsn
            obtain ⟨hf1, hf2⟩ := hsn.fin
            have HF1 := Lib.hid hf1
            have HF2 := Lib.hid hf2
            have X15 := X13.grown hgw (by intro e; injection e with e; exact hgXs e.symm)
            have C15 := C13.grown hgw (by intro e; injection e with e; exact hgsc e)
            have L15 := L13.grown hgw (by intro e; injection e with e; exact hls2 e.symm)
            have N15 := N13.grown hgw (by intro e; injection e with e; exact hxs2 e.symm)
            have B15 : Below B W4 wr := B13.grown hgw hB13 (fun k e => by injection e with e; omega)
            have a0 := X15.at 0 rfl; have a1 := X15.at 1 rfl; have a2 := X15.at 2 rfl; have a3 := X15.at 3 rfl
            clear hsn hf1 hf2 hpn
            go_wp2_with (refine step_store_ct (by rfl) (by rfl) (by rfl) (by rfl) (by rfl) C15 ?_; intro w17 C17 hg17)
            go_roundw
            case rel => exact ⟨i + 1, s, S, hlt, by go_num, ⟨gl2, cl2, gx2, cx2, B15.grown hg17 (Nat.le_trans hBW B15.size) (fun k e => by injection e with e; omega), C17, L15.grown hg17 (by intro e; injection e with e; exact hlc2 e.symm), N15.grown hg17 (by intro e; injection e with e; exact hxc2 e.symm), hlc2, hxc2⟩, HVS.out, Ns.grown hg17 (by intro e; injection e with e; exact hgsc e.symm), HLS.out, HF1.out, HF2.out⟩
            case measure => simp [intOf]; omega
    · as_aux_lemma =>
      have hltZ : ¬ (i : Int) < ts.length := by omega
      have hBr : Below B W4 wr := by obtain ⟨_, _, _, _, h, _⟩ := hS; exact h
      go_wp2_with fail
      refine (awake_any _).mono ?_
      rintro e w2 ⟨rfl, hb⟩
      go_wp2
      go_ret
      exact ⟨rfl, hb4.trans ((hBr.mono hwB).trans (hb.mono (Nat.le_trans hb4.size hBr.size)))⟩
end Go.Proofs.Ytkpbkahmbbkcdaa
