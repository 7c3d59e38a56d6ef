/-
  The law WorstCloser. Conditions: none.
-/
import Derived.Test.YtohgnbpaffcpaaaWb
import Derived.Test.YtohgnbpaffcpaaaJq
import Derived.Deep.OwnRows
import Derived.BigQuiet
namespace Go.Proofs.Ytohgnbpaffcpaaa
open Go.ChangeShapes Go.WideShapes Go.RowKit
set_option linter.unusedVariables false

set_option maxRecDepth 40000 in
set_option maxHeartbeats 8000000 in
theorem closer_any (A0 : Option Addr) (cA : Nat) (l : List Int) (B0 : Option Addr) (cB : Nat) (m : List Int) (tg : Int) (w : World) (hs : Ints .i64 w w.heap.size A0 l) (hn : Nums l) (hl : l.length ≤ 9223372036854775807) (hsm0 : Ints .i64 w w.heap.size B0 m) (hnm : Nums m) (hlm : m.length ≤ 9223372036854775807) (t0 : -9223372036854775808 ≤ tg) (t1 : tg ≤ 9223372036854775807) :
    Calls Try.prog 5 #[.slice A0 l.length cA, .slice B0 m.length cB, .int .i64 tg] w fun e w' => e = .returned (.bool true) ∧ Below w.heap.size w w' := by
  go_enter Try.func5, Try.ntmps5
  go_wp2_with fail
  refine (new_ok A0 l cA _ hs hn hl).mono ?_
  rintro e w2 ⟨rfl, hdk, hb2, hlt2⟩
  go_wp2_with fail
  refine (junction_any w.heap.size w2 hdk).mono ?_
  rintro e w3 ⟨hgr, hdk3, q, st, ex, P, A1, B1, cU, cW, rfl, hj, hP, hI, hA1, hB1, hcU, hdW⟩
  have hb3 := hgr.base hb2 (Nat.le_refl _)
  have hjc := junC_drawn hj
  have hjv := jun_drawn hj
  obtain ⟨n, hnn⟩ : ∃ n, P.length = n := ⟨_, rfl⟩
  obtain ⟨C, hCC⟩ : ∃ C, rowsL P ex = C := ⟨_, rfl⟩
  rw [hnn, hCC] at hjc
  rw [hCC] at hI hjv
  rw [hnn] at hcU hdW ⊢
  have HN := Lib.hid hnn
  have HRC := Lib.hid hjc.rows.len
  clear hnn hCC hgr hdk hdk3 hb2 hj hA1 hB1
  have h1 := hjc.h1
  have h8 := hjc.h8
  obtain ⟨bA, oA, rfl, hbA, _⟩ := hP (by have := HN.out; omega)
  obtain ⟨bB, oB, rfl, hbB, _⟩ := hI (by have := HRC.out; omega)
  have bJ := lat_alloc (Below.refl w3.heap.size w3) (.cells #[.slice (some ⟨bA, oA, none⟩) n cU, .slice (some ⟨bB, oB, none⟩) n cW, .int .i64 st] 25)
  have BJ := Blk.new (w := w3) (t := 25) (cs := #[.slice (some ⟨bA, oA, none⟩) n cU, .slice (some ⟨bB, oB, none⟩) n cW, .int .i64 st])
  have hI4 := hI.grow bJ
  have hP4 := hP.grow bJ
  have hb4 := hb3.trans (bJ.mono hb3.size)
  have hsm := (hsm0.below hb4).more hb4.size
  go_wp2_with fail
  have HGC := Lib.hid (heap_size w3 (.cells #[.slice (some ⟨bA, oA, none⟩) n cU, .slice (some ⟨bB, oB, none⟩) n cW, .int .i64 st] 25))
  generalize w3.alloc (.cells #[.slice (some ⟨bA, oA, none⟩) n cU, .slice (some ⟨bB, oB, none⟩) n cW, .int .i64 st] 25) = W4 at *
  generalize w3.heap.size = gj at *
  clear bJ hI hP hb3 hs hsm0
  obtain ⟨B, hBB⟩ : ∃ B, W4.heap.size = B := ⟨_, rfl⟩
  have HBB := Lib.hid hBB
  have hgjB : gj < B := by have := HGC.out; omega
  have hbAB : bA < B := by have := HGC.out; omega
  have hbBB : bB < B := by have := HGC.out; omega
  have hBW : B ≤ W4.heap.size := by omega
  have hBWle : B ≤ W4.heap.size := hBW
  have hwB : w.heap.size ≤ B := by have := hb4.size; omega
  rw [hBB] at hI4 hP4 hsm
  clear hBB
  refine wp_region_invs 6 46 (JQ W4 B n P C st (.slice B0 m.length cB) (.agg #[.slice (some ⟨bA, oA, none⟩) n cU, .slice (some ⟨bB, oB, none⟩) n cW, .int .i64 st])) (by kernel_rfl) (fun _ _ d _ _ h => by cases d <;> exact h) rfl (by kernel_rfl) (JQ.start HBB.out.symm) ?_ ?_
  · intro k' o hk' ho
    have hk6 : k' = 0 ∨ k' = 1 ∨ k' = 2 ∨ k' = 3 ∨ k' = 4 ∨ k' = 5 := by omega
    rcases hk6 with rfl | rfl | rfl | rfl | rfl | rfl
    · obtain rfl := Option.some.inj ho
      intro lst vs ev xw hJ hl hc hf hfr hd
      have e1 : ev (.tmp 1) = .slice B0 m.length cB := hfr 1 (frm_of (by kernel_rfl))
      clear hfr hd
      refine opS_hid (fun Rp HR => ?_)
      unfold OpS
      go_simp
      rw [HR.out]
      exact hJ.op0 rfl
    · obtain rfl := Option.some.inj ho
      intro lst vs ev xw hJ hl hc hf hfr hd
      have dx15 := hd 0 15 (by kernel_rfl) rfl
      have ex15 : ev (.tmp 15) = .slice B0 m.length cB := dx15.2.trans (hJ.v0 dx15.1)
      clear hfr hd dx15
      have hb := hJ.grew
      have hbig := hJ.big
      refine opS_hid (fun Rp HR => ?_)
      unfold OpS
      go_simp
      refine (new_ok B0 m cB xw (hsm.low hb (Nat.le_of_eq HBB.out.symm)) hnm hlm).mono ?_
      rintro e w'' ⟨rfl, h1, h2, h3⟩
      refine ⟨_, rfl, ?_⟩
      rw [HR.out]
      exact hJ.op1 hl rfl h1 h2
    · obtain rfl := Option.some.inj ho
      intro lst vs ev xw hJ hl hc hf hfr hd
      have e7 : ev (.tmp 7) = .pointer (some ⟨gj, 0, none⟩) := hfr 7 (frm_of (by kernel_rfl))
      clear hfr hd
      have hb := hJ.grew
      have Jx := BJ.low hb hgjB
      have k0 := Jx.at 0 rfl
      have k1 := Jx.at 1 rfl
      have k2 := Jx.at 2 rfl
      refine opS_hid (fun Rp HR => ?_)
      unfold OpS
      go_simp
      rw [HR.out]
      exact hJ.op2 rfl
    · obtain rfl := Option.some.inj ho
      intro lst vs ev xw hJ hl hc hf hfr hd
      have dx16 := hd 1 16 (by kernel_rfl) rfl
      have dx17 := hd 2 17 (by kernel_rfl) rfl
      obtain ⟨g, g1, g2, g3, g4⟩ := hJ.v1 dx16.1
      have ex16 : ev (.tmp 16) = .pointer (some ⟨g, 0, none⟩) := dx16.2.trans g1
      have ex17 : ev (.tmp 17) = .agg #[.slice (some ⟨bA, oA, none⟩) n cU, .slice (some ⟨bB, oB, none⟩) n cW, .int .i64 st] := dx17.2.trans (hJ.v2 dx17.1)
      have hdk := g4 hl
      have h1 := dx16.1
      have hb := hJ.grew
      clear hfr hd dx16 dx17
      refine opS_hid (fun Rp HR => ?_)
      unfold OpS
      go_simp
      refine (control_any g (some ⟨bA, oA, none⟩) (some ⟨bB, oB, none⟩) cU cW n P C st xw hjc hdk (hP4.low hb (Nat.le_of_eq HBB.out.symm)) (hI4.low hb (Nat.le_of_eq HBB.out.symm)) (fun a ha => by injection ha with ha; subst ha; show bA ≠ g; omega) (fun a ha => by injection ha with ha; subst ha; show bB ≠ g; omega)).mono ?_
      rintro e w'' ⟨v, rfl, q1, q2, c, q3, q4⟩
      refine ⟨_, rfl, ?_⟩
      rw [HR.out]
      exact hJ.op3 HBB.out hl h1 g1 g2 q1 q3 q4
    · obtain rfl := Option.some.inj ho
      intro lst vs ev xw hJ hl hc hf hfr hd
      clear hfr hd
      refine opS_hid (fun Rp HR => ?_)
      unfold OpS
      go_simp
      rw [HR.out]
      exact hJ.op4 hl rfl
    · obtain rfl := Option.some.inj ho
      intro lst vs ev xw hJ hl hc hf hfr hd
      have d8 := hd 4 8 (by kernel_rfl) rfl
      have dx18 := hd 3 18 (by kernel_rfl) rfl
      obtain ⟨g, g1, g2, g3, _⟩ := hJ.v4 d8.1
      obtain ⟨c, q1, gl, cl, gx, cx, q2, q3, q4, q5, q6⟩ := hJ.v3 dx18.1
      have e8 : ev (.tmp 8) = .pointer (some ⟨g, 0, none⟩) := d8.2.trans g1
      have ex18 : ev (.tmp 18) = .agg #[.slice (some ⟨gl, 0, none⟩) n cl, .int .i64 c.gr, .slice (some ⟨gx, 0, none⟩) 2 cx, .int .i64 c.wt] := dx18.2.trans q2
      have h3 := dx18.1
      have h4 := d8.1
      have hB := g3 hl
      clear hfr hd d8 dx18
      have hB : Blk xw g 31 #[.slice none 0 0, .int .i64 0, .slice none 0 0, .int .i64 0] := hB
      have f0 := hB.frozen 0
      have f1 := hB.frozen 1
      have f2 := hB.frozen 2
      have f3 := hB.frozen 3
      have c0 := hB.at 0 rfl
      have cU := hB.at 1 rfl
      have c2 := hB.at 2 rfl
      have c3 := hB.at 3 rfl
      have hst4 := hB.set4 (.slice (some ⟨gl, 0, none⟩) n cl) (.int .i64 c.gr) (.slice (some ⟨gx, 0, none⟩) 2 cx) (.int .i64 c.wt)
      have hgr4 := grownBy_setAt (grownBy_setAt (grownBy_setAt (grownBy_set xw g 0 (.slice (some ⟨gl, 0, none⟩) n cl)) g 1 (.int .i64 c.gr) rfl) g 2 (.slice (some ⟨gx, 0, none⟩) 2 cx) rfl) g 3 (.int .i64 c.wt) rfl
      refine opS_hid (fun Rp HR => ?_)
      unfold OpS
      go_simp
      rw [HR.out]
      exact hJ.op5 hl h3 h4 g1 q2 hgr4 hst4
  · intro vs w5 hJ
    have k0 := hJ.v0 rfl
    obtain ⟨g, k1, _, _, _⟩ := hJ.v1 rfl
    have k2 := hJ.v2 rfl
    obtain ⟨c0, hv0, gl, cl, gx, cx, k3, hgl, hgx, L6, N6⟩ := hJ.v3 rfl
    obtain ⟨gc, k4, hBgc, _, r2⟩ := hJ.v4 rfl
    obtain ⟨cs, r3, BC⟩ := r2 rfl
    rw [k3] at r3
    injection r3 with r3
    subst r3
    have b6 := hJ.grew
    simp only [List.take_succ_cons, List.take_zero, List.drop_succ_cons, List.drop_zero, putAll, Act.put, List.setIfInBounds_toArray, List.set_cons_zero, List.set_cons_succ, k0, k1, k2, k3, k4, Nat.reduceAdd, Nat.reduceSub]
    clear hJ k0 k1 k2 k3 k4
    have hlc : gl ≠ gc := L6.ne_ct BC
    have hxc : gx ≠ gc := N6.ne_ct BC
    unfold wpList
    have S6 : StdC W4 w5 B gc n c0 := ⟨gl, cl, gx, cx, b6, BC, L6, N6, hlc, hxc⟩
    have J5 := BJ.low b6 hgjB
    have j0 := J5.at 0 rfl; have j1 := J5.at 1 rfl; have j2 := J5.at 2 rfl
    have a0 := BC.at 0 rfl; have a1 := BC.at 1 rfl; have a2 := BC.at 2 rfl; have a3 := BC.at 3 rfl
    obtain ⟨T, hT, hTn⟩ := modI_nat' tg (n : Int) (by omega)
    have HT := Lib.hid hT
    clear hT
    go_wp2_with fail
    refine (mod_k HT.out (by omega) (by omega) (by omega) (by omega) _).mono ?_
    rintro e w6 ⟨rfl, rfl⟩
    go_wp2_with fail
    have hTn2 : T < n := by omega
    refine (preach_any (some ⟨bA, oA, none⟩) (some ⟨bB, oB, none⟩) cU cW cl cx gl gx n P C c0 st (T : Int) w5 hjc hjv hv0 (hP4.low b6 hBW) (hI4.low b6 hBW) hcU L6 N6).mono ?_
    rintro e w7 ⟨rfl, b7⟩
    rw [show reachT P C n st c0 T = reachV P C n st c0 T from by unfold reachT; rw [if_pos (by omega), Int.toNat_natCast]]
    have S7 := S6.grow (Nat.le_trans hBW b6.size) b7
    clear j0 j1 j2 a0 a1 a2 a3 J5 BC L6 N6 b6 b7 hlc hxc hgl hgx hsm S6
    go_wp2_with fail
    go_loopw [10, 28] (fun s10 v wr => ∃ (i : Nat) (c : Ct), i ≤ 12 ∧ s10 = .int .i64 (reachV P C n st c T) ∧ v = .int .i64 i ∧ StdC W4 wr B gc n c ∧ CtV P C n st c) (fun _ v _ => 12 - (intOf v).toNat)
    case atStart => exact ⟨0, c0, by omega, rfl, rfl, S7, hv0⟩
    case round =>
      obtain ⟨i, c, hi, rfl, rfl, hS, hvc⟩ := hrel
      clear S7 hv0
      by_cases hlt : i < 12
      · as_aux_lemma =>
        have hltZ : (i : Int) < 12 := by omega
        obtain ⟨gl, cl, gx, cx, Br, Cr, Lr, Nr, hlc, hxc⟩ := hS
        have Jr := BJ.low Br hgjB
        have j0 := Jr.at 0 rfl; have j1 := Jr.at 1 rfl; have j2 := Jr.at 2 rfl
        have a0 := Cr.at 0 rfl; have a1 := Cr.at 1 rfl; have a2 := Cr.at 2 rfl; have a3 := Cr.at 3 rfl
        have hvs := step_v hjc.rows hvc h1 hjc.pok hjc.ri hjc.gr (T : Int)
        have hrs := reach_step hjc hjv hvc hTn2
        have hrb := reach_bd hjc hjv hvc hTn2
        have htp := trans_pos hjc
        have hstp := cstep_any (some ⟨bA, oA, none⟩) (some ⟨bB, oB, none⟩) (some ⟨gl, 0, none⟩) (some ⟨gx, 0, none⟩) cU cW cl cx n P C c st (T : Int) wr hjc hvc (hP4.low Br hBW) (hI4.low Br hBW) Lr.prs Nr.ints
        obtain ⟨s, hss⟩ : ∃ s, stepC P C n c (T : Int) = s := ⟨_, rfl⟩
        rw [hss] at hvs hrs hstp
        obtain ⟨q, hq⟩ : ∃ q, reachV P C n st c T = q := ⟨_, rfl⟩
        rw [hq] at hrs hrb ⊢
        obtain ⟨r, hr⟩ : ∃ r, reachV P C n st s T = r := ⟨_, rfl⟩
        have HR2 := Lib.hid hr
        rw [hr] at hrs
        have HRS := Lib.hid hrs
        have HVS := Lib.hid hvs
        have HST := Lib.hid hstp
        have hqb : 0 ≤ q ∧ q ≤ 1002 := by omega
        clear hss hvs hstp hvc hq hr hrs hrb htp
        go_wp2_with fail
        refine (HST.out).mono ?_
        rintro e w12 ⟨v, rfl, b12, gl2, cl2, gx2, cx2, rfl, ⟨hgl2, hcl2⟩, hgx2, L12, N12⟩
        clear HST
        have hgcs := Cr.lt
        have C12 := Cr.below b12
        have B12 := Br.trans (b12.mono (Nat.le_trans hBW Br.size))
        have hlc2 : gl2 ≠ gc := by omega
        have hxc2 : gx2 ≠ gc := by omega
        clear j0 j1 j2 a0 a1 a2 a3 Br Cr Jr Lr Nr b12
        go_wp2_with (refine step_store_ct (by rfl) (by rfl) (by rfl) (by rfl) (by rfl) C12 ?_; intro w13 C13 hg13; have a0 := C13.at 0 rfl; have a1 := C13.at 1 rfl; have a2 := C13.at 2 rfl; have a3 := C13.at 3 rfl; have Jx := BJ.low (B12.grown hg13 (Nat.le_trans hBW B12.size) (fun k e => by injection e with e; omega)) hgjB; have j0 := Jx.at 0 rfl; have j1 := Jx.at 1 rfl; have j2 := Jx.at 2 rfl)
        have L13 := L12.grown hg13 (by intro e; injection e with e; omega)
        have N13 := N12.grown hg13 (by intro e; injection e with e; omega)
        have B13 : Below B W4 w13 := B12.grown hg13 (Nat.le_trans hBW B12.size) (fun k e => by injection e with e; omega)
        refine (preach_any (some ⟨bA, oA, none⟩) (some ⟨bB, oB, none⟩) cU cW cl2 cx2 gl2 gx2 n P C s st (T : Int) w13 hjc hjv HVS.out (hP4.low B13 hBW) (hI4.low B13 hBW) hcU L13 N13).mono ?_
        rintro e w14 ⟨rfl, b14⟩
        rw [show reachT P C n st s T = r from by unfold reachT; rw [if_pos (by omega), Int.toNat_natCast]; exact HR2.out]
        have zq : IntKind.i64.wrap (q - 1) = q - 1 := by rw [IntKind.wrap_i64]; omega
        have zr : (r != max 0 (q - 1)) = false := by rw [HRS.out]; simp
        clear j0 j1 j2 a0 a1 a2 a3 Jx
        go_wp2_with fail
        go_roundw
        case rel => exact ⟨i + 1, s, hlt, by rw [HR2.out], by go_num, ⟨gl2, cl2, gx2, cx2, B13.trans (b14.mono (Nat.le_trans hBW B13.size)), C13.below b14, L13.below b14, N13.below b14, hlc2, hxc2⟩, HVS.out⟩
        case measure => simp [intOf]; omega
      · as_aux_lemma =>
        have hltZ : ¬ (i : Int) < 12 := by omega
        have hBr : Below B W4 wr := by obtain ⟨_, _, _, _, h, _⟩ := hS; exact h
        go_wp2_with fail
        refine (awake_any _).mono ?_
        rintro e w2 ⟨rfl, hb⟩
        go_wp2
        go_ret
        exact ⟨rfl, hb4.trans ((hBr.mono hwB).trans (hb.mono (Nat.le_trans hb4.size hBr.size)))⟩
end Go.Proofs.Ytohgnbpaffcpaaa
