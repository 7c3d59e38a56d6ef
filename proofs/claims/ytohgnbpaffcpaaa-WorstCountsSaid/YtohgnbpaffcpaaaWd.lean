/-
  The law WorstCounts. Conditions: none.
-/
import Derived.Test.YtohgnbpaffcpaaaWb
import Derived.Test.YtohgnbpaffcpaaaJq
import Derived.Test.YtohgnbpaffcpaaaMk
import Derived.Deep.OwnRows
import Derived.BigQuiet
namespace Go.Proofs.Ytohgnbpaffcpaaa
open Go.ChangeShapes Go.WideShapes Go.RowKit
set_option linter.unusedVariables false

set_option maxRecDepth 40000 in
set_option maxHeartbeats 8000000 in
theorem counts_any (A0 : Option Addr) (cA : Nat) (l : List Int) (B0 : Option Addr) (cB : Nat) (m : List Int) (tg : Int) (w : World) (hs : Ints .i64 w w.heap.size A0 l) (hn : Nums l) (hl : l.length ≤ 9223372036854775807) (hsm0 : Ints .i64 w w.heap.size B0 m) (hnm : Nums m) (hlm : m.length ≤ 9223372036854775807) (t0 : -9223372036854775808 ≤ tg) (t1 : tg ≤ 9223372036854775807) :
    Calls Try.prog 3 #[.slice A0 l.length cA, .slice B0 m.length cB, .int .i64 tg] w fun e w' => e = .returned (.bool true) ∧ Below w.heap.size w w' := by
  go_enter Try.func3, Try.ntmps3
  go_wp2_with fail
  refine (new_ok A0 l cA _ hs hn hl).mono ?_
  rintro e w2 ⟨rfl, hdk, hb2, hlt2⟩
  go_wp2_with fail
  refine (junction_any w.heap.size w2 hdk).mono ?_
  rintro e w3 ⟨hgr, hdk3, q, st, ex, P, A1, B1, cU, cW, rfl, hj, hP, hI, hA1, hB1, hcU, hdW⟩
  have hb3 := hgr.base hb2 (Nat.le_refl _)
  have hjc := junC_drawn hj
  have hjv := jun_drawn hj
  obtain ⟨n, hnn⟩ : ∃ n, P.length = n := ⟨_, rfl⟩
  obtain ⟨C, hCC⟩ : ∃ C, rowsL P ex = C := ⟨_, rfl⟩
  rw [hnn, hCC] at hjc
  rw [hCC] at hI hjv
  rw [hnn] at hcU hdW ⊢
  have HN := Lib.hid hnn
  have HRC := Lib.hid hjc.rows.len
  clear hnn hCC hgr hdk hdk3 hb2 hj hA1 hB1
  have h1 := hjc.h1
  have h8 := hjc.h8
  obtain ⟨bA, oA, rfl, hbA, _⟩ := hP (by have := HN.out; omega)
  obtain ⟨bB, oB, rfl, hbB, _⟩ := hI (by have := HRC.out; omega)
  have bJ := lat_alloc (Below.refl w3.heap.size w3) (.cells #[.slice (some ⟨bA, oA, none⟩) n cU, .slice (some ⟨bB, oB, none⟩) n cW, .int .i64 st] 25)
  have BJ := Blk.new (w := w3) (t := 25) (cs := #[.slice (some ⟨bA, oA, none⟩) n cU, .slice (some ⟨bB, oB, none⟩) n cW, .int .i64 st])
  have hI4 := hI.grow bJ
  have hP4 := hP.grow bJ
  have hb4 := hb3.trans (bJ.mono hb3.size)
  have hsm := (hsm0.below hb4).more hb4.size
  go_wp2_with fail
  have HGC := Lib.hid (heap_size w3 (.cells #[.slice (some ⟨bA, oA, none⟩) n cU, .slice (some ⟨bB, oB, none⟩) n cW, .int .i64 st] 25))
  generalize w3.alloc (.cells #[.slice (some ⟨bA, oA, none⟩) n cU, .slice (some ⟨bB, oB, none⟩) n cW, .int .i64 st] 25) = W4 at *
  generalize w3.heap.size = gj at *
  clear bJ hI hP hb3 hs hsm0
  obtain ⟨B, hBB⟩ : ∃ B, W4.heap.size = B := ⟨_, rfl⟩
  have HBB := Lib.hid hBB
  have hgjB : gj < B := by have := HGC.out; omega
  have hbAB : bA < B := by have := HGC.out; omega
  have hbBB : bB < B := by have := HGC.out; omega
  have hBW : B ≤ W4.heap.size := by omega
  have hBWle : B ≤ W4.heap.size := hBW
  have hwB : w.heap.size ≤ B := by have := hb4.size; omega
  rw [hBB] at hI4 hP4 hsm
  clear hBB
  refine wp_region_invs 6 46 (JQ W4 B n P C st (.slice B0 m.length cB) (.agg #[.slice (some ⟨bA, oA, none⟩) n cU, .slice (some ⟨bB, oB, none⟩) n cW, .int .i64 st])) (by kernel_rfl) (fun _ _ d _ _ h => by cases d <;> exact h) rfl (by kernel_rfl) (JQ.start HBB.out.symm) ?_ ?_
  · intro k' o hk' ho
    have hk6 : k' = 0 ∨ k' = 1 ∨ k' = 2 ∨ k' = 3 ∨ k' = 4 ∨ k' = 5 := by omega
    rcases hk6 with rfl | rfl | rfl | rfl | rfl | rfl
    · obtain rfl := Option.some.inj ho
      intro lst vs ev xw hJ hl hc hf hfr hd
      have e1 : ev (.tmp 1) = .slice B0 m.length cB := hfr 1 (frm_of (by kernel_rfl))
      clear hfr hd
      refine opS_hid (fun Rp HR => ?_)
      unfold OpS
      go_simp
      rw [HR.out]
      exact hJ.op0 rfl
    · obtain rfl := Option.some.inj ho
      intro lst vs ev xw hJ hl hc hf hfr hd
      have dx14 := hd 0 14 (by kernel_rfl) rfl
      have ex14 : ev (.tmp 14) = .slice B0 m.length cB := dx14.2.trans (hJ.v0 dx14.1)
      clear hfr hd dx14
      have hb := hJ.grew
      have hbig := hJ.big
      refine opS_hid (fun Rp HR => ?_)
      unfold OpS
      go_simp
      refine (new_ok B0 m cB xw (hsm.low hb (Nat.le_of_eq HBB.out.symm)) hnm hlm).mono ?_
      rintro e w'' ⟨rfl, h1, h2, h3⟩
      refine ⟨_, rfl, ?_⟩
      rw [HR.out]
      exact hJ.op1 hl rfl h1 h2
    · obtain rfl := Option.some.inj ho
      intro lst vs ev xw hJ hl hc hf hfr hd
      have e7 : ev (.tmp 7) = .pointer (some ⟨gj, 0, none⟩) := hfr 7 (frm_of (by kernel_rfl))
      clear hfr hd
      have hb := hJ.grew
      have Jx := BJ.low hb hgjB
      have k0 := Jx.at 0 rfl
      have k1 := Jx.at 1 rfl
      have k2 := Jx.at 2 rfl
      refine opS_hid (fun Rp HR => ?_)
      unfold OpS
      go_simp
      rw [HR.out]
      exact hJ.op2 rfl
    · obtain rfl := Option.some.inj ho
      intro lst vs ev xw hJ hl hc hf hfr hd
      have dx15 := hd 1 15 (by kernel_rfl) rfl
      have dx16 := hd 2 16 (by kernel_rfl) rfl
      obtain ⟨g, g1, g2, g3, g4⟩ := hJ.v1 dx15.1
      have ex15 : ev (.tmp 15) = .pointer (some ⟨g, 0, none⟩) := dx15.2.trans g1
      have ex16 : ev (.tmp 16) = .agg #[.slice (some ⟨bA, oA, none⟩) n cU, .slice (some ⟨bB, oB, none⟩) n cW, .int .i64 st] := dx16.2.trans (hJ.v2 dx16.1)
      have hdk := g4 hl
      have h1 := dx15.1
      have hb := hJ.grew
      clear hfr hd dx15 dx16
      refine opS_hid (fun Rp HR => ?_)
      unfold OpS
      go_simp
      refine (control_any g (some ⟨bA, oA, none⟩) (some ⟨bB, oB, none⟩) cU cW n P C st xw hjc hdk (hP4.low hb (Nat.le_of_eq HBB.out.symm)) (hI4.low hb (Nat.le_of_eq HBB.out.symm)) (fun a ha => by injection ha with ha; subst ha; show bA ≠ g; omega) (fun a ha => by injection ha with ha; subst ha; show bB ≠ g; omega)).mono ?_
      rintro e w'' ⟨v, rfl, q1, q2, c, q3, q4⟩
      refine ⟨_, rfl, ?_⟩
      rw [HR.out]
      exact hJ.op3 HBB.out hl h1 g1 g2 q1 q3 q4
    · obtain rfl := Option.some.inj ho
      intro lst vs ev xw hJ hl hc hf hfr hd
      clear hfr hd
      refine opS_hid (fun Rp HR => ?_)
      unfold OpS
      go_simp
      rw [HR.out]
      exact hJ.op4 hl rfl
    · obtain rfl := Option.some.inj ho
      intro lst vs ev xw hJ hl hc hf hfr hd
      have d8 := hd 4 8 (by kernel_rfl) rfl
      have dx17 := hd 3 17 (by kernel_rfl) rfl
      obtain ⟨g, g1, g2, g3, _⟩ := hJ.v4 d8.1
      obtain ⟨c, q1, gl, cl, gx, cx, q2, q3, q4, q5, q6⟩ := hJ.v3 dx17.1
      have e8 : ev (.tmp 8) = .pointer (some ⟨g, 0, none⟩) := d8.2.trans g1
      have ex17 : ev (.tmp 17) = .agg #[.slice (some ⟨gl, 0, none⟩) n cl, .int .i64 c.gr, .slice (some ⟨gx, 0, none⟩) 2 cx, .int .i64 c.wt] := dx17.2.trans q2
      have h3 := dx17.1
      have h4 := d8.1
      have hB := g3 hl
      clear hfr hd d8 dx17
      have hB : Blk xw g 31 #[.slice none 0 0, .int .i64 0, .slice none 0 0, .int .i64 0] := hB
      have f0 := hB.frozen 0
      have f1 := hB.frozen 1
      have f2 := hB.frozen 2
      have f3 := hB.frozen 3
      have c0 := hB.at 0 rfl
      have cU := hB.at 1 rfl
      have c2 := hB.at 2 rfl
      have c3 := hB.at 3 rfl
      have hst4 := hB.set4 (.slice (some ⟨gl, 0, none⟩) n cl) (.int .i64 c.gr) (.slice (some ⟨gx, 0, none⟩) 2 cx) (.int .i64 c.wt)
      have hgr4 := grownBy_setAt (grownBy_setAt (grownBy_setAt (grownBy_set xw g 0 (.slice (some ⟨gl, 0, none⟩) n cl)) g 1 (.int .i64 c.gr) rfl) g 2 (.slice (some ⟨gx, 0, none⟩) 2 cx) rfl) g 3 (.int .i64 c.wt) rfl
      refine opS_hid (fun Rp HR => ?_)
      unfold OpS
      go_simp
      rw [HR.out]
      exact hJ.op5 hl h3 h4 g1 q2 hgr4 hst4
  · intro vs w5 hJ
    have k0 := hJ.v0 rfl
    obtain ⟨g, k1, _, _, _⟩ := hJ.v1 rfl
    have k2 := hJ.v2 rfl
    obtain ⟨c0, hv0, gl, cl, gx, cx, k3, hgl, hgx, L6, N6⟩ := hJ.v3 rfl
    obtain ⟨gc, k4, hBgc, _, r2⟩ := hJ.v4 rfl
    obtain ⟨cs, r3, BC⟩ := r2 rfl
    rw [k3] at r3
    injection r3 with r3
    subst r3
    have b6 := hJ.grew
    simp only [List.take_succ_cons, List.take_zero, List.drop_succ_cons, List.drop_zero, putAll, Act.put, List.setIfInBounds_toArray, List.set_cons_zero, List.set_cons_succ, k0, k1, k2, k3, k4, Nat.reduceAdd, Nat.reduceSub]
    clear hJ k0 k1 k2 k3 k4
    have hlc : gl ≠ gc := L6.ne_ct BC
    have hxc : gx ≠ gc := N6.ne_ct BC
    unfold wpList
    have J5 := BJ.low b6 hgjB
    obtain ⟨T, hT, hTn⟩ := modI_nat' tg 10 (by omega)
    have HT := Lib.hid hT
    have zt : IntKind.i64.wrap ((T : Nat) - 1) = ((T : Nat) - 1 : Int) := by rw [IntKind.wrap_i64]; omega
    clear hT
    go_wp2_with fail
    refine (mod_k HT.out (by omega) (by omega) (by omega) (by omega) _).mono ?_
    rintro e w6 ⟨rfl, rfl⟩
    go_wp2_with fail
    have bX := lat_alloc (Below.refl w5.heap.size w5) (.cells #[.int .i64 tg, .int .i64 ((T : Nat) - 1)] 3)
    have I7 := Blk.new (w := w5) (t := 3) (cs := #[.int .i64 tg, .int .i64 ((T : Nat) - 1)])
    have J7 := J5.below bX
    have C7 := BC.below bX
    have L7 := L6.below bX
    have N7 := N6.below bX
    have B7 := b6.trans (bX.mono (Nat.le_trans hBW b6.size))
    generalize w5.alloc (.cells #[.int .i64 tg, .int .i64 ((T : Nat) - 1)] 3) = W7 at *
    obtain ⟨gT, hgT⟩ : ∃ gT, w5.heap.size = gT := ⟨_, rfl⟩
    rw [hgT] at I7 ⊢
    have HVC := Lib.hid hv0
    have hBW7 : B ≤ W7.heap.size := Nat.le_trans hBW B7.size
    clear hgT bX J5 BC L6 N6 b6 hlc hxc hgl hgx hsm zt hv0
    generalize c0 = c at *
    go_loopw [24] (fun v wr => ∃ i : Nat, i ≤ 2 ∧ v = .int .i64 i ∧ Below W7.heap.size W7 wr) (fun v _ => 2 - (intOf v).toNat)
    case atStart => exact ⟨0, by omega, rfl, Below.refl _ _⟩
    case round =>
      obtain ⟨i, hi, rfl, hbr⟩ := hrel
      have Jr := J7.below hbr
      have Cr := C7.below hbr
      have Lr := L7.below hbr
      have Nr := N7.below hbr
      by_cases hlt : i < 2
      · as_aux_lemma =>
        have hltZ : (i : Int) < 2 := by omega
        obtain ⟨y, hy⟩ : ∃ y, wr.cell? ⟨gT, i, none⟩ = some (.int .i64 y) := by
          rcases (by omega : i = 0 ∨ i = 1) with rfl | rfl
          · exact ⟨_, (I7.below hbr).at 0 rfl⟩
          · exact ⟨_, (I7.below hbr).at 1 rfl⟩
        obtain ⟨R, hRR⟩ : ∃ R, reachT P C n st c y = R := ⟨_, rfl⟩
        have HRR := Lib.hid hRR
        clear hRR
        go_wp2_with fail
        clear hy
        refine wp_region_pre (R := Bl) 9 46 [fun v _ => v = .agg #[.slice (some ⟨bA, oA, none⟩) n cU, .slice (some ⟨bB, oB, none⟩) n cW, .int .i64 st], fun v _ => v = .agg #[.slice (some ⟨gl, 0, none⟩) n cl, .int .i64 (c).gr, .slice (some ⟨gx, 0, none⟩) 2 cx, .int .i64 (c).wt], fun v _ => v = .int .i64 y, fun v _ => v = .int .i64 R, fun v _ => v = .agg #[.slice (some ⟨bA, oA, none⟩) n cU, .slice (some ⟨bB, oB, none⟩) n cW, .int .i64 st], fun v _ => v = .agg #[.slice (some ⟨gl, 0, none⟩) n cl, .int .i64 (c).gr, .slice (some ⟨gx, 0, none⟩) 2 cx, .int .i64 (c).wt], fun v _ => v = .int .i64 y, fun v _ => v = .int .i64 R, fun v _ => v = .bool false] (Bl.trans) (Bl.drew) (by kernel_rfl) (fun _ _ d _ _ h => by cases d <;> exact h) rfl (by kernel_rfl) (stay_cons (stays_v _) (stay_cons (stays_v _) (stay_cons (stays_v _) (stay_cons (stays_v _) (stay_cons (stays_v _) (stay_cons (stays_v _) (stay_cons (stays_v _) (stay_cons (stays_v _) (stay_cons (stays_v _) (stay_nil)))))))))) ?_ ?_
        · simp only [List.take_succ_cons, List.take_zero]
          refine steps_cons (Bl.refl) (fun ev xw hb hc hf hfr hd hr => ?_) ?_
          · have e7 : ev (.tmp 7) = .pointer (some ⟨gj, 0, none⟩) := hfr 7 (by kernel_rfl)
            clear hfr hd
            have k0 := (Jr.below hb).at 0 rfl
            have k1 := (Jr.below hb).at 1 rfl
            have k2 := (Jr.below hb).at 2 rfl
            show OpOk _ _ ev xw fun v w' => Bl xw w' ∧ (v = .agg #[.slice (some ⟨bA, oA, none⟩) n cU, .slice (some ⟨bB, oB, none⟩) n cW, .int .i64 st])
            refine opOk_hid (fun Rp HR => ?_)
            unfold OpOk
            go_simp
            rw [HR.out]
            exact ⟨hr, rfl⟩
          refine steps_cons (Bl.refl) (fun ev xw hb hc hf hfr hd hr => ?_) ?_
          · have e8 : ev (.tmp 8) = .pointer (some ⟨gc, 0, none⟩) := hfr 8 (by kernel_rfl)
            clear hfr hd
            have k0 := (Cr.below hb).at 0 rfl
            have k1 := (Cr.below hb).at 1 rfl
            have k2 := (Cr.below hb).at 2 rfl
            have k3 := (Cr.below hb).at 3 rfl
            show OpOk _ _ ev xw fun v w' => Bl xw w' ∧ (v = .agg #[.slice (some ⟨gl, 0, none⟩) n cl, .int .i64 (c).gr, .slice (some ⟨gx, 0, none⟩) 2 cx, .int .i64 (c).wt])
            refine opOk_hid (fun Rp HR => ?_)
            unfold OpOk
            go_simp
            rw [HR.out]
            exact ⟨hr, rfl⟩
          refine steps_cons (Bl.refl) (fun ev xw hb hc hf hfr hd hr => ?_) ?_
          · have e10 : ev (.tmp 10) = .int .i64 y := hfr 10 (by kernel_rfl)
            clear hfr hd
            show OpOk _ _ ev xw fun v w' => Bl xw w' ∧ (v = .int .i64 y)
            refine opOk_hid (fun Rp HR => ?_)
            unfold OpOk
            go_simp
            rw [HR.out]
            exact ⟨hr, rfl⟩
          refine steps_cons (Bl.refl) (fun ev xw hb hc hf hfr hd hr => ?_) ?_
          · have e28 : ev (.tmp 28) = .agg #[.slice (some ⟨bA, oA, none⟩) n cU, .slice (some ⟨bB, oB, none⟩) n cW, .int .i64 st] := hd 0 28 (by kernel_rfl)
            have e29 : ev (.tmp 29) = .agg #[.slice (some ⟨gl, 0, none⟩) n cl, .int .i64 (c).gr, .slice (some ⟨gx, 0, none⟩) 2 cx, .int .i64 (c).wt] := hd 1 29 (by kernel_rfl)
            have e30 : ev (.tmp 30) = .int .i64 y := hd 2 30 (by kernel_rfl)
            clear hfr hd
            show OpOk _ _ ev xw fun v w' => Bl xw w' ∧ (v = .int .i64 R)
            refine opOk_hid (fun Rp HR => ?_)
            unfold OpOk
            go_simp
            refine (preach_any (some ⟨bA, oA, none⟩) (some ⟨bB, oB, none⟩) cU cW cl cx gl gx n P C c st y xw hjc hjv HVC.out (hP4.low (B7.trans (Below.mono (hbr.trans (Below.mono hb hbr.size)) hBW7)) hBW) (hI4.low (B7.trans (Below.mono (hbr.trans (Below.mono hb hbr.size)) hBW7)) hBW) hcU (Lr.below hb) (Nr.below hb)).mono ?_
            rintro e w'' ⟨rfl, hw⟩
            refine ⟨_, rfl, ?_⟩
            rw [HR.out]
            exact ⟨hw, by rw [HRR.out]⟩
          refine steps_cons (Bl.refl) (fun ev xw hb hc hf hfr hd hr => ?_) ?_
          · have e7 : ev (.tmp 7) = .pointer (some ⟨gj, 0, none⟩) := hfr 7 (by kernel_rfl)
            clear hfr hd
            have k0 := (Jr.below hb).at 0 rfl
            have k1 := (Jr.below hb).at 1 rfl
            have k2 := (Jr.below hb).at 2 rfl
            show OpOk _ _ ev xw fun v w' => Bl xw w' ∧ (v = .agg #[.slice (some ⟨bA, oA, none⟩) n cU, .slice (some ⟨bB, oB, none⟩) n cW, .int .i64 st])
            refine opOk_hid (fun Rp HR => ?_)
            unfold OpOk
            go_simp
            rw [HR.out]
            exact ⟨hr, rfl⟩
          refine steps_cons (Bl.refl) (fun ev xw hb hc hf hfr hd hr => ?_) ?_
          · have e8 : ev (.tmp 8) = .pointer (some ⟨gc, 0, none⟩) := hfr 8 (by kernel_rfl)
            clear hfr hd
            have k0 := (Cr.below hb).at 0 rfl
            have k1 := (Cr.below hb).at 1 rfl
            have k2 := (Cr.below hb).at 2 rfl
            have k3 := (Cr.below hb).at 3 rfl
            show OpOk _ _ ev xw fun v w' => Bl xw w' ∧ (v = .agg #[.slice (some ⟨gl, 0, none⟩) n cl, .int .i64 (c).gr, .slice (some ⟨gx, 0, none⟩) 2 cx, .int .i64 (c).wt])
            refine opOk_hid (fun Rp HR => ?_)
            unfold OpOk
            go_simp
            rw [HR.out]
            exact ⟨hr, rfl⟩
          refine steps_cons (Bl.refl) (fun ev xw hb hc hf hfr hd hr => ?_) ?_
          · have e10 : ev (.tmp 10) = .int .i64 y := hfr 10 (by kernel_rfl)
            clear hfr hd
            show OpOk _ _ ev xw fun v w' => Bl xw w' ∧ (v = .int .i64 y)
            refine opOk_hid (fun Rp HR => ?_)
            unfold OpOk
            go_simp
            rw [HR.out]
            exact ⟨hr, rfl⟩
          refine steps_cons (Bl.refl) (fun ev xw hb hc hf hfr hd hr => ?_) ?_
          · have e32 : ev (.tmp 32) = .agg #[.slice (some ⟨bA, oA, none⟩) n cU, .slice (some ⟨bB, oB, none⟩) n cW, .int .i64 st] := hd 4 32 (by kernel_rfl)
            have e33 : ev (.tmp 33) = .agg #[.slice (some ⟨gl, 0, none⟩) n cl, .int .i64 (c).gr, .slice (some ⟨gx, 0, none⟩) 2 cx, .int .i64 (c).wt] := hd 5 33 (by kernel_rfl)
            have e34 : ev (.tmp 34) = .int .i64 y := hd 6 34 (by kernel_rfl)
            clear hfr hd
            show OpOk _ _ ev xw fun v w' => Bl xw w' ∧ (v = .int .i64 R)
            refine opOk_hid (fun Rp HR => ?_)
            unfold OpOk
            go_simp
            refine (rreach_any (some ⟨bA, oA, none⟩) (some ⟨bB, oB, none⟩) cU cW cl cx gl gx n P C c st y xw hjc hjv HVC.out (hP4.low (B7.trans (Below.mono (hbr.trans (Below.mono hb hbr.size)) hBW7)) hBW) (hI4.low (B7.trans (Below.mono (hbr.trans (Below.mono hb hbr.size)) hBW7)) hBW) hcU (Lr.below hb) (Nr.below hb)).mono ?_
            rintro e w'' ⟨rfl, hw⟩
            refine ⟨_, rfl, ?_⟩
            rw [HR.out]
            exact ⟨hw, by rw [HRR.out]⟩
          refine steps_cons (Bl.refl) (fun ev xw hb hc hf hfr hd hr => ?_) ?_
          · have e31 : ev (.tmp 31) = .int .i64 R := hd 3 31 (by kernel_rfl)
            have e35 : ev (.tmp 35) = .int .i64 R := hd 7 35 (by kernel_rfl)
            clear hfr hd
            have zr : (R != R) = false := by simp
            show OpOk _ _ ev xw fun v w' => Bl xw w' ∧ (v = .bool false)
            refine opOk_hid (fun Rp HR => ?_)
            unfold OpOk
            go_simp
            rw [HR.out]
            exact ⟨hr, rfl⟩
          exact steps_nil
        · intro vs W9 hb9 hk
          have k8 : vs 8 = .bool false := hk 8 (by omega)
          clear hk
          simp only [List.take_succ_cons, List.take_zero, List.drop_succ_cons, List.drop_zero, putAll, Act.put, List.setIfInBounds_toArray, List.set_cons_zero, List.set_cons_succ, k8, Nat.reduceAdd]
          go_wp2_with fail
          go_roundw
          case rel => exact ⟨i + 1, hlt, by go_num, hbr.trans (Below.mono hb9 hbr.size)⟩
          case measure => simp [intOf]; omega
      · as_aux_lemma =>
        have hltZ : ¬ (i : Int) < 2 := by omega
        obtain ⟨R, hRR⟩ : ∃ R, transV P n st = R := ⟨_, rfl⟩
        have HRR := Lib.hid hRR
        clear hRR
        go_wp2_with fail
        refine wp_region_preg (R := Bl) 8 46 [fun v _ => v = .agg #[.slice (some ⟨bA, oA, none⟩) n cU, .slice (some ⟨bB, oB, none⟩) n cW, .int .i64 st], fun v _ => v = .int .i64 R, fun v _ => v = .agg #[.slice (some ⟨bA, oA, none⟩) n cU, .slice (some ⟨bB, oB, none⟩) n cW, .int .i64 st], fun v _ => v = .int .i64 R, fun v _ => v = .bool true, fun v _ => v = .bool true, fun v _ => v = .bool true, fun v _ => v = .bool true] (Bl.trans) (Bl.drew) (by kernel_rfl) (fun _ _ d _ _ h => by cases d <;> exact h) rfl (by kernel_rfl) (stay_cons (stays_v _) (stay_cons (stays_v _) (stay_cons (stays_v _) (stay_cons (stays_v _) (stay_cons (stays_v _) (stay_cons (stays_v _) (stay_cons (stays_v _) (stay_cons (stays_v _) (stay_nil))))))))) ?_ ?_ ?_
        · simp only [List.take_succ_cons, List.take_zero]
          exact guards_none rfl (guards_none rfl (guards_none rfl (guards_none rfl (guards_none rfl (guards_none rfl (guards_some 5 true rfl (fun _ _ h => h) (guards_none rfl (guards_nil))))))))
        · simp only [List.take_succ_cons, List.take_zero]
          refine steps_cons (Bl.refl) (fun ev xw hb hc hf hfr hd hr => ?_) ?_
          · have e7 : ev (.tmp 7) = .pointer (some ⟨gj, 0, none⟩) := hfr 7 (by kernel_rfl)
            clear hfr hd
            have k0 := (Jr.below hb).at 0 rfl
            have k1 := (Jr.below hb).at 1 rfl
            have k2 := (Jr.below hb).at 2 rfl
            show OpOk _ _ ev xw fun v w' => Bl xw w' ∧ (v = .agg #[.slice (some ⟨bA, oA, none⟩) n cU, .slice (some ⟨bB, oB, none⟩) n cW, .int .i64 st])
            refine opOk_hid (fun Rp HR => ?_)
            unfold OpOk
            go_simp
            rw [HR.out]
            exact ⟨hr, rfl⟩
          refine steps_cons (Bl.refl) (fun ev xw hb hc hf hfr hd hr => ?_) ?_
          · have e38 : ev (.tmp 38) = .agg #[.slice (some ⟨bA, oA, none⟩) n cU, .slice (some ⟨bB, oB, none⟩) n cW, .int .i64 st] := hd 0 38 (by kernel_rfl)
            clear hfr hd
            show OpOk _ _ ev xw fun v w' => Bl xw w' ∧ (v = .int .i64 R)
            refine opOk_hid (fun Rp HR => ?_)
            unfold OpOk
            go_simp
            refine (ptrans_any (some ⟨bA, oA, none⟩) (some ⟨bB, oB, none⟩) cU cW n n P st xw HN.out (hP4.low (B7.trans (Below.mono (hbr.trans (Below.mono hb hbr.size)) hBW7)) hBW) hjc.pok hjc.st (by omega)).mono ?_
            rintro e w'' ⟨rfl, hw⟩
            refine ⟨_, rfl, ?_⟩
            rw [HR.out]
            exact ⟨hw, by rw [HRR.out]⟩
          refine steps_cons (Bl.refl) (fun ev xw hb hc hf hfr hd hr => ?_) ?_
          · have e7 : ev (.tmp 7) = .pointer (some ⟨gj, 0, none⟩) := hfr 7 (by kernel_rfl)
            clear hfr hd
            have k0 := (Jr.below hb).at 0 rfl
            have k1 := (Jr.below hb).at 1 rfl
            have k2 := (Jr.below hb).at 2 rfl
            show OpOk _ _ ev xw fun v w' => Bl xw w' ∧ (v = .agg #[.slice (some ⟨bA, oA, none⟩) n cU, .slice (some ⟨bB, oB, none⟩) n cW, .int .i64 st])
            refine opOk_hid (fun Rp HR => ?_)
            unfold OpOk
            go_simp
            rw [HR.out]
            exact ⟨hr, rfl⟩
          refine steps_cons (Bl.refl) (fun ev xw hb hc hf hfr hd hr => ?_) ?_
          · have e40 : ev (.tmp 40) = .agg #[.slice (some ⟨bA, oA, none⟩) n cU, .slice (some ⟨bB, oB, none⟩) n cW, .int .i64 st] := hd 2 40 (by kernel_rfl)
            clear hfr hd
            show OpOk _ _ ev xw fun v w' => Bl xw w' ∧ (v = .int .i64 R)
            refine opOk_hid (fun Rp HR => ?_)
            unfold OpOk
            go_simp
            refine (rtrans_any (some ⟨bA, oA, none⟩) (some ⟨bB, oB, none⟩) cU cW n n P st xw HN.out (hP4.low (B7.trans (Below.mono (hbr.trans (Below.mono hb hbr.size)) hBW7)) hBW) hjc.pok hjc.st (by omega)).mono ?_
            rintro e w'' ⟨rfl, hw⟩
            refine ⟨_, rfl, ?_⟩
            rw [HR.out]
            exact ⟨hw, by rw [HRR.out]⟩
          refine steps_cons (Bl.refl) (fun ev xw hb hc hf hfr hd hr => ?_) ?_
          · have e39 : ev (.tmp 39) = .int .i64 R := hd 1 39 (by kernel_rfl)
            have e41 : ev (.tmp 41) = .int .i64 R := hd 3 41 (by kernel_rfl)
            clear hfr hd
            have zr : (R == R) = true := by simp
            show OpOk _ _ ev xw fun v w' => Bl xw w' ∧ (v = .bool true)
            refine opOk_hid (fun Rp HR => ?_)
            unfold OpOk
            go_simp
            rw [HR.out]
            exact ⟨hr, rfl⟩
          refine steps_cons (Bl.refl) (fun ev xw hb hc hf hfr hd hr => ?_) ?_
          · have e42 : ev (.tmp 42) = .bool true := hd 4 42 (by kernel_rfl)
            clear hfr hd
            show OpOk _ _ ev xw fun v w' => Bl xw w' ∧ (v = .bool true)
            refine opOk_hid (fun Rp HR => ?_)
            unfold OpOk
            go_simp
            rw [HR.out]
            exact ⟨hr, rfl⟩
          refine steps_cons (Bl.refl) (fun ev xw hb hc hf hfr hd hr => ?_) ?_
          · clear hfr hd
            show OpOk _ _ ev xw fun v w' => Bl xw w' ∧ (v = .bool true)
            refine opOk_hid (fun Rp HR => ?_)
            unfold OpOk
            go_simp
            refine (awake_any xw).mono ?_
            rintro e w'' ⟨rfl, hw⟩
            refine ⟨_, rfl, ?_⟩
            rw [HR.out]
            exact ⟨hw, rfl⟩
          refine steps_cons (Bl.refl) (fun ev xw hb hc hf hfr hd hr => ?_) ?_
          · have e43 : ev (.tmp 43) = .bool true := hd 5 43 (by kernel_rfl)
            have e44 : ev (.tmp 44) = .bool true := hd 6 44 (by kernel_rfl)
            clear hfr hd
            show OpOk _ _ ev xw fun v w' => Bl xw w' ∧ (v = .bool true)
            refine opOk_hid (fun Rp HR => ?_)
            unfold OpOk
            go_simp
            rw [HR.out]
            exact ⟨hr, rfl⟩
          exact steps_nil
        · intro vs W9 hb9 hk
          have k7 : vs 7 = .bool true := hk 7 (by omega)
          clear hk
          simp only [List.take_succ_cons, List.take_zero, List.drop_succ_cons, List.drop_zero, putAll, Act.put, List.setIfInBounds_toArray, List.set_cons_zero, List.set_cons_succ, k7, Nat.reduceAdd]
          go_wp2
          go_ret
          exact ⟨rfl, hb4.trans ((B7.trans (Below.mono (hbr.trans (Below.mono hb9 hbr.size)) hBW7)).mono hwB)⟩
end Go.Proofs.Ytohgnbpaffcpaaa
