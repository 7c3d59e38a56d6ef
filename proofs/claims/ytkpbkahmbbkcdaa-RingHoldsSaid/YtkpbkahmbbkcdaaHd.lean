/-
  The law RingHolds. Conditions: none.
-/
import Derived.Test.YtkpbkahmbbkcdaaGh
import Derived.Test.YtkpbkahmbbkcdaaTs
import Derived.Test.YtkpbkahmbbkcdaaJq
import Derived.BigQuiet
namespace Go.Proofs.Ytkpbkahmbbkcdaa
open Go.ChangeShapes Go.WideShapes Go.RowKit
set_option linter.unusedVariables false

set_option maxRecDepth 40000 in
set_option maxHeartbeats 8000000 in
theorem holds_any (A0 : Option Addr) (cA : Nat) (l : List Int) (B0 : Option Addr) (cB : Nat) (m : List Int) (tg nn : Int) (w : World) (hs : Ints .i64 w w.heap.size A0 l) (hn : Nums l) (hl : l.length ≤ 9223372036854775807) (hsm0 : Ints .i64 w w.heap.size B0 m) (hnm : Nums m) (hlm : m.length ≤ 9223372036854775807) (t0 : -9223372036854775808 ≤ tg) (t1 : tg ≤ 9223372036854775807) (n0 : -9223372036854775808 ≤ nn) (n1 : nn ≤ 9223372036854775807) :
    Calls Try.prog 7 #[.slice A0 l.length cA, .slice B0 m.length cB, .int .i64 tg, .int .i64 nn] w fun e w' => e = .returned (.bool true) ∧ Below w.heap.size w w' := by
  go_enter Try.func7, Try.ntmps7
  go_wp2_with fail
  refine (new_ok A0 l cA _ hs hn hl).mono ?_
  rintro e w2 ⟨rfl, hdk, hb2, hlt2⟩
  go_wp2_with fail
  refine (junction_any w.heap.size w2 hdk).mono ?_
  rintro e w3 ⟨hgr, hdk3, q, st, ex, P, A1, B1, cU, cW, rfl, hj, hP, hI, hA1, hB1, hcU, hdW⟩
  have hb3 := hgr.base hb2 (Nat.le_refl _)
  have hjc := junC_drawn hj
  have hjv := jun_drawn hj
  obtain ⟨n, hnn⟩ : ∃ n, P.length = n := ⟨_, rfl⟩
  obtain ⟨C, hCC⟩ : ∃ C, rowsL P ex = C := ⟨_, rfl⟩
  rw [hnn, hCC] at hjc
  rw [hCC] at hI hjv
  rw [hnn] at hcU hdW ⊢
  have HN := Lib.hid hnn
  have HRC := Lib.hid hjc.rows.len
  clear hnn hCC hgr hdk hdk3 hb2 hj hA1 hB1
  have h1 := hjc.h1
  have h8 := hjc.h8
  obtain ⟨bA, oA, rfl, hbA, _⟩ := hP (by have := HN.out; omega)
  obtain ⟨bB, oB, rfl, hbB, _⟩ := hI (by have := HRC.out; omega)
  have bJ := lat_alloc (Below.refl w3.heap.size w3) (.cells #[.slice (some ⟨bA, oA, none⟩) n cU, .slice (some ⟨bB, oB, none⟩) n cW, .int .i64 st] 30)
  have BJ := Blk.new (w := w3) (t := 30) (cs := #[.slice (some ⟨bA, oA, none⟩) n cU, .slice (some ⟨bB, oB, none⟩) n cW, .int .i64 st])
  have hI4 := hI.grow bJ
  have hP4 := hP.grow bJ
  have hb4 := hb3.trans (bJ.mono hb3.size)
  have hsm := (hsm0.below hb4).more hb4.size
  go_wp2_with fail
  have HGC := Lib.hid (heap_size w3 (.cells #[.slice (some ⟨bA, oA, none⟩) n cU, .slice (some ⟨bB, oB, none⟩) n cW, .int .i64 st] 30))
  generalize w3.alloc (.cells #[.slice (some ⟨bA, oA, none⟩) n cU, .slice (some ⟨bB, oB, none⟩) n cW, .int .i64 st] 30) = W4 at *
  generalize w3.heap.size = gj at *
  clear bJ hI hP hb3 hs hsm0
  obtain ⟨B, hBB⟩ : ∃ B, W4.heap.size = B := ⟨_, rfl⟩
  have HBB := Lib.hid hBB
  have hgjB : gj < B := by have := HGC.out; omega
  have hbAB : bA < B := by have := HGC.out; omega
  have hbBB : bB < B := by have := HGC.out; omega
  have hBW : B ≤ W4.heap.size := by omega
  have hBWle : B ≤ W4.heap.size := hBW
  have hwB : w.heap.size ≤ B := by have := hb4.size; omega
  rw [hBB] at hI4 hP4 hsm
  clear hBB
  refine wp_region_invs 6 97 (JQ W4 B n P C st (.slice B0 m.length cB) (.agg #[.slice (some ⟨bA, oA, none⟩) n cU, .slice (some ⟨bB, oB, none⟩) n cW, .int .i64 st])) (by kernel_rfl) (fun _ _ d _ _ h => by cases d <;> exact h) rfl (by kernel_rfl) (JQ.start HBB.out.symm) ?_ ?_
  · intro k' o hk' ho
    have hk6 : k' = 0 ∨ k' = 1 ∨ k' = 2 ∨ k' = 3 ∨ k' = 4 ∨ k' = 5 := by omega
    rcases hk6 with rfl | rfl | rfl | rfl | rfl | rfl
    · obtain rfl := Option.some.inj ho
      intro lst vs ev xw hJ hl hc hf hfr hd
      have e1 : ev (.tmp 1) = .slice B0 m.length cB := hfr 1 (frm_of (by kernel_rfl))
      clear hfr hd
      refine opS_hid (fun Rp HR => ?_)
      unfold OpS
      go_simp
      rw [HR.out]
      exact hJ.op0 rfl
    · obtain rfl := Option.some.inj ho
      intro lst vs ev xw hJ hl hc hf hfr hd
      have dx19 := hd 0 19 (by kernel_rfl) rfl
      have ex19 : ev (.tmp 19) = .slice B0 m.length cB := dx19.2.trans (hJ.v0 dx19.1)
      clear hfr hd dx19
      have hb := hJ.grew
      have hbig := hJ.big
      refine opS_hid (fun Rp HR => ?_)
      unfold OpS
      go_simp
      refine (new_ok B0 m cB xw (hsm.low hb (Nat.le_of_eq HBB.out.symm)) hnm hlm).mono ?_
      rintro e w'' ⟨rfl, h1, h2, h3⟩
      refine ⟨_, rfl, ?_⟩
      rw [HR.out]
      exact hJ.op1 hl rfl h1 h2
    · obtain rfl := Option.some.inj ho
      intro lst vs ev xw hJ hl hc hf hfr hd
      have e7 : ev (.tmp 9) = .pointer (some ⟨gj, 0, none⟩) := hfr 9 (frm_of (by kernel_rfl))
      clear hfr hd
      have hb := hJ.grew
      have Jx := BJ.low hb hgjB
      have k0 := Jx.at 0 rfl
      have k1 := Jx.at 1 rfl
      have k2 := Jx.at 2 rfl
      refine opS_hid (fun Rp HR => ?_)
      unfold OpS
      go_simp
      rw [HR.out]
      exact hJ.op2 rfl
    · obtain rfl := Option.some.inj ho
      intro lst vs ev xw hJ hl hc hf hfr hd
      have dx20 := hd 1 20 (by kernel_rfl) rfl
      have dx21 := hd 2 21 (by kernel_rfl) rfl
      obtain ⟨g, g1, g2, g3, g4⟩ := hJ.v1 dx20.1
      have ex20 : ev (.tmp 20) = .pointer (some ⟨g, 0, none⟩) := dx20.2.trans g1
      have ex21 : ev (.tmp 21) = .agg #[.slice (some ⟨bA, oA, none⟩) n cU, .slice (some ⟨bB, oB, none⟩) n cW, .int .i64 st] := dx21.2.trans (hJ.v2 dx21.1)
      have hdk := g4 hl
      have h1 := dx20.1
      have hb := hJ.grew
      clear hfr hd dx20 dx21
      refine opS_hid (fun Rp HR => ?_)
      unfold OpS
      go_simp
      refine (control_any g (some ⟨bA, oA, none⟩) (some ⟨bB, oB, none⟩) cU cW n P C st xw hjc hdk (hP4.low hb (Nat.le_of_eq HBB.out.symm)) (hI4.low hb (Nat.le_of_eq HBB.out.symm)) (fun a ha => by injection ha with ha; subst ha; show bA ≠ g; omega) (fun a ha => by injection ha with ha; subst ha; show bB ≠ g; omega)).mono ?_
      rintro e w'' ⟨v, rfl, q1, q2, c, q3, q4⟩
      refine ⟨_, rfl, ?_⟩
      rw [HR.out]
      exact hJ.op3 HBB.out hl h1 g1 g2 q1 q3 q4
    · obtain rfl := Option.some.inj ho
      intro lst vs ev xw hJ hl hc hf hfr hd
      clear hfr hd
      refine opS_hid (fun Rp HR => ?_)
      unfold OpS
      go_simp
      rw [HR.out]
      exact hJ.op4 hl rfl
    · obtain rfl := Option.some.inj ho
      intro lst vs ev xw hJ hl hc hf hfr hd
      have d8 := hd 4 10 (by kernel_rfl) rfl
      have dx22 := hd 3 22 (by kernel_rfl) rfl
      obtain ⟨g, g1, g2, g3, _⟩ := hJ.v4 d8.1
      obtain ⟨c, q1, gl, cl, gx, cx, q2, q3, q4, q5, q6⟩ := hJ.v3 dx22.1
      have e8 : ev (.tmp 10) = .pointer (some ⟨g, 0, none⟩) := d8.2.trans g1
      have ex22 : ev (.tmp 22) = .agg #[.slice (some ⟨gl, 0, none⟩) n cl, .int .i64 c.gr, .slice (some ⟨gx, 0, none⟩) 2 cx, .int .i64 c.wt] := dx22.2.trans q2
      have h3 := dx22.1
      have h4 := d8.1
      have hB := g3 hl
      clear hfr hd d8 dx22
      have hB : Blk xw g 25 #[.slice none 0 0, .int .i64 0, .slice none 0 0, .int .i64 0] := hB
      have f0 := hB.frozen 0
      have f1 := hB.frozen 1
      have f2 := hB.frozen 2
      have f3 := hB.frozen 3
      have c0 := hB.at 0 rfl
      have cU := hB.at 1 rfl
      have c2 := hB.at 2 rfl
      have c3 := hB.at 3 rfl
      have hst4 := hB.set4 (.slice (some ⟨gl, 0, none⟩) n cl) (.int .i64 c.gr) (.slice (some ⟨gx, 0, none⟩) 2 cx) (.int .i64 c.wt)
      have hgr4 := grownBy_setAt (grownBy_setAt (grownBy_setAt (grownBy_set xw g 0 (.slice (some ⟨gl, 0, none⟩) n cl)) g 1 (.int .i64 c.gr) rfl) g 2 (.slice (some ⟨gx, 0, none⟩) 2 cx) rfl) g 3 (.int .i64 c.wt) rfl
      refine opS_hid (fun Rp HR => ?_)
      unfold OpS
      go_simp
      rw [HR.out]
      exact hJ.op5 hl h3 h4 g1 q2 hgr4 hst4
  · intro vs w5 hJ
    have k0 := hJ.v0 rfl
    obtain ⟨g, k1, _, _, _⟩ := hJ.v1 rfl
    have k2 := hJ.v2 rfl
    obtain ⟨c0, hv0, gl, cl, gx, cx, k3, hgl, hgx, L6, N6⟩ := hJ.v3 rfl
    obtain ⟨gc, k4, hBgc, _, r2⟩ := hJ.v4 rfl
    obtain ⟨cs, r3, BC⟩ := r2 rfl
    rw [k3] at r3
    injection r3 with r3
    subst r3
    have b6 := hJ.grew
    simp only [List.take_succ_cons, List.take_zero, List.drop_succ_cons, List.drop_zero, putAll, Act.put, List.setIfInBounds_toArray, List.set_cons_zero, List.set_cons_succ, k0, k1, k2, k3, k4, Nat.reduceAdd, Nat.reduceSub]
    clear hJ k0 k1 k2 k3 k4
    have hlc : gl ≠ gc := L6.ne_ct BC
    have hxc : gx ≠ gc := N6.ne_ct BC
    unfold wpList
    have S6 : StdC W4 w5 B gc n c0 := ⟨gl, cl, gx, cx, b6, BC, L6, N6, hlc, hxc⟩
    have J5 := BJ.low b6 hgjB
    have j0 := J5.at 0 rfl
    obtain ⟨T, hT, hTn⟩ := modI_nat' tg (n : Int) (by omega)
    have HT := Lib.hid hT
    obtain ⟨M, hM, hM40⟩ := modI_nat' nn 40 (by omega)
    have HM := Lib.hid hM
    have hF0 := far_0 (t := T) hjc hv0
    clear hT hM BC L6 N6 b6 hlc hxc hgl hgx hsm
    go_wp2_with fail
    refine (mod_k HT.out (by omega) (by omega) (by omega) (by omega) _).mono ?_
    rintro e w6 ⟨rfl, rfl⟩
    go_wp2_with fail
    refine (mod_k HM.out (by omega) (by omega) (by omega) (by omega) _).mono ?_
    rintro e w6 ⟨rfl, rfl⟩
    have zw : IntKind.i64.wrap (20 + (M : Int)) = 20 + (M : Int) := by rw [IntKind.wrap_i64]; omega
    clear j0 J5
    go_wp2_with fail
    go_loopw [12, 31] (fun s12 v wr => ∃ (i : Nat) (c : Ct) (gb : Bool), i ≤ 20 + M ∧ s12 = .bool gb ∧ v = .int .i64 i ∧ StdC W4 wr B gc n c ∧ CtV P C n st c ∧ Far P C n T c (10 - i) ∧ (gb = true → lmp c.li T = 1) ∧ (0 < i → lmp c.li T = 1 → gb = true)) (fun _ v _ => 20 + M - (intOf v).toNat)
    case atStart => exact ⟨0, c0, false, by omega, rfl, rfl, S6, hv0, by simpa using hF0, by simp, by simp⟩
    case round =>
      obtain ⟨i, c, gb, hi, rfl, rfl, hS, hvc, hfar, hgb, hgb2⟩ := hrel
      clear S6 hv0 hF0
      by_cases hlt : i < 20 + M
      · as_aux_lemma =>
        have hltZ : (i : Int) < 20 + (M : Int) := by omega
        obtain ⟨gl, cl, gx, cx, Br, Cr, Lr, Nr, hlc, hxc⟩ := hS
        have Jr := BJ.low Br hgjB
        have j0 := Jr.at 0 rfl; have j1 := Jr.at 1 rfl; have j2 := Jr.at 2 rfl
        have a0 := Cr.at 0 rfl; have a1 := Cr.at 1 rfl; have a2 := Cr.at 2 rfl; have a3 := Cr.at 3 rfl
        have hTZ : (T : Int) < n := hTn
        have hT8 : T < n := by omega
        have hvs := step_v hjc.rows hvc h1 hjc.pok hjc.ri hjc.gr (T : Int)
        have hfs := far_step hjc hjv hvc hT8 hfar
        have hkg := fun (h : lmp c.li T = 1) => hold_green hjc hvc hT8 h
        have hnb := fun p (hp : p < n) h1 h2 => hold_begin (t := T) hjc hvc hT8 (p := p) hp h1 h2
        have hstp := pstep_any (some ⟨bA, oA, none⟩) (some ⟨bB, oB, none⟩) (some ⟨gl, 0, none⟩) (some ⟨gx, 0, none⟩) cU cW cl cx n P C c st (T : Int) wr hjc hjv hvc (hP4.low Br hBW) (hI4.low Br hBW) hcU Lr.prs Nr.ints
        obtain ⟨s, hss⟩ : ∃ s, stepC P C n c (T : Int) = s := ⟨_, rfl⟩
        rw [hss] at hvs hfs hkg hnb hstp
        have HVS := Lib.hid hvs
        have HFS := Lib.hid hfs
        have HKG := Lib.hid hkg
        have HNB := Lib.hid hnb
        have HST := Lib.hid hstp
        have HLI := Lib.hid hvs.li
        have HLC := Lib.hid hvc.li
        have HGB := Lib.hid hgb
        clear hss hvs hfs hkg hnb hstp hgb hgb2 hvc hfar
        go_wp2_with fail
        refine (HST.out).mono ?_
        rintro e w12 ⟨v, rfl, b12, gl2, cl2, gx2, cx2, rfl, hgl2, hgx2, L12, N12⟩
        clear HST
        have hgcs := Cr.lt
        have C12 := Cr.below b12
        have L1 := Lr.below b12
        have B12 := Br.trans (b12.mono (Nat.le_trans hBW Br.size))
        clear j0 j1 j2 a0 a1 a2 a3 Br Cr Jr
        have bx := lat_alloc (Below.refl w12.heap.size w12) (.cells #[.slice (some ⟨gl2, 0, none⟩) n cl2, .int .i64 (s).gr, .slice (some ⟨gx2, 0, none⟩) 2 cx2, .int .i64 (s).wt] 25)
        have X13 := Blk.new (w := w12) (t := 25) (cs := #[.slice (some ⟨gl2, 0, none⟩) n cl2, .int .i64 (s).gr, .slice (some ⟨gx2, 0, none⟩) 2 cx2, .int .i64 (s).wt])
        have C13 := C12.below bx
        have L13 := L12.below bx
        have N13 := N12.below bx
        have L1b := L1.below bx
        have B13 := B12.trans (bx.mono (Nat.le_trans hBW B12.size))
        obtain ⟨l0, l1, f0, f1⟩ := L13.at (i := T) (by rw [HLI.out]; exact hT8)
        clear f0 f1 l1
        obtain ⟨lt, hlt2⟩ : ∃ lt, (prAt s.li T).1 = lt := ⟨_, rfl⟩
        have HLT := Lib.hid (show lmp s.li T = lt from hlt2)
        rw [hlt2] at l0
        clear hlt2
        have hgreen : gb = true → lt = 1 := fun h => by rw [← HLT.out]; exact HKG.out (HGB.out h)
        have c0 := C13.at 0 rfl
        have x0 := X13.at 0 rfl
        have hgx13 : w12.heap.size ≠ gc := by have := C12.lt; omega
        have zneq : ((n : Int) != (n : Int)) = false := by simp
        have hMID : ∀ (Q : Prop), True := fun _ => trivial
        clear hMID
        cases gb with
        | true =>
          have hlt1 := hgreen rfl
          have zl : (lt != 1) = false := by rw [hlt1]; rfl
          have HL1 := Lib.hid hlt1
          clear hgreen hlt1
          go_wp2_with fail
          clear c0 x0 l0
          generalize w12.alloc (.cells #[.slice (some ⟨gl2, 0, none⟩) n cl2, .int .i64 (s).gr, .slice (some ⟨gx2, 0, none⟩) 2 cx2, .int .i64 (s).wt] 25) = w13 at *
          generalize w12.heap.size = gX at *
          go_loopw [59] (fun v wr => ∃ p : Nat, p ≤ n ∧ v = .int .i64 p ∧ Below w13.heap.size w13 wr) (fun v _ => n - (intOf v).toNat)
          case atStart => exact ⟨0, by omega, rfl, Below.refl _ _⟩
          case round =>
            obtain ⟨p, hp, rfl, hbr⟩ := hrel
            by_cases hlp : p < n
            · as_aux_lemma =>
              have hltZ2 : (p : Int) < n := by omega
              obtain ⟨l0, l1, f0, f1⟩ := (L13.below hbr).at (i := p) (by rw [HLI.out]; exact hlp)
              clear f0 f1
              obtain ⟨m0, m1, f0, f1⟩ := ((L1b.below hbr).below (lat_alloc (Below.refl wr.heap.size wr) (.cells #[.int .i64 (prAt s.li p).1, .int .i64 (prAt s.li p).2] 45))).at (i := p) (by rw [HLC.out]; exact hlp)
              clear f0 f1 m1
              have hnb := HNB.out p hlp
              have e1 : lmp s.li p = (prAt s.li p).1 := rfl
              have e2 : lmp c.li p = (prAt c.li p).1 := rfl
              rw [e1, e2] at hnb
              clear e1 e2
              have bx2 := lat_alloc (Below.refl wr.heap.size wr) (.cells #[.int .i64 (prAt s.li p).1, .int .i64 (prAt s.li p).2] 45)
              have T8 := Blk.new (w := wr) (t := 45) (cs := #[.int .i64 (prAt s.li p).1, .int .i64 (prAt s.li p).2])
              have u0 := T8.at 0 rfl
              have c0 := ((C13.below hbr).below bx2).at 0 rfl
              have b14 := hbr.trans (bx2.mono hbr.size)
              have B14 := B13.trans (b14.mono (Nat.le_trans hBW B13.size))
              have J14 := BJ.low B14 hgjB
              have j1 := J14.at 1 rfl
              have hI14 := hI4.low B14 hBW
              obtain ⟨ls, hls⟩ : ∃ ls, (prAt s.li p).1 = ls := ⟨_, rfl⟩
              obtain ⟨lc, hlc2⟩ : ∃ lc, (prAt c.li p).1 = lc := ⟨_, rfl⟩
              obtain ⟨ks, hks⟩ : ∃ ks, (prAt s.li p).2 = ks := ⟨_, rfl⟩
              rw [hls] at l0 hnb u0 c0 j1 B14 b14 hI14
              rw [hlc2] at m0 hnb
              rw [hls] at m0 T8 bx2 J14
              rw [hks] at l1 u0 c0 j1 m0 T8 bx2 J14 B14 b14 hI14
              clear hls hlc2 hks J14 T8
              by_cases h3 : ls = 1
              · have z3 : (ls == 1) = true := by simpa using h3
                by_cases h4 : lc = 1
                · have z4 : (lc != 1) = false := by simpa using h4
                  clear hnb h3 h4
                  go_wp2
                  go_roundw
                  case rel => exact ⟨p + 1, hlp, by go_num, b14⟩
                  case measure => simp [intOf]; omega
                · have z4 : (lc != 1) = true := by simpa using h4
                  have hcf := hnb h3 h4
                  have HCF := Lib.hid hcf
                  clear hnb h3 h4 hcf
                  go_wp2_with fail
                  refine (rcon_c C (some ⟨bB, oB, none⟩) cW n p T _ HRC.out hI14 (by omega) hlp hT8 HCF.out).mono ?_
                  rintro e w15 ⟨rfl, rfl⟩
                  go_wp2
                  go_roundw
                  case rel => exact ⟨p + 1, hlp, by go_num, b14⟩
                  case measure => simp [intOf]; omega
              · have z3 : (ls == 1) = false := by simpa using h3
                clear hnb h3
                go_wp2
                go_roundw
                case rel => exact ⟨p + 1, hlp, by go_num, b14⟩
                case measure => simp [intOf]; omega
            · as_aux_lemma =>
              have hltZ2 : ¬ (p : Int) < n := by omega
              have X15 := X13.below hbr
              have C15 := C13.below hbr
              have L15 := L13.below hbr
              have N15 := N13.below hbr
              have B15 := B13.trans (hbr.mono (Nat.le_trans hBW B13.size))
              have hls : ∀ xw, Below wr.heap.size wr xw → xw.cell? ⟨gl2, T * 2, none⟩ = some (.int .i64 lt) := fun xw hb => by
                have h := ((L15.below hb).at (i := T) (by rw [HLI.out]; exact hT8)).1
                rw [← HLT.out]; exact h
              have HLS := Lib.hid hls
              obtain ⟨gb2, hz⟩ : ∃ gb2, (lt == 1) = gb2 := ⟨_, rfl⟩
              have HZ := Lib.hid hz
              clear hls hz
              go_wp2_with fail
              refine wp_region_pre (R := Bl) 9 97 [fun v _ => v = .pointer (some ⟨gX, 0, none⟩), fun v _ => v = .slice (some ⟨gl2, 0, none⟩) n cl2, fun v _ => v = .int .i64 (T : Nat), fun v _ => v = .pointer (some ⟨gl2, T * 2, none⟩), fun v _ => v = .pointer (some ⟨gl2, T * 2, none⟩), fun v _ => v = .int .i64 lt, fun v _ => v = .bool gb2, fun v _ => v = .agg #[.slice (some ⟨gl2, 0, none⟩) n cl2, .int .i64 (s).gr, .slice (some ⟨gx2, 0, none⟩) 2 cx2, .int .i64 (s).wt], fun v _ => v = .bool gb2] (Bl.trans) (Bl.drew) (by kernel_rfl) (fun _ _ d _ _ h => by cases d <;> exact h) rfl (by kernel_rfl) (stay_cons (stays_v _) (stay_cons (stays_v _) (stay_cons (stays_v _) (stay_cons (stays_v _) (stay_cons (stays_v _) (stay_cons (stays_v _) (stay_cons (stays_v _) (stay_cons (stays_v _) (stay_cons (stays_v _) (stay_nil)))))))))) ?_ ?_
              · simp only [List.take_succ_cons, List.take_zero]
                refine steps_cons (Bl.refl) (fun ev xw hb hc hf hfr hd hr => ?_) ?_
                · have e13 : ev (.tmp 13) = .pointer (some ⟨gX, 0, none⟩) := hfr 13 (by kernel_rfl)
                  clear hfr hd
                  show OpOk _ _ ev xw fun v w' => Bl xw w' ∧ (v = .pointer (some ⟨gX, 0, none⟩))
                  refine opOk_hid (fun Rp HR => ?_)
                  unfold OpOk
                  go_simp
                  rw [HR.out]
                  exact ⟨hr, rfl⟩
                refine steps_cons (Bl.refl) (fun ev xw hb hc hf hfr hd hr => ?_) ?_
                · have e84 : ev (.tmp 84) = .pointer (some ⟨gX, 0, none⟩) := hd 0 84 (by kernel_rfl)
                  clear hfr hd
                  have k0 := (X15.below hb).at 0 rfl
                  show OpOk _ _ ev xw fun v w' => Bl xw w' ∧ (v = .slice (some ⟨gl2, 0, none⟩) n cl2)
                  refine opOk_hid (fun Rp HR => ?_)
                  unfold OpOk
                  go_simp
                  rw [HR.out]
                  exact ⟨hr, rfl⟩
                refine steps_cons (Bl.refl) (fun ev xw hb hc hf hfr hd hr => ?_) ?_
                · have e11 : ev (.tmp 11) = .int .i64 (T : Nat) := hfr 11 (by kernel_rfl)
                  clear hfr hd
                  show OpOk _ _ ev xw fun v w' => Bl xw w' ∧ (v = .int .i64 (T : Nat))
                  refine opOk_hid (fun Rp HR => ?_)
                  unfold OpOk
                  go_simp
                  rw [HR.out]
                  exact ⟨hr, rfl⟩
                refine steps_cons (Bl.refl) (fun ev xw hb hc hf hfr hd hr => ?_) ?_
                · have e85 : ev (.tmp 85) = .slice (some ⟨gl2, 0, none⟩) n cl2 := hd 1 85 (by kernel_rfl)
                  have e86 : ev (.tmp 86) = .int .i64 (T : Nat) := hd 2 86 (by kernel_rfl)
                  clear hfr hd
                  show OpOk _ _ ev xw fun v w' => Bl xw w' ∧ (v = .pointer (some ⟨gl2, T * 2, none⟩))
                  refine opOk_hid (fun Rp HR => ?_)
                  unfold OpOk
                  go_simp
                  rw [HR.out]
                  exact ⟨hr, rfl⟩
                refine steps_cons (Bl.refl) (fun ev xw hb hc hf hfr hd hr => ?_) ?_
                · have e87 : ev (.tmp 87) = .pointer (some ⟨gl2, T * 2, none⟩) := hd 3 87 (by kernel_rfl)
                  clear hfr hd
                  show OpOk _ _ ev xw fun v w' => Bl xw w' ∧ (v = .pointer (some ⟨gl2, T * 2, none⟩))
                  refine opOk_hid (fun Rp HR => ?_)
                  unfold OpOk
                  go_simp
                  rw [HR.out]
                  exact ⟨hr, rfl⟩
                refine steps_cons (Bl.refl) (fun ev xw hb hc hf hfr hd hr => ?_) ?_
                · have e88 : ev (.tmp 88) = .pointer (some ⟨gl2, T * 2, none⟩) := hd 4 88 (by kernel_rfl)
                  clear hfr hd
                  have k0 := (HLS.out _ hb)
                  show OpOk _ _ ev xw fun v w' => Bl xw w' ∧ (v = .int .i64 lt)
                  refine opOk_hid (fun Rp HR => ?_)
                  unfold OpOk
                  go_simp
                  rw [HR.out]
                  exact ⟨hr, rfl⟩
                refine steps_cons (Bl.refl) (fun ev xw hb hc hf hfr hd hr => ?_) ?_
                · have e89 : ev (.tmp 89) = .int .i64 lt := hd 5 89 (by kernel_rfl)
                  clear hfr hd
                  have kz := HZ.out
                  show OpOk _ _ ev xw fun v w' => Bl xw w' ∧ (v = .bool gb2)
                  refine opOk_hid (fun Rp HR => ?_)
                  unfold OpOk
                  go_simp
                  rw [HR.out]
                  exact ⟨hr, rfl⟩
                refine steps_cons (Bl.refl) (fun ev xw hb hc hf hfr hd hr => ?_) ?_
                · have e13 : ev (.tmp 13) = .pointer (some ⟨gX, 0, none⟩) := hfr 13 (by kernel_rfl)
                  clear hfr hd
                  have k0 := (X15.below hb).at 0 rfl
                  have k1 := (X15.below hb).at 1 rfl
                  have k2 := (X15.below hb).at 2 rfl
                  have k3 := (X15.below hb).at 3 rfl
                  show OpOk _ _ ev xw fun v w' => Bl xw w' ∧ (v = .agg #[.slice (some ⟨gl2, 0, none⟩) n cl2, .int .i64 (s).gr, .slice (some ⟨gx2, 0, none⟩) 2 cx2, .int .i64 (s).wt])
                  refine opOk_hid (fun Rp HR => ?_)
                  unfold OpOk
                  go_simp
                  rw [HR.out]
                  exact ⟨hr, rfl⟩
                refine steps_cons (Bl.refl) (fun ev xw hb hc hf hfr hd hr => ?_) ?_
                · have e90 : ev (.tmp 90) = .bool gb2 := hd 6 90 (by kernel_rfl)
                  clear hfr hd
                  show OpOk _ _ ev xw fun v w' => Bl xw w' ∧ (v = .bool gb2)
                  refine opOk_hid (fun Rp HR => ?_)
                  unfold OpOk
                  go_simp
                  rw [HR.out]
                  exact ⟨hr, rfl⟩
                exact steps_nil
              · intro vs W11 hb11 hk
                have k7 : vs 7 = .agg #[.slice (some ⟨gl2, 0, none⟩) n cl2, .int .i64 (s).gr, .slice (some ⟨gx2, 0, none⟩) 2 cx2, .int .i64 (s).wt] := hk 7 (by omega)
                have k8 : vs 8 = .bool gb2 := hk 8 (by omega)
                clear hk
                simp only [List.take_succ_cons, List.take_zero, List.drop_succ_cons, List.drop_zero, putAll, Act.put, List.setIfInBounds_toArray, List.set_cons_zero, List.set_cons_succ, k7, k8, Nat.reduceAdd, Nat.reduceSub]
                have B16 := B15.trans (Below.mono hb11 (Nat.le_trans hBW B15.size))
                have C16 := C15.below hb11
                have L16 := L15.below hb11
                have N16 := N15.below hb11
                refine step_store_ct (by rfl) (by rfl) (by rfl) (by rfl) (by rfl) C16 ?_
                intro w17 C17 hg17
                unfold wpList
                go_wp2
                go_roundw
                case rel => exact ⟨i + 1, s, gb2, by omega, rfl, by go_num, ⟨gl2, cl2, gx2, cx2, B16.grown hg17 (Nat.le_trans hBW B16.size) (fun k e => by injection e with e; omega), C17, L16.grown hg17 (by intro e; injection e with e; omega), N16.grown hg17 (by intro e; injection e with e; omega), by omega, by omega⟩, HVS.out, by have h := HFS.out; rwa [show (10 : Int) - (i : Int) - 1 = 10 - ((i + 1 : Nat) : Int) by omega] at h, fun h => by rw [HLT.out]; have := HZ.out; rw [h] at this; simpa using this, fun _ h => by rw [HLT.out] at h; rw [← HZ.out, h]; rfl⟩
                case measure => simp [intOf]; omega
        | false =>
          clear hgreen
          go_wp2_with fail
          clear c0 x0 l0
          generalize w12.alloc (.cells #[.slice (some ⟨gl2, 0, none⟩) n cl2, .int .i64 (s).gr, .slice (some ⟨gx2, 0, none⟩) 2 cx2, .int .i64 (s).wt] 25) = w13 at *
          generalize w12.heap.size = gX at *
          go_loopw [59] (fun v wr => ∃ p : Nat, p ≤ n ∧ v = .int .i64 p ∧ Below w13.heap.size w13 wr) (fun v _ => n - (intOf v).toNat)
          case atStart => exact ⟨0, by omega, rfl, Below.refl _ _⟩
          case round =>
            obtain ⟨p, hp, rfl, hbr⟩ := hrel
            by_cases hlp : p < n
            · as_aux_lemma =>
              have hltZ2 : (p : Int) < n := by omega
              obtain ⟨l0, l1, f0, f1⟩ := (L13.below hbr).at (i := p) (by rw [HLI.out]; exact hlp)
              clear f0 f1
              obtain ⟨m0, m1, f0, f1⟩ := ((L1b.below hbr).below (lat_alloc (Below.refl wr.heap.size wr) (.cells #[.int .i64 (prAt s.li p).1, .int .i64 (prAt s.li p).2] 45))).at (i := p) (by rw [HLC.out]; exact hlp)
              clear f0 f1 m1
              have hnb := HNB.out p hlp
              have e1 : lmp s.li p = (prAt s.li p).1 := rfl
              have e2 : lmp c.li p = (prAt c.li p).1 := rfl
              rw [e1, e2] at hnb
              clear e1 e2
              have bx2 := lat_alloc (Below.refl wr.heap.size wr) (.cells #[.int .i64 (prAt s.li p).1, .int .i64 (prAt s.li p).2] 45)
              have T8 := Blk.new (w := wr) (t := 45) (cs := #[.int .i64 (prAt s.li p).1, .int .i64 (prAt s.li p).2])
              have u0 := T8.at 0 rfl
              have c0 := ((C13.below hbr).below bx2).at 0 rfl
              have b14 := hbr.trans (bx2.mono hbr.size)
              have B14 := B13.trans (b14.mono (Nat.le_trans hBW B13.size))
              have J14 := BJ.low B14 hgjB
              have j1 := J14.at 1 rfl
              have hI14 := hI4.low B14 hBW
              obtain ⟨ls, hls⟩ : ∃ ls, (prAt s.li p).1 = ls := ⟨_, rfl⟩
              obtain ⟨lc, hlc2⟩ : ∃ lc, (prAt c.li p).1 = lc := ⟨_, rfl⟩
              obtain ⟨ks, hks⟩ : ∃ ks, (prAt s.li p).2 = ks := ⟨_, rfl⟩
              rw [hls] at l0 hnb u0 c0 j1 B14 b14 hI14
              rw [hlc2] at m0 hnb
              rw [hls] at m0 T8 bx2 J14
              rw [hks] at l1 u0 c0 j1 m0 T8 bx2 J14 B14 b14 hI14
              clear hls hlc2 hks J14 T8
              by_cases h3 : ls = 1
              · have z3 : (ls == 1) = true := by simpa using h3
                by_cases h4 : lc = 1
                · have z4 : (lc != 1) = false := by simpa using h4
                  clear hnb h3 h4
                  go_wp2
                  go_roundw
                  case rel => exact ⟨p + 1, hlp, by go_num, b14⟩
                  case measure => simp [intOf]; omega
                · have z4 : (lc != 1) = true := by simpa using h4
                  have hcf := hnb h3 h4
                  have HCF := Lib.hid hcf
                  clear hnb h3 h4 hcf
                  go_wp2_with fail
                  refine (rcon_c C (some ⟨bB, oB, none⟩) cW n p T _ HRC.out hI14 (by omega) hlp hT8 HCF.out).mono ?_
                  rintro e w15 ⟨rfl, rfl⟩
                  go_wp2
                  go_roundw
                  case rel => exact ⟨p + 1, hlp, by go_num, b14⟩
                  case measure => simp [intOf]; omega
              · have z3 : (ls == 1) = false := by simpa using h3
                clear hnb h3
                go_wp2
                go_roundw
                case rel => exact ⟨p + 1, hlp, by go_num, b14⟩
                case measure => simp [intOf]; omega
            · as_aux_lemma =>
              have hltZ2 : ¬ (p : Int) < n := by omega
              have X15 := X13.below hbr
              have C15 := C13.below hbr
              have L15 := L13.below hbr
              have N15 := N13.below hbr
              have B15 := B13.trans (hbr.mono (Nat.le_trans hBW B13.size))
              have hls : ∀ xw, Below wr.heap.size wr xw → xw.cell? ⟨gl2, T * 2, none⟩ = some (.int .i64 lt) := fun xw hb => by
                have h := ((L15.below hb).at (i := T) (by rw [HLI.out]; exact hT8)).1
                rw [← HLT.out]; exact h
              have HLS := Lib.hid hls
              obtain ⟨gb2, hz⟩ : ∃ gb2, (lt == 1) = gb2 := ⟨_, rfl⟩
              have HZ := Lib.hid hz
              clear hls hz
              go_wp2_with fail
              refine wp_region_pre (R := Bl) 9 97 [fun v _ => v = .pointer (some ⟨gX, 0, none⟩), fun v _ => v = .slice (some ⟨gl2, 0, none⟩) n cl2, fun v _ => v = .int .i64 (T : Nat), fun v _ => v = .pointer (some ⟨gl2, T * 2, none⟩), fun v _ => v = .pointer (some ⟨gl2, T * 2, none⟩), fun v _ => v = .int .i64 lt, fun v _ => v = .bool gb2, fun v _ => v = .agg #[.slice (some ⟨gl2, 0, none⟩) n cl2, .int .i64 (s).gr, .slice (some ⟨gx2, 0, none⟩) 2 cx2, .int .i64 (s).wt], fun v _ => v = .bool gb2] (Bl.trans) (Bl.drew) (by kernel_rfl) (fun _ _ d _ _ h => by cases d <;> exact h) rfl (by kernel_rfl) (stay_cons (stays_v _) (stay_cons (stays_v _) (stay_cons (stays_v _) (stay_cons (stays_v _) (stay_cons (stays_v _) (stay_cons (stays_v _) (stay_cons (stays_v _) (stay_cons (stays_v _) (stay_cons (stays_v _) (stay_nil)))))))))) ?_ ?_
              · simp only [List.take_succ_cons, List.take_zero]
                refine steps_cons (Bl.refl) (fun ev xw hb hc hf hfr hd hr => ?_) ?_
                · have e13 : ev (.tmp 13) = .pointer (some ⟨gX, 0, none⟩) := hfr 13 (by kernel_rfl)
                  clear hfr hd
                  show OpOk _ _ ev xw fun v w' => Bl xw w' ∧ (v = .pointer (some ⟨gX, 0, none⟩))
                  refine opOk_hid (fun Rp HR => ?_)
                  unfold OpOk
                  go_simp
                  rw [HR.out]
                  exact ⟨hr, rfl⟩
                refine steps_cons (Bl.refl) (fun ev xw hb hc hf hfr hd hr => ?_) ?_
                · have e84 : ev (.tmp 84) = .pointer (some ⟨gX, 0, none⟩) := hd 0 84 (by kernel_rfl)
                  clear hfr hd
                  have k0 := (X15.below hb).at 0 rfl
                  show OpOk _ _ ev xw fun v w' => Bl xw w' ∧ (v = .slice (some ⟨gl2, 0, none⟩) n cl2)
                  refine opOk_hid (fun Rp HR => ?_)
                  unfold OpOk
                  go_simp
                  rw [HR.out]
                  exact ⟨hr, rfl⟩
                refine steps_cons (Bl.refl) (fun ev xw hb hc hf hfr hd hr => ?_) ?_
                · have e11 : ev (.tmp 11) = .int .i64 (T : Nat) := hfr 11 (by kernel_rfl)
                  clear hfr hd
                  show OpOk _ _ ev xw fun v w' => Bl xw w' ∧ (v = .int .i64 (T : Nat))
                  refine opOk_hid (fun Rp HR => ?_)
                  unfold OpOk
                  go_simp
                  rw [HR.out]
                  exact ⟨hr, rfl⟩
                refine steps_cons (Bl.refl) (fun ev xw hb hc hf hfr hd hr => ?_) ?_
                · have e85 : ev (.tmp 85) = .slice (some ⟨gl2, 0, none⟩) n cl2 := hd 1 85 (by kernel_rfl)
                  have e86 : ev (.tmp 86) = .int .i64 (T : Nat) := hd 2 86 (by kernel_rfl)
                  clear hfr hd
                  show OpOk _ _ ev xw fun v w' => Bl xw w' ∧ (v = .pointer (some ⟨gl2, T * 2, none⟩))
                  refine opOk_hid (fun Rp HR => ?_)
                  unfold OpOk
                  go_simp
                  rw [HR.out]
                  exact ⟨hr, rfl⟩
                refine steps_cons (Bl.refl) (fun ev xw hb hc hf hfr hd hr => ?_) ?_
                · have e87 : ev (.tmp 87) = .pointer (some ⟨gl2, T * 2, none⟩) := hd 3 87 (by kernel_rfl)
                  clear hfr hd
                  show OpOk _ _ ev xw fun v w' => Bl xw w' ∧ (v = .pointer (some ⟨gl2, T * 2, none⟩))
                  refine opOk_hid (fun Rp HR => ?_)
                  unfold OpOk
                  go_simp
                  rw [HR.out]
                  exact ⟨hr, rfl⟩
                refine steps_cons (Bl.refl) (fun ev xw hb hc hf hfr hd hr => ?_) ?_
                · have e88 : ev (.tmp 88) = .pointer (some ⟨gl2, T * 2, none⟩) := hd 4 88 (by kernel_rfl)
                  clear hfr hd
                  have k0 := (HLS.out _ hb)
                  show OpOk _ _ ev xw fun v w' => Bl xw w' ∧ (v = .int .i64 lt)
                  refine opOk_hid (fun Rp HR => ?_)
                  unfold OpOk
                  go_simp
                  rw [HR.out]
                  exact ⟨hr, rfl⟩
                refine steps_cons (Bl.refl) (fun ev xw hb hc hf hfr hd hr => ?_) ?_
                · have e89 : ev (.tmp 89) = .int .i64 lt := hd 5 89 (by kernel_rfl)
                  clear hfr hd
                  have kz := HZ.out
                  show OpOk _ _ ev xw fun v w' => Bl xw w' ∧ (v = .bool gb2)
                  refine opOk_hid (fun Rp HR => ?_)
                  unfold OpOk
                  go_simp
                  rw [HR.out]
                  exact ⟨hr, rfl⟩
                refine steps_cons (Bl.refl) (fun ev xw hb hc hf hfr hd hr => ?_) ?_
                · have e13 : ev (.tmp 13) = .pointer (some ⟨gX, 0, none⟩) := hfr 13 (by kernel_rfl)
                  clear hfr hd
                  have k0 := (X15.below hb).at 0 rfl
                  have k1 := (X15.below hb).at 1 rfl
                  have k2 := (X15.below hb).at 2 rfl
                  have k3 := (X15.below hb).at 3 rfl
                  show OpOk _ _ ev xw fun v w' => Bl xw w' ∧ (v = .agg #[.slice (some ⟨gl2, 0, none⟩) n cl2, .int .i64 (s).gr, .slice (some ⟨gx2, 0, none⟩) 2 cx2, .int .i64 (s).wt])
                  refine opOk_hid (fun Rp HR => ?_)
                  unfold OpOk
                  go_simp
                  rw [HR.out]
                  exact ⟨hr, rfl⟩
                refine steps_cons (Bl.refl) (fun ev xw hb hc hf hfr hd hr => ?_) ?_
                · have e90 : ev (.tmp 90) = .bool gb2 := hd 6 90 (by kernel_rfl)
                  clear hfr hd
                  show OpOk _ _ ev xw fun v w' => Bl xw w' ∧ (v = .bool gb2)
                  refine opOk_hid (fun Rp HR => ?_)
                  unfold OpOk
                  go_simp
                  rw [HR.out]
                  exact ⟨hr, rfl⟩
                exact steps_nil
              · intro vs W11 hb11 hk
                have k7 : vs 7 = .agg #[.slice (some ⟨gl2, 0, none⟩) n cl2, .int .i64 (s).gr, .slice (some ⟨gx2, 0, none⟩) 2 cx2, .int .i64 (s).wt] := hk 7 (by omega)
                have k8 : vs 8 = .bool gb2 := hk 8 (by omega)
                clear hk
                simp only [List.take_succ_cons, List.take_zero, List.drop_succ_cons, List.drop_zero, putAll, Act.put, List.setIfInBounds_toArray, List.set_cons_zero, List.set_cons_succ, k7, k8, Nat.reduceAdd, Nat.reduceSub]
                have B16 := B15.trans (Below.mono hb11 (Nat.le_trans hBW B15.size))
                have C16 := C15.below hb11
                have L16 := L15.below hb11
                have N16 := N15.below hb11
                refine step_store_ct (by rfl) (by rfl) (by rfl) (by rfl) (by rfl) C16 ?_
                intro w17 C17 hg17
                unfold wpList
                go_wp2
                go_roundw
                case rel => exact ⟨i + 1, s, gb2, by omega, rfl, by go_num, ⟨gl2, cl2, gx2, cx2, B16.grown hg17 (Nat.le_trans hBW B16.size) (fun k e => by injection e with e; omega), C17, L16.grown hg17 (by intro e; injection e with e; omega), N16.grown hg17 (by intro e; injection e with e; omega), by omega, by omega⟩, HVS.out, by have h := HFS.out; rwa [show (10 : Int) - (i : Int) - 1 = 10 - ((i + 1 : Nat) : Int) by omega] at h, fun h => by rw [HLT.out]; have := HZ.out; rw [h] at this; simpa using this, fun _ h => by rw [HLT.out] at h; rw [← HZ.out, h]; rfl⟩
                case measure => simp [intOf]; omega
      · as_aux_lemma =>
        have hltZ : ¬ (i : Int) < 20 + (M : Int) := by omega
        have hBr : Below B W4 wr := by obtain ⟨_, _, _, _, h, _⟩ := hS; exact h
        have hgt : gb = true := hgb2 (by omega) (far_end hvc hfar (by omega))
        subst hgt
        clear hgb hgb2 hvc hfar
        go_wp2_with fail
        refine (awake_any _).mono ?_
        rintro e w2 ⟨rfl, hb⟩
        go_wp2
        go_ret
        exact ⟨rfl, hb4.trans ((hBr.mono hwB).trans (hb.mono (Nat.le_trans hb4.size hBr.size)))⟩
end Go.Proofs.Ytkpbkahmbbkcdaa
