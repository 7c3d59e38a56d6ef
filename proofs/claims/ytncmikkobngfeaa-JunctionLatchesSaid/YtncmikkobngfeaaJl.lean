/-
  The law JunctionLatches. Conditions: none.
-/
import Derived.Test.YtncmikkobngfeaaJr
import Derived.Deep.OwnRows
import Derived.BigQuiet
namespace Go.Proofs.Ytncmikkobngfeaa
open Go.ChangeShapes Go.WideShapes Go.RowKit
set_option linter.unusedVariables false

theorem bit_any (x : Int) (k : Nat) : (bits .and .i64 (x / 2 ^ k) 1 == 1) = hasB x k := by unfold hasB; exact and_1 _
open Classical in
theorem bool_of (p : Prop) : ∃ b : Bool, b = true ↔ p := ⟨decide p, by simp⟩
/-- Of the first i phases one that is green or yellow conflicts with the stuck one. -/
def KW (C : List Int) (s : Ct) (k : Int) (i : Nat) : Prop := 0 ≤ k ∧ WantP C s.li k.toNat i
theorem kw_more {C : List Int} {s : Ct} {k : Int} {i : Nat} (h : KW C s k i) : KW C s k (i + 1) := by
  obtain ⟨h0, p, hp, h⟩ := h
  exact ⟨h0, p, by omega, h⟩
theorem kw_next {C : List Int} {s : Ct} {q i : Nat} (hn : ¬ (i ≠ q ∧ hasB (at_ C q) i = true ∧ passB (lmp s.li i) = true)) : KW C s (q : Int) (i + 1) ↔ KW C s (q : Int) i := by
  refine ⟨fun ⟨h0, p, hp, h⟩ => ⟨h0, p, ?_, h⟩, kw_more⟩
  by_cases e : p = i
  · subst e; exact absurd h hn
  · omega
theorem kw_yes {C : List Int} {s : Ct} {q i : Nat} (a : i ≠ q) (b : hasB (at_ C q) i = true) (c : passB (lmp s.li i) = true) : KW C s (q : Int) (i + 1) := ⟨by omega, i, by omega, a, b, c⟩
theorem kw_fb {P : List Ph} {C : List Int} {n : Nat} {st k : Int} {s : Ct} (hC : RowsC C n) (h : CtV P C n st s) (hk : -1 ≤ k ∧ k < n) : Fb C (seenV s.li n k) ↔ KW C s k n := by
  by_cases h0 : 0 ≤ k
  · obtain ⟨q, rfl⟩ := Int.eq_ofNat_of_zero_le h0
    exact (quiet_stuck hC h (by omega)).trans ⟨fun x => ⟨h0, x⟩, fun x => x.2⟩
  · obtain rfl : k = -1 := by omega
    exact ⟨fun x => absurd x (quiet_none hC h), fun x => absurd x.1 h0⟩
set_option maxRecDepth 100000 in
set_option maxHeartbeats 8000000 in
theorem latches_any (A0 : Option Addr) (cA : Nat) (l : List Int) (B0 : Option Addr) (cB : Nat) (m : List Int) (tg nn : Int) (w : World) (hs : Ints .i64 w w.heap.size A0 l) (hn : Nums l) (hl : l.length ≤ 9223372036854775807) (hsm0 : Ints .i64 w w.heap.size B0 m) (hnm : Nums m) (hlm : m.length ≤ 9223372036854775807) (t0 : -9223372036854775808 ≤ tg) (t1 : tg ≤ 9223372036854775807) (n0 : -9223372036854775808 ≤ nn) (n1 : nn ≤ 9223372036854775807) :
    Calls Try.prog 6 #[.slice A0 l.length cA, .slice B0 m.length cB, .int .i64 tg, .int .i64 nn] w fun e w' => e = .returned (.bool true) ∧ Below w.heap.size w w' := by
  go_enter Try.func6, Try.ntmps6
  go_wp2_with fail
  refine (new_ok A0 l cA _ hs hn hl).mono ?_
  rintro e w2 ⟨rfl, hdk, hb2, hlt2⟩
  go_wp2_with fail
  refine (junction_any w.heap.size w2 hdk).mono ?_
  rintro e w3 ⟨hgr, hdk3, q, st, ex, P, A1, B1, cU, cW, rfl, hj, hP, hI, hA1, hB1, hcU, hdW⟩
  have hb3 := hgr.base hb2 (Nat.le_refl _)
  have hjc := junC_drawn hj
  have hjv := jun_drawn hj
  obtain ⟨n, hnn⟩ : ∃ n, P.length = n := ⟨_, rfl⟩
  obtain ⟨C, hCC⟩ : ∃ C, rowsL P ex = C := ⟨_, rfl⟩
  rw [hnn, hCC] at hjc
  rw [hCC] at hI hjv
  rw [hnn] at hcU hdW ⊢
  have HN := Lib.hid hnn
  have HRC := Lib.hid hjc.rows.len
  clear hnn hCC hgr hdk hdk3 hb2 hj hA1 hB1
  have h1 := hjc.h1
  have h8 := hjc.h8
  obtain ⟨bA, oA, rfl, hbA, _⟩ := hP (by have := HN.out; omega)
  obtain ⟨bB, oB, rfl, hbB, _⟩ := hI (by have := HRC.out; omega)
  have bJ := lat_alloc (Below.refl w3.heap.size w3) (.cells #[.slice (some ⟨bA, oA, none⟩) n cU, .slice (some ⟨bB, oB, none⟩) n cW, .int .i64 st] 31)
  have BJ := Blk.new (w := w3) (t := 31) (cs := #[.slice (some ⟨bA, oA, none⟩) n cU, .slice (some ⟨bB, oB, none⟩) n cW, .int .i64 st])
  have hI4 := hI.grow bJ
  have hP4 := hP.grow bJ
  have hb4 := hb3.trans (bJ.mono hb3.size)
  have hsm := (hsm0.below hb4).more hb4.size
  go_wp2_with fail
  have HGC := Lib.hid (heap_size w3 (.cells #[.slice (some ⟨bA, oA, none⟩) n cU, .slice (some ⟨bB, oB, none⟩) n cW, .int .i64 st] 31))
  generalize w3.alloc (.cells #[.slice (some ⟨bA, oA, none⟩) n cU, .slice (some ⟨bB, oB, none⟩) n cW, .int .i64 st] 31) = W4 at *
  generalize w3.heap.size = gj at *
  clear bJ hI hP hb3 hs hsm0
  obtain ⟨B, hBB⟩ : ∃ B, W4.heap.size = B := ⟨_, rfl⟩
  have HBB := Lib.hid hBB
  have hgjB : gj < B := by have := HGC.out; omega
  have hbAB : bA < B := by have := HGC.out; omega
  have hbBB : bB < B := by have := HGC.out; omega
  have hBW : B ≤ W4.heap.size := by omega
  have hBWle : B ≤ W4.heap.size := hBW
  have hwB : w.heap.size ≤ B := by have := hb4.size; omega
  rw [hBB] at hI4 hP4 hsm
  clear hBB
  refine wp_region_invs 7 104 (JR W4 B n P C st (.slice B0 m.length cB) (.agg #[.slice (some ⟨bA, oA, none⟩) n cU, .slice (some ⟨bB, oB, none⟩) n cW, .int .i64 st])) (by kernel_rfl) (fun _ _ d _ _ h => by cases d <;> exact h) rfl (by kernel_rfl) (JR.start HBB.out.symm) ?_ ?_
  · intro k' o hk' ho
    have hk6 : k' = 0 ∨ k' = 1 ∨ k' = 2 ∨ k' = 3 ∨ k' = 4 ∨ k' = 5 ∨ k' = 6 := by omega
    rcases hk6 with rfl | rfl | rfl | rfl | rfl | rfl | rfl
    · obtain rfl := Option.some.inj ho
      intro lst vs ev xw hJ hl hc hf hfr hd
      have e1 : ev (.tmp 1) = .slice B0 m.length cB := hfr 1 (frm_of (by kernel_rfl))
      clear hfr hd
      refine opS_hid (fun Rp HR => ?_)
      unfold OpS
      go_simp
      rw [HR.out]
      exact hJ.op0 rfl
    · obtain rfl := Option.some.inj ho
      intro lst vs ev xw hJ hl hc hf hfr hd
      have d21 := hd 0 21 (by kernel_rfl) rfl
      have e21 : ev (.tmp 21) = .slice B0 m.length cB := d21.2.trans (hJ.v0 d21.1)
      clear hfr hd d21
      have hb := hJ.grew
      have hbig := hJ.big
      refine opS_hid (fun Rp HR => ?_)
      unfold OpS
      go_simp
      refine (new_ok B0 m cB xw (hsm.low hb (Nat.le_of_eq HBB.out.symm)) hnm hlm).mono ?_
      rintro e w'' ⟨rfl, h1, h2, h3⟩
      refine ⟨_, rfl, ?_⟩
      rw [HR.out]
      exact hJ.op1 hl rfl h1 h2
    · obtain rfl := Option.some.inj ho
      intro lst vs ev xw hJ hl hc hf hfr hd
      have e9 : ev (.tmp 9) = .pointer (some ⟨gj, 0, none⟩) := hfr 9 (frm_of (by kernel_rfl))
      clear hfr hd
      have hb := hJ.grew
      have Jx := BJ.low hb hgjB
      have k0 := Jx.at 0 rfl
      have k1 := Jx.at 1 rfl
      have k2 := Jx.at 2 rfl
      refine opS_hid (fun Rp HR => ?_)
      unfold OpS
      go_simp
      rw [HR.out]
      exact hJ.op2 rfl
    · obtain rfl := Option.some.inj ho
      intro lst vs ev xw hJ hl hc hf hfr hd
      have d22 := hd 1 22 (by kernel_rfl) rfl
      have d23 := hd 2 23 (by kernel_rfl) rfl
      obtain ⟨g, g1, g2, g3, g4⟩ := hJ.v1 d22.1
      have e22 : ev (.tmp 22) = .pointer (some ⟨g, 0, none⟩) := d22.2.trans g1
      have e23 : ev (.tmp 23) = .agg #[.slice (some ⟨bA, oA, none⟩) n cU, .slice (some ⟨bB, oB, none⟩) n cW, .int .i64 st] := d23.2.trans (hJ.v2 d23.1)
      have hdk := g4 hl
      have h1 := d22.1
      have hb := hJ.grew
      clear hfr hd d22 d23
      refine opS_hid (fun Rp HR => ?_)
      unfold OpS
      go_simp
      refine (control_any g (some ⟨bA, oA, none⟩) (some ⟨bB, oB, none⟩) cU cW n P C st xw hjc hdk (hP4.low hb (Nat.le_of_eq HBB.out.symm)) (hI4.low hb (Nat.le_of_eq HBB.out.symm)) (fun a ha => by injection ha with ha; subst ha; show bA ≠ g; omega) (fun a ha => by injection ha with ha; subst ha; show bB ≠ g; omega)).mono ?_
      rintro e w'' ⟨v, rfl, q1, q2, c, q3, q4⟩
      refine ⟨_, rfl, ?_⟩
      rw [HR.out]
      exact hJ.op3 HBB.out hl h1 g1 g2 q1 q3 q4
    · obtain rfl := Option.some.inj ho
      intro lst vs ev xw hJ hl hc hf hfr hd
      have d24 := hd 3 24 (by kernel_rfl) rfl
      have h3 := d24.1
      obtain ⟨c, q1, gl, cl, gx, cx, q2, q3, q4, q5, q6⟩ := hJ.v3 d24.1
      have e24 : ev (.tmp 24) = .agg #[.slice (some ⟨gl, 0, none⟩) n cl, .int .i64 (c).gr, .slice (some ⟨gx, 0, none⟩) 2 cx, .int .i64 (c).wt] := d24.2.trans q2
      clear hfr hd d24
      refine opS_hid (fun Rp HR => ?_)
      unfold OpS
      go_simp
      rw [HR.out]
      exact hJ.op4 hl h3 q1 ⟨gl, cl, gx, cx, rfl, q3, q4, q5, q6⟩
    · obtain rfl := Option.some.inj ho
      intro lst vs ev xw hJ hl hc hf hfr hd
      clear hfr hd
      refine opS_hid (fun Rp HR => ?_)
      unfold OpS
      go_simp
      rw [HR.out]
      exact hJ.op5 hl rfl
    · obtain rfl := Option.some.inj ho
      intro lst vs ev xw hJ hl hc hf hfr hd
      have d10 := hd 5 10 (by kernel_rfl) rfl
      have d25 := hd 4 25 (by kernel_rfl) rfl
      obtain ⟨g, g1, g2, g3, _⟩ := hJ.v5 d10.1
      obtain ⟨c, q1, gl, cl, gx, cx, q2, q3, q4, q5, q6⟩ := hJ.v4 d25.1
      have e10 : ev (.tmp 10) = .pointer (some ⟨g, 0, none⟩) := d10.2.trans g1
      have e25 : ev (.tmp 25) = .agg #[.slice (some ⟨gl, 0, none⟩) n cl, .int .i64 (c).gr, .slice (some ⟨gx, 0, none⟩) 2 cx, .int .i64 (c).wt, .bool false] := d25.2.trans q2
      have h5 := d10.1
      have h4 := d25.1
      have hB : Blk xw g 27 #[.slice none 0 0, .int .i64 0, .slice none 0 0, .int .i64 0, .bool false] := g3 hl
      refine opS_store_sg rfl e10 e25 hB ?_
      intro w' hst hgr
      exact hJ.op6 hl h4 h5 g1 q2 hgr hst
  · intro vs w5 hJ
    have k0 := hJ.v0 rfl
    obtain ⟨g, k1, _, _, _⟩ := hJ.v1 rfl
    have k2 := hJ.v2 rfl
    obtain ⟨c, hvc, gl, cl, gx, cx, k4, ⟨hgl, hcl⟩, hgx, L6, N6⟩ := hJ.v4 rfl
    obtain ⟨gs, k5, hBgs, _, r2⟩ := hJ.v5 rfl
    obtain ⟨cs, r3, BS⟩ := r2 rfl
    rw [k4] at r3
    injection r3 with r3
    subst r3
    have b6 := hJ.grew
    simp only [List.take_succ_cons, List.take_zero, List.drop_succ_cons, List.drop_zero, putAll, Act.put, List.setIfInBounds_toArray, List.set_cons_zero, List.set_cons_succ, k0, k1, k2, k4, k5, Nat.reduceAdd]
    clear hJ k0 k1 k2 k4 k5
    unfold wpList
    have J5 := BJ.low b6 hgjB
    have j0 := J5.at 0 rfl; have j1 := J5.at 1 rfl; have j2 := J5.at 2 rfl
    have s0 := BS.at 0 rfl; have s1 := BS.at 1 rfl; have s2 := BS.at 2 rfl; have s3 := BS.at 3 rfl; have s4 := BS.at 4 rfl
    obtain ⟨κ, hκ, hκn⟩ := modI_nat' nn ((n : Int) + 1) (by omega)
    obtain ⟨T, hT, hTn⟩ := modI_nat' tg ((n : Int) + 1) (by omega)
    have HK := Lib.hid hκ
    have HT := Lib.hid hT
    have zw : IntKind.i64.wrap ((n : Int) + 1) = (n : Int) + 1 := by rw [IntKind.wrap_i64]; omega
    have zk : IntKind.i64.wrap ((κ : Nat) - 1) = ((κ : Nat) - 1 : Int) := by rw [IntKind.wrap_i64]; omega
    have zt : IntKind.i64.wrap ((T : Nat) - 1) = ((T : Nat) - 1 : Int) := by rw [IntKind.wrap_i64]; omega
    clear hκ hT
    go_wp2_with fail
    refine (mod_k HK.out (by omega) (by omega) (by omega) (by omega) _).mono ?_
    rintro e w6 ⟨rfl, rfl⟩
    go_wp2_with fail
    refine (mod_k HT.out (by omega) (by omega) (by omega) (by omega) _).mono ?_
    rintro e w6 ⟨rfl, rfl⟩
    go_wp2_with fail
    obtain ⟨k, hk⟩ : ∃ k, ((κ : Nat) : Int) - 1 = k := ⟨_, rfl⟩
    obtain ⟨t, ht⟩ : ∃ t, ((T : Nat) : Int) - 1 = t := ⟨_, rfl⟩
    have hkb : -1 ≤ k ∧ k < n := by omega
    rw [hk, ht]
    have hvs := step_v hjc.rows hvc h1 hjc.pok hjc.ri hjc.gr t
    obtain ⟨s, hss⟩ : ∃ s, stepC P C n c t = s := ⟨_, rfl⟩
    rw [hss] at hvs
    obtain ⟨b, hb⟩ := bool_of (KW C s k n)
    have HBW := Lib.hid hb
    have HFB := Lib.hid (hb.trans (kw_fb hjc.rows hvs hkb).symm)
    have HSS := Lib.hid hss
    have HVC := Lib.hid hvc
    have HLI := Lib.hid hvs.li
    have HNX := Lib.hid hvs.nx
    clear hss hvs hvc hb hk ht zw zk zt hκn hTn
    refine (jstep_s (some ⟨bA, oA, none⟩) (some ⟨bB, oB, none⟩) (some ⟨gl, 0, none⟩) (some ⟨gx, 0, none⟩) cU cW cl cx n P C c s st t k b w5 HSS.out hjc hjv HVC.out (hP4.low b6 hBW) (hI4.low b6 hBW) hcU L6.prs N6.ints HFB.out).mono ?_
    rintro e w7 ⟨v, rfl, b7, gl2, cl2, gx2, cx2, rfl, ⟨hgl2, hcl2⟩, hgx2, L7, N7⟩
    clear j0 j1 j2 s0 s1 s2 s3 s4
    have b7' := b7
    have bX := lat_alloc (Below.refl w7.heap.size w7) (.cells #[.slice (some ⟨gl2, 0, none⟩) n cl2, .int .i64 (s).gr, .slice (some ⟨gx2, 0, none⟩) 2 cx2, .int .i64 (s).wt, .bool b] 27)
    have X8 := Blk.new (w := w7) (t := 27) (cs := #[.slice (some ⟨gl2, 0, none⟩) n cl2, .int .i64 (s).gr, .slice (some ⟨gx2, 0, none⟩) 2 cx2, .int .i64 (s).wt, .bool b])
    have L8 := L7.below bX
    have N8 := N7.below bX
    have b58 := b7.trans (bX.mono b7.size)
    have Lc8 := L6.below b58
    have Nc8 := N6.below b58
    have BS8 := BS.below b58
    have J8 := J5.below b58
    have B8 := b6.trans (b58.mono (Nat.le_trans hBW b6.size))
    have j0 := J8.at 0 rfl; have j1 := J8.at 1 rfl; have j2 := J8.at 2 rfl
    have s0 := BS8.at 0 rfl; have s1 := BS8.at 1 rfl; have s2 := BS8.at 2 rfl; have s3 := BS8.at 3 rfl; have s4 := BS8.at 4 rfl
    go_wp2_with fail
    generalize w7.alloc (.cells #[.slice (some ⟨gl2, 0, none⟩) n cl2, .int .i64 (s).gr, .slice (some ⟨gx2, 0, none⟩) 2 cx2, .int .i64 (s).wt, .bool b] 27) = W8 at *
    obtain ⟨gX, hgX⟩ : ∃ gX, w7.heap.size = gX := ⟨_, rfl⟩
    rw [hgX] at X8 ⊢
    clear hgX b7 b7' bX L7 N7 L6 N6 BS b6 b58 j0 j1 j2 s0 s1 s2 s3 s4 hgl2 hgx2 hcl2
    refine (cstep_any (some ⟨bA, oA, none⟩) (some ⟨bB, oB, none⟩) (some ⟨gl, 0, none⟩) (some ⟨gx, 0, none⟩) cU cW cl cx n P C c st t W8 hjc HVC.out (hP4.low B8 hBW) (hI4.low B8 hBW) Lc8.prs Nc8.ints).mono ?_
    rintro e w9 ⟨v, rfl, b9, gl3, cl3, gx3, cx3, hv9, ⟨hgl3, hcl3⟩, hgx3, M9, O9⟩
    rw [HSS.out] at hv9 M9 O9
    subst hv9
    have bY := lat_alloc (Below.refl w9.heap.size w9) (.cells #[.slice (some ⟨gl3, 0, none⟩) n cl3, .int .i64 (s).gr, .slice (some ⟨gx3, 0, none⟩) 2 cx3, .int .i64 (s).wt] 25)
    have Y10 := Blk.new (w := w9) (t := 25) (cs := #[.slice (some ⟨gl3, 0, none⟩) n cl3, .int .i64 (s).gr, .slice (some ⟨gx3, 0, none⟩) 2 cx3, .int .i64 (s).wt])
    have b10 := b9.trans (bY.mono b9.size)
    have M10 := M9.below bY
    have O10 := O9.below bY
    have X10 := X8.below b10
    have L10 := L8.below b10
    have N10 := N8.below b10
    have J10 := J8.below b10
    have B10 := B8.trans (b10.mono (Nat.le_trans hBW B8.size))
    have y0 := Y10.at 0 rfl
    go_wp2_with fail
    clear y0
    generalize w9.alloc (.cells #[.slice (some ⟨gl3, 0, none⟩) n cl3, .int .i64 (s).gr, .slice (some ⟨gx3, 0, none⟩) 2 cx3, .int .i64 (s).wt] 25) = W10 at *
    obtain ⟨gY, hgY⟩ : ∃ gY, w9.heap.size = gY := ⟨_, rfl⟩
    rw [hgY] at Y10 ⊢
    clear hgY b9 bY b10 M9 O9 X8 L8 N8 J8 B8 Lc8 Nc8 BS8 J5 hgl3 hgx3 hcl3 hgl hgx hcl
    go_loopw [15, 53] (fun s15 v wr => ∃ (i : Nat) (f : Bool), i ≤ n ∧ s15 = .bool f ∧ v = .int .i64 i ∧ Below W10.heap.size W10 wr ∧ (f = true ↔ KW C s k i)) (fun _ v _ => n - (intOf v).toNat)
    case atStart => exact ⟨0, false, by omega, rfl, rfl, Below.refl _ _, by simp only [Bool.false_eq_true, false_iff]; rintro ⟨_, p, hp, _⟩; omega⟩
    case round =>
      obtain ⟨i, f, hi, rfl, rfl, hbr, hf⟩ := hrel
      have HF := Lib.hid hf
      clear hf
      by_cases hlt : i < n
      · as_aux_lemma =>
        have hltZ : (i : Int) < n := by omega
        obtain ⟨l0, l1, _, _⟩ := (M10.below hbr).at (i := i) (by rw [HLI.out]; exact hlt)
        have B12 := Blk.new (w := wr) (t := 53) (cs := #[.int .i64 (prAt s.li i).1, .int .i64 (prAt s.li i).2])
        have bX := lat_alloc hbr (.cells #[.int .i64 (prAt s.li i).1, .int .i64 (prAt s.li i).2] 53)
        have k0 := B12.at 0 rfl
        have j1 := ((J10.below hbr).alloc (.cells #[.int .i64 (prAt s.li i).1, .int .i64 (prAt s.li i).2] 53)).at 1 rfl
        have HD := Lib.hid (show lmp s.li i = (prAt s.li i).1 from rfl)
        by_cases hk0 : 0 ≤ k
        · obtain ⟨q, rfl⟩ := Int.eq_ofNat_of_zero_le hk0
          obtain ⟨bb, ob, hBe, _, hcc⟩ := (hI4.low (B10.trans (bX.mono (Nat.le_trans hBW B10.size))) hBW) (by have := HRC.out; omega)
          injection Option.some.inj hBe with hB2 hB3 _
          subst hB2; subst hB3
          have m0 := hcc q (by have := HRC.out; omega)
          clear hcc hBe
          have hqZ : (q : Int) < n := by omega
          have z0 : decide ((0 : Int) ≤ (q : Int)) = true := decide_eq_true hk0
          have HNXT := Lib.hid (fun (hn : ¬ (i ≠ q ∧ hasB (at_ C q) i = true ∧ passB (lmp s.li i) = true)) => kw_next hn)
          have HYES := Lib.hid (fun (a : i ≠ q) (b' : hasB (at_ C q) i = true) (c' : passB (lmp s.li i) = true) => kw_yes a b' c')
          clear B12 hk0
          generalize prAt s.li i = y at *
          cases f with
          | true =>
            go_wp2
            go_roundw
            case rel => exact ⟨i + 1, true, hlt, rfl, by go_num, bX, by
              simp only [true_iff]
              exact kw_more (HF.out.1 rfl)⟩
            case measure => simp [intOf]; omega
          | false =>
            by_cases his : i = q
            · have z1 : ((i : Int) != (q : Int)) = false := by simp; omega
              have HI := Lib.hid his
              clear his
              go_wp2
              go_roundw
              case rel => exact ⟨i + 1, false, hlt, rfl, by go_num, bX, HF.out.trans (HNXT.out (fun h => h.1 HI.out)).symm⟩
              case measure => simp [intOf]; omega
            have z1 : ((i : Int) != (q : Int)) = true := by simp; omega
            have HI := Lib.hid his
            clear his
            obtain ⟨hb1, hbe⟩ : ∃ b1, hasB (at_ C q) i = b1 := ⟨_, rfl⟩
            have z2 := bit_any (at_ C q) i
            rw [hbe] at z2
            have HB := Lib.hid hbe
            clear hbe
            cases hb1 with
            | false =>
              go_wp2
              go_roundw
              case rel => exact ⟨i + 1, false, hlt, rfl, by go_num, bX, HF.out.trans (HNXT.out (fun h => by have := h.2.1; rw [HB.out] at this; cases this)).symm⟩
              case measure => simp [intOf]; omega
            | true =>
              by_cases y1 : y.1 = 1
              · have z3 : (y.1 == 1) = true := by simpa using y1
                have HY := Lib.hid y1
                clear y1
                go_wp2
                go_roundw
                case rel => exact ⟨i + 1, true, hlt, rfl, by go_num, bX, by
                  simp only [true_iff]
                  exact HYES.out HI.out HB.out (by rw [HD.out, HY.out]; decide)⟩
                case measure => simp [intOf]; omega
              · have z3 : (y.1 == 1) = false := by simpa using y1
                by_cases y2 : y.1 = 2
                · have z4 : (y.1 == 2) = true := by simpa using y2
                  have HY := Lib.hid y2
                  clear y1 y2
                  go_wp2
                  go_roundw
                  case rel => exact ⟨i + 1, true, hlt, rfl, by go_num, bX, by
                    simp only [true_iff]
                    exact HYES.out HI.out HB.out (by rw [HD.out, HY.out]; decide)⟩
                  case measure => simp [intOf]; omega
                · have z4 : (y.1 == 2) = false := by simpa using y2
                  have HP := Lib.hid (show passB (lmp s.li i) = false by rw [HD.out]; unfold passB; rw [decide_eq_false]; rintro (h | h) <;> contradiction)
                  clear y1 y2
                  go_wp2
                  go_roundw
                  case rel => exact ⟨i + 1, false, hlt, rfl, by go_num, bX, HF.out.trans (HNXT.out (fun h => by have := h.2.2; rw [HP.out] at this; cases this)).symm⟩
                  case measure => simp [intOf]; omega
        · have z0 : decide ((0 : Int) ≤ k) = false := decide_eq_false hk0
          have hf0 : f = false := by
            cases f with
            | false => rfl
            | true => exact absurd (HF.out.1 rfl).1 hk0
          subst hf0
          have HNK := Lib.hid hk0
          clear hk0 B12
          go_wp2
          go_roundw
          case rel => exact ⟨i + 1, false, hlt, rfl, by go_num, bX, by simp only [Bool.false_eq_true, false_iff]; exact fun h => HNK.out h.1⟩
          case measure => simp [intOf]; omega
      · as_aux_lemma =>
        have hltZ : ¬ (i : Int) < n := by omega
        obtain rfl : n = i := by omega
        have hfb : f = b := by rw [Bool.eq_iff_iff]; exact HF.out.trans HBW.out.symm
        subst hfb
        have zbb : (f == f) = true := by simp
        have X11 := X10.below hbr
        have Y11 := Y10.below hbr
        have x0 := X11.at 0 rfl; have x1 := X11.at 1 rfl; have x2 := X11.at 2 rfl; have x3 := X11.at 3 rfl; have x4 := X11.at 4 rfl
        have y0 := Y11.at 0 rfl; have y1 := Y11.at 1 rfl; have y2 := Y11.at 2 rfl; have y3 := Y11.at 3 rfl
        clear HF HBW HFB
        go_wp2_with fail
        refine (same_t gl2 cl2 gx2 cx2 gl3 cl3 gx3 cx3 n s wr HLI.out HNX.out (by omega) (L10.below hbr) (N10.below hbr) (M10.below hbr) (O10.below hbr)).mono ?_
        rintro e w14 ⟨rfl, b14⟩
        clear x0 x1 x2 x3 x4 y0 y1 y2 y3
        have B11 := B10.trans (hbr.mono (Nat.le_trans hBW B10.size))
        have B14 := B11.trans (b14.mono (Nat.le_trans hBW B11.size))
        go_wp2_with fail
        refine (awake_any _).mono ?_
        rintro e w15 ⟨rfl, b15⟩
        go_wp2
        go_ret
        exact ⟨rfl, hb4.trans ((B14.trans (b15.mono (Nat.le_trans hBW B14.size))).mono hwB)⟩
end Go.Proofs.Ytncmikkobngfeaa
