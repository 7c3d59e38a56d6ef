/-
  The example of chapter 12. Conditions: none.
-/
import Derived.Test.YtohgnbpaffcpaaaWa
import Derived.Test.YtohgnbpaffcpaaaLc
namespace Go.Proofs.Ytohgnbpaffcpaaa
open Go.ChangeShapes Go.WideShapes Go.RowKit
set_option linter.unusedVariables false

def ak0 : Ct := initC awP 2 0
def ak1 : Ct := stepC awP awC 2 ak0 0
theorem ak0_v : CtV awP awC 2 0 ak0 := init_v (by omega) (by omega) aw_c.gr
theorem ak1_v : CtV awP awC 2 0 ak1 := step_v aw_rows ak0_v (by omega) aw_c.pok aw_c.ri aw_c.gr 0
set_option maxRecDepth 40000 in
set_option maxHeartbeats 4000000 in
theorem awake_any (w : World) : Calls Try.prog 14 #[] w fun e w' => e = .returned (.bool true) ∧ Below w.heap.size w w' := by
  go_enter Try.func14, Try.ntmps14
  go_wp2_with fail
  obtain ⟨W0, hW0⟩ : ∃ W0, W0 = (((w.alloc (.cells #[.int .i64 0, .int .i64 0, .int .i64 2, .int .i64 3, .int .i64 1, .int .i64 1, .int .i64 0, .int .i64 0] 39)).alloc (.cells #[.int .i64 0, .int .i64 0, .int .i64 2, .int .i64 3, .int .i64 1, .int .i64 1, .int .i64 0, .int .i64 0, .int .i64 0, .int .i64 0, .int .i64 2, .int .i64 3, .int .i64 1, .int .i64 1, .int .i64 0, .int .i64 0] 39)).alloc (.cells #[.int .i64 2, .int .i64 1] 3)).alloc (.cells #[.slice (some ⟨w.heap.size + 1, 0, none⟩) 2 2, .slice (some ⟨w.heap.size + 1 + 1, 0, none⟩) 2 2, .int .i64 0] 25) := ⟨_, rfl⟩
  have hsz : W0.heap.size = w.heap.size + 1 + 1 + 1 + 1 := by rw [hW0]; simp only [World.size_alloc]
  have hB0 : Below w.heap.size w W0 := by
    rw [hW0]
    exact lat_alloc (lat_alloc (lat_alloc (lat_alloc (Below.refl w.heap.size w) _) _) _) _
  have bS : Blk W0 w.heap.size 39 #[.int .i64 0, .int .i64 0, .int .i64 2, .int .i64 3, .int .i64 1, .int .i64 1, .int .i64 0, .int .i64 0] := by
    have := (((Blk.new (w := w) (t := 39) (cs := #[.int .i64 0, .int .i64 0, .int .i64 2, .int .i64 3, .int .i64 1, .int .i64 1, .int .i64 0, .int .i64 0])).alloc (.cells #[.int .i64 0, .int .i64 0, .int .i64 2, .int .i64 3, .int .i64 1, .int .i64 1, .int .i64 0, .int .i64 0, .int .i64 0, .int .i64 0, .int .i64 2, .int .i64 3, .int .i64 1, .int .i64 1, .int .i64 0, .int .i64 0] 39)).alloc (.cells #[.int .i64 2, .int .i64 1] 3)).alloc (.cells #[.slice (some ⟨w.heap.size + 1, 0, none⟩) 2 2, .slice (some ⟨w.heap.size + 1 + 1, 0, none⟩) 2 2, .int .i64 0] 25)
    rw [← hW0] at this; simpa only [World.size_alloc] using this
  have bP : Blk W0 (w.heap.size + 1) 39 #[.int .i64 0, .int .i64 0, .int .i64 2, .int .i64 3, .int .i64 1, .int .i64 1, .int .i64 0, .int .i64 0, .int .i64 0, .int .i64 0, .int .i64 2, .int .i64 3, .int .i64 1, .int .i64 1, .int .i64 0, .int .i64 0] := by
    have := ((Blk.new (w := w.alloc (.cells #[.int .i64 0, .int .i64 0, .int .i64 2, .int .i64 3, .int .i64 1, .int .i64 1, .int .i64 0, .int .i64 0] 39)) (t := 39) (cs := #[.int .i64 0, .int .i64 0, .int .i64 2, .int .i64 3, .int .i64 1, .int .i64 1, .int .i64 0, .int .i64 0, .int .i64 0, .int .i64 0, .int .i64 2, .int .i64 3, .int .i64 1, .int .i64 1, .int .i64 0, .int .i64 0])).alloc (.cells #[.int .i64 2, .int .i64 1] 3)).alloc (.cells #[.slice (some ⟨w.heap.size + 1, 0, none⟩) 2 2, .slice (some ⟨w.heap.size + 1 + 1, 0, none⟩) 2 2, .int .i64 0] 25)
    rw [← hW0] at this; simpa only [World.size_alloc] using this
  have bC : Blk W0 (w.heap.size + 1 + 1) 3 #[.int .i64 2, .int .i64 1] := by
    have := (Blk.new (w := (w.alloc (.cells #[.int .i64 0, .int .i64 0, .int .i64 2, .int .i64 3, .int .i64 1, .int .i64 1, .int .i64 0, .int .i64 0] 39)).alloc (.cells #[.int .i64 0, .int .i64 0, .int .i64 2, .int .i64 3, .int .i64 1, .int .i64 1, .int .i64 0, .int .i64 0, .int .i64 0, .int .i64 0, .int .i64 2, .int .i64 3, .int .i64 1, .int .i64 1, .int .i64 0, .int .i64 0] 39)) (t := 3) (cs := #[.int .i64 2, .int .i64 1])).alloc (.cells #[.slice (some ⟨w.heap.size + 1, 0, none⟩) 2 2, .slice (some ⟨w.heap.size + 1 + 1, 0, none⟩) 2 2, .int .i64 0] 25)
    rw [← hW0] at this; simpa only [World.size_alloc] using this
  have bJ : Blk W0 (w.heap.size + 1 + 1 + 1) 25 #[.slice (some ⟨w.heap.size + 1, 0, none⟩) 2 2, .slice (some ⟨w.heap.size + 1 + 1, 0, none⟩) 2 2, .int .i64 0] := by
    have := Blk.new (w := ((w.alloc (.cells #[.int .i64 0, .int .i64 0, .int .i64 2, .int .i64 3, .int .i64 1, .int .i64 1, .int .i64 0, .int .i64 0] 39)).alloc (.cells #[.int .i64 0, .int .i64 0, .int .i64 2, .int .i64 3, .int .i64 1, .int .i64 1, .int .i64 0, .int .i64 0, .int .i64 0, .int .i64 0, .int .i64 2, .int .i64 3, .int .i64 1, .int .i64 1, .int .i64 0, .int .i64 0] 39)).alloc (.cells #[.int .i64 2, .int .i64 1] 3)) (t := 25) (cs := #[.slice (some ⟨w.heap.size + 1, 0, none⟩) 2 2, .slice (some ⟨w.heap.size + 1 + 1, 0, none⟩) 2 2, .int .i64 0])
    rw [← hW0] at this; simpa only [World.size_alloc] using this
  rw [← hW0]
  have hP0 : Phs W0 W0.heap.size (some ⟨w.heap.size + 1, 0, none⟩) awP := fun _ => ⟨_, 0, rfl, by omega, fun i hi => by
    rcases (by have : i < 2 := hi; omega : i = 0 ∨ i = 1) with rfl | rfl
    · exact ⟨bP.at 0 rfl, bP.at 1 rfl, bP.at 2 rfl, bP.at 3 rfl, bP.at 4 rfl, bP.at 5 rfl, bP.at 6 rfl, bP.at 7 rfl⟩
    · exact ⟨bP.at 8 rfl, bP.at 9 rfl, bP.at 10 rfl, bP.at 11 rfl, bP.at 12 rfl, bP.at 13 rfl, bP.at 14 rfl, bP.at 15 rfl⟩⟩
  have hC0 : Ints .i64 W0 W0.heap.size (some ⟨w.heap.size + 1 + 1, 0, none⟩) awC := fun _ => ⟨_, 0, rfl, by omega, fun i hi => by
    rcases (by have : i < 2 := hi; omega : i = 0 ∨ i = 1) with rfl | rfl
    · exact bC.at 0 rfl
    · exact bC.at 1 rfl⟩
  clear hW0 bS bP bC
  refine wp_region_pre (R := Bl) 5 35 [fun v _ => v = .agg #[.slice (some ⟨w.heap.size + 1, 0, none⟩) 2 2, .slice (some ⟨w.heap.size + 1 + 1, 0, none⟩) 2 2, .int .i64 0], fun v _ => v = .agg #[.slice (some ⟨w.heap.size + 1, 0, none⟩) 2 2, .slice (some ⟨w.heap.size + 1 + 1, 0, none⟩) 2 2, .int .i64 0], fun v w => CtH w W0.heap.size 2 (v) ak0, fun v w => CtH w W0.heap.size 2 (v) ak1, fun v w => ∃ b, v = .pointer (some ⟨b, 0, none⟩) ∧ Blk w b 31 #[.slice none 0 0, .int .i64 0, .slice none 0 0, .int .i64 0] ∧ W0.heap.size ≤ b] (Bl.trans) (Bl.drew) (by kernel_rfl) (fun _ _ d _ _ h => by cases d <;> exact h) rfl (by kernel_rfl) (stay_cons (stays_v _) (stay_cons (stays_v _) (stay_cons (fun v w w1 h hb => h.below hb) (stay_cons (fun v w w1 h hb => h.below hb) (stay_cons (fun v w w1 h hb => by obtain ⟨b, h1, h2, h3⟩ := h; exact ⟨b, h1, h2.below hb, h3⟩) (stay_nil)))))) ?_ ?_
  · simp only [List.take_succ_cons, List.take_zero]
    refine steps_cons (Bl.refl) (fun ev xw hb hc hf hfr hd hr => ?_) ?_
    · have e2 : ev (.tmp 2) = .pointer (some ⟨w.heap.size + 1 + 1 + 1, 0, none⟩) := hfr 2 (by kernel_rfl)
      clear hfr hd
      have k0 := (bJ.below hb).at 0 rfl
      have k1 := (bJ.below hb).at 1 rfl
      have k2 := (bJ.below hb).at 2 rfl
      show OpOk _ _ ev xw fun v w' => Bl xw w' ∧ (v = .agg #[.slice (some ⟨w.heap.size + 1, 0, none⟩) 2 2, .slice (some ⟨w.heap.size + 1 + 1, 0, none⟩) 2 2, .int .i64 0])
      refine opOk_hid (fun Rp HR => ?_)
      unfold OpOk
      go_simp
      rw [HR.out]
      exact ⟨hr, rfl⟩
    refine steps_cons (Bl.refl) (fun ev xw hb hc hf hfr hd hr => ?_) ?_
    · have e2 : ev (.tmp 2) = .pointer (some ⟨w.heap.size + 1 + 1 + 1, 0, none⟩) := hfr 2 (by kernel_rfl)
      clear hfr hd
      have k0 := (bJ.below hb).at 0 rfl
      have k1 := (bJ.below hb).at 1 rfl
      have k2 := (bJ.below hb).at 2 rfl
      show OpOk _ _ ev xw fun v w' => Bl xw w' ∧ (v = .agg #[.slice (some ⟨w.heap.size + 1, 0, none⟩) 2 2, .slice (some ⟨w.heap.size + 1 + 1, 0, none⟩) 2 2, .int .i64 0])
      refine opOk_hid (fun Rp HR => ?_)
      unfold OpOk
      go_simp
      rw [HR.out]
      exact ⟨hr, rfl⟩
    refine steps_cons (Bl.refl) (fun ev xw hb hc hf hfr hd hr => ?_) ?_
    · have e11 : ev (.tmp 11) = .agg #[.slice (some ⟨w.heap.size + 1, 0, none⟩) 2 2, .slice (some ⟨w.heap.size + 1 + 1, 0, none⟩) 2 2, .int .i64 0] := hd 1 11 (by kernel_rfl)
      clear hfr hd
      show OpOk _ _ ev xw fun v w' => Bl xw w' ∧ (CtH w' W0.heap.size 2 (v) ak0)
      refine opOk_hid (fun Rp HR => ?_)
      unfold OpOk
      go_simp
      refine (init_any (some ⟨w.heap.size + 1, 0, none⟩) (some ⟨w.heap.size + 1 + 1, 0, none⟩) 2 2 2 2 awP 0 xw rfl (hP0.grow hb) (by omega) (by omega)).mono ?_
      rintro e w'' ⟨v, rfl, hw, hs⟩
      refine ⟨_, rfl, ?_⟩
      rw [HR.out]
      exact ⟨hw, hs.lower (Below.size hb)⟩
    refine steps_cons (Bl.refl) (fun ev xw hb hc hf hfr hd hr => ?_) ?_
    · have e10 : ev (.tmp 10) = .agg #[.slice (some ⟨w.heap.size + 1, 0, none⟩) 2 2, .slice (some ⟨w.heap.size + 1 + 1, 0, none⟩) 2 2, .int .i64 0] := hd 0 10 (by kernel_rfl)
      obtain ⟨gl12, cl12, gx12, cx12, e12, G12, X12, L12, N12⟩ : CtH xw W0.heap.size 2 (ev (.tmp 12)) ak0 := hd 2 12 (by kernel_rfl)
      clear hfr hd
      show OpOk _ _ ev xw fun v w' => Bl xw w' ∧ (CtH w' W0.heap.size 2 (v) ak1)
      refine opOk_hid (fun Rp HR => ?_)
      unfold OpOk
      go_simp
      refine (cstep_any (some ⟨w.heap.size + 1, 0, none⟩) (some ⟨w.heap.size + 1 + 1, 0, none⟩) (some ⟨gl12, 0, none⟩) (some ⟨gx12, 0, none⟩) 2 2 cl12 cx12 2 awP awC ak0 0 0 xw aw_c ak0_v (hP0.grow hb) (hC0.grow hb) L12.prs N12.ints).mono ?_
      rintro e w'' ⟨v, rfl, hw, hs⟩
      refine ⟨_, rfl, ?_⟩
      rw [HR.out]
      exact ⟨hw, CtH.lower (show CtH w'' xw.heap.size 2 v ak1 from hs) (Below.size hb)⟩
    refine steps_cons (Bl.refl) (fun ev xw hb hc hf hfr hd hr => ?_) ?_
    · clear hfr hd
      show OpOk _ _ ev xw fun v w' => Bl xw w' ∧ (∃ b, v = .pointer (some ⟨b, 0, none⟩) ∧ Blk w' b 31 #[.slice none 0 0, .int .i64 0, .slice none 0 0, .int .i64 0] ∧ W0.heap.size ≤ b)
      refine opOk_hid (fun Rp HR => ?_)
      unfold OpOk
      go_simp
      rw [HR.out]
      exact ⟨lat_alloc (Below.refl _ _) _, _, rfl, Blk.new, Below.size hb⟩
    exact steps_nil
  · intro vs W1 hb1 hk
    obtain ⟨gl, cl, gx, cx, k3, ⟨hgl, hcl⟩, hgx, L1, N1⟩ : CtH W1 W0.heap.size 2 (vs 3) ak1 := hk 3 (by omega)
    obtain ⟨g3, k4, X1, hg3⟩ : ∃ b, vs 4 = .pointer (some ⟨b, 0, none⟩) ∧ Blk W1 b 31 #[.slice none 0 0, .int .i64 0, .slice none 0 0, .int .i64 0] ∧ W0.heap.size ≤ b := hk 4 (by omega)
    clear hk
    simp only [List.take_succ_cons, List.take_zero, List.drop_succ_cons, List.drop_zero, putAll, Act.put, List.setIfInBounds_toArray, List.set_cons_zero, List.set_cons_succ, k3, k4, Nat.reduceAdd]
    have hlg : gl ≠ g3 := L1.ne_ct X1
    have hxg : gx ≠ g3 := N1.ne_ct X1
    unfold wpList
    refine step_store_ct (by rfl) (by rfl) (by rfl) (by rfl) (by rfl) X1 ?_
    intro W2 X2 hg2
    have L2 := L1.grown hg2 (by intro e; injection e with e; exact hlg e.symm)
    have N2 := N1.grown hg2 (by intro e; injection e with e; exact hxg e.symm)
    have B2 : Below W0.heap.size W0 W2 := Below.grown hb1 hg2 hb1.size (fun k e => by injection e with e; omega)
    have J2 := bJ.low B2 (by omega)
    have hs2 := B2.size
    clear hb1 X1 L1 N1 hg2 k3 k4
    have j0 := J2.at 0 rfl; have j1 := J2.at 1 rfl; have j2 := J2.at 2 rfl
    unfold wpList
    go_wp2_with fail
    refine (ptrans_any (some ⟨w.heap.size + 1, 0, none⟩) (some ⟨w.heap.size + 1 + 1, 0, none⟩) 2 2 2 2 awP 0 W2 rfl (hP0.grow B2) aw_c.pok (by omega) (by omega)).mono ?_
    rintro e w3 ⟨rfl, b3⟩
    rw [show transV awP 2 0 = 4 from by decide]
    have B3 := B2.trans (b3.mono hs2)
    have X3 := X2.below b3
    have L3 := L2.below b3
    have N3 := N2.below b3
    clear j0 j1 j2
    have j0 := (bJ.low B3 (by omega)).at 0 rfl; have j1 := (bJ.low B3 (by omega)).at 1 rfl; have j2 := (bJ.low B3 (by omega)).at 2 rfl
    have x0 := X3.at 0 rfl; have x1 := X3.at 1 rfl; have x2 := X3.at 2 rfl; have x3 := X3.at 3 rfl
    go_wp2_with fail
    refine (preach_any (some ⟨w.heap.size + 1, 0, none⟩) (some ⟨w.heap.size + 1 + 1, 0, none⟩) 2 2 cl cx gl gx 2 awP awC ak1 0 1 w3 aw_c aw_v ak1_v (hP0.grow B3) (hC0.grow B3) (by omega) L3 N3).mono ?_
    rintro e w4 ⟨rfl, bw4⟩
    rw [show reachT awP awC 2 0 ak1 1 = 4 from by decide]
    have B4 := B3.trans (bw4.mono B3.size)
    have X4 := X3.below bw4
    have L4 := L3.below bw4
    have N4 := N3.below bw4
    clear j0 j1 j2 x0 x1 x2 x3
    have j0 := (bJ.low B4 (by omega)).at 0 rfl; have j1 := (bJ.low B4 (by omega)).at 1 rfl; have j2 := (bJ.low B4 (by omega)).at 2 rfl
    have x0 := X4.at 0 rfl; have x1 := X4.at 1 rfl; have x2 := X4.at 2 rfl; have x3 := X4.at 3 rfl
    go_wp2_with fail
    refine (preach_any (some ⟨w.heap.size + 1, 0, none⟩) (some ⟨w.heap.size + 1 + 1, 0, none⟩) 2 2 cl cx gl gx 2 awP awC ak1 0 0 w4 aw_c aw_v ak1_v (hP0.grow B4) (hC0.grow B4) (by omega) L4 N4).mono ?_
    rintro e w5 ⟨rfl, bw5⟩
    rw [show reachT awP awC 2 0 ak1 0 = 0 from by decide]
    have B5 := B4.trans (bw5.mono B4.size)
    have X5 := X4.below bw5
    have L5 := L4.below bw5
    have N5 := N4.below bw5
    clear j0 j1 j2 x0 x1 x2 x3
    have j0 := (bJ.low B5 (by omega)).at 0 rfl; have j1 := (bJ.low B5 (by omega)).at 1 rfl; have j2 := (bJ.low B5 (by omega)).at 2 rfl
    have x0 := X5.at 0 rfl; have x1 := X5.at 1 rfl; have x2 := X5.at 2 rfl; have x3 := X5.at 3 rfl
    go_wp2_with fail
    refine (preach_any (some ⟨w.heap.size + 1, 0, none⟩) (some ⟨w.heap.size + 1 + 1, 0, none⟩) 2 2 cl cx gl gx 2 awP awC ak1 0 2 w5 aw_c aw_v ak1_v (hP0.grow B5) (hC0.grow B5) (by omega) L5 N5).mono ?_
    rintro e w6 ⟨rfl, bw6⟩
    rw [show reachT awP awC 2 0 ak1 2 = -1 from by decide]
    have B6 := B5.trans (bw6.mono B5.size)
    clear j0 j1 j2 x0 x1 x2 x3
    go_wp2
    go_ret
    exact ⟨rfl, hB0.trans (B6.mono (by omega))⟩
end Go.Proofs.Ytohgnbpaffcpaaa
