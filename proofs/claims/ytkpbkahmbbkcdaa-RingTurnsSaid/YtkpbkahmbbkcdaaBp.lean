/-
  The program's phase begins. Conditions: nothing hinders it; as many lights as phases.
-/
import Derived.Test.YtkpbkahmbbkcdaaEp
namespace Go.Proofs.Ytkpbkahmbbkcdaa
open Go.ChangeShapes Go.WideShapes Go.RowKit
set_option linter.unusedVariables false

set_option maxRecDepth 20000 in
set_option maxHeartbeats 4000000 in
theorem pbegin_any (B : Option Addr) (b off cP d n m base gl cl gx cx q : Nat) (P : List Ph) (C : List Int) (c : Ct) (st : Int) (w : World) (hn : P.length = n) (hb : b < base) (hph : ∀ i, i < n → PhHere w b (off + i * 8) (phAt P i)) (hl : n ≤ 60) (hLn : c.li.length = n) (hXn : c.nx.length = 2) (L : LiB w gl c.li) (N : NxB w gx c.nx) (hbl : base ≤ gl) (hbx : base ≤ gx) (hlx : gl ≠ gx) (hBw : base ≤ w.heap.size) (hq : q < n) (hri : ∀ i, i < n → 0 ≤ (phAt P i).ri ∧ (phAt P i).ri ≤ 1) (hH : ¬ HinP C c.li n q) :
    Calls Try.prog 53 #[.agg #[.slice (some ⟨b, off, none⟩) n cP, .slice B m d, .int .i64 st], .agg #[.slice (some ⟨gl, 0, none⟩) n cl, .int .i64 c.gr, .slice (some ⟨gx, 0, none⟩) 2 cx, .int .i64 c.wt], .int .i64 q] w fun e w' => ∃ gx' cx' : Nat, e = .returned (.agg #[.slice (some ⟨gl, 0, none⟩) n cl, .int .i64 (beginC P C n c q).gr, .slice (some ⟨gx', 0, none⟩) 2 cx', .int .i64 (beginC P C n c q).wt]) ∧ Below base w w' ∧ LiB w' gl (beginC P C n c q).li ∧ NxB w' gx' (beginC P C n c q).nx ∧ base ≤ gx' ∧ gl ≠ gx' := by
  have HN := Lib.hid hn
  have HL := Lib.hid hLn
  have HX2 := Lib.hid hXn
  have HH := Lib.hid hH
  clear hn hLn hXn hH
  have hgl := L.lt
  have hgx := N.lt
  have hqZ : (q : Int) < n := by omega
  obtain ⟨x, hx⟩ : ∃ x, phAt P q = x := ⟨_, rfl⟩
  have hxx := hph q hq
  rw [hx] at hxx
  have HX := Lib.hid hx
  have hrx := hri q hq
  rw [hx] at hrx
  clear hx
  obtain ⟨ri, hri'⟩ := Int.eq_ofNat_of_zero_le hrx.1
  have HRI := Lib.hid hri'
  have hri2 : ri < 2 := by omega
  have hriZ : (ri : Int) < 2 := by omega
  clear hrx hri'
  have bW3 : Below w.heap.size w (((w.alloc (.cells #[.slice (some ⟨b, off, none⟩) n cP, .slice B m d, .int .i64 st] 30)).alloc (.cells #[.slice (some ⟨gl, 0, none⟩) n cl, .int .i64 c.gr, .slice (some ⟨gx, 0, none⟩) 2 cx, .int .i64 c.wt] 25)).alloc (.cells #[.slice none 0 0, .int .i64 0, .slice none 0 0, .int .i64 0] 25)) := lat_alloc (lat_alloc (lat_alloc (Below.refl w.heap.size w) _) _) _
  obtain ⟨x0, x1, x2, x3, x4, x5, x6, x7⟩ := hxx.block (bW3.block b (by omega))
  obtain ⟨W0, hW0⟩ : ∃ W0, W0 = (((w.alloc (.cells #[.slice (some ⟨b, off, none⟩) n cP, .slice B m d, .int .i64 st] 30)).alloc (.cells #[.slice (some ⟨gl, 0, none⟩) n cl, .int .i64 c.gr, .slice (some ⟨gx, 0, none⟩) 2 cx, .int .i64 c.wt] 25)).alloc (.cells #[.slice none 0 0, .int .i64 0, .slice none 0 0, .int .i64 0] 25)).alloc (.cells #[.int .i64 x.ri, .int .i64 x.gr, .int .i64 x.mn, .int .i64 x.mx, .int .i64 x.yl, .int .i64 x.rd, .int .i64 x.wk, .int .i64 x.cl] 51) := ⟨_, rfl⟩
  have hsz : W0.heap.size = w.heap.size + 1 + 1 + 1 + 1 := by rw [hW0]; simp only [World.size_alloc]
  have hB0 : Below w.heap.size w W0 := by
    rw [hW0]
    exact lat_alloc (lat_alloc (lat_alloc (lat_alloc (Below.refl w.heap.size w) _) _) _) _
  have bJ : Blk W0 w.heap.size 30 #[.slice (some ⟨b, off, none⟩) n cP, .slice B m d, .int .i64 st] := by
    have := (((Blk.new (w := w) (t := 30) (cs := #[.slice (some ⟨b, off, none⟩) n cP, .slice B m d, .int .i64 st])).alloc (.cells #[.slice (some ⟨gl, 0, none⟩) n cl, .int .i64 c.gr, .slice (some ⟨gx, 0, none⟩) 2 cx, .int .i64 c.wt] 25)).alloc (.cells #[.slice none 0 0, .int .i64 0, .slice none 0 0, .int .i64 0] 25)).alloc (.cells #[.int .i64 x.ri, .int .i64 x.gr, .int .i64 x.mn, .int .i64 x.mx, .int .i64 x.yl, .int .i64 x.rd, .int .i64 x.wk, .int .i64 x.cl] 51)
    rw [← hW0] at this; simpa only [World.size_alloc] using this
  have bC : Blk W0 (w.heap.size + 1) 25 #[.slice (some ⟨gl, 0, none⟩) n cl, .int .i64 c.gr, .slice (some ⟨gx, 0, none⟩) 2 cx, .int .i64 c.wt] := by
    have := ((Blk.new (w := w.alloc (.cells #[.slice (some ⟨b, off, none⟩) n cP, .slice B m d, .int .i64 st] 30)) (t := 25) (cs := #[.slice (some ⟨gl, 0, none⟩) n cl, .int .i64 c.gr, .slice (some ⟨gx, 0, none⟩) 2 cx, .int .i64 c.wt])).alloc (.cells #[.slice none 0 0, .int .i64 0, .slice none 0 0, .int .i64 0] 25)).alloc (.cells #[.int .i64 x.ri, .int .i64 x.gr, .int .i64 x.mn, .int .i64 x.mx, .int .i64 x.yl, .int .i64 x.rd, .int .i64 x.wk, .int .i64 x.cl] 51)
    rw [← hW0] at this; simpa only [World.size_alloc] using this
  have bR : Blk W0 (w.heap.size + 1 + 1) 25 #[.slice none 0 0, .int .i64 0, .slice none 0 0, .int .i64 0] := by
    have := (Blk.new (w := (w.alloc (.cells #[.slice (some ⟨b, off, none⟩) n cP, .slice B m d, .int .i64 st] 30)).alloc (.cells #[.slice (some ⟨gl, 0, none⟩) n cl, .int .i64 c.gr, .slice (some ⟨gx, 0, none⟩) 2 cx, .int .i64 c.wt] 25)) (t := 25) (cs := #[.slice none 0 0, .int .i64 0, .slice none 0 0, .int .i64 0])).alloc (.cells #[.int .i64 x.ri, .int .i64 x.gr, .int .i64 x.mn, .int .i64 x.mx, .int .i64 x.yl, .int .i64 x.rd, .int .i64 x.wk, .int .i64 x.cl] 51)
    rw [← hW0] at this; simpa only [World.size_alloc] using this
  have bP : Blk W0 (w.heap.size + 1 + 1 + 1) 51 #[.int .i64 x.ri, .int .i64 x.gr, .int .i64 x.mn, .int .i64 x.mx, .int .i64 x.yl, .int .i64 x.rd, .int .i64 x.wk, .int .i64 x.cl] := by
    have := Blk.new (w := ((w.alloc (.cells #[.slice (some ⟨b, off, none⟩) n cP, .slice B m d, .int .i64 st] 30)).alloc (.cells #[.slice (some ⟨gl, 0, none⟩) n cl, .int .i64 c.gr, .slice (some ⟨gx, 0, none⟩) 2 cx, .int .i64 c.wt] 25)).alloc (.cells #[.slice none 0 0, .int .i64 0, .slice none 0 0, .int .i64 0] 25)) (t := 51) (cs := #[.int .i64 x.ri, .int .i64 x.gr, .int .i64 x.mn, .int .i64 x.mx, .int .i64 x.yl, .int .i64 x.rd, .int .i64 x.wk, .int .i64 x.cl])
    rw [← hW0] at this; simpa only [World.size_alloc] using this
  have L4 := L.below hB0
  have N4 := N.below hB0
  have hJl : w.heap.size ≠ gl := by omega
  have hCl : w.heap.size + 1 ≠ gl := by omega
  have hRl : w.heap.size + 1 + 1 ≠ gl := by omega
  have hPl : w.heap.size + 1 + 1 + 1 ≠ gl := by omega
  have hCx : w.heap.size + 1 ≠ gx := by omega
  have hRx : w.heap.size + 1 + 1 ≠ gx := by omega
  have hPx : w.heap.size + 1 + 1 + 1 ≠ gx := by omega
  have bB4 := hB0.mono hBw
  have hB4 : base ≤ W0.heap.size := by omega
  subst hW0
  clear hsz hB0 bW3 L N hxx
  have J4 := bJ
  have C4 := bC
  have R4 := bR
  have X4 := bP
  clear bJ bC bR bP
  go_enter Try.func53, Try.ntmps53
  by_cases h3 : c.gr = x.gr
  · have HBEG := Lib.hid (show beginC P C n c q = ⟨c.li.set q (1, 0), x.gr, c.nx.set ri (firstGt (ofL P x.ri x.gr n) q), c.wt⟩ by unfold beginC; rw [if_neg HH.out, HX.out, if_neg (by simpa using h3), HRI.out, Int.toNat_natCast])
    have HXL := Lib.hid (show c.nx.length = 2 from HX2.out)
    have z3 : (c.gr != x.gr) = false := by simpa using h3
    have HG := Lib.hid h3
    clear h3
    go_wp2_with (refine step_store_li (by rfl) (by rfl) (by rfl) (g := gl) (i := q) (by rfl) (by rfl) L4 (by have := HL.out; omega) ?_; intro W5 L5 hg5; have C5 := C4.grown hg5 (by intro e; injection e with e; exact hCl e.symm); have X5 := X4.grown hg5 (by intro e; injection e with e; exact hPl e.symm); have c1 := C5.at 1 rfl; have xx1 := X5.at 1 rfl)
    clear c1 xx1
    rw [HG.out] at C5
    have J5 := J4.grown hg5 (by intro e; injection e with e; exact hJl e.symm)
    have R5 := R4.grown hg5 (by intro e; injection e with e; exact hRl e.symm)
    have N5 := N4.grown hg5 (by intro e; injection e with e; exact hlx e)
    have bB5 : Below base w W5 := Below.grown bB4 hg5 hB4 (fun k e => by injection e with e; omega)
    have hB5 : base ≤ W5.heap.size := Nat.le_trans hB4 hg5.size
    have hb5 : b < W5.heap.size := by omega
    have hph5 : ∀ i, i < n → PhHere W5 b (off + i * 8) (phAt P i) := fun i hi => (hph i hi).block (bB5.block b hb)
    refine wp_region_pre (R := Bl) 12 41 [fun v _ => v = .pointer (some ⟨w.heap.size + 1, 2, none⟩), fun v _ => v = .slice (some ⟨gx, 0, none⟩) 2 cx, fun v _ => v = .pointer (some ⟨w.heap.size + 1 + 1 + 1, 0, none⟩), fun v _ => v = .int .i64 x.ri, fun v _ => v = .agg #[.slice (some ⟨b, off, none⟩) n cP, .slice B m d, .int .i64 st], fun v _ => v = .pointer (some ⟨w.heap.size + 1 + 1 + 1, 0, none⟩), fun v _ => v = .int .i64 x.ri, fun v _ => v = .pointer (some ⟨w.heap.size + 1 + 1 + 1, 1, none⟩), fun v _ => v = .int .i64 x.gr, fun v _ => v = .int .i64 q, fun v _ => v = .int .i64 (firstGt (ofL P x.ri x.gr n) q), fun v _ => v = .pointer (some ⟨gx, ri, none⟩)] (Bl.trans) (Bl.drew) (by kernel_rfl) (fun _ _ d _ _ h => by cases d <;> exact h) rfl (by kernel_rfl) (stay_cons (stays_v _) (stay_cons (stays_v _) (stay_cons (stays_v _) (stay_cons (stays_v _) (stay_cons (stays_v _) (stay_cons (stays_v _) (stay_cons (stays_v _) (stay_cons (stays_v _) (stay_cons (stays_v _) (stay_cons (stays_v _) (stay_cons (stays_v _) (stay_cons (stays_v _) (stay_nil))))))))))))) ?_ ?_
    · simp only [List.take_succ_cons, List.take_zero]
      refine steps_cons (Bl.refl) (fun ev xw hb hc hf hfr hd hr => ?_) ?_
      · have e4 : ev (.tmp 4) = .pointer (some ⟨w.heap.size + 1, 0, none⟩) := hfr 4 (by kernel_rfl)
        clear hfr hd
        show OpOk _ _ ev xw fun v w' => Bl xw w' ∧ (v = .pointer (some ⟨w.heap.size + 1, 2, none⟩))
        refine opOk_hid (fun Rp HR => ?_)
        unfold OpOk
        go_simp
        rw [HR.out]
        exact ⟨hr, rfl⟩
      refine steps_cons (Bl.refl) (fun ev xw hb hc hf hfr hd hr => ?_) ?_
      · have e28 : ev (.tmp 28) = .pointer (some ⟨w.heap.size + 1, 2, none⟩) := hd 0 28 (by kernel_rfl)
        clear hfr hd
        have k2 := (C5.below hb).at 2 rfl
        show OpOk _ _ ev xw fun v w' => Bl xw w' ∧ (v = .slice (some ⟨gx, 0, none⟩) 2 cx)
        refine opOk_hid (fun Rp HR => ?_)
        unfold OpOk
        go_simp
        rw [HR.out]
        exact ⟨hr, rfl⟩
      refine steps_cons (Bl.refl) (fun ev xw hb hc hf hfr hd hr => ?_) ?_
      · have e7 : ev (.tmp 7) = .pointer (some ⟨w.heap.size + 1 + 1 + 1, 0, none⟩) := hfr 7 (by kernel_rfl)
        clear hfr hd
        show OpOk _ _ ev xw fun v w' => Bl xw w' ∧ (v = .pointer (some ⟨w.heap.size + 1 + 1 + 1, 0, none⟩))
        refine opOk_hid (fun Rp HR => ?_)
        unfold OpOk
        go_simp
        rw [HR.out]
        exact ⟨hr, rfl⟩
      refine steps_cons (Bl.refl) (fun ev xw hb hc hf hfr hd hr => ?_) ?_
      · have e30 : ev (.tmp 30) = .pointer (some ⟨w.heap.size + 1 + 1 + 1, 0, none⟩) := hd 2 30 (by kernel_rfl)
        clear hfr hd
        have k0 := (X5.below hb).at 0 rfl
        show OpOk _ _ ev xw fun v w' => Bl xw w' ∧ (v = .int .i64 x.ri)
        refine opOk_hid (fun Rp HR => ?_)
        unfold OpOk
        go_simp
        rw [HR.out]
        exact ⟨hr, rfl⟩
      refine steps_cons (Bl.refl) (fun ev xw hb hc hf hfr hd hr => ?_) ?_
      · have e3 : ev (.tmp 3) = .pointer (some ⟨w.heap.size, 0, none⟩) := hfr 3 (by kernel_rfl)
        clear hfr hd
        have k0 := (J5.below hb).at 0 rfl
        have k1 := (J5.below hb).at 1 rfl
        have k2 := (J5.below hb).at 2 rfl
        show OpOk _ _ ev xw fun v w' => Bl xw w' ∧ (v = .agg #[.slice (some ⟨b, off, none⟩) n cP, .slice B m d, .int .i64 st])
        refine opOk_hid (fun Rp HR => ?_)
        unfold OpOk
        go_simp
        rw [HR.out]
        exact ⟨hr, rfl⟩
      refine steps_cons (Bl.refl) (fun ev xw hb hc hf hfr hd hr => ?_) ?_
      · have e7 : ev (.tmp 7) = .pointer (some ⟨w.heap.size + 1 + 1 + 1, 0, none⟩) := hfr 7 (by kernel_rfl)
        clear hfr hd
        show OpOk _ _ ev xw fun v w' => Bl xw w' ∧ (v = .pointer (some ⟨w.heap.size + 1 + 1 + 1, 0, none⟩))
        refine opOk_hid (fun Rp HR => ?_)
        unfold OpOk
        go_simp
        rw [HR.out]
        exact ⟨hr, rfl⟩
      refine steps_cons (Bl.refl) (fun ev xw hb hc hf hfr hd hr => ?_) ?_
      · have e33 : ev (.tmp 33) = .pointer (some ⟨w.heap.size + 1 + 1 + 1, 0, none⟩) := hd 5 33 (by kernel_rfl)
        clear hfr hd
        have k0 := (X5.below hb).at 0 rfl
        show OpOk _ _ ev xw fun v w' => Bl xw w' ∧ (v = .int .i64 x.ri)
        refine opOk_hid (fun Rp HR => ?_)
        unfold OpOk
        go_simp
        rw [HR.out]
        exact ⟨hr, rfl⟩
      refine steps_cons (Bl.refl) (fun ev xw hb hc hf hfr hd hr => ?_) ?_
      · have e7 : ev (.tmp 7) = .pointer (some ⟨w.heap.size + 1 + 1 + 1, 0, none⟩) := hfr 7 (by kernel_rfl)
        clear hfr hd
        show OpOk _ _ ev xw fun v w' => Bl xw w' ∧ (v = .pointer (some ⟨w.heap.size + 1 + 1 + 1, 1, none⟩))
        refine opOk_hid (fun Rp HR => ?_)
        unfold OpOk
        go_simp
        rw [HR.out]
        exact ⟨hr, rfl⟩
      refine steps_cons (Bl.refl) (fun ev xw hb hc hf hfr hd hr => ?_) ?_
      · have e35 : ev (.tmp 35) = .pointer (some ⟨w.heap.size + 1 + 1 + 1, 1, none⟩) := hd 7 35 (by kernel_rfl)
        clear hfr hd
        have k1 := (X5.below hb).at 1 rfl
        show OpOk _ _ ev xw fun v w' => Bl xw w' ∧ (v = .int .i64 x.gr)
        refine opOk_hid (fun Rp HR => ?_)
        unfold OpOk
        go_simp
        rw [HR.out]
        exact ⟨hr, rfl⟩
      refine steps_cons (Bl.refl) (fun ev xw hb hc hf hfr hd hr => ?_) ?_
      · have e2 : ev (.tmp 2) = .int .i64 q := hfr 2 (by kernel_rfl)
        clear hfr hd
        show OpOk _ _ ev xw fun v w' => Bl xw w' ∧ (v = .int .i64 q)
        refine opOk_hid (fun Rp HR => ?_)
        unfold OpOk
        go_simp
        rw [HR.out]
        exact ⟨hr, rfl⟩
      refine steps_cons (Bl.refl) (fun ev xw hb hc hf hfr hd hr => ?_) ?_
      · have e32 : ev (.tmp 32) = .agg #[.slice (some ⟨b, off, none⟩) n cP, .slice B m d, .int .i64 st] := hd 4 32 (by kernel_rfl)
        have e34 : ev (.tmp 34) = .int .i64 x.ri := hd 6 34 (by kernel_rfl)
        have e36 : ev (.tmp 36) = .int .i64 x.gr := hd 8 36 (by kernel_rfl)
        have e37 : ev (.tmp 37) = .int .i64 q := hd 9 37 (by kernel_rfl)
        clear hfr hd
        show OpOk _ _ ev xw fun v w' => Bl xw w' ∧ (v = .int .i64 (firstGt (ofL P x.ri x.gr n) q))
        refine opOk_hid (fun Rp HR => ?_)
        unfold OpOk
        go_simp
        refine (following_any B b off cP d n m P st x.ri x.gr q xw HN.out (Nat.lt_of_lt_of_le hb5 hb.size) (fun i hi => (hph5 i hi).block (hb.block b hb5)) hl).mono ?_
        rintro e w'' ⟨rfl, hw⟩
        refine ⟨_, rfl, ?_⟩
        rw [HR.out]
        exact ⟨hw, rfl⟩
      refine steps_cons (Bl.refl) (fun ev xw hb hc hf hfr hd hr => ?_) ?_
      · have e29 : ev (.tmp 29) = .slice (some ⟨gx, 0, none⟩) 2 cx := hd 1 29 (by kernel_rfl)
        have e31 : ev (.tmp 31) = .int .i64 x.ri := hd 3 31 (by kernel_rfl)
        clear hfr hd
        rw [HRI.out] at e31
        show OpOk _ _ ev xw fun v w' => Bl xw w' ∧ (v = .pointer (some ⟨gx, ri, none⟩))
        refine opOk_hid (fun Rp HR => ?_)
        unfold OpOk
        go_simp
        rw [HR.out]
        exact ⟨hr, rfl⟩
      exact steps_nil
    · intro vs W11 hb11 hk
      have k1 : vs 10 = .int .i64 (firstGt (ofL P x.ri x.gr n) q) := hk 10 (by omega)
      have k2 : vs 11 = .pointer (some ⟨gx, ri, none⟩) := hk 11 (by omega)
      clear hk
      simp only [List.take_succ_cons, List.take_zero, List.drop_succ_cons, List.drop_zero, putAll, Act.put, List.setIfInBounds_toArray, List.set_cons_zero, List.set_cons_succ, k1, k2, Nat.reduceAdd]
      refine step_store_nx (by rfl) (by rfl) (by rfl) (g := gx) (i := ri) (by rfl) (by rfl) (N5.below hb11) (show ri < (c.nx).length by have := HXL.out; omega) ?_
      intro w12 N12 hg12
      have C12 := (C5.below hb11).grown hg12 (by intro e; injection e with e; exact hCx e.symm)
      have R12 := (R5.below hb11).grown hg12 (by intro e; injection e with e; exact hRx e.symm)
      have L12 := (L5.below hb11).grown hg12 (by intro e; injection e with e; exact hlx e.symm)
      have hB11 : base ≤ W11.heap.size := Nat.le_trans hB5 (Below.size hb11)
      have B12 := Below.grown (bB5.trans (Below.mono hb11 hB5)) hg12 hB11 (fun k e => by injection e with e; omega)
      have hsz12 : base ≤ w12.heap.size := Nat.le_trans hB11 hg12.size
      clear hb11 hg12
      unfold wpList
      have c0 := C12.at 0 rfl
      have c1 := C12.at 1 rfl
      have c2 := C12.at 2 rfl
      have c3 := C12.at 3 rfl
      go_wp2_with (refine step_store_ct (by rfl) (by rfl) (by rfl) (by rfl) (by rfl) R12 ?_; intro w13 R13 hg13)
      refine bodyPost_ret (results_cell rfl rfl (load_control R13)) rfl ?_
      refine ⟨gx, cx, ?_, Below.grown B12 hg13 hsz12 (fun k e => by injection e with e; omega), ?_, ?_, by omega, hlx⟩
      · rw [HBEG.out]
      · rw [HBEG.out]; exact L12.grown hg13 (by intro e; injection e with e; exact hRl e)
      · rw [HBEG.out]; exact N12.grown hg13 (by intro e; injection e with e; exact hRx e)
  · have HBEG := Lib.hid (show beginC P C n c q = ⟨c.li.set q (1, 0), x.gr, (nxL P n x.gr 2).set ri (firstGt (ofL P x.ri x.gr n) q), c.wt⟩ by unfold beginC; rw [if_neg HH.out, HX.out, if_pos h3, HRI.out, Int.toNat_natCast])
    have HXL := Lib.hid (nxL_len P n x.gr 2)
    have z3 : (c.gr != x.gr) = true := by simpa using h3
    clear h3
    go_wp2_with (refine step_store_li (by rfl) (by rfl) (by rfl) (g := gl) (i := q) (by rfl) (by rfl) L4 (by have := HL.out; omega) ?_; intro W5 L5 hg5; have C5 := C4.grown hg5 (by intro e; injection e with e; exact hCl e.symm); have X5 := X4.grown hg5 (by intro e; injection e with e; exact hPl e.symm); have J5 := J4.grown hg5 (by intro e; injection e with e; exact hJl e.symm); have c0 := C5.at 0 rfl; have c1 := C5.at 1 rfl; have c2 := C5.at 2 rfl; have c3 := C5.at 3 rfl; have xx1 := X5.at 1 rfl; have j0 := J5.at 0 rfl; have j1 := J5.at 1 rfl; have j2 := J5.at 2 rfl)
    have hps5 := X5.lt
    have bB5' : Below base w W5 := Below.grown bB4 hg5 hB4 (fun k e => by injection e with e; omega)
    have hB5' : base ≤ W5.heap.size := Nat.le_trans hB4 hg5.size
    have hb5' : b < W5.heap.size := by omega
    refine (penter_any B (some ⟨gl, 0, none⟩) (some ⟨gx, 0, none⟩) b off cP d n m n cl 2 cx P st x.gr c.gr c.wt W5 HN.out hb5' (fun i hi => (hph i hi).block (bB5'.block b hb)) hl).mono ?_
    rintro e W6 ⟨gy, rfl, hb6, hgy, N5⟩
    clear c0 c1 c2 c3 xx1 j0 j1 j2
    have hgls : gl < W5.heap.size := L5.lt
    have R5' := R4.grown hg5 (by intro e; injection e with e; exact hRl e.symm)
    have hCs := C5.lt
    have hRs := R5'.lt
    have C6 := C5.below hb6
    have L6 := L5.below hb6
    have X6 := X5.below hb6
    have J6 := J5.below hb6
    have R6 := R5'.below hb6
    have bB6 := bB5'.trans (Below.mono hb6 hB5')
    have hB6 : base ≤ W6.heap.size := Nat.le_trans hB5' (Below.size hb6)
    clear hg5 C5 L5 X5 J5 R5'
    go_wp2_with (refine step_store_ct (by rfl) (by rfl) (by rfl) (by rfl) (by rfl) C6 ?_; intro W7 C5 hg7)
    have L5 := L6.grown hg7 (by intro e; injection e with e; exact hCl e)
    have X5 := X6.grown hg7 (by intro e; injection e with e; omega)
    have J5 := J6.grown hg7 (by intro e; injection e with e; omega)
    have R5 := R6.grown hg7 (by intro e; injection e with e; omega)
    replace N5 := N5.grown hg7 (by intro e; injection e with e; omega)
    have bB5 : Below base w W7 := Below.grown bB6 hg7 hB6 (fun k e => by injection e with e; omega)
    have hB5 : base ≤ W7.heap.size := Nat.le_trans hB6 hg7.size
    have hb5 : b < W7.heap.size := by omega
    have hph5 : ∀ i, i < n → PhHere W7 b (off + i * 8) (phAt P i) := fun i hi => (hph i hi).block (bB5.block b hb)
    have hlx : gl ≠ gy := by omega
    have hCx : w.heap.size + 1 ≠ gy := by omega
    have hRx : w.heap.size + 1 + 1 ≠ gy := by omega
    have hbx : base ≤ gy := by omega
    refine wp_region_pre (R := Bl) 12 41 [fun v _ => v = .pointer (some ⟨w.heap.size + 1, 2, none⟩), fun v _ => v = .slice (some ⟨gy, 0, none⟩) 2 2, fun v _ => v = .pointer (some ⟨w.heap.size + 1 + 1 + 1, 0, none⟩), fun v _ => v = .int .i64 x.ri, fun v _ => v = .agg #[.slice (some ⟨b, off, none⟩) n cP, .slice B m d, .int .i64 st], fun v _ => v = .pointer (some ⟨w.heap.size + 1 + 1 + 1, 0, none⟩), fun v _ => v = .int .i64 x.ri, fun v _ => v = .pointer (some ⟨w.heap.size + 1 + 1 + 1, 1, none⟩), fun v _ => v = .int .i64 x.gr, fun v _ => v = .int .i64 q, fun v _ => v = .int .i64 (firstGt (ofL P x.ri x.gr n) q), fun v _ => v = .pointer (some ⟨gy, ri, none⟩)] (Bl.trans) (Bl.drew) (by kernel_rfl) (fun _ _ d _ _ h => by cases d <;> exact h) rfl (by kernel_rfl) (stay_cons (stays_v _) (stay_cons (stays_v _) (stay_cons (stays_v _) (stay_cons (stays_v _) (stay_cons (stays_v _) (stay_cons (stays_v _) (stay_cons (stays_v _) (stay_cons (stays_v _) (stay_cons (stays_v _) (stay_cons (stays_v _) (stay_cons (stays_v _) (stay_cons (stays_v _) (stay_nil))))))))))))) ?_ ?_
    · simp only [List.take_succ_cons, List.take_zero]
      refine steps_cons (Bl.refl) (fun ev xw hb hc hf hfr hd hr => ?_) ?_
      · have e4 : ev (.tmp 4) = .pointer (some ⟨w.heap.size + 1, 0, none⟩) := hfr 4 (by kernel_rfl)
        clear hfr hd
        show OpOk _ _ ev xw fun v w' => Bl xw w' ∧ (v = .pointer (some ⟨w.heap.size + 1, 2, none⟩))
        refine opOk_hid (fun Rp HR => ?_)
        unfold OpOk
        go_simp
        rw [HR.out]
        exact ⟨hr, rfl⟩
      refine steps_cons (Bl.refl) (fun ev xw hb hc hf hfr hd hr => ?_) ?_
      · have e28 : ev (.tmp 28) = .pointer (some ⟨w.heap.size + 1, 2, none⟩) := hd 0 28 (by kernel_rfl)
        clear hfr hd
        have k2 := (C5.below hb).at 2 rfl
        show OpOk _ _ ev xw fun v w' => Bl xw w' ∧ (v = .slice (some ⟨gy, 0, none⟩) 2 2)
        refine opOk_hid (fun Rp HR => ?_)
        unfold OpOk
        go_simp
        rw [HR.out]
        exact ⟨hr, rfl⟩
      refine steps_cons (Bl.refl) (fun ev xw hb hc hf hfr hd hr => ?_) ?_
      · have e7 : ev (.tmp 7) = .pointer (some ⟨w.heap.size + 1 + 1 + 1, 0, none⟩) := hfr 7 (by kernel_rfl)
        clear hfr hd
        show OpOk _ _ ev xw fun v w' => Bl xw w' ∧ (v = .pointer (some ⟨w.heap.size + 1 + 1 + 1, 0, none⟩))
        refine opOk_hid (fun Rp HR => ?_)
        unfold OpOk
        go_simp
        rw [HR.out]
        exact ⟨hr, rfl⟩
      refine steps_cons (Bl.refl) (fun ev xw hb hc hf hfr hd hr => ?_) ?_
      · have e30 : ev (.tmp 30) = .pointer (some ⟨w.heap.size + 1 + 1 + 1, 0, none⟩) := hd 2 30 (by kernel_rfl)
        clear hfr hd
        have k0 := (X5.below hb).at 0 rfl
        show OpOk _ _ ev xw fun v w' => Bl xw w' ∧ (v = .int .i64 x.ri)
        refine opOk_hid (fun Rp HR => ?_)
        unfold OpOk
        go_simp
        rw [HR.out]
        exact ⟨hr, rfl⟩
      refine steps_cons (Bl.refl) (fun ev xw hb hc hf hfr hd hr => ?_) ?_
      · have e3 : ev (.tmp 3) = .pointer (some ⟨w.heap.size, 0, none⟩) := hfr 3 (by kernel_rfl)
        clear hfr hd
        have k0 := (J5.below hb).at 0 rfl
        have k1 := (J5.below hb).at 1 rfl
        have k2 := (J5.below hb).at 2 rfl
        show OpOk _ _ ev xw fun v w' => Bl xw w' ∧ (v = .agg #[.slice (some ⟨b, off, none⟩) n cP, .slice B m d, .int .i64 st])
        refine opOk_hid (fun Rp HR => ?_)
        unfold OpOk
        go_simp
        rw [HR.out]
        exact ⟨hr, rfl⟩
      refine steps_cons (Bl.refl) (fun ev xw hb hc hf hfr hd hr => ?_) ?_
      · have e7 : ev (.tmp 7) = .pointer (some ⟨w.heap.size + 1 + 1 + 1, 0, none⟩) := hfr 7 (by kernel_rfl)
        clear hfr hd
        show OpOk _ _ ev xw fun v w' => Bl xw w' ∧ (v = .pointer (some ⟨w.heap.size + 1 + 1 + 1, 0, none⟩))
        refine opOk_hid (fun Rp HR => ?_)
        unfold OpOk
        go_simp
        rw [HR.out]
        exact ⟨hr, rfl⟩
      refine steps_cons (Bl.refl) (fun ev xw hb hc hf hfr hd hr => ?_) ?_
      · have e33 : ev (.tmp 33) = .pointer (some ⟨w.heap.size + 1 + 1 + 1, 0, none⟩) := hd 5 33 (by kernel_rfl)
        clear hfr hd
        have k0 := (X5.below hb).at 0 rfl
        show OpOk _ _ ev xw fun v w' => Bl xw w' ∧ (v = .int .i64 x.ri)
        refine opOk_hid (fun Rp HR => ?_)
        unfold OpOk
        go_simp
        rw [HR.out]
        exact ⟨hr, rfl⟩
      refine steps_cons (Bl.refl) (fun ev xw hb hc hf hfr hd hr => ?_) ?_
      · have e7 : ev (.tmp 7) = .pointer (some ⟨w.heap.size + 1 + 1 + 1, 0, none⟩) := hfr 7 (by kernel_rfl)
        clear hfr hd
        show OpOk _ _ ev xw fun v w' => Bl xw w' ∧ (v = .pointer (some ⟨w.heap.size + 1 + 1 + 1, 1, none⟩))
        refine opOk_hid (fun Rp HR => ?_)
        unfold OpOk
        go_simp
        rw [HR.out]
        exact ⟨hr, rfl⟩
      refine steps_cons (Bl.refl) (fun ev xw hb hc hf hfr hd hr => ?_) ?_
      · have e35 : ev (.tmp 35) = .pointer (some ⟨w.heap.size + 1 + 1 + 1, 1, none⟩) := hd 7 35 (by kernel_rfl)
        clear hfr hd
        have k1 := (X5.below hb).at 1 rfl
        show OpOk _ _ ev xw fun v w' => Bl xw w' ∧ (v = .int .i64 x.gr)
        refine opOk_hid (fun Rp HR => ?_)
        unfold OpOk
        go_simp
        rw [HR.out]
        exact ⟨hr, rfl⟩
      refine steps_cons (Bl.refl) (fun ev xw hb hc hf hfr hd hr => ?_) ?_
      · have e2 : ev (.tmp 2) = .int .i64 q := hfr 2 (by kernel_rfl)
        clear hfr hd
        show OpOk _ _ ev xw fun v w' => Bl xw w' ∧ (v = .int .i64 q)
        refine opOk_hid (fun Rp HR => ?_)
        unfold OpOk
        go_simp
        rw [HR.out]
        exact ⟨hr, rfl⟩
      refine steps_cons (Bl.refl) (fun ev xw hb hc hf hfr hd hr => ?_) ?_
      · have e32 : ev (.tmp 32) = .agg #[.slice (some ⟨b, off, none⟩) n cP, .slice B m d, .int .i64 st] := hd 4 32 (by kernel_rfl)
        have e34 : ev (.tmp 34) = .int .i64 x.ri := hd 6 34 (by kernel_rfl)
        have e36 : ev (.tmp 36) = .int .i64 x.gr := hd 8 36 (by kernel_rfl)
        have e37 : ev (.tmp 37) = .int .i64 q := hd 9 37 (by kernel_rfl)
        clear hfr hd
        show OpOk _ _ ev xw fun v w' => Bl xw w' ∧ (v = .int .i64 (firstGt (ofL P x.ri x.gr n) q))
        refine opOk_hid (fun Rp HR => ?_)
        unfold OpOk
        go_simp
        refine (following_any B b off cP d n m P st x.ri x.gr q xw HN.out (Nat.lt_of_lt_of_le hb5 hb.size) (fun i hi => (hph5 i hi).block (hb.block b hb5)) hl).mono ?_
        rintro e w'' ⟨rfl, hw⟩
        refine ⟨_, rfl, ?_⟩
        rw [HR.out]
        exact ⟨hw, rfl⟩
      refine steps_cons (Bl.refl) (fun ev xw hb hc hf hfr hd hr => ?_) ?_
      · have e29 : ev (.tmp 29) = .slice (some ⟨gy, 0, none⟩) 2 2 := hd 1 29 (by kernel_rfl)
        have e31 : ev (.tmp 31) = .int .i64 x.ri := hd 3 31 (by kernel_rfl)
        clear hfr hd
        rw [HRI.out] at e31
        show OpOk _ _ ev xw fun v w' => Bl xw w' ∧ (v = .pointer (some ⟨gy, ri, none⟩))
        refine opOk_hid (fun Rp HR => ?_)
        unfold OpOk
        go_simp
        rw [HR.out]
        exact ⟨hr, rfl⟩
      exact steps_nil
    · intro vs W11 hb11 hk
      have k1 : vs 10 = .int .i64 (firstGt (ofL P x.ri x.gr n) q) := hk 10 (by omega)
      have k2 : vs 11 = .pointer (some ⟨gy, ri, none⟩) := hk 11 (by omega)
      clear hk
      simp only [List.take_succ_cons, List.take_zero, List.drop_succ_cons, List.drop_zero, putAll, Act.put, List.setIfInBounds_toArray, List.set_cons_zero, List.set_cons_succ, k1, k2, Nat.reduceAdd]
      refine step_store_nx (by rfl) (by rfl) (by rfl) (g := gy) (i := ri) (by rfl) (by rfl) (N5.below hb11) (show ri < (nxL P n x.gr 2).length by have := HXL.out; omega) ?_
      intro w12 N12 hg12
      have C12 := (C5.below hb11).grown hg12 (by intro e; injection e with e; exact hCx e.symm)
      have R12 := (R5.below hb11).grown hg12 (by intro e; injection e with e; exact hRx e.symm)
      have L12 := (L5.below hb11).grown hg12 (by intro e; injection e with e; exact hlx e.symm)
      have hB11 : base ≤ W11.heap.size := Nat.le_trans hB5 (Below.size hb11)
      have B12 := Below.grown (bB5.trans (Below.mono hb11 hB5)) hg12 hB11 (fun k e => by injection e with e; omega)
      have hsz12 : base ≤ w12.heap.size := Nat.le_trans hB11 hg12.size
      clear hb11 hg12
      unfold wpList
      have c0 := C12.at 0 rfl
      have c1 := C12.at 1 rfl
      have c2 := C12.at 2 rfl
      have c3 := C12.at 3 rfl
      go_wp2_with (refine step_store_ct (by rfl) (by rfl) (by rfl) (by rfl) (by rfl) R12 ?_; intro w13 R13 hg13)
      refine bodyPost_ret (results_cell rfl rfl (load_control R13)) rfl ?_
      refine ⟨gy, 2, ?_, Below.grown B12 hg13 hsz12 (fun k e => by injection e with e; omega), ?_, ?_, by omega, hlx⟩
      · rw [HBEG.out]
      · rw [HBEG.out]; exact L12.grown hg13 (by intro e; injection e with e; exact hRl e)
      · rw [HBEG.out]; exact N12.grown hg13 (by intro e; injection e with e; exact hRx e)
end Go.Proofs.Ytkpbkahmbbkcdaa
