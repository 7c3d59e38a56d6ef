/-
  A phase begins, if nothing hinders it. Conditions: as many rows and lights as phases.
-/
import Derived.Test.YtkpbkahmbbkcdaaCa
namespace Go.Proofs.Ytkpbkahmbbkcdaa
open Go.ChangeShapes Go.WideShapes Go.RowKit
set_option linter.unusedVariables false

theorem Phs.low {w w' : World} {B : Nat} {A : Option Addr} {P : List Ph} (h : Phs w B A P) (hb : Below B w w') (hB : B ≤ w.heap.size) : Phs w' w'.heap.size A P := fun h0 => by
  obtain ⟨b, off, rfl, hbB, hc⟩ := h h0
  exact ⟨b, off, rfl, Nat.lt_of_lt_of_le hbB (Nat.le_trans hB hb.size), fun i hi => (hc i hi).block (hb.block b hbB)⟩
theorem Ints.low {k : IntKind} {w w' : World} {B : Nat} {A : Option Addr} {l : List Int} (h : Ints k w B A l) (hb : Below B w w') (hB : B ≤ w.heap.size) : Ints k w' w'.heap.size A l := (h.below hb).more (Nat.le_trans hB hb.size)
theorem step_store_li {ops : Array Oper} {o : Oper} {a : Act} {w : World} {rest : List Oper} {Q : Exit → Act → World → Prop} (hgd : o.guard = none) {p v : Operand} (ho : o.op = .store 45 p v) (hd : o.dst = none) {g i : Nat} {L : List (Int × Int)} {x y : Int} (hp : a.eval p = .pointer (some ⟨g, i * 2, none⟩)) (hv : a.eval v = .agg #[.int .i64 x, .int .i64 y]) (hL : LiB w g L) (hi : i < L.length)
    (h : ∀ w' : World, LiB w' g (L.set i (x, y)) → w.grownBy w' (some g) → wpList Try.prog ops Q rest a w') :
    wpList Try.prog ops Q (o :: rest) a w := by
  unfold wpList
  have hw : Region.wanted o (yielded ops a.tmps) = true := by unfold Region.wanted; rw [hgd]
  rw [if_pos hw]
  refine .inl ?_
  obtain ⟨c0, c1, f0, f1⟩ := hL.at hi
  have hk := h _ (hL.set hi x y) (grownBy_setAt (grownBy_set w g (i * 2) _) g (i * 2 + 1) _ rfl)
  unfold Oper.wp
  simp only [execOp, ho, hp, hv]
  go_simp
  all_goals (first | exact hk | (simp [Act.put, hd]; exact hk))
theorem step_store_nx {ops : Array Oper} {o : Oper} {a : Act} {w : World} {rest : List Oper} {Q : Exit → Act → World → Prop} (hgd : o.guard = none) {p v : Operand} (ho : o.op = .store 3 p v) (hd : o.dst = none) {g i : Nat} {L : List Int} {x : Int} (hp : a.eval p = .pointer (some ⟨g, i, none⟩)) (hv : a.eval v = .int .i64 x) (hL : NxB w g L) (hi : i < L.length)
    (h : ∀ w' : World, NxB w' g (L.set i x) → w.grownBy w' (some g) → wpList Try.prog ops Q rest a w') :
    wpList Try.prog ops Q (o :: rest) a w := by
  unfold wpList
  have hw : Region.wanted o (yielded ops a.tmps) = true := by unfold Region.wanted; rw [hgd]
  rw [if_pos hw]
  refine .inl ?_
  obtain ⟨c0, f0⟩ := hL.at hi
  have hk := h _ (hL.set hi x) (grownBy_set w g i _)
  unfold Oper.wp
  simp only [execOp, ho, hp, hv]
  go_simp
  all_goals (first | exact hk | (simp [Act.put, hd]; exact hk))
set_option maxRecDepth 20000 in
set_option maxHeartbeats 4000000 in
theorem begin_any (A Bc : Option Addr) (cP d n gO B gl cl gx cx q : Nat) (P : List Ph) (C : List Int) (c : Ct) (st : Int) (w : World) (hn : P.length = n) (hP : Phs w B A P) (hCn : C.length = n) (hC : Ints .i64 w B Bc C) (hLn : c.li.length = n) (hXn : c.nx.length = 2) (hO : Out w gO B n gl cl gx cx c) (hBw : B ≤ w.heap.size) (hBO : B ≤ gO) (hlx : gl ≠ gx) (h8 : n ≤ 60) (hq : q < n) (hri : ∀ i, i < n → 0 ≤ (phAt P i).ri ∧ (phAt P i).ri ≤ 1) :
    Calls Try.prog 57 #[.agg #[.slice A n cP, .slice Bc n d, .int .i64 st], .pointer (some ⟨gO, 0, none⟩), .int .i64 q] w fun e w' => (∃ v, e = .returned v) ∧ Below B w w' ∧ ∃ gx' cx', Out w' gO B n gl cl gx' cx' (beginC P C n c q) := by
  obtain ⟨b, off, rfl, hbB0, hc0⟩ := hP (by omega)
  have HN := Lib.hid hn
  have HC := Lib.hid hCn
  have HL := Lib.hid hLn
  have HX2 := Lib.hid hXn
  clear hn hCn hLn hXn
  have bW := lat_alloc (Below.refl w.heap.size w) (.cells #[.slice (some ⟨b, off, none⟩) n cP, .slice Bc n d, .int .i64 st] 30)
  have BJ := Blk.new (w := w) (t := 30) (cs := #[.slice (some ⟨b, off, none⟩) n cP, .slice Bc n d, .int .i64 st])
  have hOW := hO.below bW
  have o0 := hOW.blk.at 0 rfl
  have hgO := hO.blk.lt
  have hqZ : (q : Int) < n := by omega
  have hgl := hO.li.lt
  go_enter Try.func57, Try.ntmps57
  go_wp2_with fail
  generalize w.alloc (.cells #[.slice (some ⟨b, off, none⟩) n cP, .slice Bc n d, .int .i64 st] 30) = W at *
  obtain ⟨gJ, hgJ⟩ : ∃ gJ, w.heap.size = gJ := ⟨_, rfl⟩
  rw [hgJ] at BJ ⊢
  have hgJO : gJ ≠ gO := by omega
  have hgJl : gJ ≠ gl := by omega
  clear o0
  go_loopw [14] (fun v wr => ∃ i : Nat, i ≤ n ∧ v = .int .i64 i ∧ Below W.heap.size W wr ∧ ∀ p, p < i → ¬ (lmp c.li p ≠ 0 ∧ hasB (at_ C p) q = true)) (fun v _ => n - (intOf v).toNat)
  case atStart => exact ⟨0, by omega, rfl, Below.refl _ _, fun p hp => absurd hp (by omega)⟩
  case round =>
    obtain ⟨i, hi, rfl, hbr, hno⟩ := hrel
    have hOr := hOW.below hbr
    have bB0 : Below B w wr := (Below.mono bW hBw).trans (Below.mono hbr (Nat.le_trans hBw bW.size))
    by_cases hlt : i < n
    · have hltZ : (i : Int) < n := by omega
      obtain ⟨l0, l1, _, _⟩ := hOr.li.at (i := i) (by have := HL.out; omega)
      have B7 := Blk.new (w := wr) (t := 45) (cs := #[.int .i64 (prAt c.li i).1, .int .i64 (prAt c.li i).2])
      have bX := lat_alloc hbr (.cells #[.int .i64 (prAt c.li i).1, .int .i64 (prAt c.li i).2] 45)
      have bBX : Below B w (wr.alloc (.cells #[.int .i64 (prAt c.li i).1, .int .i64 (prAt c.li i).2] 45)) := (Below.mono bW hBw).trans (Below.mono bX (Nat.le_trans hBw bW.size))
      have BJr := (BJ.below hbr).alloc (.cells #[.int .i64 (prAt c.li i).1, .int .i64 (prAt c.li i).2] 45)
      have hCr := hC.low bBX hBw
      have k0 := B7.at 0 rfl
      have j1 := BJr.at 1 rfl
      have HD := Lib.hid (show lmp c.li i = (prAt c.li i).1 from rfl)
      have hOX := hOr.below (lat_alloc (Below.refl _ _) (.cells #[.int .i64 (prAt c.li i).1, .int .i64 (prAt c.li i).2] 45))
      clear B7 BJr
      generalize prAt c.li i = y at *
      by_cases h2 : y.1 = 0
      · have z2 : (y.1 != 0) = false := by simpa using h2
        have H2 := Lib.hid h2
        clear h2
        go_wp2
        go_roundw
        case rel => exact ⟨i + 1, hlt, by go_num, bX, fun p hp h => by
          by_cases e : p = i
          · subst e; exact h.1 (by rw [HD.out, H2.out])
          · exact hno p (by omega) h⟩
        case measure => simp [intOf]; omega
      · have z2 : (y.1 != 0) = true := by simpa using h2
        have H2 := Lib.hid h2
        clear h2
        cases h3 : hasB (at_ C i) q with
        | false =>
          have H3 := Lib.hid h3
          clear h3
          go_wp2_with fail
          refine (rcon_c C Bc d n i q _ HC.out hCr h8 hlt hq H3.out).mono ?_
          rintro e w' ⟨rfl, rfl⟩
          go_wp2
          go_roundw
          case rel => exact ⟨i + 1, hlt, by go_num, bX, fun p hp h => by
            by_cases e : p = i
            · subst e; have := h.2; rw [H3.out] at this; cases this
            · exact hno p (by omega) h⟩
          case measure => simp [intOf]; omega
        | true =>
          have H3 := Lib.hid h3
          clear h3
          go_wp2_with fail
          refine (rcon_c C Bc d n i q _ HC.out hCr h8 hlt hq H3.out).mono ?_
          rintro e w' ⟨rfl, rfl⟩
          go_wp2
          refine bodyPost_ret (results_none rfl _ _ _) rfl ?_
          have HBEG : beginC P C n c q = c := by unfold beginC; rw [if_pos ⟨i, hlt, by rw [HD.out]; exact H2.out, H3.out⟩]
          exact ⟨⟨_, rfl⟩, bBX, gx, cx, by rw [HBEG]; exact hOX⟩
    · have hltZ : ¬ (i : Int) < n := by omega
      have HH := Lib.hid (show ¬ HinP C c.li n q by rintro ⟨p, hp, h⟩; exact hno p (by omega) h)
      clear hno
      obtain ⟨b', off', hA', hbB, hph⟩ := (hP.low bB0 hBw).at (i := q) (by have := HN.out; omega)
      injection Option.some.inj hA' with hA2 hA3 _
      subst hA2; subst hA3
      clear hA'
      obtain ⟨x, hx⟩ : ∃ x, phAt P q = x := ⟨_, rfl⟩
      rw [hx] at hph
      have HX := Lib.hid hx
      clear hx
      obtain ⟨x0, x1, x2, x3, x4, x5, x6, x7⟩ := hph
      have hrx := hri q hq
      rw [HX.out] at hrx
      obtain ⟨ri, hri'⟩ := Int.eq_ofNat_of_zero_le hrx.1
      have HRI := Lib.hid hri'
      have hri2 : ri < 2 := by omega
      have hriZ : (ri : Int) < 2 := by omega
      clear hrx hri'
      have X8a := Blk.new (w := wr) (t := 51) (cs := #[.int .i64 x.ri, .int .i64 x.gr, .int .i64 x.mn, .int .i64 x.mx, .int .i64 x.yl, .int .i64 x.rd, .int .i64 x.wk, .int .i64 x.cl])
      have hg8 := X8a.lt
      have O8a := hOr.below (lat_alloc (Below.refl _ _) (.cells #[.int .i64 x.ri, .int .i64 x.gr, .int .i64 x.mn, .int .i64 x.mx, .int .i64 x.yl, .int .i64 x.rd, .int .i64 x.wk, .int .i64 x.cl] 51))
      have J8a := (BJ.below hbr).alloc (.cells #[.int .i64 x.ri, .int .i64 x.gr, .int .i64 x.mn, .int .i64 x.mx, .int .i64 x.yl, .int .i64 x.rd, .int .i64 x.wk, .int .i64 x.cl] 51)
      have o0 := O8a.blk.at 0 rfl
      have j0 := (BJ.below hbr).at 0 rfl
      have hwr : gO < wr.heap.size ∧ gl < wr.heap.size := ⟨hOr.blk.lt, hOr.li.lt⟩
      have hWal := bB0.alloc (Nat.le_trans hBw bB0.size) (.cells #[.int .i64 x.ri, .int .i64 x.gr, .int .i64 x.mn, .int .i64 x.mx, .int .i64 x.yl, .int .i64 x.rd, .int .i64 x.wk, .int .i64 x.cl] 51)
      have hg8O : wr.heap.size ≠ gO := by omega
      have hg8l : wr.heap.size ≠ gl := by omega
      go_wp2_with (refine step_store_li (by rfl) (by rfl) (by rfl) (g := gl) (i := q) (by rfl) (by rfl) O8a.li (by have := HL.out; omega) ?_; intro W8 LI8 hg88)
      clear x0 x1 x2 x3 x4 x5 x6 x7 o0 j0
      have O8 : Out W8 gO B n gl cl gx cx ⟨c.li.set q (1, 0), c.gr, c.nx, c.wt⟩ :=
        ⟨O8a.blk.grown hg88 (by intro e; injection e with e; exact O8a.nl e), LI8, O8a.nx.grown hg88 (by intro e; injection e with e; exact hlx e), O8a.bl, O8a.bx, O8a.nl, O8a.nn⟩
      have X8 := X8a.grown hg88 (by intro e; injection e with e; exact hg8l e.symm)
      have J8 := J8a.grown hg88 (by intro e; injection e with e; exact hgJl e.symm)
      have bB8 : Below B w W8 := Below.grown hWal hg88 (Nat.le_trans hBw hWal.size) (fun k e => by injection e with e; have := hO.bl; omega)
      have hB8 : B ≤ W8.heap.size := Nat.le_trans hBw bB8.size
      clear X8a O8a J8a LI8 hg88 hWal hwr hg8l
      generalize wr.heap.size = g8 at *
      have a0 := O8.blk.laterN 1 rfl
      have a1 := X8.laterN 1 rfl
      have b1 := X8.laterN 0 rfl
      by_cases h3 : c.gr = x.gr
      · have HBEG := Lib.hid (show beginC P C n c q = ⟨c.li.set q (1, 0), x.gr, c.nx.set ri (firstGt (ofL P x.ri x.gr n) q), c.wt⟩ by unfold beginC; rw [if_neg HH.out, HX.out, if_neg (by simpa using h3), HRI.out, Int.toNat_natCast])
        have HXL := Lib.hid (show c.nx.length = 2 from HX2.out)
        have z3 : (c.gr != x.gr) = false := by simpa using h3
        have O8' : Out W8 gO B n gl cl gx cx ⟨c.li.set q (1, 0), x.gr, c.nx, c.wt⟩ := by
          have := O8; rw [show c.gr = x.gr from h3] at this; exact this
        clear h3
        refine wp_region_grow (by kernel_rfl) (by kernel_rfl) ?_
        repeat' (first
            | go_big_quiet_skip
            | (go_big_quiet_want; first
                | (go_big_quiet_op; go_big_quiet_on)
                | (refine quiet_det ?_; apply Exists.intro; refine ⟨fun w' hC => ?_, ?_⟩; (go_simp <;> (first | rfl | exact ⟨rfl, rfl⟩)); apply Exists.intro; refine ⟨?_, ?_⟩; (go_simp <;> (first | rfl | exact ⟨rfl, rfl⟩)); go_big_quiet_on)
                | (show Oper.quiet _ { dst := _, op := .call { callee := .value _, args := _, argTypes := _ }, type := _, pos := _, after := _, guard := _ } _ _ _; refine quiet_call ?_; apply Exists.intro; apply Exists.intro; refine ⟨fun w' hC => ?_, ?_⟩; (go_simp <;> (first | rfl | exact ⟨rfl, rfl⟩)); apply Exists.intro; refine ⟨fun w' hC => ?_, ?_⟩; (first

                    | fail); apply Exists.intro; refine ⟨?_, ?_⟩; (go_simp <;> (first | rfl | exact ⟨rfl, rfl⟩)); go_big_quiet_on)))
        all_goals refine wpQuiet_nil ?_
        intro w9 hb9
        have O10 := O8'.below hb9
        have X10 := X8.below hb9
        have J10 := J8.below hb9
        have bB := bB8.trans (Below.mono hb9 hB8)
        have hB10 : B ≤ w9.heap.size := Nat.le_trans hB8 (Below.size hb9)
        clear a0 a1 b1
        go_wp2_with fail
        refine wp_region_pre (R := Bl) 14 68 [fun v _ => v = .pointer (some ⟨gO, 0, none⟩), fun v _ => v = .pointer (some ⟨gO, 0, none⟩), fun v _ => v = .pointer (some ⟨gO, 2, none⟩), fun v _ => v = .slice (some ⟨gx, 0, none⟩) 2 cx, fun v _ => v = .pointer (some ⟨g8, 0, none⟩), fun v _ => v = .int .i64 x.ri, fun v _ => v = .agg #[.slice (some ⟨b, off, none⟩) n cP, .slice Bc n d, .int .i64 st], fun v _ => v = .pointer (some ⟨g8, 0, none⟩), fun v _ => v = .int .i64 x.ri, fun v _ => v = .pointer (some ⟨g8, 1, none⟩), fun v _ => v = .int .i64 x.gr, fun v _ => v = .int .i64 q, fun v _ => v = .int .i64 (firstGt (ofL P x.ri x.gr n) q), fun v _ => v = .pointer (some ⟨gx, ri, none⟩)] (Bl.trans) (Bl.drew) (by kernel_rfl) (fun _ _ d _ _ h => by cases d <;> exact h) rfl (by kernel_rfl) (stay_cons (stays_v _) (stay_cons (stays_v _) (stay_cons (stays_v _) (stay_cons (stays_v _) (stay_cons (stays_v _) (stay_cons (stays_v _) (stay_cons (stays_v _) (stay_cons (stays_v _) (stay_cons (stays_v _) (stay_cons (stays_v _) (stay_cons (stays_v _) (stay_cons (stays_v _) (stay_cons (stays_v _) (stay_cons (stays_v _) (stay_nil))))))))))))))) ?_ ?_
        · simp only [List.take_succ_cons, List.take_zero]
          refine steps_cons (Bl.refl) (fun ev xw hb hc hf hfr hd hr => ?_) ?_
          · have e1 : ev (.tmp 1) = .pointer (some ⟨gO, 0, none⟩) := hfr 1 (by kernel_rfl)
            clear hfr hd
            show OpOk _ _ ev xw fun v w' => Bl xw w' ∧ (v = .pointer (some ⟨gO, 0, none⟩))
            refine opOk_hid (fun Rp HR => ?_)
            unfold OpOk
            go_simp
            rw [HR.out]
            exact ⟨hr, rfl⟩
          refine steps_cons (Bl.refl) (fun ev xw hb hc hf hfr hd hr => ?_) ?_
          · have e54 : ev (.tmp 54) = .pointer (some ⟨gO, 0, none⟩) := hd 0 54 (by kernel_rfl)
            clear hfr hd
            show OpOk _ _ ev xw fun v w' => Bl xw w' ∧ (v = .pointer (some ⟨gO, 0, none⟩))
            refine opOk_hid (fun Rp HR => ?_)
            unfold OpOk
            go_simp
            rw [HR.out]
            exact ⟨hr, rfl⟩
          refine steps_cons (Bl.refl) (fun ev xw hb hc hf hfr hd hr => ?_) ?_
          · have e55 : ev (.tmp 55) = .pointer (some ⟨gO, 0, none⟩) := hd 1 55 (by kernel_rfl)
            clear hfr hd
            show OpOk _ _ ev xw fun v w' => Bl xw w' ∧ (v = .pointer (some ⟨gO, 2, none⟩))
            refine opOk_hid (fun Rp HR => ?_)
            unfold OpOk
            go_simp
            rw [HR.out]
            exact ⟨hr, rfl⟩
          refine steps_cons (Bl.refl) (fun ev xw hb hc hf hfr hd hr => ?_) ?_
          · have e56 : ev (.tmp 56) = .pointer (some ⟨gO, 2, none⟩) := hd 2 56 (by kernel_rfl)
            clear hfr hd
            have k2 := (O10.blk.below hb).at 2 rfl
            show OpOk _ _ ev xw fun v w' => Bl xw w' ∧ (v = .slice (some ⟨gx, 0, none⟩) 2 cx)
            refine opOk_hid (fun Rp HR => ?_)
            unfold OpOk
            go_simp
            rw [HR.out]
            exact ⟨hr, rfl⟩
          refine steps_cons (Bl.refl) (fun ev xw hb hc hf hfr hd hr => ?_) ?_
          · have e8 : ev (.tmp 8) = .pointer (some ⟨g8, 0, none⟩) := hfr 8 (by kernel_rfl)
            clear hfr hd
            show OpOk _ _ ev xw fun v w' => Bl xw w' ∧ (v = .pointer (some ⟨g8, 0, none⟩))
            refine opOk_hid (fun Rp HR => ?_)
            unfold OpOk
            go_simp
            rw [HR.out]
            exact ⟨hr, rfl⟩
          refine steps_cons (Bl.refl) (fun ev xw hb hc hf hfr hd hr => ?_) ?_
          · have e58 : ev (.tmp 58) = .pointer (some ⟨g8, 0, none⟩) := hd 4 58 (by kernel_rfl)
            clear hfr hd
            have k0 := (X10.below hb).at 0 rfl
            show OpOk _ _ ev xw fun v w' => Bl xw w' ∧ (v = .int .i64 x.ri)
            refine opOk_hid (fun Rp HR => ?_)
            unfold OpOk
            go_simp
            rw [HR.out]
            exact ⟨hr, rfl⟩
          refine steps_cons (Bl.refl) (fun ev xw hb hc hf hfr hd hr => ?_) ?_
          · have e3 : ev (.tmp 3) = .pointer (some ⟨gJ, 0, none⟩) := hfr 3 (by kernel_rfl)
            clear hfr hd
            have k0 := (J10.below hb).at 0 rfl
            have k1 := (J10.below hb).at 1 rfl
            have k2 := (J10.below hb).at 2 rfl
            show OpOk _ _ ev xw fun v w' => Bl xw w' ∧ (v = .agg #[.slice (some ⟨b, off, none⟩) n cP, .slice Bc n d, .int .i64 st])
            refine opOk_hid (fun Rp HR => ?_)
            unfold OpOk
            go_simp
            rw [HR.out]
            exact ⟨hr, rfl⟩
          refine steps_cons (Bl.refl) (fun ev xw hb hc hf hfr hd hr => ?_) ?_
          · have e8 : ev (.tmp 8) = .pointer (some ⟨g8, 0, none⟩) := hfr 8 (by kernel_rfl)
            clear hfr hd
            show OpOk _ _ ev xw fun v w' => Bl xw w' ∧ (v = .pointer (some ⟨g8, 0, none⟩))
            refine opOk_hid (fun Rp HR => ?_)
            unfold OpOk
            go_simp
            rw [HR.out]
            exact ⟨hr, rfl⟩
          refine steps_cons (Bl.refl) (fun ev xw hb hc hf hfr hd hr => ?_) ?_
          · have e61 : ev (.tmp 61) = .pointer (some ⟨g8, 0, none⟩) := hd 7 61 (by kernel_rfl)
            clear hfr hd
            have k0 := (X10.below hb).at 0 rfl
            show OpOk _ _ ev xw fun v w' => Bl xw w' ∧ (v = .int .i64 x.ri)
            refine opOk_hid (fun Rp HR => ?_)
            unfold OpOk
            go_simp
            rw [HR.out]
            exact ⟨hr, rfl⟩
          refine steps_cons (Bl.refl) (fun ev xw hb hc hf hfr hd hr => ?_) ?_
          · have e8 : ev (.tmp 8) = .pointer (some ⟨g8, 0, none⟩) := hfr 8 (by kernel_rfl)
            clear hfr hd
            show OpOk _ _ ev xw fun v w' => Bl xw w' ∧ (v = .pointer (some ⟨g8, 1, none⟩))
            refine opOk_hid (fun Rp HR => ?_)
            unfold OpOk
            go_simp
            rw [HR.out]
            exact ⟨hr, rfl⟩
          refine steps_cons (Bl.refl) (fun ev xw hb hc hf hfr hd hr => ?_) ?_
          · have e63 : ev (.tmp 63) = .pointer (some ⟨g8, 1, none⟩) := hd 9 63 (by kernel_rfl)
            clear hfr hd
            have k1 := (X10.below hb).at 1 rfl
            show OpOk _ _ ev xw fun v w' => Bl xw w' ∧ (v = .int .i64 x.gr)
            refine opOk_hid (fun Rp HR => ?_)
            unfold OpOk
            go_simp
            rw [HR.out]
            exact ⟨hr, rfl⟩
          refine steps_cons (Bl.refl) (fun ev xw hb hc hf hfr hd hr => ?_) ?_
          · have e2 : ev (.tmp 2) = .int .i64 q := hfr 2 (by kernel_rfl)
            clear hfr hd
            show OpOk _ _ ev xw fun v w' => Bl xw w' ∧ (v = .int .i64 q)
            refine opOk_hid (fun Rp HR => ?_)
            unfold OpOk
            go_simp
            rw [HR.out]
            exact ⟨hr, rfl⟩
          refine steps_cons (Bl.refl) (fun ev xw hb hc hf hfr hd hr => ?_) ?_
          · have e60 : ev (.tmp 60) = .agg #[.slice (some ⟨b, off, none⟩) n cP, .slice Bc n d, .int .i64 st] := hd 6 60 (by kernel_rfl)
            have e62 : ev (.tmp 62) = .int .i64 x.ri := hd 8 62 (by kernel_rfl)
            have e64 : ev (.tmp 64) = .int .i64 x.gr := hd 10 64 (by kernel_rfl)
            have e65 : ev (.tmp 65) = .int .i64 q := hd 11 65 (by kernel_rfl)
            clear hfr hd
            show OpOk _ _ ev xw fun v w' => Bl xw w' ∧ (v = .int .i64 (firstGt (ofL P x.ri x.gr n) q))
            refine opOk_hid (fun Rp HR => ?_)
            unfold OpOk
            go_simp
            refine (after_any (some ⟨b, off, none⟩) Bc cP d n n P st x.ri x.gr q xw HN.out (hP.low (bB.trans (Below.mono hb hB10)) hBw) h8).mono ?_
            rintro e w'' ⟨rfl, hw⟩
            refine ⟨_, rfl, ?_⟩
            rw [HR.out]
            exact ⟨hw, rfl⟩
          refine steps_cons (Bl.refl) (fun ev xw hb hc hf hfr hd hr => ?_) ?_
          · have e57 : ev (.tmp 57) = .slice (some ⟨gx, 0, none⟩) 2 cx := hd 3 57 (by kernel_rfl)
            have e59 : ev (.tmp 59) = .int .i64 x.ri := hd 5 59 (by kernel_rfl)
            clear hfr hd
            rw [HRI.out] at e59
            show OpOk _ _ ev xw fun v w' => Bl xw w' ∧ (v = .pointer (some ⟨gx, ri, none⟩))
            refine opOk_hid (fun Rp HR => ?_)
            unfold OpOk
            go_simp
            rw [HR.out]
            exact ⟨hr, rfl⟩
          exact steps_nil
        · intro vs W11 hb11 hk
          have k1 : vs 12 = .int .i64 (firstGt (ofL P x.ri x.gr n) q) := hk 12 (by omega)
          have k2 : vs 13 = .pointer (some ⟨gx, ri, none⟩) := hk 13 (by omega)
          clear hk
          simp only [List.take_succ_cons, List.take_zero, List.drop_succ_cons, List.drop_zero, putAll, Act.put, List.setIfInBounds_toArray, List.set_cons_zero, List.set_cons_succ, k1, k2, Nat.reduceAdd]
          have O11 := O10.below hb11
          refine step_store_nx (by rfl) (by rfl) (by rfl) (g := gx) (i := ri) (by rfl) (by rfl) O11.nx (show ri < (c.nx).length by have := HXL.out; omega) ?_
          intro w12 N12 hg12
          unfold wpList
          go_wp2
          refine bodyPost_end (results_none rfl _ _ _) rfl ?_
          have bB11 := bB.trans (Below.mono hb11 hB10)
          have hbx := O10.bx
          have hs11 := Below.size hb11
          refine ⟨⟨_, rfl⟩, Below.grown bB11 hg12 (Nat.le_trans hB10 hs11) (fun k e => by injection e with e; omega), gx, cx, ?_⟩
          rw [HBEG.out]
          exact ⟨O11.blk.grown hg12 (by intro e; injection e with e; exact O11.nn e), O11.li.grown hg12 (by intro e; injection e with e; exact hlx e.symm), N12, O11.bl, O11.bx, O11.nl, O11.nn⟩
      · have HBEG := Lib.hid (show beginC P C n c q = ⟨c.li.set q (1, 0), x.gr, (nxL P n x.gr 2).set ri (firstGt (ofL P x.ri x.gr n) q), c.wt⟩ by unfold beginC; rw [if_neg HH.out, HX.out, if_pos h3, HRI.out, Int.toNat_natCast])
        have HXL := Lib.hid (nxL_len P n x.gr 2)
        have z3 : (c.gr != x.gr) = true := by simpa using h3
        clear h3
        refine wp_region_grow (by kernel_rfl) (by kernel_rfl) ?_
        repeat' (first
            | go_big_quiet_skip
            | (go_big_quiet_want; first
                | (go_big_quiet_op; go_big_quiet_on)
                | (refine quiet_det ?_; apply Exists.intro; refine ⟨fun w' hC => ?_, ?_⟩; (go_simp <;> (first | rfl | exact ⟨rfl, rfl⟩)); apply Exists.intro; refine ⟨?_, ?_⟩; (go_simp <;> (first | rfl | exact ⟨rfl, rfl⟩)); go_big_quiet_on)
                | (show Oper.quiet _ { dst := _, op := .call { callee := .value _, args := _, argTypes := _ }, type := _, pos := _, after := _, guard := _ } _ _ _; refine quiet_call ?_; apply Exists.intro; apply Exists.intro; refine ⟨fun w' hC => ?_, ?_⟩; (go_simp <;> (first | rfl | exact ⟨rfl, rfl⟩)); apply Exists.intro; refine ⟨fun w' hC => ?_, ?_⟩; (first

                    | fail); apply Exists.intro; refine ⟨?_, ?_⟩; (go_simp <;> (first | rfl | exact ⟨rfl, rfl⟩)); go_big_quiet_on)))
        all_goals refine wpQuiet_nil ?_
        intro w9 hb9
        have O9 := O8.below hb9
        have X9 := X8.below hb9
        have J9 := J8.below hb9
        have bB9 := bB8.trans (Below.mono hb9 hB8)
        have hB9 : B ≤ w9.heap.size := Nat.le_trans hB8 (Below.size hb9)
        clear a0 a1 b1
        have k1 := X9.at 1 rfl
        have j0 := J9.at 0 rfl
        have j1 := J9.at 1 rfl
        have j2 := J9.at 2 rfl
        go_wp2_with fail
        refine (enter_any (some ⟨b, off, none⟩) Bc cP d n n gO P st x.gr c.gr c.wt (.slice (some ⟨gl, 0, none⟩) n cl) (.slice (some ⟨gx, 0, none⟩) 2 cx) w9 HN.out (hP.low bB9 hBw) h8 O9.blk).mono ?_
        rintro e w10 ⟨v10, gy, cy, rfl, hg10, hgy, Y10, own10⟩
        clear k1 j0 j1 j2
        have hgO9 := O9.blk.lt
        have hgl9 := O9.li.lt
        have O10 : Out w10 gO B n gl cl gy cy ⟨c.li.set q (1, 0), x.gr, nxL P n x.gr 2, c.wt⟩ := ⟨Y10, O9.li.grown hg10 (by intro e; injection e with e; exact O9.nl e.symm), own10.nxb HXL.out, O9.bl, Nat.le_trans hB9 hgy, O9.nl, by omega⟩
        have X10 := X9.grown hg10 (by intro e; injection e with e; exact hg8O e.symm)
        have J10 := J9.grown hg10 (by intro e; injection e with e; exact hgJO e.symm)
        have bB := Below.grown bB9 hg10 hB9 (fun k e => by injection e with e; omega)
        have hB10 : B ≤ w10.heap.size := Nat.le_trans hB9 hg10.size
        have hlx : gl ≠ gy := by omega
        go_wp2_with fail
        refine wp_region_pre (R := Bl) 14 68 [fun v _ => v = .pointer (some ⟨gO, 0, none⟩), fun v _ => v = .pointer (some ⟨gO, 0, none⟩), fun v _ => v = .pointer (some ⟨gO, 2, none⟩), fun v _ => v = .slice (some ⟨gy, 0, none⟩) 2 cy, fun v _ => v = .pointer (some ⟨g8, 0, none⟩), fun v _ => v = .int .i64 x.ri, fun v _ => v = .agg #[.slice (some ⟨b, off, none⟩) n cP, .slice Bc n d, .int .i64 st], fun v _ => v = .pointer (some ⟨g8, 0, none⟩), fun v _ => v = .int .i64 x.ri, fun v _ => v = .pointer (some ⟨g8, 1, none⟩), fun v _ => v = .int .i64 x.gr, fun v _ => v = .int .i64 q, fun v _ => v = .int .i64 (firstGt (ofL P x.ri x.gr n) q), fun v _ => v = .pointer (some ⟨gy, ri, none⟩)] (Bl.trans) (Bl.drew) (by kernel_rfl) (fun _ _ d _ _ h => by cases d <;> exact h) rfl (by kernel_rfl) (stay_cons (stays_v _) (stay_cons (stays_v _) (stay_cons (stays_v _) (stay_cons (stays_v _) (stay_cons (stays_v _) (stay_cons (stays_v _) (stay_cons (stays_v _) (stay_cons (stays_v _) (stay_cons (stays_v _) (stay_cons (stays_v _) (stay_cons (stays_v _) (stay_cons (stays_v _) (stay_cons (stays_v _) (stay_cons (stays_v _) (stay_nil))))))))))))))) ?_ ?_
        · simp only [List.take_succ_cons, List.take_zero]
          refine steps_cons (Bl.refl) (fun ev xw hb hc hf hfr hd hr => ?_) ?_
          · have e1 : ev (.tmp 1) = .pointer (some ⟨gO, 0, none⟩) := hfr 1 (by kernel_rfl)
            clear hfr hd
            show OpOk _ _ ev xw fun v w' => Bl xw w' ∧ (v = .pointer (some ⟨gO, 0, none⟩))
            refine opOk_hid (fun Rp HR => ?_)
            unfold OpOk
            go_simp
            rw [HR.out]
            exact ⟨hr, rfl⟩
          refine steps_cons (Bl.refl) (fun ev xw hb hc hf hfr hd hr => ?_) ?_
          · have e54 : ev (.tmp 54) = .pointer (some ⟨gO, 0, none⟩) := hd 0 54 (by kernel_rfl)
            clear hfr hd
            show OpOk _ _ ev xw fun v w' => Bl xw w' ∧ (v = .pointer (some ⟨gO, 0, none⟩))
            refine opOk_hid (fun Rp HR => ?_)
            unfold OpOk
            go_simp
            rw [HR.out]
            exact ⟨hr, rfl⟩
          refine steps_cons (Bl.refl) (fun ev xw hb hc hf hfr hd hr => ?_) ?_
          · have e55 : ev (.tmp 55) = .pointer (some ⟨gO, 0, none⟩) := hd 1 55 (by kernel_rfl)
            clear hfr hd
            show OpOk _ _ ev xw fun v w' => Bl xw w' ∧ (v = .pointer (some ⟨gO, 2, none⟩))
            refine opOk_hid (fun Rp HR => ?_)
            unfold OpOk
            go_simp
            rw [HR.out]
            exact ⟨hr, rfl⟩
          refine steps_cons (Bl.refl) (fun ev xw hb hc hf hfr hd hr => ?_) ?_
          · have e56 : ev (.tmp 56) = .pointer (some ⟨gO, 2, none⟩) := hd 2 56 (by kernel_rfl)
            clear hfr hd
            have k2 := (O10.blk.below hb).at 2 rfl
            show OpOk _ _ ev xw fun v w' => Bl xw w' ∧ (v = .slice (some ⟨gy, 0, none⟩) 2 cy)
            refine opOk_hid (fun Rp HR => ?_)
            unfold OpOk
            go_simp
            rw [HR.out]
            exact ⟨hr, rfl⟩
          refine steps_cons (Bl.refl) (fun ev xw hb hc hf hfr hd hr => ?_) ?_
          · have e8 : ev (.tmp 8) = .pointer (some ⟨g8, 0, none⟩) := hfr 8 (by kernel_rfl)
            clear hfr hd
            show OpOk _ _ ev xw fun v w' => Bl xw w' ∧ (v = .pointer (some ⟨g8, 0, none⟩))
            refine opOk_hid (fun Rp HR => ?_)
            unfold OpOk
            go_simp
            rw [HR.out]
            exact ⟨hr, rfl⟩
          refine steps_cons (Bl.refl) (fun ev xw hb hc hf hfr hd hr => ?_) ?_
          · have e58 : ev (.tmp 58) = .pointer (some ⟨g8, 0, none⟩) := hd 4 58 (by kernel_rfl)
            clear hfr hd
            have k0 := (X10.below hb).at 0 rfl
            show OpOk _ _ ev xw fun v w' => Bl xw w' ∧ (v = .int .i64 x.ri)
            refine opOk_hid (fun Rp HR => ?_)
            unfold OpOk
            go_simp
            rw [HR.out]
            exact ⟨hr, rfl⟩
          refine steps_cons (Bl.refl) (fun ev xw hb hc hf hfr hd hr => ?_) ?_
          · have e3 : ev (.tmp 3) = .pointer (some ⟨gJ, 0, none⟩) := hfr 3 (by kernel_rfl)
            clear hfr hd
            have k0 := (J10.below hb).at 0 rfl
            have k1 := (J10.below hb).at 1 rfl
            have k2 := (J10.below hb).at 2 rfl
            show OpOk _ _ ev xw fun v w' => Bl xw w' ∧ (v = .agg #[.slice (some ⟨b, off, none⟩) n cP, .slice Bc n d, .int .i64 st])
            refine opOk_hid (fun Rp HR => ?_)
            unfold OpOk
            go_simp
            rw [HR.out]
            exact ⟨hr, rfl⟩
          refine steps_cons (Bl.refl) (fun ev xw hb hc hf hfr hd hr => ?_) ?_
          · have e8 : ev (.tmp 8) = .pointer (some ⟨g8, 0, none⟩) := hfr 8 (by kernel_rfl)
            clear hfr hd
            show OpOk _ _ ev xw fun v w' => Bl xw w' ∧ (v = .pointer (some ⟨g8, 0, none⟩))
            refine opOk_hid (fun Rp HR => ?_)
            unfold OpOk
            go_simp
            rw [HR.out]
            exact ⟨hr, rfl⟩
          refine steps_cons (Bl.refl) (fun ev xw hb hc hf hfr hd hr => ?_) ?_
          · have e61 : ev (.tmp 61) = .pointer (some ⟨g8, 0, none⟩) := hd 7 61 (by kernel_rfl)
            clear hfr hd
            have k0 := (X10.below hb).at 0 rfl
            show OpOk _ _ ev xw fun v w' => Bl xw w' ∧ (v = .int .i64 x.ri)
            refine opOk_hid (fun Rp HR => ?_)
            unfold OpOk
            go_simp
            rw [HR.out]
            exact ⟨hr, rfl⟩
          refine steps_cons (Bl.refl) (fun ev xw hb hc hf hfr hd hr => ?_) ?_
          · have e8 : ev (.tmp 8) = .pointer (some ⟨g8, 0, none⟩) := hfr 8 (by kernel_rfl)
            clear hfr hd
            show OpOk _ _ ev xw fun v w' => Bl xw w' ∧ (v = .pointer (some ⟨g8, 1, none⟩))
            refine opOk_hid (fun Rp HR => ?_)
            unfold OpOk
            go_simp
            rw [HR.out]
            exact ⟨hr, rfl⟩
          refine steps_cons (Bl.refl) (fun ev xw hb hc hf hfr hd hr => ?_) ?_
          · have e63 : ev (.tmp 63) = .pointer (some ⟨g8, 1, none⟩) := hd 9 63 (by kernel_rfl)
            clear hfr hd
            have k1 := (X10.below hb).at 1 rfl
            show OpOk _ _ ev xw fun v w' => Bl xw w' ∧ (v = .int .i64 x.gr)
            refine opOk_hid (fun Rp HR => ?_)
            unfold OpOk
            go_simp
            rw [HR.out]
            exact ⟨hr, rfl⟩
          refine steps_cons (Bl.refl) (fun ev xw hb hc hf hfr hd hr => ?_) ?_
          · have e2 : ev (.tmp 2) = .int .i64 q := hfr 2 (by kernel_rfl)
            clear hfr hd
            show OpOk _ _ ev xw fun v w' => Bl xw w' ∧ (v = .int .i64 q)
            refine opOk_hid (fun Rp HR => ?_)
            unfold OpOk
            go_simp
            rw [HR.out]
            exact ⟨hr, rfl⟩
          refine steps_cons (Bl.refl) (fun ev xw hb hc hf hfr hd hr => ?_) ?_
          · have e60 : ev (.tmp 60) = .agg #[.slice (some ⟨b, off, none⟩) n cP, .slice Bc n d, .int .i64 st] := hd 6 60 (by kernel_rfl)
            have e62 : ev (.tmp 62) = .int .i64 x.ri := hd 8 62 (by kernel_rfl)
            have e64 : ev (.tmp 64) = .int .i64 x.gr := hd 10 64 (by kernel_rfl)
            have e65 : ev (.tmp 65) = .int .i64 q := hd 11 65 (by kernel_rfl)
            clear hfr hd
            show OpOk _ _ ev xw fun v w' => Bl xw w' ∧ (v = .int .i64 (firstGt (ofL P x.ri x.gr n) q))
            refine opOk_hid (fun Rp HR => ?_)
            unfold OpOk
            go_simp
            refine (after_any (some ⟨b, off, none⟩) Bc cP d n n P st x.ri x.gr q xw HN.out (hP.low (bB.trans (Below.mono hb hB10)) hBw) h8).mono ?_
            rintro e w'' ⟨rfl, hw⟩
            refine ⟨_, rfl, ?_⟩
            rw [HR.out]
            exact ⟨hw, rfl⟩
          refine steps_cons (Bl.refl) (fun ev xw hb hc hf hfr hd hr => ?_) ?_
          · have e57 : ev (.tmp 57) = .slice (some ⟨gy, 0, none⟩) 2 cy := hd 3 57 (by kernel_rfl)
            have e59 : ev (.tmp 59) = .int .i64 x.ri := hd 5 59 (by kernel_rfl)
            clear hfr hd
            rw [HRI.out] at e59
            show OpOk _ _ ev xw fun v w' => Bl xw w' ∧ (v = .pointer (some ⟨gy, ri, none⟩))
            refine opOk_hid (fun Rp HR => ?_)
            unfold OpOk
            go_simp
            rw [HR.out]
            exact ⟨hr, rfl⟩
          exact steps_nil
        · intro vs W11 hb11 hk
          have k1 : vs 12 = .int .i64 (firstGt (ofL P x.ri x.gr n) q) := hk 12 (by omega)
          have k2 : vs 13 = .pointer (some ⟨gy, ri, none⟩) := hk 13 (by omega)
          clear hk
          simp only [List.take_succ_cons, List.take_zero, List.drop_succ_cons, List.drop_zero, putAll, Act.put, List.setIfInBounds_toArray, List.set_cons_zero, List.set_cons_succ, k1, k2, Nat.reduceAdd]
          have O11 := O10.below hb11
          refine step_store_nx (by rfl) (by rfl) (by rfl) (g := gy) (i := ri) (by rfl) (by rfl) O11.nx (show ri < (nxL P n x.gr 2).length by have := HXL.out; omega) ?_
          intro w12 N12 hg12
          unfold wpList
          go_wp2
          refine bodyPost_end (results_none rfl _ _ _) rfl ?_
          have bB11 := bB.trans (Below.mono hb11 hB10)
          have hbx := O10.bx
          have hs11 := Below.size hb11
          refine ⟨⟨_, rfl⟩, Below.grown bB11 hg12 (Nat.le_trans hB10 hs11) (fun k e => by injection e with e; omega), gy, cy, ?_⟩
          rw [HBEG.out]
          exact ⟨O11.blk.grown hg12 (by intro e; injection e with e; exact O11.nn e), O11.li.grown hg12 (by intro e; injection e with e; exact hlx e.symm), N12, O11.bl, O11.bx, O11.nl, O11.nn⟩
end Go.Proofs.Ytkpbkahmbbkcdaa
