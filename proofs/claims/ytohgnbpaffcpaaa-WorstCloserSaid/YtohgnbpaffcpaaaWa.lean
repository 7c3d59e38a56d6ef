/-
  The longest transition and Reach, of the program and of the reference. Conditions: a valid junction, a valid control.
-/
import Derived.Test.YtohgnbpaffcpaaaWt
import Derived.Test.YtohgnbpaffcpaaaTs
import Derived.Test.YtohgnbpaffcpaaaLp
namespace Go.Proofs.Ytohgnbpaffcpaaa
open Go.ChangeShapes Go.WideShapes Go.ChangeAt Go.RowKit
set_option linter.unusedVariables false

set_option maxRecDepth 20000 in
set_option maxHeartbeats 2000000 in
theorem ptrans_any (A Bc : Option Addr) (cP d n m : Nat) (P : List Ph) (st : Int) (w : World) (hn : P.length = n) (hP : Phs w w.heap.size A P) (hok : ∀ p, p < n → PhOk (phAt P p)) (hst : 0 ≤ st ∧ st ≤ 2) (h8 : n ≤ 60) :
    Calls Try.prog 12 #[.agg #[.slice A n cP, .slice Bc m d, .int .i64 st]] w fun e w' => e = .returned (.int .i64 (transV P n st)) ∧ Below w.heap.size w w' := by
  have HN := Lib.hid hn
  clear hn
  have bW := lat_alloc (Below.refl w.heap.size w) (.cells #[.slice A n cP, .slice Bc m d, .int .i64 st] 25)
  have BJ := Blk.new (w := w) (t := 25) (cs := #[.slice A n cP, .slice Bc m d, .int .i64 st])
  have j0 := BJ.at 0 rfl
  go_enter Try.func12, Try.ntmps12
  go_wp2_with fail
  have hP1 := hP.grow bW
  generalize w.alloc (.cells #[.slice A n cP, .slice Bc m d, .int .i64 st] 25) = W at *
  clear j0 hP
  go_loopw [3, 9] (fun s3 v wr => ∃ i : Nat, i ≤ n ∧ s3 = .int .i64 (longV P i) ∧ v = .int .i64 i ∧ Below W.heap.size W wr) (fun _ v _ => n - (intOf v).toNat)
  case atStart => exact ⟨0, by omega, rfl, rfl, Below.refl _ _⟩
  case round =>
    obtain ⟨i, hi, rfl, rfl, hbr⟩ := hrel
    by_cases hlt : i < n
    · as_aux_lemma =>
      have hltZ : (i : Int) < n := by omega
      obtain ⟨b, off, rfl, hbB, hph⟩ := (hP1.grow hbr).at (i := i) (by have := HN.out; omega)
      have hLB := long_bd hok i (by omega)
      have HLS := Lib.hid (show longV P (i + 1) = max (longV P i) (needV (phAt P i) + (phAt P i).yl + (phAt P i).rd) by rw [longV])
      have hx1 := needV_bd (hok i hlt)
      have hx2 := (hok i hlt).yl
      have hx3 := (hok i hlt).rd
      have HPX := Lib.hid (hok i hlt)
      generalize phAt P i = x at *
      generalize longV P i = L at *
      obtain ⟨x0, x1, x2, x3, x4, x5, x6, x7⟩ := hph
      have B5 := Blk.new (w := wr) (t := 39) (cs := #[.int .i64 x.ri, .int .i64 x.gr, .int .i64 x.mn, .int .i64 x.mx, .int .i64 x.yl, .int .i64 x.rd, .int .i64 x.wk, .int .i64 x.cl])
      have bX := lat_alloc (Below.refl wr.heap.size wr) (.cells #[.int .i64 x.ri, .int .i64 x.gr, .int .i64 x.mn, .int .i64 x.mx, .int .i64 x.yl, .int .i64 x.rd, .int .i64 x.wk, .int .i64 x.cl] 39)
      go_wp2_with fail
      clear x0 x1 x2 x3 x4 x5 x6 x7
      generalize wr.alloc (.cells #[.int .i64 x.ri, .int .i64 x.gr, .int .i64 x.mn, .int .i64 x.mx, .int .i64 x.yl, .int .i64 x.rd, .int .i64 x.wk, .int .i64 x.cl] 39) = W5 at *
      obtain ⟨g5, hg5⟩ : ∃ g5, wr.heap.size = g5 := ⟨_, rfl⟩
      rw [hg5] at B5 ⊢
      refine wp_region_pre (R := Bl) 10 28 [fun v _ => v = .int .i64 L, fun v _ => v = .agg #[.int .i64 x.ri, .int .i64 x.gr, .int .i64 x.mn, .int .i64 x.mx, .int .i64 x.yl, .int .i64 x.rd, .int .i64 x.wk, .int .i64 x.cl], fun v _ => v = .int .i64 (needV x), fun v _ => v = .pointer (some ⟨g5, 4, none⟩), fun v _ => v = .int .i64 x.yl, fun v _ => v = .int .i64 (needV x + x.yl), fun v _ => v = .pointer (some ⟨g5, 5, none⟩), fun v _ => v = .int .i64 x.rd, fun v _ => v = .int .i64 (needV x + x.yl + x.rd), fun v _ => v = .int .i64 (max L (needV x + x.yl + x.rd))] (Bl.trans) (Bl.drew) (by kernel_rfl) (fun _ _ d _ _ h => by cases d <;> exact h) rfl (by kernel_rfl) (stay_cons (stays_v _) (stay_cons (stays_v _) (stay_cons (stays_v _) (stay_cons (stays_v _) (stay_cons (stays_v _) (stay_cons (stays_v _) (stay_cons (stays_v _) (stay_cons (stays_v _) (stay_cons (stays_v _) (stay_cons (stays_v _) (stay_nil))))))))))) ?_ ?_
      · simp only [List.take_succ_cons, List.take_zero]
        refine steps_cons (Bl.refl) (fun ev xw hb hc hf hfr hd hr => ?_) ?_
        · have e3 : ev (.tmp 3) = .int .i64 L := hfr 3 (by kernel_rfl)
          clear hfr hd
          show OpOk _ _ ev xw fun v w' => Bl xw w' ∧ (v = .int .i64 L)
          refine opOk_hid (fun Rp HR => ?_)
          unfold OpOk
          go_simp
          rw [HR.out]
          exact ⟨hr, rfl⟩
        refine steps_cons (Bl.refl) (fun ev xw hb hc hf hfr hd hr => ?_) ?_
        · have e5 : ev (.tmp 5) = .pointer (some ⟨g5, 0, none⟩) := hfr 5 (by kernel_rfl)
          clear hfr hd
          have k0 := (B5.below hb).at 0 rfl
          have k1 := (B5.below hb).at 1 rfl
          have k2 := (B5.below hb).at 2 rfl
          have k3 := (B5.below hb).at 3 rfl
          have k4 := (B5.below hb).at 4 rfl
          have k5 := (B5.below hb).at 5 rfl
          have k6 := (B5.below hb).at 6 rfl
          have k7 := (B5.below hb).at 7 rfl
          show OpOk _ _ ev xw fun v w' => Bl xw w' ∧ (v = .agg #[.int .i64 x.ri, .int .i64 x.gr, .int .i64 x.mn, .int .i64 x.mx, .int .i64 x.yl, .int .i64 x.rd, .int .i64 x.wk, .int .i64 x.cl])
          refine opOk_hid (fun Rp HR => ?_)
          unfold OpOk
          go_simp
          rw [HR.out]
          exact ⟨hr, rfl⟩
        refine steps_cons (Bl.refl) (fun ev xw hb hc hf hfr hd hr => ?_) ?_
        · have e14 : ev (.tmp 14) = .agg #[.int .i64 x.ri, .int .i64 x.gr, .int .i64 x.mn, .int .i64 x.mx, .int .i64 x.yl, .int .i64 x.rd, .int .i64 x.wk, .int .i64 x.cl] := hd 1 14 (by kernel_rfl)
          clear hfr hd
          show OpOk _ _ ev xw fun v w' => Bl xw w' ∧ (v = .int .i64 (needV x))
          refine opOk_hid (fun Rp HR => ?_)
          unfold OpOk
          go_simp
          refine (lneed_any x xw HPX.out).mono ?_
          rintro e w'' ⟨rfl, hw⟩
          refine ⟨_, rfl, ?_⟩
          rw [HR.out]
          exact ⟨hw, rfl⟩
        refine steps_cons (Bl.refl) (fun ev xw hb hc hf hfr hd hr => ?_) ?_
        · have e5 : ev (.tmp 5) = .pointer (some ⟨g5, 0, none⟩) := hfr 5 (by kernel_rfl)
          clear hfr hd
          show OpOk _ _ ev xw fun v w' => Bl xw w' ∧ (v = .pointer (some ⟨g5, 4, none⟩))
          refine opOk_hid (fun Rp HR => ?_)
          unfold OpOk
          go_simp
          rw [HR.out]
          exact ⟨hr, rfl⟩
        refine steps_cons (Bl.refl) (fun ev xw hb hc hf hfr hd hr => ?_) ?_
        · have e16 : ev (.tmp 16) = .pointer (some ⟨g5, 4, none⟩) := hd 3 16 (by kernel_rfl)
          clear hfr hd
          have k4 := (B5.below hb).at 4 rfl
          show OpOk _ _ ev xw fun v w' => Bl xw w' ∧ (v = .int .i64 x.yl)
          refine opOk_hid (fun Rp HR => ?_)
          unfold OpOk
          go_simp
          rw [HR.out]
          exact ⟨hr, rfl⟩
        refine steps_cons (Bl.refl) (fun ev xw hb hc hf hfr hd hr => ?_) ?_
        · have e15 : ev (.tmp 15) = .int .i64 (needV x) := hd 2 15 (by kernel_rfl)
          have e17 : ev (.tmp 17) = .int .i64 x.yl := hd 4 17 (by kernel_rfl)
          clear hfr hd
          have zw : IntKind.i64.wrap (needV x + x.yl) = needV x + x.yl := by rw [IntKind.wrap_i64]; omega
          show OpOk _ _ ev xw fun v w' => Bl xw w' ∧ (v = .int .i64 (needV x + x.yl))
          refine opOk_hid (fun Rp HR => ?_)
          unfold OpOk
          go_simp
          rw [HR.out]
          exact ⟨hr, rfl⟩
        refine steps_cons (Bl.refl) (fun ev xw hb hc hf hfr hd hr => ?_) ?_
        · have e5 : ev (.tmp 5) = .pointer (some ⟨g5, 0, none⟩) := hfr 5 (by kernel_rfl)
          clear hfr hd
          show OpOk _ _ ev xw fun v w' => Bl xw w' ∧ (v = .pointer (some ⟨g5, 5, none⟩))
          refine opOk_hid (fun Rp HR => ?_)
          unfold OpOk
          go_simp
          rw [HR.out]
          exact ⟨hr, rfl⟩
        refine steps_cons (Bl.refl) (fun ev xw hb hc hf hfr hd hr => ?_) ?_
        · have e19 : ev (.tmp 19) = .pointer (some ⟨g5, 5, none⟩) := hd 6 19 (by kernel_rfl)
          clear hfr hd
          have k5 := (B5.below hb).at 5 rfl
          show OpOk _ _ ev xw fun v w' => Bl xw w' ∧ (v = .int .i64 x.rd)
          refine opOk_hid (fun Rp HR => ?_)
          unfold OpOk
          go_simp
          rw [HR.out]
          exact ⟨hr, rfl⟩
        refine steps_cons (Bl.refl) (fun ev xw hb hc hf hfr hd hr => ?_) ?_
        · have e18 : ev (.tmp 18) = .int .i64 (needV x + x.yl) := hd 5 18 (by kernel_rfl)
          have e20 : ev (.tmp 20) = .int .i64 x.rd := hd 7 20 (by kernel_rfl)
          clear hfr hd
          have zw : IntKind.i64.wrap (needV x + x.yl + x.rd) = needV x + x.yl + x.rd := by rw [IntKind.wrap_i64]; omega
          show OpOk _ _ ev xw fun v w' => Bl xw w' ∧ (v = .int .i64 (needV x + x.yl + x.rd))
          refine opOk_hid (fun Rp HR => ?_)
          unfold OpOk
          go_simp
          rw [HR.out]
          exact ⟨hr, rfl⟩
        refine steps_cons (Bl.refl) (fun ev xw hb hc hf hfr hd hr => ?_) ?_
        · have e13 : ev (.tmp 13) = .int .i64 L := hd 0 13 (by kernel_rfl)
          have e21 : ev (.tmp 21) = .int .i64 (needV x + x.yl + x.rd) := hd 8 21 (by kernel_rfl)
          clear hfr hd
          show OpOk _ _ ev xw fun v w' => Bl xw w' ∧ (v = .int .i64 (max L (needV x + x.yl + x.rd)))
          refine opOk_hid (fun Rp HR => ?_)
          unfold OpOk
          go_simp
          rw [HR.out]
          exact ⟨hr, by rw [show (if L < needV x + x.yl + x.rd then needV x + x.yl + x.rd else L) = max L (needV x + x.yl + x.rd) from by split <;> omega]⟩
        exact steps_nil
      · intro vs W9 hb9 hk
        have k9 : vs 9 = .int .i64 (max L (needV x + x.yl + x.rd)) := hk 9 (by omega)
        clear hk
        simp only [List.take_succ_cons, List.take_zero, List.drop_succ_cons, List.drop_zero, putAll, Act.put, List.setIfInBounds_toArray, List.set_cons_zero, List.set_cons_succ, k9, Nat.reduceAdd]
        go_wp2_with fail
        go_roundw
        case rel => exact ⟨i + 1, hlt, by rw [HLS.out], by go_num, hbr.trans (Below.mono (bX.trans (Below.mono hb9 bX.size)) (hbr.size))⟩
        case measure => simp [intOf]; omega
    · as_aux_lemma =>
      have hltZ : ¬ (i : Int) < n := by omega
      have hpn : i = n := by omega
      rw [hpn]
      have hLB := long_bd hok n (Nat.le_refl n)
      have j2 := (BJ.below hbr).at 2 rfl
      have HT := Lib.hid (show transV P n st = st + longV P n from by unfold transV; omega)
      clear hpn
      generalize longV P n = L at *
      have zw : IntKind.i64.wrap (st + L) = st + L := by rw [IntKind.wrap_i64]; omega
      go_wp2
      go_ret
      exact ⟨by rw [HT.out]; rfl, bW.trans (hbr.mono bW.size)⟩
set_option maxRecDepth 20000 in
set_option maxHeartbeats 2000000 in
theorem rtrans_any (A Bc : Option Addr) (cP d n m : Nat) (P : List Ph) (st : Int) (w : World) (hn : P.length = n) (hP : Phs w w.heap.size A P) (hok : ∀ p, p < n → PhOk (phAt P p)) (hst : 0 ≤ st ∧ st ≤ 2) (h8 : n ≤ 60) :
    Calls Try.prog 13 #[.agg #[.slice A n cP, .slice Bc m d, .int .i64 st]] w fun e w' => e = .returned (.int .i64 (transV P n st)) ∧ Below w.heap.size w w' := by
  have HN := Lib.hid hn
  clear hn
  have bW := lat_alloc (Below.refl w.heap.size w) (.cells #[.slice A n cP, .slice Bc m d, .int .i64 st] 25)
  have BJ := Blk.new (w := w) (t := 25) (cs := #[.slice A n cP, .slice Bc m d, .int .i64 st])
  have j0 := BJ.at 0 rfl
  go_enter Try.func13, Try.ntmps13
  go_wp2_with fail
  have hP1 := hP.grow bW
  generalize w.alloc (.cells #[.slice A n cP, .slice Bc m d, .int .i64 st] 25) = W at *
  clear j0 hP
  go_loopw [3, 9] (fun s3 v wr => ∃ i : Nat, i ≤ n ∧ s3 = .int .i64 (longV P i) ∧ v = .int .i64 i ∧ Below W.heap.size W wr) (fun _ v _ => n - (intOf v).toNat)
  case atStart => exact ⟨0, by omega, rfl, rfl, Below.refl _ _⟩
  case round =>
    obtain ⟨i, hi, rfl, rfl, hbr⟩ := hrel
    by_cases hlt : i < n
    · as_aux_lemma =>
      have hltZ : (i : Int) < n := by omega
      obtain ⟨b, off, rfl, hbB, hph⟩ := (hP1.grow hbr).at (i := i) (by have := HN.out; omega)
      have hLB := long_bd hok i (by omega)
      have HLS := Lib.hid (show longV P (i + 1) = max (longV P i) (needV (phAt P i) + (phAt P i).yl + (phAt P i).rd) by rw [longV])
      have hx1 := needV_bd (hok i hlt)
      have hx2 := (hok i hlt).yl
      have hx3 := (hok i hlt).rd
      have HPX := Lib.hid (hok i hlt)
      generalize phAt P i = x at *
      generalize longV P i = L at *
      obtain ⟨x0, x1, x2, x3, x4, x5, x6, x7⟩ := hph
      have B5 := Blk.new (w := wr) (t := 39) (cs := #[.int .i64 x.ri, .int .i64 x.gr, .int .i64 x.mn, .int .i64 x.mx, .int .i64 x.yl, .int .i64 x.rd, .int .i64 x.wk, .int .i64 x.cl])
      have bX := lat_alloc (Below.refl wr.heap.size wr) (.cells #[.int .i64 x.ri, .int .i64 x.gr, .int .i64 x.mn, .int .i64 x.mx, .int .i64 x.yl, .int .i64 x.rd, .int .i64 x.wk, .int .i64 x.cl] 39)
      go_wp2_with fail
      clear x0 x1 x2 x3 x4 x5 x6 x7
      generalize wr.alloc (.cells #[.int .i64 x.ri, .int .i64 x.gr, .int .i64 x.mn, .int .i64 x.mx, .int .i64 x.yl, .int .i64 x.rd, .int .i64 x.wk, .int .i64 x.cl] 39) = W5 at *
      obtain ⟨g5, hg5⟩ : ∃ g5, wr.heap.size = g5 := ⟨_, rfl⟩
      rw [hg5] at B5 ⊢
      refine wp_region_pre (R := Bl) 10 28 [fun v _ => v = .int .i64 L, fun v _ => v = .agg #[.int .i64 x.ri, .int .i64 x.gr, .int .i64 x.mn, .int .i64 x.mx, .int .i64 x.yl, .int .i64 x.rd, .int .i64 x.wk, .int .i64 x.cl], fun v _ => v = .int .i64 (needV x), fun v _ => v = .pointer (some ⟨g5, 4, none⟩), fun v _ => v = .int .i64 x.yl, fun v _ => v = .int .i64 (needV x + x.yl), fun v _ => v = .pointer (some ⟨g5, 5, none⟩), fun v _ => v = .int .i64 x.rd, fun v _ => v = .int .i64 (needV x + x.yl + x.rd), fun v _ => v = .int .i64 (max L (needV x + x.yl + x.rd))] (Bl.trans) (Bl.drew) (by kernel_rfl) (fun _ _ d _ _ h => by cases d <;> exact h) rfl (by kernel_rfl) (stay_cons (stays_v _) (stay_cons (stays_v _) (stay_cons (stays_v _) (stay_cons (stays_v _) (stay_cons (stays_v _) (stay_cons (stays_v _) (stay_cons (stays_v _) (stay_cons (stays_v _) (stay_cons (stays_v _) (stay_cons (stays_v _) (stay_nil))))))))))) ?_ ?_
      · simp only [List.take_succ_cons, List.take_zero]
        refine steps_cons (Bl.refl) (fun ev xw hb hc hf hfr hd hr => ?_) ?_
        · have e3 : ev (.tmp 3) = .int .i64 L := hfr 3 (by kernel_rfl)
          clear hfr hd
          show OpOk _ _ ev xw fun v w' => Bl xw w' ∧ (v = .int .i64 L)
          refine opOk_hid (fun Rp HR => ?_)
          unfold OpOk
          go_simp
          rw [HR.out]
          exact ⟨hr, rfl⟩
        refine steps_cons (Bl.refl) (fun ev xw hb hc hf hfr hd hr => ?_) ?_
        · have e5 : ev (.tmp 5) = .pointer (some ⟨g5, 0, none⟩) := hfr 5 (by kernel_rfl)
          clear hfr hd
          have k0 := (B5.below hb).at 0 rfl
          have k1 := (B5.below hb).at 1 rfl
          have k2 := (B5.below hb).at 2 rfl
          have k3 := (B5.below hb).at 3 rfl
          have k4 := (B5.below hb).at 4 rfl
          have k5 := (B5.below hb).at 5 rfl
          have k6 := (B5.below hb).at 6 rfl
          have k7 := (B5.below hb).at 7 rfl
          show OpOk _ _ ev xw fun v w' => Bl xw w' ∧ (v = .agg #[.int .i64 x.ri, .int .i64 x.gr, .int .i64 x.mn, .int .i64 x.mx, .int .i64 x.yl, .int .i64 x.rd, .int .i64 x.wk, .int .i64 x.cl])
          refine opOk_hid (fun Rp HR => ?_)
          unfold OpOk
          go_simp
          rw [HR.out]
          exact ⟨hr, rfl⟩
        refine steps_cons (Bl.refl) (fun ev xw hb hc hf hfr hd hr => ?_) ?_
        · have e14 : ev (.tmp 14) = .agg #[.int .i64 x.ri, .int .i64 x.gr, .int .i64 x.mn, .int .i64 x.mx, .int .i64 x.yl, .int .i64 x.rd, .int .i64 x.wk, .int .i64 x.cl] := hd 1 14 (by kernel_rfl)
          clear hfr hd
          show OpOk _ _ ev xw fun v w' => Bl xw w' ∧ (v = .int .i64 (needV x))
          refine opOk_hid (fun Rp HR => ?_)
          unfold OpOk
          go_simp
          refine (rneed_any x xw HPX.out).mono ?_
          rintro e w'' ⟨rfl, hw⟩
          refine ⟨_, rfl, ?_⟩
          rw [HR.out]
          exact ⟨hw, rfl⟩
        refine steps_cons (Bl.refl) (fun ev xw hb hc hf hfr hd hr => ?_) ?_
        · have e5 : ev (.tmp 5) = .pointer (some ⟨g5, 0, none⟩) := hfr 5 (by kernel_rfl)
          clear hfr hd
          show OpOk _ _ ev xw fun v w' => Bl xw w' ∧ (v = .pointer (some ⟨g5, 4, none⟩))
          refine opOk_hid (fun Rp HR => ?_)
          unfold OpOk
          go_simp
          rw [HR.out]
          exact ⟨hr, rfl⟩
        refine steps_cons (Bl.refl) (fun ev xw hb hc hf hfr hd hr => ?_) ?_
        · have e16 : ev (.tmp 16) = .pointer (some ⟨g5, 4, none⟩) := hd 3 16 (by kernel_rfl)
          clear hfr hd
          have k4 := (B5.below hb).at 4 rfl
          show OpOk _ _ ev xw fun v w' => Bl xw w' ∧ (v = .int .i64 x.yl)
          refine opOk_hid (fun Rp HR => ?_)
          unfold OpOk
          go_simp
          rw [HR.out]
          exact ⟨hr, rfl⟩
        refine steps_cons (Bl.refl) (fun ev xw hb hc hf hfr hd hr => ?_) ?_
        · have e15 : ev (.tmp 15) = .int .i64 (needV x) := hd 2 15 (by kernel_rfl)
          have e17 : ev (.tmp 17) = .int .i64 x.yl := hd 4 17 (by kernel_rfl)
          clear hfr hd
          have zw : IntKind.i64.wrap (needV x + x.yl) = needV x + x.yl := by rw [IntKind.wrap_i64]; omega
          show OpOk _ _ ev xw fun v w' => Bl xw w' ∧ (v = .int .i64 (needV x + x.yl))
          refine opOk_hid (fun Rp HR => ?_)
          unfold OpOk
          go_simp
          rw [HR.out]
          exact ⟨hr, rfl⟩
        refine steps_cons (Bl.refl) (fun ev xw hb hc hf hfr hd hr => ?_) ?_
        · have e5 : ev (.tmp 5) = .pointer (some ⟨g5, 0, none⟩) := hfr 5 (by kernel_rfl)
          clear hfr hd
          show OpOk _ _ ev xw fun v w' => Bl xw w' ∧ (v = .pointer (some ⟨g5, 5, none⟩))
          refine opOk_hid (fun Rp HR => ?_)
          unfold OpOk
          go_simp
          rw [HR.out]
          exact ⟨hr, rfl⟩
        refine steps_cons (Bl.refl) (fun ev xw hb hc hf hfr hd hr => ?_) ?_
        · have e19 : ev (.tmp 19) = .pointer (some ⟨g5, 5, none⟩) := hd 6 19 (by kernel_rfl)
          clear hfr hd
          have k5 := (B5.below hb).at 5 rfl
          show OpOk _ _ ev xw fun v w' => Bl xw w' ∧ (v = .int .i64 x.rd)
          refine opOk_hid (fun Rp HR => ?_)
          unfold OpOk
          go_simp
          rw [HR.out]
          exact ⟨hr, rfl⟩
        refine steps_cons (Bl.refl) (fun ev xw hb hc hf hfr hd hr => ?_) ?_
        · have e18 : ev (.tmp 18) = .int .i64 (needV x + x.yl) := hd 5 18 (by kernel_rfl)
          have e20 : ev (.tmp 20) = .int .i64 x.rd := hd 7 20 (by kernel_rfl)
          clear hfr hd
          have zw : IntKind.i64.wrap (needV x + x.yl + x.rd) = needV x + x.yl + x.rd := by rw [IntKind.wrap_i64]; omega
          show OpOk _ _ ev xw fun v w' => Bl xw w' ∧ (v = .int .i64 (needV x + x.yl + x.rd))
          refine opOk_hid (fun Rp HR => ?_)
          unfold OpOk
          go_simp
          rw [HR.out]
          exact ⟨hr, rfl⟩
        refine steps_cons (Bl.refl) (fun ev xw hb hc hf hfr hd hr => ?_) ?_
        · have e13 : ev (.tmp 13) = .int .i64 L := hd 0 13 (by kernel_rfl)
          have e21 : ev (.tmp 21) = .int .i64 (needV x + x.yl + x.rd) := hd 8 21 (by kernel_rfl)
          clear hfr hd
          show OpOk _ _ ev xw fun v w' => Bl xw w' ∧ (v = .int .i64 (max L (needV x + x.yl + x.rd)))
          refine opOk_hid (fun Rp HR => ?_)
          unfold OpOk
          go_simp
          rw [HR.out]
          exact ⟨hr, by rw [show (if L < needV x + x.yl + x.rd then needV x + x.yl + x.rd else L) = max L (needV x + x.yl + x.rd) from by split <;> omega]⟩
        exact steps_nil
      · intro vs W9 hb9 hk
        have k9 : vs 9 = .int .i64 (max L (needV x + x.yl + x.rd)) := hk 9 (by omega)
        clear hk
        simp only [List.take_succ_cons, List.take_zero, List.drop_succ_cons, List.drop_zero, putAll, Act.put, List.setIfInBounds_toArray, List.set_cons_zero, List.set_cons_succ, k9, Nat.reduceAdd]
        go_wp2_with fail
        go_roundw
        case rel => exact ⟨i + 1, hlt, by rw [HLS.out], by go_num, hbr.trans (Below.mono (bX.trans (Below.mono hb9 bX.size)) (hbr.size))⟩
        case measure => simp [intOf]; omega
    · as_aux_lemma =>
      have hltZ : ¬ (i : Int) < n := by omega
      have hpn : i = n := by omega
      rw [hpn]
      have hLB := long_bd hok n (Nat.le_refl n)
      have j2 := (BJ.below hbr).at 2 rfl
      have HT := Lib.hid (show transV P n st = longV P n + st from by unfold transV; omega)
      clear hpn
      generalize longV P n = L at *
      have zw : IntKind.i64.wrap (L + st) = L + st := by rw [IntKind.wrap_i64]; omega
      go_wp2
      go_ret
      exact ⟨by rw [HT.out]; rfl, bW.trans (hbr.mono bW.size)⟩
set_option maxRecDepth 20000 in
set_option maxHeartbeats 4000000 in
theorem preach_any (A Bc : Option Addr) (cP d cl cx gl gx n : Nat) (P : List Ph) (C : List Int) (c : Ct) (st t : Int) (w : World) (hj : JunC P C n st) (hjv : JunV P C st) (hv : CtV P C n st c) (hP : Phs w w.heap.size A P) (hC : Ints .i64 w w.heap.size Bc C) (hcP : n ≤ cP) (hL : LiB w gl c.li) (hN : NxB w gx c.nx) :
    Calls Try.prog 10 #[.agg #[.slice A n cP, .slice Bc n d, .int .i64 st], .agg #[.slice (some ⟨gl, 0, none⟩) n cl, .int .i64 (c).gr, .slice (some ⟨gx, 0, none⟩) 2 cx, .int .i64 (c).wt], .int .i64 t] w fun e w' => e = .returned (.int .i64 (reachT P C n st c t)) ∧ Below w.heap.size w w' := by
  have hs0 := w.heap.size
  have bW := lat_alloc (lat_alloc (Below.refl w.heap.size w) (.cells #[.slice A n cP, .slice Bc n d, .int .i64 st] 25)) (.cells #[.slice (some ⟨gl, 0, none⟩) n cl, .int .i64 (c).gr, .slice (some ⟨gx, 0, none⟩) 2 cx, .int .i64 (c).wt] 31)
  have BJ := (Blk.new (w := w) (t := 25) (cs := #[.slice A n cP, .slice Bc n d, .int .i64 st])).alloc (.cells #[.slice (some ⟨gl, 0, none⟩) n cl, .int .i64 (c).gr, .slice (some ⟨gx, 0, none⟩) 2 cx, .int .i64 (c).wt] 31)
  have BC := Blk.new (w := w.alloc (.cells #[.slice A n cP, .slice Bc n d, .int .i64 st] 25)) (t := 31) (cs := #[.slice (some ⟨gl, 0, none⟩) n cl, .int .i64 (c).gr, .slice (some ⟨gx, 0, none⟩) 2 cx, .int .i64 (c).wt])
  rw [heap_size] at BC
  have j0 := BJ.at 0 rfl; have j1 := BJ.at 1 rfl; have j2 := BJ.at 2 rfl
  have c0 := BC.at 0 rfl; have c1 := BC.at 1 rfl; have c2 := BC.at 2 rfl; have c3 := BC.at 3 rfl
  have L1 := hL.below bW
  have N1 := hN.below bW
  go_enter Try.func10, Try.ntmps10
  have h1 := hj.h1
  have h8 := hj.h8
  have HNP := Lib.hid hj.len
  by_cases h0 : t < 0
  · have z0 : decide (t < 0) = true := decide_eq_true h0
    go_wp2_with fail
    go_ret
    exact ⟨by unfold reachT; rw [if_neg (by omega)]; rfl, bW⟩
  by_cases hn : (n : Int) ≤ t
  · have z0 : decide (t < 0) = false := decide_eq_false h0
    have z1 : decide ((n : Int) ≤ t) = true := decide_eq_true hn
    go_wp2_with fail
    go_ret
    exact ⟨by unfold reachT; rw [if_neg (by omega)]; rfl, bW⟩
  obtain ⟨T, rfl⟩ := Int.eq_ofNat_of_zero_le (show 0 ≤ t by omega)
  have hTn : T < n := by omega
  have z0 : decide ((T : Int) < 0) = false := decide_eq_false h0
  have z1 : decide ((n : Int) ≤ (T : Int)) = false := decide_eq_false hn
  have z1n : decide (n ≤ T) = false := decide_eq_false (by omega)
  have HRT := Lib.hid (show reachT P C n st c T = reachF P C n T (transV P n st + 1).toNat 0 c by unfold reachT; rw [if_pos (by omega)]; rfl)
  have htp := trans_pos hj
  obtain ⟨M, hM⟩ : ∃ M : Nat, transV P n st = M := ⟨(transV P n st).toNat, by omega⟩
  have HM := Lib.hid hM
  rw [hM] at HRT htp
  have hMZ : (M : Int) ≤ 1002 := htp.2
  clear h0 hn hM htp
  go_wp2_with fail
  generalize (w.alloc (.cells #[.slice A n cP, .slice Bc n d, .int .i64 st] 25)).alloc (.cells #[.slice (some ⟨gl, 0, none⟩) n cl, .int .i64 (c).gr, .slice (some ⟨gx, 0, none⟩) 2 cx, .int .i64 (c).wt] 31) = W at *
  refine (pvalid_any A Bc (some ⟨gl, 0, none⟩) (some ⟨gx, 0, none⟩) cP d cl cx n P C c st W hj hjv hv (hP.grow bW) (hC.grow bW) hcP L1.prs N1.ints).mono ?_
  rintro e w3 ⟨rfl, b3⟩
  clear j0 j1 j2 c0 c1 c2 c3
  have J3 := BJ.below b3
  have C3 := BC.below b3
  have B3 := bW.trans (b3.mono bW.size)
  have j0 := J3.at 0 rfl; have j1 := J3.at 1 rfl; have j2 := J3.at 2 rfl
  go_wp2_with fail
  refine (ptrans_any A Bc cP d n n P st w3 HNP.out (hP.grow B3) hj.pok hj.st (by omega)).mono ?_
  rintro e w4 ⟨rfl, b4⟩
  rw [HM.out]
  have zw : IntKind.i64.wrap ((M : Int) + 1) = (M : Int) + 1 := by rw [IntKind.wrap_i64]; omega
  clear j0 j1 j2
  have B4 := B3.trans (b4.mono B3.size)
  have J4 := J3.below b4
  have C4 := C3.below b4
  have L4 := (L1.below b3).below b4
  have N4 := (N1.below b3).below b4
  clear b3 b4 J3 C3 B3 L1 N1 BJ BC bW
  go_wp2_with fail
  clear zw z0 z1 z1n
  go_loopw [26] (fun v wr => ∃ (i : Nat) (c' : Ct) (gl cl gx cx : Nat), i ≤ M + 1 ∧ v = .int .i64 i ∧ Below w.heap.size w wr ∧ Blk wr w.heap.size 25 #[.slice A n cP, .slice Bc n d, .int .i64 st] ∧ Blk wr (w.heap.size + 1) 31 #[.slice (some ⟨gl, 0, none⟩) n cl, .int .i64 (c').gr, .slice (some ⟨gx, 0, none⟩) 2 cx, .int .i64 (c').wt] ∧ LiB wr gl c'.li ∧ NxB wr gx c'.nx ∧ CtV P C n st c' ∧ reachF P C n T (M + 1) 0 c = reachF P C n T (M + 1 - i) i c') (fun v _ => M + 1 - (intOf v).toNat)
  case atStart => exact ⟨0, c, gl, cl, gx, cx, Nat.zero_le _, rfl, B4, J4, C4, L4, N4, hv, by simp⟩
  case round =>
    obtain ⟨i, c', gl, cl, gx, cx, hi, rfl, hbr, Jr, Cr, Lr, Nr, hvc, hre⟩ := hrel
    clear J4 C4 L4 N4 B4
    have HRE := Lib.hid hre
    clear hre
    by_cases hlt : i < M + 1
    · as_aux_lemma =>
      have hltZ : (i : Int) < (M : Int) + 1 := by omega
      have hgC := Cr.lt
      obtain ⟨l0, l1, f0, f1⟩ := Lr.at (i := T) (by rw [hvc.li]; exact hTn)
      clear f0 f1 l1
      have hTZ : (T : Int) < n := by omega
      obtain ⟨lt, hlt2⟩ : ∃ lt, (prAt c'.li T).1 = lt := ⟨_, rfl⟩
      have HLT := Lib.hid (show lmp c'.li T = lt from hlt2)
      rw [hlt2] at l0
      clear hlt2
      obtain ⟨q, hq⟩ : ∃ q, M + 1 - i = q + 1 := ⟨M - i, by omega⟩
      have HQ := Lib.hid hq
      clear hq
      have j0 := Jr.at 0 rfl; have j1 := Jr.at 1 rfl; have j2 := Jr.at 2 rfl
      have c0 := Cr.at 0 rfl; have c1 := Cr.at 1 rfl; have c2 := Cr.at 2 rfl; have c3 := Cr.at 3 rfl
      by_cases hg : lt = 1
      · have zg : (lt == 1) = true := by rw [hg]; rfl
        have HG := Lib.hid hg
        clear hg
        go_wp2_with fail
        go_ret
        exact ⟨by rw [HRT.out, show ((M : Int) + 1).toNat = M + 1 by omega, HRE.out, HQ.out, reachF, if_pos (HLT.out.trans HG.out)]; rfl, hbr⟩
      · have zg : (lt == 1) = false := by simpa using hg
        have HG := Lib.hid hg
        clear hg
        go_wp2_with fail
        refine (pstep_any A Bc (some ⟨gl, 0, none⟩) (some ⟨gx, 0, none⟩) cP d cl cx n P C c' st (T : Int) wr hj hjv hvc (hP.grow hbr) (hC.grow hbr) hcP Lr.prs Nr.ints).mono ?_
        rintro e w6 ⟨v, rfl, b6, gl2, cl2, gx2, cx2, rfl, ⟨hgl2, hcl2⟩, hgx2, L6, N6⟩
        have C6 := Cr.below b6
        have J6 := Jr.below b6
        clear j0 j1 j2 c0 c1 c2 c3 l0
        have hvs := step_v hj.rows hvc h1 hj.pok hj.ri hj.gr (T : Int)
        go_wp2_with (refine step_store_ct (by rfl) (by rfl) (by rfl) (by rfl) (by rfl) C6 ?_; intro w7 C7 hg7)
        have hl6 := L6.ne_ct C6
        have hx6 := N6.ne_ct C6
        have hF := hbr.trans (b6.mono hbr.size)
        go_roundw
        case rel => exact ⟨i + 1, _, gl2, cl2, gx2, cx2, hlt, by go_num, Below.grown hF hg7 hF.size (fun k e => by injection e with e; omega), J6.grown hg7 (by intro e; injection e with e; omega), C7, L6.grown hg7 (by intro e; injection e with e; exact hl6 e.symm), N6.grown hg7 (by intro e; injection e with e; exact hx6 e.symm), hvs, by rw [HRE.out, HQ.out, reachF, if_neg (fun h => HG.out (HLT.out.symm.trans h)), show M + 1 - (i + 1) = q by have := HQ.out; omega]; push_cast; rfl⟩
        case measure => simp [intOf]; omega
    · as_aux_lemma =>
      have hltZ : ¬ (i : Int) < (M : Int) + 1 := by omega
      have hz : M + 1 - i = 0 := by omega
      go_wp2_with fail
      go_ret
      exact ⟨by rw [HRT.out, show ((M : Int) + 1).toNat = M + 1 by omega, HRE.out, hz]; rfl, hbr⟩
set_option maxRecDepth 20000 in
set_option maxHeartbeats 4000000 in
theorem rreach_any (A Bc : Option Addr) (cP d cl cx gl gx n : Nat) (P : List Ph) (C : List Int) (c : Ct) (st t : Int) (w : World) (hj : JunC P C n st) (hjv : JunV P C st) (hv : CtV P C n st c) (hP : Phs w w.heap.size A P) (hC : Ints .i64 w w.heap.size Bc C) (hcP : n ≤ cP) (hL : LiB w gl c.li) (hN : NxB w gx c.nx) :
    Calls Try.prog 11 #[.agg #[.slice A n cP, .slice Bc n d, .int .i64 st], .agg #[.slice (some ⟨gl, 0, none⟩) n cl, .int .i64 (c).gr, .slice (some ⟨gx, 0, none⟩) 2 cx, .int .i64 (c).wt], .int .i64 t] w fun e w' => e = .returned (.int .i64 (reachT P C n st c t)) ∧ Below w.heap.size w w' := by
  have hs0 := w.heap.size
  have bW := lat_alloc (lat_alloc (Below.refl w.heap.size w) (.cells #[.slice A n cP, .slice Bc n d, .int .i64 st] 25)) (.cells #[.slice (some ⟨gl, 0, none⟩) n cl, .int .i64 (c).gr, .slice (some ⟨gx, 0, none⟩) 2 cx, .int .i64 (c).wt] 31)
  have BJ := (Blk.new (w := w) (t := 25) (cs := #[.slice A n cP, .slice Bc n d, .int .i64 st])).alloc (.cells #[.slice (some ⟨gl, 0, none⟩) n cl, .int .i64 (c).gr, .slice (some ⟨gx, 0, none⟩) 2 cx, .int .i64 (c).wt] 31)
  have BC := Blk.new (w := w.alloc (.cells #[.slice A n cP, .slice Bc n d, .int .i64 st] 25)) (t := 31) (cs := #[.slice (some ⟨gl, 0, none⟩) n cl, .int .i64 (c).gr, .slice (some ⟨gx, 0, none⟩) 2 cx, .int .i64 (c).wt])
  rw [heap_size] at BC
  have j0 := BJ.at 0 rfl; have j1 := BJ.at 1 rfl; have j2 := BJ.at 2 rfl
  have c0 := BC.at 0 rfl; have c1 := BC.at 1 rfl; have c2 := BC.at 2 rfl; have c3 := BC.at 3 rfl
  have L1 := hL.below bW
  have N1 := hN.below bW
  go_enter Try.func11, Try.ntmps11
  have h1 := hj.h1
  have h8 := hj.h8
  have HNP := Lib.hid hj.len
  by_cases h0 : t < 0
  · have z0 : decide (t < 0) = true := decide_eq_true h0
    go_wp2_with fail
    go_ret
    exact ⟨by unfold reachT; rw [if_neg (by omega)]; rfl, bW⟩
  by_cases hn : (n : Int) ≤ t
  · have z0 : decide (t < 0) = false := decide_eq_false h0
    have z1 : decide ((n : Int) ≤ t) = true := decide_eq_true hn
    go_wp2_with fail
    go_ret
    exact ⟨by unfold reachT; rw [if_neg (by omega)]; rfl, bW⟩
  obtain ⟨T, rfl⟩ := Int.eq_ofNat_of_zero_le (show 0 ≤ t by omega)
  have hTn : T < n := by omega
  have z0 : decide ((T : Int) < 0) = false := decide_eq_false h0
  have z1 : decide ((n : Int) ≤ (T : Int)) = false := decide_eq_false hn
  have z1n : decide (n ≤ T) = false := decide_eq_false (by omega)
  have HRT := Lib.hid (show reachT P C n st c T = reachF P C n T (transV P n st + 1).toNat 0 c by unfold reachT; rw [if_pos (by omega)]; rfl)
  have htp := trans_pos hj
  obtain ⟨M, hM⟩ : ∃ M : Nat, transV P n st = M := ⟨(transV P n st).toNat, by omega⟩
  have HM := Lib.hid hM
  rw [hM] at HRT htp
  have hMZ : (M : Int) ≤ 1002 := htp.2
  clear h0 hn hM htp
  go_wp2_with fail
  generalize (w.alloc (.cells #[.slice A n cP, .slice Bc n d, .int .i64 st] 25)).alloc (.cells #[.slice (some ⟨gl, 0, none⟩) n cl, .int .i64 (c).gr, .slice (some ⟨gx, 0, none⟩) 2 cx, .int .i64 (c).wt] 31) = W at *
  have B4 := bW
  have J4 := BJ
  have C4 := BC
  have L4 := L1
  have N4 := N1
  clear j0 j1 j2 c0 c1 c2 c3 BJ BC bW L1 N1 z0 z1 z1n
  go_loopw [7] (fun v wr => ∃ (i : Nat) (c' : Ct) (gl cl gx cx : Nat), i ≤ M + 1 ∧ v = .int .i64 i ∧ Below w.heap.size w wr ∧ Blk wr w.heap.size 25 #[.slice A n cP, .slice Bc n d, .int .i64 st] ∧ Blk wr (w.heap.size + 1) 31 #[.slice (some ⟨gl, 0, none⟩) n cl, .int .i64 (c').gr, .slice (some ⟨gx, 0, none⟩) 2 cx, .int .i64 (c').wt] ∧ LiB wr gl c'.li ∧ NxB wr gx c'.nx ∧ CtV P C n st c' ∧ reachF P C n T (M + 1) 0 c = reachF P C n T (M + 1 - i) i c') (fun v _ => M + 1 - (intOf v).toNat)
  case atStart => exact ⟨0, c, gl, cl, gx, cx, Nat.zero_le _, rfl, B4, J4, C4, L4, N4, hv, by simp⟩
  case round =>
    obtain ⟨i, c', gl, cl, gx, cx, hi, rfl, hbr, Jr, Cr, Lr, Nr, hvc, hre⟩ := hrel
    clear J4 C4 L4 N4 B4
    have HRE := Lib.hid hre
    clear hre
    by_cases hlt : i < M + 1
    · as_aux_lemma =>
      have j0 := Jr.at 0 rfl; have j1 := Jr.at 1 rfl; have j2 := Jr.at 2 rfl
      go_wp2_with fail
      refine (rtrans_any A Bc cP d n n P st wr HNP.out (hP.grow hbr) hj.pok hj.st (by omega)).mono ?_
      rintro e w5 ⟨rfl, b5⟩
      rw [HM.out]
      clear j0 j1 j2
      replace Jr := Jr.below b5
      replace Cr := Cr.below b5
      replace Lr := Lr.below b5
      replace Nr := Nr.below b5
      replace hbr := hbr.trans (b5.mono hbr.size)
      clear b5
      have hltZ : (i : Int) ≤ (M : Int) := by omega
      have hgC := Cr.lt
      obtain ⟨l0, l1, f0, f1⟩ := Lr.at (i := T) (by rw [hvc.li]; exact hTn)
      clear f0 f1 l1
      have hTZ : (T : Int) < n := by omega
      obtain ⟨lt, hlt2⟩ : ∃ lt, (prAt c'.li T).1 = lt := ⟨_, rfl⟩
      have HLT := Lib.hid (show lmp c'.li T = lt from hlt2)
      rw [hlt2] at l0
      clear hlt2
      obtain ⟨q, hq⟩ : ∃ q, M + 1 - i = q + 1 := ⟨M - i, by omega⟩
      have HQ := Lib.hid hq
      clear hq
      have j0 := Jr.at 0 rfl; have j1 := Jr.at 1 rfl; have j2 := Jr.at 2 rfl
      have c0 := Cr.at 0 rfl; have c1 := Cr.at 1 rfl; have c2 := Cr.at 2 rfl; have c3 := Cr.at 3 rfl
      by_cases hg : lt = 1
      · have zg : (lt == 1) = true := by rw [hg]; rfl
        have HG := Lib.hid hg
        clear hg
        go_wp2_with fail
        go_ret
        exact ⟨by rw [HRT.out, show ((M : Int) + 1).toNat = M + 1 by omega, HRE.out, HQ.out, reachF, if_pos (HLT.out.trans HG.out)]; rfl, hbr⟩
      · have zg : (lt == 1) = false := by simpa using hg
        have HG := Lib.hid hg
        clear hg
        go_wp2_with fail
        refine (cstep_any A Bc (some ⟨gl, 0, none⟩) (some ⟨gx, 0, none⟩) cP d cl cx n P C c' st (T : Int) w5 hj hvc (hP.grow hbr) (hC.grow hbr) Lr.prs Nr.ints).mono ?_
        rintro e w6 ⟨v, rfl, b6, gl2, cl2, gx2, cx2, rfl, ⟨hgl2, hcl2⟩, hgx2, L6, N6⟩
        have C6 := Cr.below b6
        have J6 := Jr.below b6
        clear j0 j1 j2 c0 c1 c2 c3 l0
        have hvs := step_v hj.rows hvc h1 hj.pok hj.ri hj.gr (T : Int)
        go_wp2_with (refine step_store_ct (by rfl) (by rfl) (by rfl) (by rfl) (by rfl) C6 ?_; intro w7 C7 hg7)
        have hl6 := L6.ne_ct C6
        have hx6 := N6.ne_ct C6
        have hF := hbr.trans (b6.mono hbr.size)
        go_roundw
        case rel => exact ⟨i + 1, _, gl2, cl2, gx2, cx2, hlt, by go_num, Below.grown hF hg7 hF.size (fun k e => by injection e with e; omega), J6.grown hg7 (by intro e; injection e with e; omega), C7, L6.grown hg7 (by intro e; injection e with e; exact hl6 e.symm), N6.grown hg7 (by intro e; injection e with e; exact hx6 e.symm), hvs, by rw [HRE.out, HQ.out, reachF, if_neg (fun h => HG.out (HLT.out.symm.trans h)), show M + 1 - (i + 1) = q by have := HQ.out; omega]; push_cast; rfl⟩
        case measure => simp [intOf]; omega
    · as_aux_lemma =>
      have j0 := Jr.at 0 rfl; have j1 := Jr.at 1 rfl; have j2 := Jr.at 2 rfl
      go_wp2_with fail
      refine (rtrans_any A Bc cP d n n P st wr HNP.out (hP.grow hbr) hj.pok hj.st (by omega)).mono ?_
      rintro e w5 ⟨rfl, b5⟩
      rw [HM.out]
      clear j0 j1 j2
      replace Jr := Jr.below b5
      replace Cr := Cr.below b5
      replace Lr := Lr.below b5
      replace Nr := Nr.below b5
      replace hbr := hbr.trans (b5.mono hbr.size)
      clear b5
      have hltZ : ¬ (i : Int) ≤ (M : Int) := by omega
      have hz : M + 1 - i = 0 := by omega
      go_wp2_with fail
      go_ret
      exact ⟨by rw [HRT.out, show ((M : Int) + 1).toNat = M + 1 by omega, HRE.out, hz]; rfl, hbr⟩
end Go.Proofs.Ytohgnbpaffcpaaa
