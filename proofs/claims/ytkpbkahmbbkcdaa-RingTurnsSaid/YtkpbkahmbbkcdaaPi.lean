/-
  The program's first control, its step with any target, and the comparison of equal controls. Conditions: a valid junction.
-/
import Derived.Test.YtkpbkahmbbkcdaaPt
import Derived.Test.YtkpbkahmbbkcdaaIt
import Derived.BigQuiet
namespace Go.Proofs.Ytkpbkahmbbkcdaa
open Go.ChangeShapes Go.WideShapes Go.RowKit
set_option linter.unusedVariables false

set_option maxRecDepth 20000 in
set_option maxHeartbeats 2000000 in
theorem pinit_any (A B : Option Addr) (cP d n m : Nat) (P : List Ph) (st : Int) (w : World) (hn : P.length = n) (hP : Phs w w.heap.size A P) (h1 : 0 < n) (h8 : n ≤ 60) :
    Calls Try.prog 22 #[.agg #[.slice A n cP, .slice B m d, .int .i64 st]] w fun e w' => ∃ v, e = .returned v ∧ Below w.heap.size w w' ∧ CtH w' w.heap.size n v (initC P n st) := by
  obtain ⟨ba, oa, rfl, hba, hpa⟩ := hP (by omega)
  have HN := Lib.hid hn
  clear hn
  obtain ⟨ZA, hZA, hmake⟩ := make_li n (by omega)
  have bW := lat_alloc (lat_alloc (Below.refl w.heap.size w) (.cells #[.slice (some ⟨ba, oa, none⟩) n cP, .slice B m d, .int .i64 st] 30)) (.cells #[.slice none 0 0, .int .i64 0, .slice none 0 0, .int .i64 0] 25)
  have B1 := (Blk.new (w := w) (t := 30) (cs := #[.slice (some ⟨ba, oa, none⟩) n cP, .slice B m d, .int .i64 st])).alloc (.cells #[.slice none 0 0, .int .i64 0, .slice none 0 0, .int .i64 0] 25)
  have B2 := Blk.new (w := w.alloc (.cells #[.slice (some ⟨ba, oa, none⟩) n cP, .slice B m d, .int .i64 st] 30)) (t := 25) (cs := #[.slice none 0 0, .int .i64 0, .slice none 0 0, .int .i64 0])
  rw [heap_size] at B2
  have hP1 := hP.grow bW
  go_enter Try.func22, Try.ntmps22
  go_wp2_with fail
  generalize (w.alloc (.cells #[.slice (some ⟨ba, oa, none⟩) n cP, .slice B m d, .int .i64 st] 30)).alloc (.cells #[.slice none 0 0, .int .i64 0, .slice none 0 0, .int .i64 0] 25) = W at *
  have hgg : w.heap.size + 1 < W.heap.size := B2.lt
  refine wp_region_pre (R := Bl) 8 14 [fun v _ => v = .pointer (some ⟨w.heap.size, 0, none⟩), fun v _ => v = .slice (some ⟨ba, oa, none⟩) n cP, fun v _ => v = .int .i64 n, fun v w => ∃ g : Nat, v = .slice (some ⟨g, 0, none⟩) n n ∧ LiB w g (List.replicate n (0, 0)) ∧ W.heap.size ≤ g, fun v _ => v = .pointer (some ⟨w.heap.size, 2, none⟩), fun v _ => v = .int .i64 st, fun v w => ∃ g : Nat, v = .agg #[.slice (some ⟨g, 0, none⟩) n n, .int .i64 0, .slice none 0 0, .int .i64 st] ∧ LiB w g (List.replicate n (0, 0)) ∧ W.heap.size ≤ g, fun v w => ∃ b : Nat, v = .pointer (some ⟨b, 0, none⟩) ∧ Blk w b 25 #[.slice none 0 0, .int .i64 0, .slice none 0 0, .int .i64 0] ∧ W.heap.size ≤ b] (Bl.trans) (Bl.drew) (by kernel_rfl) (fun _ _ d _ _ h => by cases d <;> exact h) rfl (by kernel_rfl) (stay_cons (stays_v _) (stay_cons (stays_v _) (stay_cons (stays_v _) (stay_cons (fun v w w1 h hb => by obtain ⟨g, h1, h2, h3⟩ := h; exact ⟨g, h1, h2.below hb, h3⟩) (stay_cons (stays_v _) (stay_cons (stays_v _) (stay_cons (fun v w w1 h hb => by obtain ⟨g, h1, h2, h3⟩ := h; exact ⟨g, h1, h2.below hb, h3⟩) (stay_cons (fun v w w1 h hb => by obtain ⟨g, h1, h2, h3⟩ := h; exact ⟨g, h1, h2.below hb, h3⟩) (stay_nil))))))))) ?_ ?_
  · simp only [List.take_succ_cons, List.take_zero]
    refine steps_cons (Bl.refl) (fun ev xw hb hc hf hfr hd hr => ?_) ?_
    · have e1 : ev (.tmp 1) = .pointer (some ⟨w.heap.size, 0, none⟩) := hfr 1 (by kernel_rfl)
      clear hfr hd
      show OpOk _ _ ev xw fun v w' => Bl xw w' ∧ (v = .pointer (some ⟨w.heap.size, 0, none⟩))
      refine opOk_hid (fun Rp HR => ?_)
      unfold OpOk
      go_simp
      rw [HR.out]
      exact ⟨hr, rfl⟩
    refine steps_cons (Bl.refl) (fun ev xw hb hc hf hfr hd hr => ?_) ?_
    · have e4 : ev (.tmp 4) = .pointer (some ⟨w.heap.size, 0, none⟩) := hd 0 4 (by kernel_rfl)
      clear hfr hd
      have k0 := (B1.below hb).at 0 rfl
      show OpOk _ _ ev xw fun v w' => Bl xw w' ∧ (v = .slice (some ⟨ba, oa, none⟩) n cP)
      refine opOk_hid (fun Rp HR => ?_)
      unfold OpOk
      go_simp
      rw [HR.out]
      exact ⟨hr, rfl⟩
    refine steps_cons (Bl.refl) (fun ev xw hb hc hf hfr hd hr => ?_) ?_
    · have e5 : ev (.tmp 5) = .slice (some ⟨ba, oa, none⟩) n cP := hd 1 5 (by kernel_rfl)
      clear hfr hd
      show OpOk _ _ ev xw fun v w' => Bl xw w' ∧ (v = .int .i64 n)
      refine opOk_hid (fun Rp HR => ?_)
      unfold OpOk
      go_simp
      rw [HR.out]
      exact ⟨hr, rfl⟩
    refine steps_cons (Bl.refl) (fun ev xw hb hc hf hfr hd hr => ?_) ?_
    · have e6 : ev (.tmp 6) = .int .i64 n := hd 2 6 (by kernel_rfl)
      clear hfr hd
      have hmk := hmake xw
      show OpOk _ _ ev xw fun v w' => Bl xw w' ∧ (∃ g : Nat, v = .slice (some ⟨g, 0, none⟩) n n ∧ LiB w' g (List.replicate n (0, 0)) ∧ W.heap.size ≤ g)
      refine opOk_hid (fun Rp HR => ?_)
      unfold OpOk
      go_simp
      rw [HR.out]
      exact ⟨lat_alloc (Below.refl _ _) _, _, rfl, ⟨_, Blk.new, fun i hi => by rw [List.length_replicate] at hi; have := hZA i hi; rw [prAt_rep hi]; exact this⟩, Below.size hb⟩
    refine steps_cons (Bl.refl) (fun ev xw hb hc hf hfr hd hr => ?_) ?_
    · have e1 : ev (.tmp 1) = .pointer (some ⟨w.heap.size, 0, none⟩) := hfr 1 (by kernel_rfl)
      clear hfr hd
      show OpOk _ _ ev xw fun v w' => Bl xw w' ∧ (v = .pointer (some ⟨w.heap.size, 2, none⟩))
      refine opOk_hid (fun Rp HR => ?_)
      unfold OpOk
      go_simp
      rw [HR.out]
      exact ⟨hr, rfl⟩
    refine steps_cons (Bl.refl) (fun ev xw hb hc hf hfr hd hr => ?_) ?_
    · have e8 : ev (.tmp 8) = .pointer (some ⟨w.heap.size, 2, none⟩) := hd 4 8 (by kernel_rfl)
      clear hfr hd
      have k2 := (B1.below hb).at 2 rfl
      show OpOk _ _ ev xw fun v w' => Bl xw w' ∧ (v = .int .i64 st)
      refine opOk_hid (fun Rp HR => ?_)
      unfold OpOk
      go_simp
      rw [HR.out]
      exact ⟨hr, rfl⟩
    refine steps_cons (Bl.refl) (fun ev xw hb hc hf hfr hd hr => ?_) ?_
    · obtain ⟨gl, e7, L7, l7⟩ : ∃ g : Nat, ev (.tmp 7) = .slice (some ⟨g, 0, none⟩) n n ∧ LiB xw g (List.replicate n (0, 0)) ∧ W.heap.size ≤ g := hd 3 7 (by kernel_rfl)
      have e9 : ev (.tmp 9) = .int .i64 st := hd 5 9 (by kernel_rfl)
      clear hfr hd
      show OpOk _ _ ev xw fun v w' => Bl xw w' ∧ (∃ g : Nat, v = .agg #[.slice (some ⟨g, 0, none⟩) n n, .int .i64 0, .slice none 0 0, .int .i64 st] ∧ LiB w' g (List.replicate n (0, 0)) ∧ W.heap.size ≤ g)
      refine opOk_hid (fun Rp HR => ?_)
      unfold OpOk
      go_simp
      rw [HR.out]
      exact ⟨hr, gl, rfl, L7, l7⟩
    refine steps_cons (Bl.refl) (fun ev xw hb hc hf hfr hd hr => ?_) ?_
    · clear hfr hd
      show OpOk _ _ ev xw fun v w' => Bl xw w' ∧ (∃ b : Nat, v = .pointer (some ⟨b, 0, none⟩) ∧ Blk w' b 25 #[.slice none 0 0, .int .i64 0, .slice none 0 0, .int .i64 0] ∧ W.heap.size ≤ b)
      refine opOk_hid (fun Rp HR => ?_)
      unfold OpOk
      go_simp
      rw [HR.out]
      exact ⟨lat_alloc (Below.refl _ _) _, _, rfl, Blk.new, Below.size hb⟩
    exact steps_nil
  · intro vs W5 hb5 hk
    obtain ⟨gl, k1, L5, l5⟩ : ∃ g : Nat, vs 6 = .agg #[.slice (some ⟨g, 0, none⟩) n n, .int .i64 0, .slice none 0 0, .int .i64 st] ∧ LiB W5 g (List.replicate n (0, 0)) ∧ W.heap.size ≤ g := hk 6 (by omega)
    obtain ⟨b, k2, X5, l3⟩ : ∃ b : Nat, vs 7 = .pointer (some ⟨b, 0, none⟩) ∧ Blk W5 b 25 #[.slice none 0 0, .int .i64 0, .slice none 0 0, .int .i64 0] ∧ W.heap.size ≤ b := hk 7 (by omega)
    clear hk
    simp only [List.take_succ_cons, List.take_zero, List.drop_succ_cons, List.drop_zero, putAll, Act.put, List.setIfInBounds_toArray, List.set_cons_zero, List.set_cons_succ, k1, k2, Nat.reduceAdd]
    have X2 := B2.below hb5
    have hgl5 := L5.lt
    have hlb : gl ≠ b := fun e => by
      obtain ⟨cs, hB, _⟩ := L5
      rw [e] at hB
      have := hB.symm.trans X5
      injection this with this; injection this with _ this; exact absurd this (by decide)
    refine step_store_ct (by rfl) (by rfl) (by rfl) (b := b) (by rfl) (by rfl) X5 ?_
    intro w6 Y6 hg6
    have L6 := L5.grown hg6 (by intro e; injection e with e; exact hlb e.symm)
    have Z6 := X2.grown hg6 (by intro e; injection e with e; omega)
    have B16 := (B1.below hb5).grown hg6 (by intro e; injection e with e; omega)
    have hF6 : Below W.heap.size W w6 := Below.grown hb5 hg6 (Below.size hb5) (fun k e => by injection e with e; omega)
    have hb6 := Y6.lt
    unfold wpList
    have j0 := B16.at 0 rfl
    have j1 := B16.at 1 rfl
    have j2 := B16.at 2 rfl
    have y0 := Y6.at 0 rfl
    have y1 := Y6.at 1 rfl
    have y2 := Y6.at 2 rfl
    have y3 := Y6.at 3 rfl
    go_wp2_with fail
    have bw6 := bW.trans (Below.mono hF6 bW.size)
    refine (penter_any B (some ⟨gl, 0, none⟩) none ba oa cP d n m n n 0 0 P st 0 0 st w6 HN.out (Nat.lt_of_lt_of_le hba bw6.size) (fun i hi => (hpa i (by have := HN.out; omega)).block (bw6.block ba hba)) h8).mono ?_
    rintro e w7 ⟨gx, rfl, b7, hgx, N7⟩
    clear j0 j1 j2 y0 y1 y2 y3
    have L7 := L6.below b7
    have Z7 := Z6.below b7
    have hF7 : Below W.heap.size W w7 := hF6.trans (b7.mono (Below.size hF6))
    have hs6 := Below.size hF6
    have hgl6 := L6.lt
    go_wp2_with (refine step_store_ct (by rfl) (by rfl) (by rfl) (b := w.heap.size + 1) (by rfl) (by rfl) Z7 ?_; intro w8 Z8 hg8)
    refine bodyPost_ret (results_cell rfl rfl (load_control Z8)) rfl ?_
    have hF8 : Below w.heap.size w w8 := Below.grown (bW.trans (Below.mono hF7 bW.size)) hg8 (Below.size (bW.trans (Below.mono hF7 bW.size))) (fun k e => by injection e with e; omega)
    exact ⟨_, rfl, hF8, gl, n, gx, 2, rfl, by omega, by omega, L7.grown hg8 (by intro e; injection e with e; omega), N7.grown hg8 (by intro e; injection e with e; omega)⟩

theorem pstep_any (A Bc D E : Option Addr) (cP d cL cX n : Nat) (P : List Ph) (C : List Int) (c : Ct) (st t : Int) (w : World) (hj : JunC P C n st) (hjv : JunV P C st) (hv : CtV P C n st c) (hP : Phs w w.heap.size A P) (hC : Ints .i64 w w.heap.size Bc C) (hcP : n ≤ cP) (hL : Prs w w.heap.size D c.li) (hX : Ints .i64 w w.heap.size E c.nx) :
    Calls Try.prog 25 #[.agg #[.slice A n cP, .slice Bc n d, .int .i64 st], .agg #[.slice D n cL, .int .i64 c.gr, .slice E 2 cX, .int .i64 c.wt], .int .i64 t] w fun e w' => ∃ v, e = .returned v ∧ Below w.heap.size w w' ∧ CtH w' w.heap.size n v (stepC P C n c t) := by
  have hn := hj.len
  obtain ⟨b, off, rfl, hb, hph⟩ := hP (by have := hj.h1; omega)
  have hph' : ∀ i, i < n → PhHere w b (off + i * 8) (phAt P i) := fun i hi => hph i (by omega)
  by_cases hw : 0 < c.wt
  · exact pstep_wait Bc D E b off cP d cL cX n P C c st t w hj hjv hv hb hph' hC hcP hL hX hw
  · by_cases ht : 0 ≤ t ∧ t < n
    · obtain ⟨T, rfl⟩ := Int.eq_ofNat_of_zero_le ht.1
      exact pstep_on Bc D E b off cP d cL cX n P C c st T w hj hjv hv hb hph' hC hcP hL hX hw (by omega)
    · exact pstep_off Bc D E b off cP d cL cX n P C c st t w hj hjv hv hb hph' hC hcP hL hX hw ht
end Go.Proofs.Ytkpbkahmbbkcdaa
namespace Go.Proofs.Ytkpbkahmbbkcdaa
open Go.ChangeShapes Go.WideShapes Go.RowKit
set_option linter.unusedVariables false

set_option maxHeartbeats 4000000 in
theorem same_t (gl cl gx cx gl' cl' gx' cx' n : Nat) (c : Ct) (w : World) (hLn : c.li.length = n) (hXn : c.nx.length = 2) (h8 : n ≤ 60) (L : LiB w gl c.li) (N : NxB w gx c.nx) (L' : LiB w gl' c.li) (N' : NxB w gx' c.nx) :
    Calls Try.prog 21 #[.agg #[.slice (some ⟨gl, 0, none⟩) n cl, .int .i64 c.gr, .slice (some ⟨gx, 0, none⟩) 2 cx, .int .i64 c.wt], .agg #[.slice (some ⟨gl', 0, none⟩) n cl', .int .i64 c.gr, .slice (some ⟨gx', 0, none⟩) 2 cx', .int .i64 c.wt]] w fun e w' => e = .returned (.bool true) ∧ Below w.heap.size w w' := by
  have HL := Lib.hid hLn
  have HX := Lib.hid hXn
  clear hLn hXn
  have bW := lat_alloc (lat_alloc (Below.refl w.heap.size w) (.cells #[.slice (some ⟨gl, 0, none⟩) n cl, .int .i64 c.gr, .slice (some ⟨gx, 0, none⟩) 2 cx, .int .i64 c.wt] 25)) (.cells #[.slice (some ⟨gl', 0, none⟩) n cl', .int .i64 c.gr, .slice (some ⟨gx', 0, none⟩) 2 cx', .int .i64 c.wt] 25)
  have BA := (Blk.new (w := w) (t := 25) (cs := #[.slice (some ⟨gl, 0, none⟩) n cl, .int .i64 c.gr, .slice (some ⟨gx, 0, none⟩) 2 cx, .int .i64 c.wt])).alloc (.cells #[.slice (some ⟨gl', 0, none⟩) n cl', .int .i64 c.gr, .slice (some ⟨gx', 0, none⟩) 2 cx', .int .i64 c.wt] 25)
  have BB := Blk.new (w := w.alloc (.cells #[.slice (some ⟨gl, 0, none⟩) n cl, .int .i64 c.gr, .slice (some ⟨gx, 0, none⟩) 2 cx, .int .i64 c.wt] 25)) (t := 25) (cs := #[.slice (some ⟨gl', 0, none⟩) n cl', .int .i64 c.gr, .slice (some ⟨gx', 0, none⟩) 2 cx', .int .i64 c.wt])
  rw [heap_size] at BB
  have L1 := L.below bW
  have N1 := N.below bW
  have L1' := L'.below bW
  have N1' := N'.below bW
  go_enter Try.func21, Try.ntmps21
  go_wp2_with fail
  generalize (w.alloc (.cells #[.slice (some ⟨gl, 0, none⟩) n cl, .int .i64 c.gr, .slice (some ⟨gx, 0, none⟩) 2 cx, .int .i64 c.wt] 25)).alloc (.cells #[.slice (some ⟨gl', 0, none⟩) n cl', .int .i64 c.gr, .slice (some ⟨gx', 0, none⟩) 2 cx', .int .i64 c.wt] 25) = W at *
  clear L N L' N'
  go_loopw [42] (fun v wr => ∃ i : Nat, i ≤ n ∧ v = .int .i64 i ∧ Below W.heap.size W wr) (fun v _ => n - (intOf v).toNat)
  case atStart => exact ⟨0, by omega, rfl, Below.refl _ _⟩
  case round =>
    obtain ⟨i, hi, rfl, hbr⟩ := hrel
    by_cases hlt : i < n
    · have hltZ : (i : Int) < n := by omega
      obtain ⟨l0, l1, f0, f1⟩ := (L1.below hbr).at (i := i) (by have := HL.out; omega)
      obtain ⟨lm, hlm⟩ : ∃ lm, (prAt c.li i).1 = lm := ⟨_, rfl⟩
      obtain ⟨tk, htk⟩ : ∃ tk, (prAt c.li i).2 = tk := ⟨_, rfl⟩
      have hbx := lat_alloc (Below.refl wr.heap.size wr) (.cells #[.int .i64 lm, .int .i64 tk] 45)
      obtain ⟨m0, m1, f2, f3⟩ := ((L1'.below hbr).below hbx).at (i := i) (by have := HL.out; omega)
      have B6 := Blk.new (w := wr) (t := 45) (cs := #[.int .i64 lm, .int .i64 tk])
      have k0 := B6.at 0 rfl
      have k1 := B6.at 1 rfl
      have b0 := ((BB.below hbr).below hbx).at 0 rfl
      have bX := hbr.trans (hbx.mono hbr.size)
      rw [hlm] at l0 m0
      rw [htk] at l1 m1
      clear hlm htk f0 f1 f2 f3 B6
      go_wp2
      go_quiet (fail)
      go_wp2
      go_roundw
      case rel => exact ⟨i + 1, hlt, by go_num, below_drewN bX⟩
      case measure => simp [intOf]; omega
    · have hltZ : ¬ (i : Int) < n := by omega
      have a2 := (BA.below hbr).at 2 rfl
      go_wp2_with fail
      clear a2
      go_loopw [58] (fun v wr => ∃ r : Nat, r ≤ 2 ∧ v = .int .i64 r ∧ Below W.heap.size W wr) (fun v _ => 2 - (intOf v).toNat)
      case atStart => exact ⟨0, by omega, rfl, hbr⟩
      case round =>
        obtain ⟨r, hr, rfl, hbs⟩ := hrel
        by_cases hlr : r < 2
        · have hlrZ : (r : Int) < 2 := by omega
          have n0 := ((N1.below hbs).at (i := r) (by have := HX.out; omega)).1
          have n1 := ((N1'.below hbs).at (i := r) (by have := HX.out; omega)).1
          have b2 := (BB.below hbs).at 2 rfl
          obtain ⟨x, hx⟩ : ∃ x, at_ c.nx r = x := ⟨_, rfl⟩
          rw [hx] at n0 n1
          clear hx
          go_wp2
          go_roundw
          case rel => exact ⟨r + 1, hlr, by go_num, hbs⟩
          case measure => simp [intOf]; omega
        · have hlrZ : ¬ (r : Int) < 2 := by omega
          go_wp2
          go_ret
          exact ⟨rfl, bW.trans (hbs.mono bW.size)⟩
end Go.Proofs.Ytkpbkahmbbkcdaa
