/-
  The program's entry into a group. Conditions: none.
-/
import Derived.Test.YtkpbkahmbbkcdaaPv
import Derived.Test.YtkpbkahmbbkcdaaVl
import Derived.Test.YtkpbkahmbbkcdaaMg
namespace Go.Proofs.Ytkpbkahmbbkcdaa
open Go.ChangeShapes Go.WideShapes Go.RowKit
set_option linter.unusedVariables false

/-- The next phases when r rings have been looked at. -/
def nxP (P : List Ph) (n : Nat) (g : Int) (r : Nat) : List Int := nxL P n g r ++ List.replicate (2 - r) 0
theorem nxP_len (P : List Ph) (n : Nat) (g : Int) (r : Nat) (hr : r ≤ 2) : (nxP P n g r).length = 2 := by
  unfold nxP; rw [List.length_append, nxL_len, List.length_replicate]; omega
theorem nxP_set (P : List Ph) (n : Nat) (g : Int) (r : Nat) (hr : r < 2) : (nxP P n g r).set r (firstGt (ofL P (r : Nat) g n) (-1)) = nxP P n g (r + 1) := by
  rcases (by omega : r = 0 ∨ r = 1) with rfl | rfl <;> rfl
theorem make_2 (w' : World) : (Instr.makeSlice 23 (.int .i64 2) (.int .i64 2)).run Try.prog w' = .ok (.slice (some ⟨w'.heap.size, 0, none⟩) 2 2) (w'.alloc (.cells #[.int .i64 0, .int .i64 0] 3)) := by
  obtain ⟨i, hi, hz1, hsz, hby⟩ := info_parts (show (Try.prog.info? 3).map (fun i => (i.zero, i.size, i.bytes)) = some (some (.int .i64 0), 1, 8) by kernel_rfl)
  have h := run_make (P := Try.prog) (w := w') 23 3 i _ Try.underlying23 hi hz1 .i64 .i64 (2 : Int) (2 : Int) (by omega) (Int.le_refl _) (by rw [hby]; omega) (by omega)
  rw [hsz, show madeCells (Value.int .i64 0).cells (Int.toNat 2 * 1) = #[.int .i64 0, .int .i64 0] by kernel_rfl] at h
  exact h
set_option maxRecDepth 20000 in
set_option maxHeartbeats 4000000 in
theorem penter_any (B A1 A2 : Option Addr) (b off cP d n m n1 m1 n2 m2 : Nat) (P : List Ph) (st g g0 wt : Int) (w : World) (hn : P.length = n) (hb : b < w.heap.size) (hph : ∀ i, i < n → PhHere w b (off + i * 8) (phAt P i)) (hl : n ≤ 60) :
    Calls Try.prog 43 #[.agg #[.slice (some ⟨b, off, none⟩) n cP, .slice B m d, .int .i64 st], .agg #[.slice A1 n1 m1, .int .i64 g0, .slice A2 n2 m2, .int .i64 wt], .int .i64 g] w fun e w' => ∃ gx : Nat, e = .returned (.agg #[.slice A1 n1 m1, .int .i64 g, .slice (some ⟨gx, 0, none⟩) 2 2, .int .i64 wt]) ∧ Below w.heap.size w w' ∧ w.heap.size ≤ gx ∧ NxB w' gx (nxL P n g 2) := by
  go_enter Try.func43, Try.ntmps43
  have hm := make_2
  go_wp2_with fail
  obtain ⟨W0, hW0⟩ : ∃ W0, W0 = (((w.alloc (.cells #[.slice (some ⟨b, off, none⟩) n cP, .slice B m d, .int .i64 st] 30)).alloc (.cells #[.slice A1 n1 m1, .int .i64 g, .slice (some ⟨w.heap.size + 1 + 1 + 1, 0, none⟩) 2 2, .int .i64 wt] 25)).alloc (.cells #[.slice none 0 0, .int .i64 0, .slice none 0 0, .int .i64 0] 25)).alloc (.cells #[.int .i64 0, .int .i64 0] 3) := ⟨_, rfl⟩
  have hsz : W0.heap.size = w.heap.size + 1 + 1 + 1 + 1 := by rw [hW0]; simp only [World.size_alloc]
  have hB0 : Below w.heap.size w W0 := by
    rw [hW0]
    exact lat_alloc (lat_alloc (lat_alloc (lat_alloc (Below.refl w.heap.size w) _) _) _) _
  have bJ : Blk W0 w.heap.size 30 #[.slice (some ⟨b, off, none⟩) n cP, .slice B m d, .int .i64 st] := by
    have := (((Blk.new (w := w) (t := 30) (cs := #[.slice (some ⟨b, off, none⟩) n cP, .slice B m d, .int .i64 st])).alloc (.cells #[.slice A1 n1 m1, .int .i64 g, .slice (some ⟨w.heap.size + 1 + 1 + 1, 0, none⟩) 2 2, .int .i64 wt] 25)).alloc (.cells #[.slice none 0 0, .int .i64 0, .slice none 0 0, .int .i64 0] 25)).alloc (.cells #[.int .i64 0, .int .i64 0] 3)
    rw [← hW0] at this; simpa only [World.size_alloc] using this
  have bC : Blk W0 (w.heap.size + 1) 25 #[.slice A1 n1 m1, .int .i64 g, .slice (some ⟨w.heap.size + 1 + 1 + 1, 0, none⟩) 2 2, .int .i64 wt] := by
    have := ((Blk.new (w := w.alloc (.cells #[.slice (some ⟨b, off, none⟩) n cP, .slice B m d, .int .i64 st] 30)) (t := 25) (cs := #[.slice A1 n1 m1, .int .i64 g, .slice (some ⟨w.heap.size + 1 + 1 + 1, 0, none⟩) 2 2, .int .i64 wt])).alloc (.cells #[.slice none 0 0, .int .i64 0, .slice none 0 0, .int .i64 0] 25)).alloc (.cells #[.int .i64 0, .int .i64 0] 3)
    rw [← hW0] at this; simpa only [World.size_alloc] using this
  have bR : Blk W0 (w.heap.size + 1 + 1) 25 #[.slice none 0 0, .int .i64 0, .slice none 0 0, .int .i64 0] := by
    have := (Blk.new (w := (w.alloc (.cells #[.slice (some ⟨b, off, none⟩) n cP, .slice B m d, .int .i64 st] 30)).alloc (.cells #[.slice A1 n1 m1, .int .i64 g, .slice (some ⟨w.heap.size + 1 + 1 + 1, 0, none⟩) 2 2, .int .i64 wt] 25)) (t := 25) (cs := #[.slice none 0 0, .int .i64 0, .slice none 0 0, .int .i64 0])).alloc (.cells #[.int .i64 0, .int .i64 0] 3)
    rw [← hW0] at this; simpa only [World.size_alloc] using this
  have bN : Blk W0 (w.heap.size + 1 + 1 + 1) 3 #[.int .i64 0, .int .i64 0] := by
    have := Blk.new (w := ((w.alloc (.cells #[.slice (some ⟨b, off, none⟩) n cP, .slice B m d, .int .i64 st] 30)).alloc (.cells #[.slice A1 n1 m1, .int .i64 g, .slice (some ⟨w.heap.size + 1 + 1 + 1, 0, none⟩) 2 2, .int .i64 wt] 25)).alloc (.cells #[.slice none 0 0, .int .i64 0, .slice none 0 0, .int .i64 0] 25)) (t := 3) (cs := #[.int .i64 0, .int .i64 0])
    rw [← hW0] at this; simpa only [World.size_alloc] using this
  rw [← hW0]
  obtain ⟨gJ, hgJ⟩ : ∃ gJ, w.heap.size = gJ := ⟨_, rfl⟩
  obtain ⟨gC, hgC⟩ : ∃ gC, w.heap.size + 1 = gC := ⟨_, rfl⟩
  obtain ⟨gR, hgR⟩ : ∃ gR, w.heap.size + 1 + 1 = gR := ⟨_, rfl⟩
  obtain ⟨gx, hgx⟩ : ∃ gx, w.heap.size + 1 + 1 + 1 = gx := ⟨_, rfl⟩
  rw [hgx, hgC] at bC
  rw [hgx] at bN
  rw [hgR] at bR
  rw [hgx, hgR, hgC]
  have hbg : b < gJ := by omega
  rw [hgJ] at bJ hB0 ⊢
  have hph0 : ∀ i, i < n → PhHere W0 b (off + i * 8) (phAt P i) := fun i hi => (hph i hi).block (hB0.block b hbg)
  have hnew : NxB W0 gx (nxP P n g 0) := ⟨_, bN, fun i hi => by
    rw [nxP_len _ _ _ _ (by omega)] at hi
    rcases (by omega : i = 0 ∨ i = 1) with rfl | rfl <;> rfl⟩
  have hlt : gJ < gx ∧ gC < gx ∧ gR < gx ∧ gx < W0.heap.size ∧ b < gx ∧ gJ < gC ∧ gC < gR := by omega
  obtain ⟨l1, l2, l3, l4, l5, l6, l7⟩ := hlt
  clear hW0 bN hph hgR hgC hgx
  have j0 := bJ.at 0 rfl
  go_loopw [15] (fun v wr => ∃ r : Nat, r ≤ 2 ∧ v = .int .i64 r ∧ Below gx W0 wr ∧ Blk wr gJ 30 #[.slice (some ⟨b, off, none⟩) n cP, .slice B m d, .int .i64 st] ∧ Blk wr gC 25 #[.slice A1 n1 m1, .int .i64 g, .slice (some ⟨gx, 0, none⟩) 2 2, .int .i64 wt] ∧ Blk wr gR 25 #[.slice none 0 0, .int .i64 0, .slice none 0 0, .int .i64 0] ∧ NxB wr gx (nxP P n g r)) (fun v _ => 2 - (intOf v).toNat)
  case atStart => exact ⟨0, by omega, rfl, Below.refl _ _, bJ, bC, bR, hnew⟩
  case round =>
    obtain ⟨r, hr, rfl, hbr, BJr, BCr, BRr, NXr⟩ := hrel
    clear bJ bC bR hnew j0
    by_cases hlt : r < 2
    · have hltZ : (r : Int) < 2 := by omega
      have hbr0 : b < wr.heap.size := Nat.lt_of_lt_of_le (by omega) hbr.size
      have hgs : gx ≤ wr.heap.size := Nat.le_trans (by omega) hbr.size
      have hphr : ∀ i, i < n → PhHere wr b (off + i * 8) (phAt P i) := fun i hi => (hph0 i hi).block (hbr.block b l5)
      go_wp2_with fail
      refine wp_region_pre (R := Bl) 8 28 [fun v _ => v = .pointer (some ⟨gC, 2, none⟩), fun v _ => v = .slice (some ⟨gx, 0, none⟩) 2 2, fun v _ => v = .int .i64 (r : Nat), fun v _ => v = .agg #[.slice (some ⟨b, off, none⟩) n cP, .slice B m d, .int .i64 st], fun v _ => v = .int .i64 (r : Nat), fun v _ => v = .int .i64 g, fun v _ => v = .int .i64 (firstGt (ofL P (r : Nat) g n) (-1)), fun v _ => v = .pointer (some ⟨gx, r, none⟩)] (Bl.trans) (Bl.drew) (by kernel_rfl) (fun _ _ d _ _ h => by cases d <;> exact h) rfl (by kernel_rfl) (stay_cons (stays_v _) (stay_cons (stays_v _) (stay_cons (stays_v _) (stay_cons (stays_v _) (stay_cons (stays_v _) (stay_cons (stays_v _) (stay_cons (stays_v _) (stay_cons (stays_v _) (stay_nil))))))))) ?_ ?_
      · simp only [List.take_succ_cons, List.take_zero]
        refine steps_cons (Bl.refl) (fun ev xw hb hc hf hfr hd hr => ?_) ?_
        · have e4 : ev (.tmp 4) = .pointer (some ⟨gC, 0, none⟩) := hfr 4 (by kernel_rfl)
          clear hfr hd
          show OpOk _ _ ev xw fun v w' => Bl xw w' ∧ (v = .pointer (some ⟨gC, 2, none⟩))
          refine opOk_hid (fun Rp HR => ?_)
          unfold OpOk
          go_simp
          rw [HR.out]
          exact ⟨hr, rfl⟩
        refine steps_cons (Bl.refl) (fun ev xw hb hc hf hfr hd hr => ?_) ?_
        · have e18 : ev (.tmp 18) = .pointer (some ⟨gC, 2, none⟩) := hd 0 18 (by kernel_rfl)
          clear hfr hd
          have k2 := (BCr.below hb).at 2 rfl
          show OpOk _ _ ev xw fun v w' => Bl xw w' ∧ (v = .slice (some ⟨gx, 0, none⟩) 2 2)
          refine opOk_hid (fun Rp HR => ?_)
          unfold OpOk
          go_simp
          rw [HR.out]
          exact ⟨hr, rfl⟩
        refine steps_cons (Bl.refl) (fun ev xw hb hc hf hfr hd hr => ?_) ?_
        · have e7 : ev (.tmp 7) = .int .i64 (r : Nat) := hfr 7 (by kernel_rfl)
          clear hfr hd
          show OpOk _ _ ev xw fun v w' => Bl xw w' ∧ (v = .int .i64 (r : Nat))
          refine opOk_hid (fun Rp HR => ?_)
          unfold OpOk
          go_simp
          rw [HR.out]
          exact ⟨hr, rfl⟩
        refine steps_cons (Bl.refl) (fun ev xw hb hc hf hfr hd hr => ?_) ?_
        · have e3 : ev (.tmp 3) = .pointer (some ⟨gJ, 0, none⟩) := hfr 3 (by kernel_rfl)
          clear hfr hd
          have k0 := (BJr.below hb).at 0 rfl
          have k1 := (BJr.below hb).at 1 rfl
          have k2 := (BJr.below hb).at 2 rfl
          show OpOk _ _ ev xw fun v w' => Bl xw w' ∧ (v = .agg #[.slice (some ⟨b, off, none⟩) n cP, .slice B m d, .int .i64 st])
          refine opOk_hid (fun Rp HR => ?_)
          unfold OpOk
          go_simp
          rw [HR.out]
          exact ⟨hr, rfl⟩
        refine steps_cons (Bl.refl) (fun ev xw hb hc hf hfr hd hr => ?_) ?_
        · have e7 : ev (.tmp 7) = .int .i64 (r : Nat) := hfr 7 (by kernel_rfl)
          clear hfr hd
          show OpOk _ _ ev xw fun v w' => Bl xw w' ∧ (v = .int .i64 (r : Nat))
          refine opOk_hid (fun Rp HR => ?_)
          unfold OpOk
          go_simp
          rw [HR.out]
          exact ⟨hr, rfl⟩
        refine steps_cons (Bl.refl) (fun ev xw hb hc hf hfr hd hr => ?_) ?_
        · have e2 : ev (.tmp 2) = .int .i64 g := hfr 2 (by kernel_rfl)
          clear hfr hd
          show OpOk _ _ ev xw fun v w' => Bl xw w' ∧ (v = .int .i64 g)
          refine opOk_hid (fun Rp HR => ?_)
          unfold OpOk
          go_simp
          rw [HR.out]
          exact ⟨hr, rfl⟩
        refine steps_cons (Bl.refl) (fun ev xw hb hc hf hfr hd hr => ?_) ?_
        · have e21 : ev (.tmp 21) = .agg #[.slice (some ⟨b, off, none⟩) n cP, .slice B m d, .int .i64 st] := hd 3 21 (by kernel_rfl)
          have e22 : ev (.tmp 22) = .int .i64 (r : Nat) := hd 4 22 (by kernel_rfl)
          have e23 : ev (.tmp 23) = .int .i64 g := hd 5 23 (by kernel_rfl)
          clear hfr hd
          show OpOk _ _ ev xw fun v w' => Bl xw w' ∧ (v = .int .i64 (firstGt (ofL P (r : Nat) g n) (-1)))
          refine opOk_hid (fun Rp HR => ?_)
          unfold OpOk
          go_simp
          refine (following_any B b off cP d n m P st r g (-1) xw hn (Nat.lt_of_lt_of_le hbr0 hb.size) (fun i hi => (hphr i hi).block (hb.block b hbr0)) hl).mono ?_
          rintro e w'' ⟨rfl, hw⟩
          refine ⟨_, rfl, ?_⟩
          rw [HR.out]
          exact ⟨hw, rfl⟩
        refine steps_cons (Bl.refl) (fun ev xw hb hc hf hfr hd hr => ?_) ?_
        · have e19 : ev (.tmp 19) = .slice (some ⟨gx, 0, none⟩) 2 2 := hd 1 19 (by kernel_rfl)
          have e20 : ev (.tmp 20) = .int .i64 (r : Nat) := hd 2 20 (by kernel_rfl)
          clear hfr hd
          show OpOk _ _ ev xw fun v w' => Bl xw w' ∧ (v = .pointer (some ⟨gx, r, none⟩))
          refine opOk_hid (fun Rp HR => ?_)
          unfold OpOk
          go_simp
          rw [HR.out]
          exact ⟨hr, rfl⟩
        exact steps_nil
      · intro vs W11 hb11 hk
        have k1 : vs 6 = .int .i64 (firstGt (ofL P (r : Nat) g n) (-1)) := hk 6 (by omega)
        have k2 : vs 7 = .pointer (some ⟨gx, r, none⟩) := hk 7 (by omega)
        clear hk
        simp only [List.take_succ_cons, List.take_zero, List.drop_succ_cons, List.drop_zero, putAll, Act.put, List.setIfInBounds_toArray, List.set_cons_zero, List.set_cons_succ, k1, k2, Nat.reduceAdd]
        refine step_store_nx (by rfl) (by rfl) (by rfl) (g := gx) (i := r) (by rfl) (by rfl) (NXr.below hb11) (by rw [nxP_len _ _ _ _ hr]; omega) ?_
        intro w12 N12 hg12
        unfold wpList
        go_wp2
        go_roundw
        case rel => exact ⟨r + 1, by omega, by go_num, Below.grown (hbr.trans (Below.mono hb11 hgs)) hg12 (Nat.le_trans hgs (Below.size hb11)) (fun k e => by injection e with e; omega), ((BJr.below hb11).grown hg12 (by intro e; injection e with e; omega)), ((BCr.below hb11).grown hg12 (by intro e; injection e with e; omega)), ((BRr.below hb11).grown hg12 (by intro e; injection e with e; omega)), by rw [← nxP_set P n g r hlt]; exact N12⟩
        case measure => simp [intOf]; omega
    · have hltZ : ¬ (r : Int) < 2 := by omega
      have he : r = 2 := by omega
      subst he
      have c0 := BCr.at 0 rfl
      have c1 := BCr.at 1 rfl
      have c2 := BCr.at 2 rfl
      have c3 := BCr.at 3 rfl
      go_wp2_with (refine step_store_ct (by rfl) (by rfl) (by rfl) (by rfl) (by rfl) BRr ?_; intro w9 B9 hg9)
      refine bodyPost_ret (results_cell rfl rfl (load_control B9)) rfl ?_
      exact ⟨gx, rfl, hB0.trans ((Below.mono hbr (by omega)).grown hg9 (Nat.le_trans (by omega) hbr.size) (fun k e => by injection e with e; omega)), by omega, NXr.grown hg9 (by intro e; injection e with e; omega)⟩
end Go.Proofs.Ytkpbkahmbbkcdaa
