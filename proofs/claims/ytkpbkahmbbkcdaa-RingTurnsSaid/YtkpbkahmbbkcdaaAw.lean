/-
  The example of the chapter. Conditions: none.
-/
import Derived.Test.YtkpbkahmbbkcdaaPi
namespace Go.Proofs.Ytkpbkahmbbkcdaa
open Go.ChangeShapes Go.WideShapes Go.RowKit
set_option linter.unusedVariables false

def awP : List Ph := [⟨0, 0, 2, 3, 1, 1, 0, 0⟩, ⟨0, 0, 2, 3, 1, 1, 0, 0⟩]
def awC : List Int := [2, 1]
theorem aw_lt {p : Nat} {Q : Nat → Prop} (h0 : Q 0) (h1 : Q 1) (h : p < 2) : Q p := by
  rcases (by omega : p = 0 ∨ p = 1) with rfl | rfl
  · exact h0
  · exact h1
theorem aw_rows : RowsC awC 2 := ⟨rfl, fun p q hp hq => by
  refine aw_lt (Q := fun p => hasB (at_ awC p) q = hasB (at_ awC q) p) ?_ ?_ hp
  · exact aw_lt (Q := fun q => hasB (at_ awC 0) q = hasB (at_ awC q) 0) rfl (by decide) hq
  · exact aw_lt (Q := fun q => hasB (at_ awC 1) q = hasB (at_ awC q) 1) (by decide) rfl hq, fun p hp => aw_lt (Q := fun p => hasB (at_ awC p) p = false) (by decide) (by decide) hp⟩
theorem aw_ok : PhOk ⟨0, 0, 2, 3, 1, 1, 0, 0⟩ := ⟨by decide, by decide, by decide, by decide, by decide⟩
theorem aw_c : JunC awP awC 2 0 := ⟨rfl, by omega, by omega, by omega, fun p hp => aw_lt (Q := fun p => PhOk (phAt awP p)) aw_ok aw_ok hp, fun p hp => aw_lt (Q := fun p => 0 ≤ (phAt awP p).ri ∧ (phAt awP p).ri ≤ 1) (by decide) (by decide) hp, fun p hp => aw_lt (Q := fun p => 0 ≤ (phAt awP p).gr ∧ (phAt awP p).gr ≤ 3) (by decide) (by decide) hp, aw_rows⟩
theorem aw_v : JunV awP awC 0 := ⟨by decide, rfl, by unfold Valid6; decide, by decide, fun i hi => aw_lt (Q := fun i => placeB (phAt awP i) = true ∧ timB (phAt awP i) = true) (by decide) (by decide) hi, fun p hp q hq h => by
  have : p < 2 := hp
  obtain rfl : p = 1 := by omega
  obtain rfl : q = 0 := by omega
  decide, fun g hg => ⟨0, by decide, by
    have : groupsI awP awP.length = 1 := by decide
    rw [this] at hg
    have : g = 0 := by omega
    subst this; rfl⟩⟩
/-- The control after k steps without a target. -/
def awK : Nat → Ct
  | 0 => initC awP 2 0
  | k + 1 => stepC awP awC 2 (awK k) (-1)
theorem awK_v : ∀ k, CtV awP awC 2 0 (awK k)
  | 0 => init_v (by omega) (by omega) aw_c.gr
  | k + 1 => step_v aw_rows (awK_v k) (by omega) aw_c.pok aw_c.ri aw_c.gr (-1)
theorem awK_6 : (awK 6).li = [(0, 0), (1, 0)] := by decide
set_option maxHeartbeats 4000000 in
theorem awake_any (w : World) : Calls Try.prog 12 #[] w fun e w' => e = .returned (.bool true) ∧ Below w.heap.size w w' := by
  go_enter Try.func12, Try.ntmps12
  go_wp2_with fail
  obtain ⟨W0, hW0⟩ : ∃ W0, W0 = (((w.alloc (.cells #[.int .i64 0, .int .i64 0, .int .i64 2, .int .i64 3, .int .i64 1, .int .i64 1, .int .i64 0, .int .i64 0] 51)).alloc (.cells #[.int .i64 0, .int .i64 0, .int .i64 2, .int .i64 3, .int .i64 1, .int .i64 1, .int .i64 0, .int .i64 0, .int .i64 0, .int .i64 0, .int .i64 2, .int .i64 3, .int .i64 1, .int .i64 1, .int .i64 0, .int .i64 0] 51)).alloc (.cells #[.int .i64 2, .int .i64 1] 3)).alloc (.cells #[.slice (some ⟨w.heap.size + 1, 0, none⟩) 2 2, .slice (some ⟨w.heap.size + 1 + 1, 0, none⟩) 2 2, .int .i64 0] 30) := ⟨_, rfl⟩
  have hsz : W0.heap.size = w.heap.size + 1 + 1 + 1 + 1 := by rw [hW0]; simp only [World.size_alloc]
  have hB0 : Below w.heap.size w W0 := by
    rw [hW0]
    exact lat_alloc (lat_alloc (lat_alloc (lat_alloc (Below.refl w.heap.size w) _) _) _) _
  have bS : Blk W0 w.heap.size 51 #[.int .i64 0, .int .i64 0, .int .i64 2, .int .i64 3, .int .i64 1, .int .i64 1, .int .i64 0, .int .i64 0] := by
    have := (((Blk.new (w := w) (t := 51) (cs := #[.int .i64 0, .int .i64 0, .int .i64 2, .int .i64 3, .int .i64 1, .int .i64 1, .int .i64 0, .int .i64 0])).alloc (.cells #[.int .i64 0, .int .i64 0, .int .i64 2, .int .i64 3, .int .i64 1, .int .i64 1, .int .i64 0, .int .i64 0, .int .i64 0, .int .i64 0, .int .i64 2, .int .i64 3, .int .i64 1, .int .i64 1, .int .i64 0, .int .i64 0] 51)).alloc (.cells #[.int .i64 2, .int .i64 1] 3)).alloc (.cells #[.slice (some ⟨w.heap.size + 1, 0, none⟩) 2 2, .slice (some ⟨w.heap.size + 1 + 1, 0, none⟩) 2 2, .int .i64 0] 30)
    rw [← hW0] at this; simpa only [World.size_alloc] using this
  have bP : Blk W0 (w.heap.size + 1) 51 #[.int .i64 0, .int .i64 0, .int .i64 2, .int .i64 3, .int .i64 1, .int .i64 1, .int .i64 0, .int .i64 0, .int .i64 0, .int .i64 0, .int .i64 2, .int .i64 3, .int .i64 1, .int .i64 1, .int .i64 0, .int .i64 0] := by
    have := ((Blk.new (w := w.alloc (.cells #[.int .i64 0, .int .i64 0, .int .i64 2, .int .i64 3, .int .i64 1, .int .i64 1, .int .i64 0, .int .i64 0] 51)) (t := 51) (cs := #[.int .i64 0, .int .i64 0, .int .i64 2, .int .i64 3, .int .i64 1, .int .i64 1, .int .i64 0, .int .i64 0, .int .i64 0, .int .i64 0, .int .i64 2, .int .i64 3, .int .i64 1, .int .i64 1, .int .i64 0, .int .i64 0])).alloc (.cells #[.int .i64 2, .int .i64 1] 3)).alloc (.cells #[.slice (some ⟨w.heap.size + 1, 0, none⟩) 2 2, .slice (some ⟨w.heap.size + 1 + 1, 0, none⟩) 2 2, .int .i64 0] 30)
    rw [← hW0] at this; simpa only [World.size_alloc] using this
  have bC : Blk W0 (w.heap.size + 1 + 1) 3 #[.int .i64 2, .int .i64 1] := by
    have := (Blk.new (w := (w.alloc (.cells #[.int .i64 0, .int .i64 0, .int .i64 2, .int .i64 3, .int .i64 1, .int .i64 1, .int .i64 0, .int .i64 0] 51)).alloc (.cells #[.int .i64 0, .int .i64 0, .int .i64 2, .int .i64 3, .int .i64 1, .int .i64 1, .int .i64 0, .int .i64 0, .int .i64 0, .int .i64 0, .int .i64 2, .int .i64 3, .int .i64 1, .int .i64 1, .int .i64 0, .int .i64 0] 51)) (t := 3) (cs := #[.int .i64 2, .int .i64 1])).alloc (.cells #[.slice (some ⟨w.heap.size + 1, 0, none⟩) 2 2, .slice (some ⟨w.heap.size + 1 + 1, 0, none⟩) 2 2, .int .i64 0] 30)
    rw [← hW0] at this; simpa only [World.size_alloc] using this
  have bJ : Blk W0 (w.heap.size + 1 + 1 + 1) 30 #[.slice (some ⟨w.heap.size + 1, 0, none⟩) 2 2, .slice (some ⟨w.heap.size + 1 + 1, 0, none⟩) 2 2, .int .i64 0] := by
    have := Blk.new (w := ((w.alloc (.cells #[.int .i64 0, .int .i64 0, .int .i64 2, .int .i64 3, .int .i64 1, .int .i64 1, .int .i64 0, .int .i64 0] 51)).alloc (.cells #[.int .i64 0, .int .i64 0, .int .i64 2, .int .i64 3, .int .i64 1, .int .i64 1, .int .i64 0, .int .i64 0, .int .i64 0, .int .i64 0, .int .i64 2, .int .i64 3, .int .i64 1, .int .i64 1, .int .i64 0, .int .i64 0] 51)).alloc (.cells #[.int .i64 2, .int .i64 1] 3)) (t := 30) (cs := #[.slice (some ⟨w.heap.size + 1, 0, none⟩) 2 2, .slice (some ⟨w.heap.size + 1 + 1, 0, none⟩) 2 2, .int .i64 0])
    rw [← hW0] at this; simpa only [World.size_alloc] using this
  rw [← hW0]
  have hP0 : Phs W0 W0.heap.size (some ⟨w.heap.size + 1, 0, none⟩) awP := fun _ => ⟨_, 0, rfl, by omega, fun i hi => by
    rcases (by have : i < 2 := hi; omega : i = 0 ∨ i = 1) with rfl | rfl
    · exact ⟨bP.at 0 rfl, bP.at 1 rfl, bP.at 2 rfl, bP.at 3 rfl, bP.at 4 rfl, bP.at 5 rfl, bP.at 6 rfl, bP.at 7 rfl⟩
    · exact ⟨bP.at 8 rfl, bP.at 9 rfl, bP.at 10 rfl, bP.at 11 rfl, bP.at 12 rfl, bP.at 13 rfl, bP.at 14 rfl, bP.at 15 rfl⟩⟩
  have hC0 : Ints .i64 W0 W0.heap.size (some ⟨w.heap.size + 1 + 1, 0, none⟩) awC := fun _ => ⟨_, 0, rfl, by omega, fun i hi => by
    rcases (by have : i < 2 := hi; omega : i = 0 ∨ i = 1) with rfl | rfl
    · exact bC.at 0 rfl
    · exact bC.at 1 rfl⟩
  clear hW0 bS bP bC
  refine (pinit_any (some ⟨w.heap.size + 1, 0, none⟩) (some ⟨w.heap.size + 1 + 1, 0, none⟩) 2 2 2 2 awP 0 W0 rfl hP0 (by omega) (by omega)).mono ?_
  rintro e w1 ⟨v, rfl, b1, gl, cl, gx, cx, rfl, hgl, hgx, L1, N1⟩
  have J1 := bJ.below b1
  have B1 : Below w.heap.size w w1 := hB0.trans (b1.mono (by omega))
  have hs1 := b1.size
  go_wp2_with fail
  obtain ⟨gC, hgC⟩ : ∃ gC, w1.heap.size = gC := ⟨_, rfl⟩
  have C2 := Blk.new (w := w1) (t := 25) (cs := #[.slice (some ⟨gl, 0, none⟩) 2 cl, .int .i64 (initC awP 2 0).gr, .slice (some ⟨gx, 0, none⟩) 2 cx, .int .i64 (initC awP 2 0).wt])
  have hlg := L1.lt
  have hxg := N1.lt
  have L2 := L1.below (lat_alloc (Below.refl _ _) (.cells #[.slice (some ⟨gl, 0, none⟩) 2 cl, .int .i64 (initC awP 2 0).gr, .slice (some ⟨gx, 0, none⟩) 2 cx, .int .i64 (initC awP 2 0).wt] 25))
  have N2 := N1.below (lat_alloc (Below.refl _ _) (.cells #[.slice (some ⟨gl, 0, none⟩) 2 cl, .int .i64 (initC awP 2 0).gr, .slice (some ⟨gx, 0, none⟩) 2 cx, .int .i64 (initC awP 2 0).wt] 25))
  have b2 := lat_alloc b1 (.cells #[.slice (some ⟨gl, 0, none⟩) 2 cl, .int .i64 (initC awP 2 0).gr, .slice (some ⟨gx, 0, none⟩) 2 cx, .int .i64 (initC awP 2 0).wt] 25)
  generalize w1.alloc (.cells #[.slice (some ⟨gl, 0, none⟩) 2 cl, .int .i64 (initC awP 2 0).gr, .slice (some ⟨gx, 0, none⟩) 2 cx, .int .i64 (initC awP 2 0).wt] 25) = W2 at *
  rw [hgC] at C2 hlg hxg ⊢
  have hCW : W0.heap.size ≤ gC := by omega
  clear hgC L1 N1 b1 J1 B1
  go_loopw [12] (fun v wr => ∃ k gl cl gx cx : Nat, k ≤ 6 ∧ v = .int .i64 k ∧ Below W0.heap.size W0 wr ∧ Blk wr gC 25 #[.slice (some ⟨gl, 0, none⟩) 2 cl, .int .i64 (awK k).gr, .slice (some ⟨gx, 0, none⟩) 2 cx, .int .i64 (awK k).wt] ∧ LiB wr gl (awK k).li ∧ NxB wr gx (awK k).nx ∧ gl ≠ gC ∧ gx ≠ gC) (fun v _ => 6 - (intOf v).toNat)
  case atStart => exact ⟨0, gl, cl, gx, cx, by omega, rfl, b2, C2, L2, N2, by omega, by omega⟩
  case round =>
    obtain ⟨k, gl, cl, gx, cx, hk, rfl, hbr, Cr, Lr, Nr, hlg, hxg⟩ := hrel
    clear C2 L2 N2 b2
    by_cases hlt : k < 6
    · have hltZ : (k : Int) < 6 := by omega
      have Jr := bJ.below hbr
      have j0 := Jr.at 0 rfl
      have j1 := Jr.at 1 rfl
      have j2 := Jr.at 2 rfl
      have c0 := Cr.at 0 rfl
      have c1 := Cr.at 1 rfl
      have c2 := Cr.at 2 rfl
      have c3 := Cr.at 3 rfl
      have hgCs := Cr.lt
      go_wp2_with fail
      refine (pstep_any (some ⟨w.heap.size + 1, 0, none⟩) (some ⟨w.heap.size + 1 + 1, 0, none⟩) (some ⟨gl, 0, none⟩) (some ⟨gx, 0, none⟩) 2 2 cl cx 2 awP awC (awK k) 0 (-1) wr aw_c aw_v (awK_v k) (hP0.grow hbr) (hC0.grow hbr) (by omega) Lr.prs Nr.ints).mono ?_
      rintro e w3 ⟨v, rfl, b3, gl2, cl2, gx2, cx2, rfl, hgl2, hgx2, L3, N3⟩
      have C3 := Cr.below b3
      clear j0 j1 j2 c0 c1 c2 c3
      go_wp2_with (refine step_store_ct (by rfl) (by rfl) (by rfl) (by rfl) (by rfl) C3 ?_; intro w4 C4 hg4)
      go_roundw
      case rel => exact ⟨k + 1, gl2, cl2, gx2, cx2, hlt, by go_num, Below.grown (hbr.trans (b3.mono hbr.size)) hg4 (hbr.trans (b3.mono hbr.size)).size (fun k e => by injection e with e; omega), C4, L3.grown hg4 (by intro e; injection e with e; omega), N3.grown hg4 (by intro e; injection e with e; omega), by omega, by omega⟩
      case measure => simp [intOf]; omega
    · have hltZ : ¬ (k : Int) < 6 := by omega
      obtain rfl : k = 6 := by omega
      have c0 := Cr.at 0 rfl
      rw [awK_6] at Lr
      obtain ⟨l0, l1, _, _⟩ := Lr.at (i := 0) (by decide)
      obtain ⟨m0, m1, _, _⟩ := Lr.at (i := 1) (by decide)
      have l0 : wr.cell? ⟨gl, 0, none⟩ = some (.int .i64 0) := l0
      have l1 : wr.cell? ⟨gl, 1, none⟩ = some (.int .i64 0) := l1
      have m0 : wr.cell? ⟨gl, 2, none⟩ = some (.int .i64 1) := m0
      have m1 : wr.cell? ⟨gl, 3, none⟩ = some (.int .i64 0) := m1
      go_wp2
      go_ret
      exact ⟨rfl, hB0.trans (hbr.mono (by omega))⟩
end Go.Proofs.Ytkpbkahmbbkcdaa
