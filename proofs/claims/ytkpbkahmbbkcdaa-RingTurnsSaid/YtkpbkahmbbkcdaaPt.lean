/-
  The program's step of a control without a target. Conditions: a valid junction, a valid control.
-/
import Derived.Test.YtkpbkahmbbkcdaaPs
namespace Go.Proofs.Ytkpbkahmbbkcdaa
open Go.ChangeShapes Go.WideShapes Go.RowKit
set_option linter.unusedVariables false

theorem lights_off (P : List Ph) (C : List Int) (L : List (Int × Int)) (n : Nat) (t : Int) (h : ¬ (0 ≤ t ∧ t < n)) : ∀ k, lightsL P C L n t k = lightsL P C L n (-1) k
  | 0 => rfl
  | k + 1 => by
    rw [lightsL, lightsL, lights_off P C L n t h k]
    have e : leaveB P C L n t k = leaveB P C L n (-1) k := by unfold leaveB; rw [if_neg h, if_neg (by omega)]
    rw [e]
set_option maxRecDepth 40000 in
set_option maxHeartbeats 16000000 in
theorem pstep_off (Bc D E : Option Addr) (b off cP d cL cX n : Nat) (P : List Ph) (C : List Int) (c : Ct) (st : Int) (t : Int) (w : World) (hj : JunC P C n st) (hjv : JunV P C st) (hv : CtV P C n st c) (hb : b < w.heap.size) (hph : ∀ i, i < n → PhHere w b (off + i * 8) (phAt P i)) (hC : Ints .i64 w w.heap.size Bc C) (hcP : n ≤ cP) (hL : Prs w w.heap.size D c.li) (hX : Ints .i64 w w.heap.size E c.nx) (hw0 : ¬ 0 < c.wt) (hoff : ¬ (0 ≤ t ∧ t < n)) :
    Calls Try.prog 25 #[.agg #[.slice (some ⟨b, off, none⟩) n cP, .slice Bc n d, .int .i64 st], .agg #[.slice D n cL, .int .i64 c.gr, .slice E 2 cX, .int .i64 c.wt], .int .i64 t] w fun e w' => ∃ v, e = .returned v ∧ Below w.heap.size w w' ∧ CtH w' w.heap.size n v (stepC P C n c t) := by
  have hgq := groups_bd (P := P) (fun i hi => hj.gr i (by have := hj.len; omega)) n (by have := hj.len; omega)
  have hgp := groups_pos (P := P) (n := n) hj.h1 (fun i hi => (hj.gr i hi).1)
  have hgr0 := hv.gr
  obtain ⟨G, hG⟩ := Int.eq_ofNat_of_zero_le hgq.1
  have HG := Lib.hid hG
  rw [hG] at hgq hgp hgr0
  have hG14 : 1 ≤ G ∧ G ≤ 4 := by omega
  have zr0 : (((G : Nat) : Int) == 0) = false := by simp; omega
  obtain ⟨g', hg'⟩ : ∃ g', (c.gr + 1) % (G : Int) = g' := ⟨_, rfl⟩
  have HGG := Lib.hid (show (c.gr + 1) % groupsI P n = g' by rw [hG]; exact hg')
  have ztm : (c.gr + 1).tmod (G : Int) = g' := by rw [Int.tmod_eq_emod_of_nonneg (by omega)]; exact hg'
  have hg'b : 0 ≤ g' ∧ g' < G := by
    have h2 := Int.emod_nonneg (c.gr + 1) (show ((G : Nat) : Int) ≠ 0 by omega)
    have h3 := Int.emod_lt_of_pos (c.gr + 1) (show 0 < ((G : Nat) : Int) by omega)
    omega
  have zwg : IntKind.i64.wrap (c.gr + 1) = c.gr + 1 := by rw [IntKind.wrap_i64]; omega
  clear hg' hG hgq hgp
  have h1 := hj.h1
  have h8 := hj.h8
  have HN := Lib.hid hj.len
  have HL := Lib.hid hv.li
  have HX := Lib.hid hv.nx
  have HRC := Lib.hid hj.rows.len
  have hwb := hv.wt
  have hstb := hj.st
  go_enter Try.func25, Try.ntmps25
  go_wp2_with fail
  obtain ⟨W0, hW0⟩ : ∃ W0, W0 = ((w.alloc (.cells #[.slice (some ⟨b, off, none⟩) n cP, .slice Bc n d, .int .i64 st] 30)).alloc (.cells #[.slice D n cL, .int .i64 c.gr, .slice E 2 cX, .int .i64 c.wt] 25)).alloc (.cells #[.slice none 0 0, .int .i64 0, .slice none 0 0, .int .i64 0] 25) := ⟨_, rfl⟩
  have hsz : W0.heap.size = w.heap.size + 1 + 1 + 1 := by rw [hW0]; simp only [World.size_alloc]
  have hB0 : Below w.heap.size w W0 := by
    rw [hW0]
    exact lat_alloc (lat_alloc (lat_alloc (Below.refl w.heap.size w) _) _) _
  have bJ : Blk W0 w.heap.size 30 #[.slice (some ⟨b, off, none⟩) n cP, .slice Bc n d, .int .i64 st] := by
    have := ((Blk.new (w := w) (t := 30) (cs := #[.slice (some ⟨b, off, none⟩) n cP, .slice Bc n d, .int .i64 st])).alloc (.cells #[.slice D n cL, .int .i64 c.gr, .slice E 2 cX, .int .i64 c.wt] 25)).alloc (.cells #[.slice none 0 0, .int .i64 0, .slice none 0 0, .int .i64 0] 25)
    rw [← hW0] at this; simpa only [World.size_alloc] using this
  have bC : Blk W0 (w.heap.size + 1) 25 #[.slice D n cL, .int .i64 c.gr, .slice E 2 cX, .int .i64 c.wt] := by
    have := (Blk.new (w := w.alloc (.cells #[.slice (some ⟨b, off, none⟩) n cP, .slice Bc n d, .int .i64 st] 30)) (t := 25) (cs := #[.slice D n cL, .int .i64 c.gr, .slice E 2 cX, .int .i64 c.wt])).alloc (.cells #[.slice none 0 0, .int .i64 0, .slice none 0 0, .int .i64 0] 25)
    rw [← hW0] at this; simpa only [World.size_alloc] using this
  have bR : Blk W0 (w.heap.size + 1 + 1) 25 #[.slice none 0 0, .int .i64 0, .slice none 0 0, .int .i64 0] := by
    have := Blk.new (w := (w.alloc (.cells #[.slice (some ⟨b, off, none⟩) n cP, .slice Bc n d, .int .i64 st] 30)).alloc (.cells #[.slice D n cL, .int .i64 c.gr, .slice E 2 cX, .int .i64 c.wt] 25)) (t := 25) (cs := #[.slice none 0 0, .int .i64 0, .slice none 0 0, .int .i64 0])
    rw [← hW0] at this; simpa only [World.size_alloc] using this
  rw [← hW0]
  clear hW0
  have hph0 : ∀ i, i < n → PhHere W0 b (off + i * 8) (phAt P i) := fun i hi => (hph i hi).block (hB0.block b hb)
  have hC0 := hC.grow hB0
  refine (clone_ct D E cL cX n c W0 HL.out HX.out (hL.grow hB0) (hX.grow hB0) h1 (by omega)).mono ?_
  rintro e w1 ⟨gl, cl, gx, cx, rfl, b1, hgl, hcl, hgx, hlx, L1, N1⟩
  have C1 := bC.below b1
  have J1 := bJ.below b1
  have R1 := bR.below b1
  have B1 : Below w.heap.size w w1 := hB0.trans (b1.mono (by omega))
  have hs1 := b1.size
  clear hL hX bJ bC bR
  go_wp2_with (refine step_store_ct (by rfl) (by rfl) (by rfl) (by rfl) (by rfl) C1 ?_; intro w2 C2 hg2; have J2 := J1.grown hg2 (by intro e; injection e with e; omega); have c0 := C2.at 0 rfl; have c1 := C2.at 1 rfl; have c2 := C2.at 2 rfl; have c3 := C2.at 3 rfl; have j0 := J2.at 0 rfl; have j1 := J2.at 1 rfl; have j2 := J2.at 2 rfl)
  clear c0 c1 c2 c3 j0 j1 j2
  have R2 := R1.grown hg2 (by intro e; injection e with e; omega)
  have L2 := L1.grown hg2 (by intro e; injection e with e; omega)
  have N2 := N1.grown hg2 (by intro e; injection e with e; omega)
  have B2 : Below w.heap.size w w2 := B1.grown hg2 B1.size (fun k e => by injection e with e; omega)
  have hs2 : w.heap.size + 1 + 1 + 1 ≤ w2.heap.size := by have := hg2.size; omega
  refine (pvalid_t Bc (some ⟨gl, 0, none⟩) (some ⟨gx, 0, none⟩) b off cP d cl cx n P C c st w2 hj hjv hv (by omega) (fun i hi => (hph i hi).block (B2.block b hb)) (hC.grow B2) hcP L2.prs N2.ints).mono ?_
  rintro e w3 ⟨rfl, b3⟩
  have C3 := C2.below b3
  have J3 := J2.below b3
  have R3 := R2.below b3
  have L3 := L2.below b3
  have N3 := N2.below b3
  have B3 : Below w.heap.size w w3 := B2.trans (b3.mono B2.size)
  have hs3 : w.heap.size + 1 + 1 + 1 ≤ w3.heap.size := by have := b3.size; omega
  clear C1 J1 R1 L1 N1 hg2 b1 b3 hs1 hs2 B1 B2 C2 J2 R2 L2 N2 hph0 hC0 hB0
  have z1 : decide (0 < c.wt) = false := decide_eq_false (by omega)
  have k3 := C3.at 3 rfl
  have j0 := J3.at 0 rfl; have j1 := J3.at 1 rfl; have j2 := J3.at 2 rfl
  have HIP := Lib.hid (show decide (0 ≤ t ∧ t < (n : Int)) = false from decide_eq_false hoff)
  go_wp2_with fail
  clear k3 j0 j1 j2
  refine (isPhase_c w3 HIP.out).mono ?_
  rintro e w4 ⟨rfl, b4⟩
  have C4 := C3.below b4
  have J4 := J3.below b4
  have R4 := R3.below b4
  have L4 := L3.below b4
  have N4 := N3.below b4
  have B4 : Below w.heap.size w w4 := B3.trans (b4.mono B3.size)
  have hs4 : w.heap.size + 1 + 1 + 1 ≤ w4.heap.size := Nat.le_trans hs3 b4.size
  clear C3 J3 R3 L3 N3 B3 b4 hs3
  have c0 := C4.at 0 rfl
  go_wp2_with fail
  clear c0
  go_loopw [33] (fun v wr => ∃ i : Nat, i ≤ n ∧ v = .int .i64 i ∧ Below w.heap.size w wr ∧ Blk wr (w.heap.size) 30 #[.slice (some ⟨b, off, none⟩) n cP, .slice Bc n d, .int .i64 st] ∧ Blk wr (w.heap.size + 1) 25 #[.slice (some ⟨gl, 0, none⟩) n cl, .int .i64 c.gr, .slice (some ⟨gx, 0, none⟩) 2 cx, .int .i64 c.wt] ∧ Blk wr (w.heap.size + 1 + 1) 25 #[.slice none 0 0, .int .i64 0, .slice none 0 0, .int .i64 0] ∧ LiB wr gl (lightsL P C c.li n (-1) i) ∧ NxB wr gx c.nx ∧ w.heap.size + 1 + 1 + 1 ≤ wr.heap.size) (fun v _ => n - (intOf v).toNat)
  case atStart => exact ⟨0, by omega, rfl, B4, J4, C4, R4, L4, N4, hs4⟩
  case round =>
    obtain ⟨i, hi, rfl, Br, Jr, Cr, Rr, Lr, Nr, hsr⟩ := hrel
    clear J4 C4 R4 L4 N4 B4 hs4
    by_cases hlt : i < n
    · have hltZ : (i : Int) < n := by omega
      obtain ⟨l0, l1, lf0, lf1⟩ := Lr.at (i := i) (by rw [lights_len]; have := HL.out; omega)
      have hpr : prAt (lightsL P C c.li n (-1) i) i = prAt c.li i := by rw [lights_at P C c.li n (-1) i (by have := HL.out; omega) i, if_neg (by omega)]
      rw [hpr] at l0 l1
      obtain ⟨lm, hlm⟩ : ∃ lm, lmp c.li i = lm := ⟨_, rfl⟩
      obtain ⟨tk, htk⟩ : ∃ tk, tck c.li i = tk := ⟨_, rfl⟩
      have hl0 : (prAt c.li i).1 = lm := hlm
      have hl1 : (prAt c.li i).2 = tk := htk
      rw [hl0] at l0
      rw [hl1] at l1
      have HLM := Lib.hid hlm
      have HTK2 := Lib.hid htk
      have hlx0 := hv.ok i hlt
      have hXr := (hph i hlt).block (Br.block b hb)
      have hpx := hj.pok i hlt
      obtain ⟨x, hx⟩ : ∃ x, phAt P i = x := ⟨_, rfl⟩
      rw [hlm, htk] at hlx0
      rw [hx] at hlx0 hXr hpx
      have HX9 := Lib.hid hx
      have HTK := Lib.hid (show 0 ≤ tk ∧ tk ≤ 1073741824 by have := LiOk.bd hpx hlx0; omega)
      have HPX := Lib.hid hpx
      obtain ⟨lv, hlv⟩ : ∃ lv, leaveB P C c.li n (-1) i = lv := ⟨_, rfl⟩
      have HLVE := Lib.hid hlv
      have B9' : Below wr.heap.size wr (wr.alloc (.cells #[.int .i64 lm, .int .i64 tk] 45)) := lat_alloc (Below.refl _ _) _
      have HLV := Lib.hid (show ∀ xw, Below (wr.alloc (.cells #[.int .i64 lm, .int .i64 tk] 45)).heap.size (wr.alloc (.cells #[.int .i64 lm, .int .i64 tk] 45)) xw → Calls Try.prog 48 #[.agg #[.slice (some ⟨b, off, none⟩) n cP, .slice Bc n d, .int .i64 st], .int .i64 i, .agg #[.int .i64 lm, .int .i64 tk], .int .i64 (-1)] xw fun e w' => e = .returned (.bool lv) ∧ Below xw.heap.size xw w' by
        intro xw hb'
        have bx : Below w.heap.size w xw := (Br.trans (B9'.mono Br.size)).trans (hb'.mono (Nat.le_trans Br.size B9'.size))
        have h := leaves_any Bc b off cP d n P C c.li st (-1) i xw (Nat.lt_of_lt_of_le hb bx.size) (fun k hk => (hph k hk).block (bx.block b hb)) HRC.out (hC.grow bx) (by omega) hlt (by omega) (by rw [htk]; have := HTK.out; omega)
        rw [hlm, htk, hlv] at h
        exact h)
      have B9 := Br.trans (B9'.mono Br.size)
      have J9 := Jr.below B9'
      have C9 := Cr.below B9'
      have R9 := Rr.below B9'
      have L9 := Lr.below B9'
      have N9 := Nr.below B9'
      have hXb := hXr.block (B9'.block b (Nat.lt_of_lt_of_le hb Br.size))
      have hb9 : b < (wr.alloc (.cells #[.int .i64 lm, .int .i64 tk] 45)).heap.size := Nat.lt_of_lt_of_le hb B9.size
      have hs9 : w.heap.size + 1 + 1 + 1 ≤ (wr.alloc (.cells #[.int .i64 lm, .int .i64 tk] 45)).heap.size := Nat.le_trans hsr B9'.size
      have X9 := Blk.new (w := wr) (t := 45) (cs := #[.int .i64 lm, .int .i64 tk])
      clear hlm htk hl0 hl1 hlx0 hXr hpx hx hlv hpr
      go_wp2_with fail
      clear l0 l1 lf0 lf1 Jr Cr Rr Lr Nr
      generalize wr.alloc (.cells #[.int .i64 lm, .int .i64 tk] 45) = W9 at *
      generalize hg9 : wr.heap.size = g9 at X9 ⊢
      clear hg9 B9' Br hsr
      refine wp_region_pre (R := Bl) 16 101 [fun v _ => v = .pointer (some ⟨w.heap.size + 1, 0, none⟩), fun v _ => v = .slice (some ⟨gl, 0, none⟩) n cl, fun v _ => v = .int .i64 (i : Nat), fun v _ => v = .pointer (some ⟨w.heap.size, 0, none⟩), fun v _ => v = .slice (some ⟨b, off, none⟩) n cP, fun v _ => v = .int .i64 (i : Nat), fun v _ => v = .pointer (some ⟨b, off + i * 8, none⟩), fun v _ => v = .agg #[.int .i64 x.ri, .int .i64 x.gr, .int .i64 x.mn, .int .i64 x.mx, .int .i64 x.yl, .int .i64 x.rd, .int .i64 x.wk, .int .i64 x.cl], fun v _ => v = .agg #[.int .i64 lm, .int .i64 tk], fun v _ => v = .agg #[.slice (some ⟨b, off, none⟩) n cP, .slice Bc n d, .int .i64 st], fun v _ => v = .int .i64 (i : Nat), fun v _ => v = .agg #[.int .i64 lm, .int .i64 tk], fun v _ => v = .int .i64 (-1), fun v _ => v = .bool lv, fun v _ => v = .agg #[.int .i64 (stepV x lm tk lv).1, .int .i64 (stepV x lm tk lv).2], fun v _ => v = .pointer (some ⟨gl, i * 2, none⟩)] (Bl.trans) (Bl.drew) (by kernel_rfl) (fun _ _ d _ _ h => by cases d <;> exact h) rfl (by kernel_rfl) (stay_cons (stays_v _) (stay_cons (stays_v _) (stay_cons (stays_v _) (stay_cons (stays_v _) (stay_cons (stays_v _) (stay_cons (stays_v _) (stay_cons (stays_v _) (stay_cons (stays_v _) (stay_cons (stays_v _) (stay_cons (stays_v _) (stay_cons (stays_v _) (stay_cons (stays_v _) (stay_cons (stays_v _) (stay_cons (stays_v _) (stay_cons (stays_v _) (stay_cons (stays_v _) (stay_nil))))))))))))))))) ?_ ?_
      · simp only [List.take_succ_cons, List.take_zero]
        refine steps_cons (Bl.refl) (fun ev xw hb hc hf hfr hd hr => ?_) ?_
        · have e4 : ev (.tmp 4) = .pointer (some ⟨w.heap.size + 1, 0, none⟩) := hfr 4 (by kernel_rfl)
          clear hfr hd
          show OpOk _ _ ev xw fun v w' => Bl xw w' ∧ (v = .pointer (some ⟨w.heap.size + 1, 0, none⟩))
          refine opOk_hid (fun Rp HR => ?_)
          unfold OpOk
          go_simp
          rw [HR.out]
          exact ⟨hr, rfl⟩
        refine steps_cons (Bl.refl) (fun ev xw hb hc hf hfr hd hr => ?_) ?_
        · have e38 : ev (.tmp 38) = .pointer (some ⟨w.heap.size + 1, 0, none⟩) := hd 0 38 (by kernel_rfl)
          clear hfr hd
          have k0 := (C9.below hb).at 0 rfl
          show OpOk _ _ ev xw fun v w' => Bl xw w' ∧ (v = .slice (some ⟨gl, 0, none⟩) n cl)
          refine opOk_hid (fun Rp HR => ?_)
          unfold OpOk
          go_simp
          rw [HR.out]
          exact ⟨hr, rfl⟩
        refine steps_cons (Bl.refl) (fun ev xw hb hc hf hfr hd hr => ?_) ?_
        · have e7 : ev (.tmp 7) = .int .i64 (i : Nat) := hfr 7 (by kernel_rfl)
          clear hfr hd
          show OpOk _ _ ev xw fun v w' => Bl xw w' ∧ (v = .int .i64 (i : Nat))
          refine opOk_hid (fun Rp HR => ?_)
          unfold OpOk
          go_simp
          rw [HR.out]
          exact ⟨hr, rfl⟩
        refine steps_cons (Bl.refl) (fun ev xw hb hc hf hfr hd hr => ?_) ?_
        · have e3 : ev (.tmp 3) = .pointer (some ⟨w.heap.size, 0, none⟩) := hfr 3 (by kernel_rfl)
          clear hfr hd
          show OpOk _ _ ev xw fun v w' => Bl xw w' ∧ (v = .pointer (some ⟨w.heap.size, 0, none⟩))
          refine opOk_hid (fun Rp HR => ?_)
          unfold OpOk
          go_simp
          rw [HR.out]
          exact ⟨hr, rfl⟩
        refine steps_cons (Bl.refl) (fun ev xw hb hc hf hfr hd hr => ?_) ?_
        · have e41 : ev (.tmp 41) = .pointer (some ⟨w.heap.size, 0, none⟩) := hd 3 41 (by kernel_rfl)
          clear hfr hd
          have k0 := (J9.below hb).at 0 rfl
          show OpOk _ _ ev xw fun v w' => Bl xw w' ∧ (v = .slice (some ⟨b, off, none⟩) n cP)
          refine opOk_hid (fun Rp HR => ?_)
          unfold OpOk
          go_simp
          rw [HR.out]
          exact ⟨hr, rfl⟩
        refine steps_cons (Bl.refl) (fun ev xw hb hc hf hfr hd hr => ?_) ?_
        · have e7 : ev (.tmp 7) = .int .i64 (i : Nat) := hfr 7 (by kernel_rfl)
          clear hfr hd
          show OpOk _ _ ev xw fun v w' => Bl xw w' ∧ (v = .int .i64 (i : Nat))
          refine opOk_hid (fun Rp HR => ?_)
          unfold OpOk
          go_simp
          rw [HR.out]
          exact ⟨hr, rfl⟩
        refine steps_cons (Bl.refl) (fun ev xw hb hc hf hfr hd hr => ?_) ?_
        · have e42 : ev (.tmp 42) = .slice (some ⟨b, off, none⟩) n cP := hd 4 42 (by kernel_rfl)
          have e43 : ev (.tmp 43) = .int .i64 (i : Nat) := hd 5 43 (by kernel_rfl)
          clear hfr hd
          show OpOk _ _ ev xw fun v w' => Bl xw w' ∧ (v = .pointer (some ⟨b, off + i * 8, none⟩))
          refine opOk_hid (fun Rp HR => ?_)
          unfold OpOk
          go_simp
          rw [HR.out]
          exact ⟨hr, rfl⟩
        refine steps_cons (Bl.refl) (fun ev xw hb hc hf hfr hd hr => ?_) ?_
        · have e44 : ev (.tmp 44) = .pointer (some ⟨b, off + i * 8, none⟩) := hd 6 44 (by kernel_rfl)
          clear hfr hd
          obtain ⟨x0, x1, x2, x3, x4, x5, x6, x7⟩ := hXb.block (hb.block b hb9)
          show OpOk _ _ ev xw fun v w' => Bl xw w' ∧ (v = .agg #[.int .i64 x.ri, .int .i64 x.gr, .int .i64 x.mn, .int .i64 x.mx, .int .i64 x.yl, .int .i64 x.rd, .int .i64 x.wk, .int .i64 x.cl])
          refine opOk_hid (fun Rp HR => ?_)
          unfold OpOk
          go_simp
          rw [HR.out]
          exact ⟨hr, rfl⟩
        refine steps_cons (Bl.refl) (fun ev xw hb hc hf hfr hd hr => ?_) ?_
        · have e8 : ev (.tmp 8) = .pointer (some ⟨g9, 0, none⟩) := hfr 8 (by kernel_rfl)
          clear hfr hd
          have k0 := (X9.below hb).at 0 rfl
          have k1 := (X9.below hb).at 1 rfl
          show OpOk _ _ ev xw fun v w' => Bl xw w' ∧ (v = .agg #[.int .i64 lm, .int .i64 tk])
          refine opOk_hid (fun Rp HR => ?_)
          unfold OpOk
          go_simp
          rw [HR.out]
          exact ⟨hr, rfl⟩
        refine steps_cons (Bl.refl) (fun ev xw hb hc hf hfr hd hr => ?_) ?_
        · have e3 : ev (.tmp 3) = .pointer (some ⟨w.heap.size, 0, none⟩) := hfr 3 (by kernel_rfl)
          clear hfr hd
          have k0 := (J9.below hb).at 0 rfl
          have k1 := (J9.below hb).at 1 rfl
          have k2 := (J9.below hb).at 2 rfl
          show OpOk _ _ ev xw fun v w' => Bl xw w' ∧ (v = .agg #[.slice (some ⟨b, off, none⟩) n cP, .slice Bc n d, .int .i64 st])
          refine opOk_hid (fun Rp HR => ?_)
          unfold OpOk
          go_simp
          rw [HR.out]
          exact ⟨hr, rfl⟩
        refine steps_cons (Bl.refl) (fun ev xw hb hc hf hfr hd hr => ?_) ?_
        · have e7 : ev (.tmp 7) = .int .i64 (i : Nat) := hfr 7 (by kernel_rfl)
          clear hfr hd
          show OpOk _ _ ev xw fun v w' => Bl xw w' ∧ (v = .int .i64 (i : Nat))
          refine opOk_hid (fun Rp HR => ?_)
          unfold OpOk
          go_simp
          rw [HR.out]
          exact ⟨hr, rfl⟩
        refine steps_cons (Bl.refl) (fun ev xw hb hc hf hfr hd hr => ?_) ?_
        · have e8 : ev (.tmp 8) = .pointer (some ⟨g9, 0, none⟩) := hfr 8 (by kernel_rfl)
          clear hfr hd
          have k0 := (X9.below hb).at 0 rfl
          have k1 := (X9.below hb).at 1 rfl
          show OpOk _ _ ev xw fun v w' => Bl xw w' ∧ (v = .agg #[.int .i64 lm, .int .i64 tk])
          refine opOk_hid (fun Rp HR => ?_)
          unfold OpOk
          go_simp
          rw [HR.out]
          exact ⟨hr, rfl⟩
        refine steps_cons (Bl.refl) (fun ev xw hb hc hf hfr hd hr => ?_) ?_
        · have e2 : ev (.tmp 2) = .int .i64 (-1) := hfr 2 (by kernel_rfl)
          clear hfr hd
          show OpOk _ _ ev xw fun v w' => Bl xw w' ∧ (v = .int .i64 (-1))
          refine opOk_hid (fun Rp HR => ?_)
          unfold OpOk
          go_simp
          rw [HR.out]
          exact ⟨hr, rfl⟩
        refine steps_cons (Bl.refl) (fun ev xw hb hc hf hfr hd hr => ?_) ?_
        · have e47 : ev (.tmp 47) = .agg #[.slice (some ⟨b, off, none⟩) n cP, .slice Bc n d, .int .i64 st] := hd 9 47 (by kernel_rfl)
          have e48 : ev (.tmp 48) = .int .i64 (i : Nat) := hd 10 48 (by kernel_rfl)
          have e49 : ev (.tmp 49) = .agg #[.int .i64 lm, .int .i64 tk] := hd 11 49 (by kernel_rfl)
          have e50 : ev (.tmp 50) = .int .i64 (-1) := hd 12 50 (by kernel_rfl)
          clear hfr hd
          show OpOk _ _ ev xw fun v w' => Bl xw w' ∧ (v = .bool lv)
          refine opOk_hid (fun Rp HR => ?_)
          unfold OpOk
          go_simp
          refine (HLV.out xw hb).mono ?_
          rintro e w'' ⟨rfl, hw⟩
          refine ⟨_, rfl, ?_⟩
          rw [HR.out]
          exact ⟨hw, rfl⟩
        refine steps_cons (Bl.refl) (fun ev xw hb hc hf hfr hd hr => ?_) ?_
        · have e45 : ev (.tmp 45) = .agg #[.int .i64 x.ri, .int .i64 x.gr, .int .i64 x.mn, .int .i64 x.mx, .int .i64 x.yl, .int .i64 x.rd, .int .i64 x.wk, .int .i64 x.cl] := hd 7 45 (by kernel_rfl)
          have e46 : ev (.tmp 46) = .agg #[.int .i64 lm, .int .i64 tk] := hd 8 46 (by kernel_rfl)
          have e51 : ev (.tmp 51) = .bool lv := hd 13 51 (by kernel_rfl)
          clear hfr hd
          show OpOk _ _ ev xw fun v w' => Bl xw w' ∧ (v = .agg #[.int .i64 (stepV x lm tk lv).1, .int .i64 (stepV x lm tk lv).2])
          refine opOk_hid (fun Rp HR => ?_)
          unfold OpOk
          go_simp
          refine (lstep_any x lm tk lv xw HPX.out HTK.out).mono ?_
          rintro e w'' ⟨rfl, hw⟩
          refine ⟨_, rfl, ?_⟩
          rw [HR.out]
          exact ⟨hw, rfl⟩
        refine steps_cons (Bl.refl) (fun ev xw hb hc hf hfr hd hr => ?_) ?_
        · have e39 : ev (.tmp 39) = .slice (some ⟨gl, 0, none⟩) n cl := hd 1 39 (by kernel_rfl)
          have e40 : ev (.tmp 40) = .int .i64 (i : Nat) := hd 2 40 (by kernel_rfl)
          clear hfr hd
          show OpOk _ _ ev xw fun v w' => Bl xw w' ∧ (v = .pointer (some ⟨gl, i * 2, none⟩))
          refine opOk_hid (fun Rp HR => ?_)
          unfold OpOk
          go_simp
          rw [HR.out]
          exact ⟨hr, rfl⟩
        exact steps_nil
      · intro vs W11 hb11 hk
        have k1 : vs 14 = .agg #[.int .i64 (stepV x lm tk lv).1, .int .i64 (stepV x lm tk lv).2] := hk 14 (by omega)
        have k2 : vs 15 = .pointer (some ⟨gl, i * 2, none⟩) := hk 15 (by omega)
        clear hk
        simp only [List.take_succ_cons, List.take_zero, List.drop_succ_cons, List.drop_zero, putAll, Act.put, List.setIfInBounds_toArray, List.set_cons_zero, List.set_cons_succ, k1, k2, Nat.reduceAdd]
        refine step_store_li (by rfl) (by rfl) (by rfl) (g := gl) (i := i) (by rfl) (by rfl) (L9.below hb11) (by rw [lights_len]; have := HL.out; omega) ?_
        intro w12 L12 hg12
        have hs12 := hg12.size
        have hs11 := Below.size hb11
        unfold wpList
        go_wp2
        go_roundw
        case rel => exact ⟨i + 1, hlt, by go_num, Below.grown (B9.trans (Below.mono hb11 B9.size)) hg12 (B9.trans (Below.mono hb11 B9.size)).size (fun k e => by injection e with e; omega), (J9.below hb11).grown hg12 (by intro e; injection e with e; omega), (C9.below hb11).grown hg12 (by intro e; injection e with e; omega), (R9.below hb11).grown hg12 (by intro e; injection e with e; omega), by rw [lightsL, HX9.out, HLM.out, HTK2.out, HLVE.out]; exact L12, (N9.below hb11).grown hg12 (by intro e; injection e with e; omega), by omega⟩
        case measure => simp [intOf]; omega
    · have hltZ : ¬ (i : Int) < n := by omega
      have hin : i = n := by omega
      rw [hin] at Lr
      have hw00 : c.wt = 0 := by omega
      have hdv := lights_v hv hw00 hj.pok (-1)
      have hfn := finished_any (some ⟨gl, 0, none⟩) (some ⟨gx, 0, none⟩) cl cx n (lightsL P C c.li n (-1) n) c.nx c.gr c.wt wr (by rw [lights_len]; exact HL.out) Lr.prs (by omega) HX.out Nr.ints (fun r hr => (hv.nxin h1 r).1)
      have HST0 := Lib.hid (show stepC P C n c t = offC P C n (if setV (lightsL P C c.li n (-1) n) n = 0 ∧ at_ c.nx 0 < 0 ∧ at_ c.nx 1 < 0 then ⟨lightsL P C c.li n (-1) n, (c.gr + 1) % groupsI P n, nxL P n ((c.gr + 1) % groupsI P n) 2, c.wt⟩ else ⟨lightsL P C c.li n (-1) n, c.gr, c.nx, c.wt⟩) 2 by unfold stepC; rw [if_neg (by omega), if_neg hoff, lights_off P C c.li n t hoff n])
      have HW0 := Lib.hid hw00
      clear hin hw00
      have c0 := Cr.at 0 rfl; have c1 := Cr.at 1 rfl; have c2 := Cr.at 2 rfl; have c3 := Cr.at 3 rfl
      by_cases hfin : setV (lightsL P C c.li n (-1) n) n = 0 ∧ at_ c.nx 0 < 0 ∧ at_ c.nx 1 < 0
      · rw [decide_eq_true hfin] at hfn
        have HFIN := Lib.hid hfin
        have HFN := Lib.hid hfn
        clear hfin hfn
        go_wp2_with fail
        refine (HFN.out).mono ?_
        rintro e' w5 ⟨rfl, b5⟩
        clear HFN c0 c1 c2 c3
        have B5 := Br.trans (b5.mono Br.size)
        have J5 := Jr.below b5
        have C5 := Cr.below b5
        have R5 := Rr.below b5
        have L5 := Lr.below b5
        have N5 := Nr.below b5
        have hs5 := Nat.le_trans hsr b5.size
        clear Br Jr Cr Rr Lr Nr b5 hsr
        have hP5 : Phs w5 w5.heap.size (some ⟨b, off, none⟩) P := fun _ => ⟨b, off, rfl, Nat.lt_of_lt_of_le hb B5.size, fun k hk => (hph k (by have := HN.out; omega)).block (B5.block b hb)⟩
        go_wp2_with fail
        refine wp_region_pre (R := Bl) 8 101 [fun v _ => v = .agg #[.slice (some ⟨b, off, none⟩) n cP, .slice Bc n d, .int .i64 st], fun v _ => v = .agg #[.slice (some ⟨gl, 0, none⟩) n cl, .int .i64 c.gr, .slice (some ⟨gx, 0, none⟩) 2 cx, .int .i64 c.wt], fun v _ => v = .pointer (some ⟨w.heap.size + 1, 1, none⟩), fun v _ => v = .int .i64 c.gr, fun v _ => v = .int .i64 (c.gr + 1), fun v _ => v = .agg #[.slice (some ⟨b, off, none⟩) n cP, .slice Bc n d, .int .i64 st], fun v _ => v = .int .i64 (G : Nat), fun v _ => v = .int .i64 g'] (Bl.trans) (Bl.drew) (by kernel_rfl) (fun _ _ d _ _ h => by cases d <;> exact h) rfl (by kernel_rfl) (stay_cons (stays_v _) (stay_cons (stays_v _) (stay_cons (stays_v _) (stay_cons (stays_v _) (stay_cons (stays_v _) (stay_cons (stays_v _) (stay_cons (stays_v _) (stay_cons (stays_v _) (stay_nil))))))))) ?_ ?_
        · simp only [List.take_succ_cons, List.take_zero]
          refine steps_cons (Bl.refl) (fun ev xw hb hc hf hfr hd hr => ?_) ?_
          · have e3 : ev (.tmp 3) = .pointer (some ⟨w.heap.size, 0, none⟩) := hfr 3 (by kernel_rfl)
            clear hfr hd
            have k0 := (J5.below hb).at 0 rfl
            have k1 := (J5.below hb).at 1 rfl
            have k2 := (J5.below hb).at 2 rfl
            show OpOk _ _ ev xw fun v w' => Bl xw w' ∧ (v = .agg #[.slice (some ⟨b, off, none⟩) n cP, .slice Bc n d, .int .i64 st])
            refine opOk_hid (fun Rp HR => ?_)
            unfold OpOk
            go_simp
            rw [HR.out]
            exact ⟨hr, rfl⟩
          refine steps_cons (Bl.refl) (fun ev xw hb hc hf hfr hd hr => ?_) ?_
          · have e4 : ev (.tmp 4) = .pointer (some ⟨w.heap.size + 1, 0, none⟩) := hfr 4 (by kernel_rfl)
            clear hfr hd
            have k0 := (C5.below hb).at 0 rfl
            have k1 := (C5.below hb).at 1 rfl
            have k2 := (C5.below hb).at 2 rfl
            have k3 := (C5.below hb).at 3 rfl
            show OpOk _ _ ev xw fun v w' => Bl xw w' ∧ (v = .agg #[.slice (some ⟨gl, 0, none⟩) n cl, .int .i64 c.gr, .slice (some ⟨gx, 0, none⟩) 2 cx, .int .i64 c.wt])
            refine opOk_hid (fun Rp HR => ?_)
            unfold OpOk
            go_simp
            rw [HR.out]
            exact ⟨hr, rfl⟩
          refine steps_cons (Bl.refl) (fun ev xw hb hc hf hfr hd hr => ?_) ?_
          · have e4 : ev (.tmp 4) = .pointer (some ⟨w.heap.size + 1, 0, none⟩) := hfr 4 (by kernel_rfl)
            clear hfr hd
            show OpOk _ _ ev xw fun v w' => Bl xw w' ∧ (v = .pointer (some ⟨w.heap.size + 1, 1, none⟩))
            refine opOk_hid (fun Rp HR => ?_)
            unfold OpOk
            go_simp
            rw [HR.out]
            exact ⟨hr, rfl⟩
          refine steps_cons (Bl.refl) (fun ev xw hb hc hf hfr hd hr => ?_) ?_
          · have e63 : ev (.tmp 63) = .pointer (some ⟨w.heap.size + 1, 1, none⟩) := hd 2 63 (by kernel_rfl)
            clear hfr hd
            have k1 := (C5.below hb).at 1 rfl
            show OpOk _ _ ev xw fun v w' => Bl xw w' ∧ (v = .int .i64 c.gr)
            refine opOk_hid (fun Rp HR => ?_)
            unfold OpOk
            go_simp
            rw [HR.out]
            exact ⟨hr, rfl⟩
          refine steps_cons (Bl.refl) (fun ev xw hb hc hf hfr hd hr => ?_) ?_
          · have e64 : ev (.tmp 64) = .int .i64 c.gr := hd 3 64 (by kernel_rfl)
            clear hfr hd
            show OpOk _ _ ev xw fun v w' => Bl xw w' ∧ (v = .int .i64 (c.gr + 1))
            refine opOk_hid (fun Rp HR => ?_)
            unfold OpOk
            go_simp
            rw [HR.out]
            exact ⟨hr, rfl⟩
          refine steps_cons (Bl.refl) (fun ev xw hb hc hf hfr hd hr => ?_) ?_
          · have e3 : ev (.tmp 3) = .pointer (some ⟨w.heap.size, 0, none⟩) := hfr 3 (by kernel_rfl)
            clear hfr hd
            have k0 := (J5.below hb).at 0 rfl
            have k1 := (J5.below hb).at 1 rfl
            have k2 := (J5.below hb).at 2 rfl
            show OpOk _ _ ev xw fun v w' => Bl xw w' ∧ (v = .agg #[.slice (some ⟨b, off, none⟩) n cP, .slice Bc n d, .int .i64 st])
            refine opOk_hid (fun Rp HR => ?_)
            unfold OpOk
            go_simp
            rw [HR.out]
            exact ⟨hr, rfl⟩
          refine steps_cons (Bl.refl) (fun ev xw hb hc hf hfr hd hr => ?_) ?_
          · have e66 : ev (.tmp 66) = .agg #[.slice (some ⟨b, off, none⟩) n cP, .slice Bc n d, .int .i64 st] := hd 5 66 (by kernel_rfl)
            clear hfr hd
            show OpOk _ _ ev xw fun v w' => Bl xw w' ∧ (v = .int .i64 (G : Nat))
            refine opOk_hid (fun Rp HR => ?_)
            unfold OpOk
            go_simp
            refine (pgroups_g (A := some ⟨b, off, none⟩) (B := Bc) (c := cP) (d := d) (m := n) HG.out xw HN.out (hP5.grow hb) (by omega) hj.gr).mono ?_
            rintro e w'' ⟨rfl, hw⟩
            refine ⟨_, rfl, ?_⟩
            rw [HR.out]
            exact ⟨hw, rfl⟩
          refine steps_cons (Bl.refl) (fun ev xw hb hc hf hfr hd hr => ?_) ?_
          · have e65 : ev (.tmp 65) = .int .i64 (c.gr + 1) := hd 4 65 (by kernel_rfl)
            have e67 : ev (.tmp 67) = .int .i64 (G : Nat) := hd 6 67 (by kernel_rfl)
            clear hfr hd
            have hG0 : ¬ G = 0 := by omega
            show OpOk _ _ ev xw fun v w' => Bl xw w' ∧ (v = .int .i64 g')
            refine opOk_hid (fun Rp HR => ?_)
            unfold OpOk
            go_simp
            rw [HR.out]
            exact ⟨hr, rfl⟩
          exact steps_nil
        · intro vs W11 hb11 hk
          have k0 : vs 0 = .agg #[.slice (some ⟨b, off, none⟩) n cP, .slice Bc n d, .int .i64 st] := hk 0 (by omega)
          have k1 : vs 1 = .agg #[.slice (some ⟨gl, 0, none⟩) n cl, .int .i64 c.gr, .slice (some ⟨gx, 0, none⟩) 2 cx, .int .i64 c.wt] := hk 1 (by omega)
          have k7 : vs 7 = .int .i64 g' := hk 7 (by omega)
          clear hk
          simp only [List.take_succ_cons, List.take_zero, List.drop_succ_cons, List.drop_zero, putAll, Act.put, List.setIfInBounds_toArray, List.set_cons_zero, List.set_cons_succ, k0, k1, k7, Nat.reduceAdd]
          have J6 := J5.below hb11
          have C6 := C5.below hb11
          have R6 := R5.below hb11
          have L6 := L5.below hb11
          have B6 := B5.trans (Below.mono hb11 B5.size)
          have hs6 : w.heap.size + 1 + 1 + 1 ≤ W11.heap.size := Nat.le_trans hs5 (Below.size hb11)
          clear J5 C5 R5 L5 N5 B5 hs5 hb11 hP5
          have hgls6 : gl < W11.heap.size := L6.lt
          go_wp2_with fail
          refine (penter_any Bc (some ⟨gl, 0, none⟩) (some ⟨gx, 0, none⟩) b off cP d n n n cl 2 cx P st g' c.gr c.wt W11 HN.out (Nat.lt_of_lt_of_le hb B6.size) (fun k hk => (hph k hk).block (B6.block b hb)) (by omega)).mono ?_
          rintro e' w7 ⟨gy, rfl, b7, hgy, N7⟩
          have J7 := J6.below b7
          have C7 := C6.below b7
          have R7 := R6.below b7
          have L7 := L6.below b7
          have B7 := B6.trans (b7.mono B6.size)
          have hs7 := Nat.le_trans hs6 b7.size
          clear J6 C6 R6 L6 B6 b7
          go_wp2_with (refine step_store_ct (by rfl) (by rfl) (by rfl) (by rfl) (by rfl) C7 ?_; intro w8 C8 hg8; have c2 := C8.at 2 rfl)
          clear c2
          have Jq := J7.grown hg8 (by intro e; injection e with e; omega)
          have Rq := R7.grown hg8 (by intro e; injection e with e; omega)
          have Bq : Below w.heap.size w w8 := B7.grown hg8 B7.size (fun k e => by injection e with e; omega)
          have hsq := Nat.le_trans hs7 hg8.size
          have hd0 : CtV P C n st ⟨lightsL P C c.li n (-1) n, g', nxL P n g' 2, c.wt⟩ := ⟨hdv.li, nxL_len _ _ _ _, by rw [HG.out]; omega, hdv.wt, hdv.ok, fun r hr => nxL_val P n g' r hr, hdv.no, hdv.red⟩
          obtain ⟨d0, hd⟩ : ∃ d0 : Ct, d0 = ⟨lightsL P C c.li n (-1) n, g', nxL P n g' 2, c.wt⟩ := ⟨_, rfl⟩
          rw [← hd] at hd0
          have hdw : d0.wt = 0 := by rw [hd]; exact HW0.out
          have HST := Lib.hid (show stepC P C n c t = offC P C n d0 2 by rw [HST0.out, if_pos HFIN.out, HGG.out, hd])
          have Cq : Blk w8 (w.heap.size + 1) 25 #[.slice (some ⟨gl, 0, none⟩) n cl, .int .i64 (offC P C n d0 0).gr, .slice (some ⟨gy, 0, none⟩) 2 2, .int .i64 (offC P C n d0 0).wt] := by rw [hd]; exact C8
          have Lq : LiB w8 gl (offC P C n d0 0).li := by rw [hd]; exact L7.grown hg8 (by intro e; injection e with e; omega)
          have Nq : NxB w8 gy (offC P C n d0 0).nx := by rw [hd]; exact N7.grown hg8 (by intro e; injection e with e; omega)
          have hgxq : w.heap.size + 1 + 1 + 1 ≤ gy := by omega
          have hlxq : gl ≠ gy := by omega
          clear hd J7 C7 R7 L7 N7 B7 C8 hg8 hs7 HFIN HST0
          go_loopw [73] (fun v wr => ∃ r gx' cx' : Nat, r ≤ 2 ∧ v = .int .i64 r ∧ Below w.heap.size w wr ∧ Blk wr (w.heap.size) 30 #[.slice (some ⟨b, off, none⟩) n cP, .slice Bc n d, .int .i64 st] ∧ Blk wr (w.heap.size + 1) 25 #[.slice (some ⟨gl, 0, none⟩) n cl, .int .i64 (offC P C n d0 r).gr, .slice (some ⟨gx', 0, none⟩) 2 cx', .int .i64 (offC P C n d0 r).wt] ∧ Blk wr (w.heap.size + 1 + 1) 25 #[.slice none 0 0, .int .i64 0, .slice none 0 0, .int .i64 0] ∧ LiB wr gl (offC P C n d0 r).li ∧ NxB wr gx' (offC P C n d0 r).nx ∧ w.heap.size + 1 + 1 + 1 ≤ wr.heap.size ∧ w.heap.size + 1 + 1 + 1 ≤ gx' ∧ gl ≠ gx') (fun v _ => 2 - (intOf v).toNat)
          case atStart => exact ⟨0, gy, 2, by omega, rfl, Bq, Jq, Cq, Rq, Lq, Nq, hsq, hgxq, hlxq⟩
          case round =>
            obtain ⟨r, gx', cx', hr, rfl, Br, Jr, Cr, Rr, Lr, Nr, hsr, hgx', hlx'⟩ := hrel
            clear Bq Jq Cq Rq Lq Nq hsq
            by_cases hlr : r < 2
            · have hlrZ : (r : Int) < 2 := by omega
              obtain ⟨hve, hew⟩ := offC_v hj.rows hd0 hdw h1 hj.ri hj.gr r
              have hsu := off_succ P C n d0 r
              obtain ⟨e, he⟩ : ∃ e, offC P C n d0 r = e := ⟨_, rfl⟩
              rw [he] at hve hew hsu Cr Lr Nr
              clear he
              have hqb := hve.nxin h1 r
              have hcnd := pcand_none Bc b off gx' 0 cP d n cx' P C e.nx (.slice (some ⟨gl, 0, none⟩) n cl) st e.gr e.wt r wr (by omega) hlr hve.nx Nr.lt (fun i hi => by rw [Nat.zero_add]; exact (Nr.at (by rw [hve.nx]; exact hi)).1)
              obtain ⟨q, hq⟩ : ∃ q, at_ e.nx r = q := ⟨_, rfl⟩
              rw [hq] at hqb hsu hcnd
              have HSU := Lib.hid hsu
              have HCA := Lib.hid hcnd
              clear hsu hq hcnd hew
              have hli := hve.li
              have HLI := Lib.hid hli
              have HNX := Lib.hid hve.nx
              clear hli
              have HVE := Lib.hid hve
              clear hve
              have hgxs := Nr.lt
              have j0 := Jr.at 0 rfl; have j1 := Jr.at 1 rfl; have j2 := Jr.at 2 rfl
              have c0 := Cr.at 0 rfl; have c1 := Cr.at 1 rfl; have c2 := Cr.at 2 rfl; have c3 := Cr.at 3 rfl
              go_wp2_with fail
              refine (HCA.out).mono ?_
              rintro e' w5 ⟨rfl, b5⟩
              clear HCA j0 j1 j2 c0 c1 c2 c3
              have B5 := Br.trans (b5.mono Br.size)
              have J5 := Jr.below b5
              have C5 := Cr.below b5
              have R5 := Rr.below b5
              have L5 := Lr.below b5
              have N5 := Nr.below b5
              have hs5 := Nat.le_trans hsr b5.size
              clear Br Jr Cr Rr Lr Nr b5 hsr
              by_cases hq0 : 0 ≤ q
              · obtain ⟨Q, rfl⟩ := Int.eq_ofNat_of_zero_le hq0
                have hQ : Q < n := by omega
                have z5 : (((Q : Nat) : Int) != -1) = true := by simp
                have HSB := Lib.hid (show ∀ bv : Bool, idleB P e.li n r = bv → offC P C n d0 (r + 1) = if bv = true then beginC P C n e Q else e by
                  intro bv hbv
                  rw [HSU.out]
                  by_cases hi : IdleP P e.li n r
                  · rw [idleB_t hi] at hbv; subst hbv; rw [if_pos ⟨hi, by omega⟩]; rfl
                  · rw [idleB_f hi] at hbv; subst hbv; rw [if_neg (fun h => hi h.1)]; rfl)
                have hdk := dark_any Bc (some ⟨gx', 0, none⟩) b off gl 0 cP d n n cl 2 cx' P e.li st e.gr e.wt r w5 (Nat.lt_of_lt_of_le hb B5.size) (fun k hk => (hph k hk).block (B5.block b hb)) (by omega) L5.lt (fun k hk => by rw [Nat.zero_add]; have := L5.at (i := k) (by rw [HLI.out]; exact hk); exact ⟨this.1, this.2.1⟩)
                obtain ⟨bv, hbv⟩ : ∃ bv, idleB P e.li n r = bv := ⟨_, rfl⟩
                rw [hbv] at hdk
                have HSE0 := Lib.hid (HSB.out bv hbv)
                have HDK := Lib.hid hdk
                clear hdk hbv HSB HSU
                have j0 := J5.at 0 rfl; have j1 := J5.at 1 rfl; have j2 := J5.at 2 rfl
                have c0 := C5.at 0 rfl; have c1 := C5.at 1 rfl; have c2 := C5.at 2 rfl; have c3 := C5.at 3 rfl
                go_wp2_with fail
                refine (HDK.out).mono ?_
                rintro e' w6 ⟨rfl, b6⟩
                clear HDK j0 j1 j2 c0 c1 c2 c3
                have hgxs5 := N5.lt
                have B6 := B5.trans (b6.mono B5.size)
                have J6 := J5.below b6
                have C6 := C5.below b6
                have R6 := R5.below b6
                have L6 := L5.below b6
                have N6 := N5.below b6
                have hs6 := Nat.le_trans hs5 b6.size
                clear B5 J5 C5 R5 L5 N5 b6 hs5 hgxs5
                cases bv with
                | false =>
                  have HSE := Lib.hid (HSE0.out.trans (if_neg (by simp)))
                  clear HSE0
                  go_wp2
                  go_roundw
                  case rel => exact ⟨r + 1, gx', cx', hlr, by go_num, B6, J6, by rw [HSE.out]; exact C6, R6, by rw [HSE.out]; exact L6, by rw [HSE.out]; exact N6, hs6, hgx', hlx'⟩
                  case measure => simp [intOf]; omega
                | true =>
                  have hcb := canBegin_any (some ⟨b, off, none⟩) Bc (some ⟨gl, 0, none⟩) (.slice (some ⟨gx', 0, none⟩) 2 cx') cP d cl n Q C e.li st e.gr e.wt w6 HRC.out (hC.grow B6) HLI.out L6.prs (by omega) hQ hj.rows.sym
                  have j0 := J6.at 0 rfl; have j1 := J6.at 1 rfl; have j2 := J6.at 2 rfl
                  have c0 := C6.at 0 rfl; have c1 := C6.at 1 rfl; have c2 := C6.at 2 rfl; have c3 := C6.at 3 rfl
                  by_cases hhi : HinP C e.li n Q
                  · rw [decide_eq_true hhi] at hcb
                    have HSE := Lib.hid (show offC P C n d0 (r + 1) = e by rw [HSE0.out, if_pos rfl]; unfold beginC; rw [if_pos hhi])
                    have HCB := Lib.hid hcb
                    clear HSE0 hcb hhi
                    go_wp2_with fail
                    refine (HCB.out).mono ?_
                    rintro e' w7 ⟨rfl, b7⟩
                    clear HCB j0 j1 j2 c0 c1 c2 c3
                    have B7 := B6.trans (b7.mono B6.size)
                    have J7 := J6.below b7
                    have C7 := C6.below b7
                    have R7 := R6.below b7
                    have L7 := L6.below b7
                    have N7 := N6.below b7
                    have hs7 := Nat.le_trans hs6 b7.size
                    go_wp2
                    go_roundw
                    case rel => exact ⟨r + 1, gx', cx', hlr, by go_num, B7, J7, by rw [HSE.out]; exact C7, R7, by rw [HSE.out]; exact L7, by rw [HSE.out]; exact N7, hs7, hgx', hlx'⟩
                    case measure => simp [intOf]; omega
                  · rw [decide_eq_false hhi] at hcb
                    have HSE := Lib.hid (show offC P C n d0 (r + 1) = beginC P C n e Q by rw [HSE0.out, if_pos rfl])
                    have HCB := Lib.hid hcb
                    have HHI := Lib.hid hhi
                    clear HSE0 hcb hhi
                    go_wp2_with fail
                    refine (HCB.out).mono ?_
                    rintro e' w7 ⟨rfl, b7⟩
                    clear HCB j0 j1 j2 c0 c1 c2 c3
                    have B7 := B6.trans (b7.mono B6.size)
                    have J7 := J6.below b7
                    have C7 := C6.below b7
                    have R7 := R6.below b7
                    have L7 := L6.below b7
                    have N7 := N6.below b7
                    have hs7 := Nat.le_trans hs6 b7.size
                    clear B6 J6 C6 R6 L6 N6 b7 hs6
                    have j0 := J7.at 0 rfl; have j1 := J7.at 1 rfl; have j2 := J7.at 2 rfl
                    have c0 := C7.at 0 rfl; have c1 := C7.at 1 rfl; have c2 := C7.at 2 rfl; have c3 := C7.at 3 rfl
                    go_wp2_with fail
                    refine (pbegin_any Bc b off cP d n n (w.heap.size + 1 + 1 + 1) gl cl gx' cx' Q P C e st w7 HN.out (by omega) (fun k hk => (hph k hk).block (B7.block b hb)) (by omega) HLI.out HNX.out L7 N7 (by omega) hgx' hlx' hs7 hQ hj.ri HHI.out).mono ?_
                    rintro e' w8 ⟨gy, cy, rfl, b8, L8, N8, hgy, hly⟩
                    clear j0 j1 j2 c0 c1 c2 c3
                    have B8 := B7.trans (b8.mono (by omega))
                    have J8 := J7.lowR b8 (by omega)
                    have C8 := C7.lowR b8 (by omega)
                    have R8 := R7.lowR b8 (by omega)
                    have hs8 := Nat.le_trans hs7 b8.size
                    clear B7 J7 C7 R7 L7 N7 b8 hs7
                    go_wp2_with (refine step_store_ct (by rfl) (by rfl) (by rfl) (by rfl) (by rfl) C8 ?_; intro w9 C9 hg9)
                    go_roundw
                    case rel => exact ⟨r + 1, gy, cy, hlr, by go_num, B8.grown hg9 B8.size (fun k e => by injection e with e; omega), J8.grown hg9 (by intro e; injection e with e; omega), by rw [HSE.out]; exact C9, R8.grown hg9 (by intro e; injection e with e; omega), by rw [HSE.out]; exact L8.grown hg9 (by intro e; injection e with e; omega), by rw [HSE.out]; exact N8.grown hg9 (by intro e; injection e with e; omega), Nat.le_trans hs8 hg9.size, hgy, hly⟩
                    case measure => simp [intOf]; omega
              · obtain rfl : q = -1 := by omega
                have HSE := Lib.hid (show offC P C n d0 (r + 1) = e by rw [HSU.out, if_neg (fun h => by have := h.2; omega)])
                clear HSU hq0
                go_wp2
                go_roundw
                case rel => exact ⟨r + 1, gx', cx', hlr, by go_num, B5, J5, by rw [HSE.out]; exact C5, R5, by rw [HSE.out]; exact L5, by rw [HSE.out]; exact N5, hs5, hgx', hlx'⟩
                case measure => simp [intOf]; omega
            · have hlrZ : ¬ (r : Int) < 2 := by omega
              have hr2 : r = 2 := by omega
              rw [hr2] at Cr Lr Nr
              have c0 := Cr.at 0 rfl; have c1 := Cr.at 1 rfl; have c2 := Cr.at 2 rfl; have c3 := Cr.at 3 rfl
              go_wp2_with (refine step_store_ct (by rfl) (by rfl) (by rfl) (by rfl) (by rfl) Rr ?_; intro w9 R9 hg9)
              refine bodyPost_ret (results_cell rfl rfl (load_control R9)) rfl ?_
              refine ⟨_, rfl, Br.grown hg9 Br.size (fun k e => by injection e with e; omega), gl, cl, gx', cx', ?_, ⟨by omega, hcl⟩, by omega, ?_, ?_⟩
              · rw [HST.out]
              · rw [HST.out]; exact Lr.grown hg9 (by intro e; injection e with e; omega)
              · rw [HST.out]; exact Nr.grown hg9 (by intro e; injection e with e; omega)
      · rw [decide_eq_false hfin] at hfn
        have HST1 := Lib.hid (HST0.out.trans (by rw [if_neg hfin]))
        have HFN := Lib.hid hfn
        clear hfin hfn HST0
        obtain ⟨d0, hd⟩ : ∃ d0 : Ct, d0 = ⟨lightsL P C c.li n (-1) n, c.gr, c.nx, c.wt⟩ := ⟨_, rfl⟩
        have hd0 := hdv
        rw [← hd] at hd0
        have hdw : d0.wt = 0 := by rw [hd]; exact HW0.out
        have HST := Lib.hid (show stepC P C n c t = offC P C n d0 2 by rw [HST1.out, hd])
        clear HST1
        go_wp2_with fail
        refine (HFN.out).mono ?_
        rintro e' w5 ⟨rfl, b5⟩
        clear HFN c0 c1 c2 c3
        have Bq := Br.trans (b5.mono Br.size)
        have Jq := Jr.below b5
        have C5 := Cr.below b5
        have Rq := Rr.below b5
        have hsq := Nat.le_trans hsr b5.size
        have Cq : Blk w5 (w.heap.size + 1) 25 #[.slice (some ⟨gl, 0, none⟩) n cl, .int .i64 (offC P C n d0 0).gr, .slice (some ⟨gx, 0, none⟩) 2 cx, .int .i64 (offC P C n d0 0).wt] := by rw [hd]; exact C5
        have Lq : LiB w5 gl (offC P C n d0 0).li := by rw [hd]; exact Lr.below b5
        have Nq : NxB w5 gx (offC P C n d0 0).nx := by rw [hd]; exact Nr.below b5
        have hgxq : w.heap.size + 1 + 1 + 1 ≤ gx := by omega
        have hlxq := hlx
        have c2 := C5.at 2 rfl
        clear hd C5 Cr Lr Nr Br Jr Rr hsr b5
        go_wp2_with fail
        clear c2
        go_loopw [73] (fun v wr => ∃ r gx' cx' : Nat, r ≤ 2 ∧ v = .int .i64 r ∧ Below w.heap.size w wr ∧ Blk wr (w.heap.size) 30 #[.slice (some ⟨b, off, none⟩) n cP, .slice Bc n d, .int .i64 st] ∧ Blk wr (w.heap.size + 1) 25 #[.slice (some ⟨gl, 0, none⟩) n cl, .int .i64 (offC P C n d0 r).gr, .slice (some ⟨gx', 0, none⟩) 2 cx', .int .i64 (offC P C n d0 r).wt] ∧ Blk wr (w.heap.size + 1 + 1) 25 #[.slice none 0 0, .int .i64 0, .slice none 0 0, .int .i64 0] ∧ LiB wr gl (offC P C n d0 r).li ∧ NxB wr gx' (offC P C n d0 r).nx ∧ w.heap.size + 1 + 1 + 1 ≤ wr.heap.size ∧ w.heap.size + 1 + 1 + 1 ≤ gx' ∧ gl ≠ gx') (fun v _ => 2 - (intOf v).toNat)
        case atStart => exact ⟨0, gx, cx, by omega, rfl, Bq, Jq, Cq, Rq, Lq, Nq, hsq, hgxq, hlxq⟩
        case round =>
          obtain ⟨r, gx', cx', hr, rfl, Br, Jr, Cr, Rr, Lr, Nr, hsr, hgx', hlx'⟩ := hrel
          clear Bq Jq Cq Rq Lq Nq hsq
          by_cases hlr : r < 2
          · have hlrZ : (r : Int) < 2 := by omega
            obtain ⟨hve, hew⟩ := offC_v hj.rows hd0 hdw h1 hj.ri hj.gr r
            have hsu := off_succ P C n d0 r
            obtain ⟨e, he⟩ : ∃ e, offC P C n d0 r = e := ⟨_, rfl⟩
            rw [he] at hve hew hsu Cr Lr Nr
            clear he
            have hqb := hve.nxin h1 r
            have hcnd := pcand_none Bc b off gx' 0 cP d n cx' P C e.nx (.slice (some ⟨gl, 0, none⟩) n cl) st e.gr e.wt r wr (by omega) hlr hve.nx Nr.lt (fun i hi => by rw [Nat.zero_add]; exact (Nr.at (by rw [hve.nx]; exact hi)).1)
            obtain ⟨q, hq⟩ : ∃ q, at_ e.nx r = q := ⟨_, rfl⟩
            rw [hq] at hqb hsu hcnd
            have HSU := Lib.hid hsu
            have HCA := Lib.hid hcnd
            clear hsu hq hcnd hew
            have hli := hve.li
            have HLI := Lib.hid hli
            have HNX := Lib.hid hve.nx
            clear hli
            have HVE := Lib.hid hve
            clear hve
            have hgxs := Nr.lt
            have j0 := Jr.at 0 rfl; have j1 := Jr.at 1 rfl; have j2 := Jr.at 2 rfl
            have c0 := Cr.at 0 rfl; have c1 := Cr.at 1 rfl; have c2 := Cr.at 2 rfl; have c3 := Cr.at 3 rfl
            go_wp2_with fail
            refine (HCA.out).mono ?_
            rintro e' w5 ⟨rfl, b5⟩
            clear HCA j0 j1 j2 c0 c1 c2 c3
            have B5 := Br.trans (b5.mono Br.size)
            have J5 := Jr.below b5
            have C5 := Cr.below b5
            have R5 := Rr.below b5
            have L5 := Lr.below b5
            have N5 := Nr.below b5
            have hs5 := Nat.le_trans hsr b5.size
            clear Br Jr Cr Rr Lr Nr b5 hsr
            by_cases hq0 : 0 ≤ q
            · obtain ⟨Q, rfl⟩ := Int.eq_ofNat_of_zero_le hq0
              have hQ : Q < n := by omega
              have z5 : (((Q : Nat) : Int) != -1) = true := by simp
              have HSB := Lib.hid (show ∀ bv : Bool, idleB P e.li n r = bv → offC P C n d0 (r + 1) = if bv = true then beginC P C n e Q else e by
                intro bv hbv
                rw [HSU.out]
                by_cases hi : IdleP P e.li n r
                · rw [idleB_t hi] at hbv; subst hbv; rw [if_pos ⟨hi, by omega⟩]; rfl
                · rw [idleB_f hi] at hbv; subst hbv; rw [if_neg (fun h => hi h.1)]; rfl)
              have hdk := dark_any Bc (some ⟨gx', 0, none⟩) b off gl 0 cP d n n cl 2 cx' P e.li st e.gr e.wt r w5 (Nat.lt_of_lt_of_le hb B5.size) (fun k hk => (hph k hk).block (B5.block b hb)) (by omega) L5.lt (fun k hk => by rw [Nat.zero_add]; have := L5.at (i := k) (by rw [HLI.out]; exact hk); exact ⟨this.1, this.2.1⟩)
              obtain ⟨bv, hbv⟩ : ∃ bv, idleB P e.li n r = bv := ⟨_, rfl⟩
              rw [hbv] at hdk
              have HSE0 := Lib.hid (HSB.out bv hbv)
              have HDK := Lib.hid hdk
              clear hdk hbv HSB HSU
              have j0 := J5.at 0 rfl; have j1 := J5.at 1 rfl; have j2 := J5.at 2 rfl
              have c0 := C5.at 0 rfl; have c1 := C5.at 1 rfl; have c2 := C5.at 2 rfl; have c3 := C5.at 3 rfl
              go_wp2_with fail
              refine (HDK.out).mono ?_
              rintro e' w6 ⟨rfl, b6⟩
              clear HDK j0 j1 j2 c0 c1 c2 c3
              have hgxs5 := N5.lt
              have B6 := B5.trans (b6.mono B5.size)
              have J6 := J5.below b6
              have C6 := C5.below b6
              have R6 := R5.below b6
              have L6 := L5.below b6
              have N6 := N5.below b6
              have hs6 := Nat.le_trans hs5 b6.size
              clear B5 J5 C5 R5 L5 N5 b6 hs5 hgxs5
              cases bv with
              | false =>
                have HSE := Lib.hid (HSE0.out.trans (if_neg (by simp)))
                clear HSE0
                go_wp2
                go_roundw
                case rel => exact ⟨r + 1, gx', cx', hlr, by go_num, B6, J6, by rw [HSE.out]; exact C6, R6, by rw [HSE.out]; exact L6, by rw [HSE.out]; exact N6, hs6, hgx', hlx'⟩
                case measure => simp [intOf]; omega
              | true =>
                have hcb := canBegin_any (some ⟨b, off, none⟩) Bc (some ⟨gl, 0, none⟩) (.slice (some ⟨gx', 0, none⟩) 2 cx') cP d cl n Q C e.li st e.gr e.wt w6 HRC.out (hC.grow B6) HLI.out L6.prs (by omega) hQ hj.rows.sym
                have j0 := J6.at 0 rfl; have j1 := J6.at 1 rfl; have j2 := J6.at 2 rfl
                have c0 := C6.at 0 rfl; have c1 := C6.at 1 rfl; have c2 := C6.at 2 rfl; have c3 := C6.at 3 rfl
                by_cases hhi : HinP C e.li n Q
                · rw [decide_eq_true hhi] at hcb
                  have HSE := Lib.hid (show offC P C n d0 (r + 1) = e by rw [HSE0.out, if_pos rfl]; unfold beginC; rw [if_pos hhi])
                  have HCB := Lib.hid hcb
                  clear HSE0 hcb hhi
                  go_wp2_with fail
                  refine (HCB.out).mono ?_
                  rintro e' w7 ⟨rfl, b7⟩
                  clear HCB j0 j1 j2 c0 c1 c2 c3
                  have B7 := B6.trans (b7.mono B6.size)
                  have J7 := J6.below b7
                  have C7 := C6.below b7
                  have R7 := R6.below b7
                  have L7 := L6.below b7
                  have N7 := N6.below b7
                  have hs7 := Nat.le_trans hs6 b7.size
                  go_wp2
                  go_roundw
                  case rel => exact ⟨r + 1, gx', cx', hlr, by go_num, B7, J7, by rw [HSE.out]; exact C7, R7, by rw [HSE.out]; exact L7, by rw [HSE.out]; exact N7, hs7, hgx', hlx'⟩
                  case measure => simp [intOf]; omega
                · rw [decide_eq_false hhi] at hcb
                  have HSE := Lib.hid (show offC P C n d0 (r + 1) = beginC P C n e Q by rw [HSE0.out, if_pos rfl])
                  have HCB := Lib.hid hcb
                  have HHI := Lib.hid hhi
                  clear HSE0 hcb hhi
                  go_wp2_with fail
                  refine (HCB.out).mono ?_
                  rintro e' w7 ⟨rfl, b7⟩
                  clear HCB j0 j1 j2 c0 c1 c2 c3
                  have B7 := B6.trans (b7.mono B6.size)
                  have J7 := J6.below b7
                  have C7 := C6.below b7
                  have R7 := R6.below b7
                  have L7 := L6.below b7
                  have N7 := N6.below b7
                  have hs7 := Nat.le_trans hs6 b7.size
                  clear B6 J6 C6 R6 L6 N6 b7 hs6
                  have j0 := J7.at 0 rfl; have j1 := J7.at 1 rfl; have j2 := J7.at 2 rfl
                  have c0 := C7.at 0 rfl; have c1 := C7.at 1 rfl; have c2 := C7.at 2 rfl; have c3 := C7.at 3 rfl
                  go_wp2_with fail
                  refine (pbegin_any Bc b off cP d n n (w.heap.size + 1 + 1 + 1) gl cl gx' cx' Q P C e st w7 HN.out (by omega) (fun k hk => (hph k hk).block (B7.block b hb)) (by omega) HLI.out HNX.out L7 N7 (by omega) hgx' hlx' hs7 hQ hj.ri HHI.out).mono ?_
                  rintro e' w8 ⟨gy, cy, rfl, b8, L8, N8, hgy, hly⟩
                  clear j0 j1 j2 c0 c1 c2 c3
                  have B8 := B7.trans (b8.mono (by omega))
                  have J8 := J7.lowR b8 (by omega)
                  have C8 := C7.lowR b8 (by omega)
                  have R8 := R7.lowR b8 (by omega)
                  have hs8 := Nat.le_trans hs7 b8.size
                  clear B7 J7 C7 R7 L7 N7 b8 hs7
                  go_wp2_with (refine step_store_ct (by rfl) (by rfl) (by rfl) (by rfl) (by rfl) C8 ?_; intro w9 C9 hg9)
                  go_roundw
                  case rel => exact ⟨r + 1, gy, cy, hlr, by go_num, B8.grown hg9 B8.size (fun k e => by injection e with e; omega), J8.grown hg9 (by intro e; injection e with e; omega), by rw [HSE.out]; exact C9, R8.grown hg9 (by intro e; injection e with e; omega), by rw [HSE.out]; exact L8.grown hg9 (by intro e; injection e with e; omega), by rw [HSE.out]; exact N8.grown hg9 (by intro e; injection e with e; omega), Nat.le_trans hs8 hg9.size, hgy, hly⟩
                  case measure => simp [intOf]; omega
            · obtain rfl : q = -1 := by omega
              have HSE := Lib.hid (show offC P C n d0 (r + 1) = e by rw [HSU.out, if_neg (fun h => by have := h.2; omega)])
              clear HSU hq0
              go_wp2
              go_roundw
              case rel => exact ⟨r + 1, gx', cx', hlr, by go_num, B5, J5, by rw [HSE.out]; exact C5, R5, by rw [HSE.out]; exact L5, by rw [HSE.out]; exact N5, hs5, hgx', hlx'⟩
              case measure => simp [intOf]; omega
          · have hlrZ : ¬ (r : Int) < 2 := by omega
            have hr2 : r = 2 := by omega
            rw [hr2] at Cr Lr Nr
            have c0 := Cr.at 0 rfl; have c1 := Cr.at 1 rfl; have c2 := Cr.at 2 rfl; have c3 := Cr.at 3 rfl
            go_wp2_with (refine step_store_ct (by rfl) (by rfl) (by rfl) (by rfl) (by rfl) Rr ?_; intro w9 R9 hg9)
            refine bodyPost_ret (results_cell rfl rfl (load_control R9)) rfl ?_
            refine ⟨_, rfl, Br.grown hg9 Br.size (fun k e => by injection e with e; omega), gl, cl, gx', cx', ?_, ⟨by omega, hcl⟩, by omega, ?_, ?_⟩
            · rw [HST.out]
            · rw [HST.out]; exact Lr.grown hg9 (by intro e; injection e with e; omega)
            · rw [HST.out]; exact Nr.grown hg9 (by intro e; injection e with e; omega)

end Go.Proofs.Ytkpbkahmbbkcdaa
