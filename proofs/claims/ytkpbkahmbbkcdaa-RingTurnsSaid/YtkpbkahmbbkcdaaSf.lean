/-
  A step of a control without a target, as the reference makes it. Conditions: a valid control of a small junction.
-/
import Derived.Test.YtkpbkahmbbkcdaaSs
namespace Go.Proofs.Ytkpbkahmbbkcdaa
open Go.ChangeShapes Go.WideShapes Go.RowKit
set_option linter.unusedVariables false

theorem groups_pos {P : List Ph} {n : Nat} (h : 0 < n) (hg : ∀ i, i < n → 0 ≤ (phAt P i).gr) : 0 < groupsI P n := by
  obtain ⟨k, rfl⟩ : ∃ k, n = k + 1 := ⟨n - 1, by omega⟩
  have h1 := hg k (by omega)
  rw [groupsI]
  split
  · omega
  · omega
set_option maxRecDepth 40000 in
set_option maxHeartbeats 16000000 in
theorem step_off1 (bA oA bD oD bE oE : Nat) (Bc : Option Addr) (cP d cL cX n : Nat) (P : List Ph) (C : List Int) (c : Ct) (st t : Int) (w : World) (hn : P.length = n) (hP : Phs w w.heap.size (some ⟨bA, oA, none⟩) P) (hCn : C.length = n) (hC : Ints .i64 w w.heap.size Bc C) (hLn : c.li.length = n) (hL : Prs w w.heap.size (some ⟨bD, oD, none⟩) c.li) (hXn : c.nx.length = 2) (hX : Ints .i64 w w.heap.size (some ⟨bE, oE, none⟩) c.nx) (h1 : 0 < n) (h8 : n ≤ 8) (hpok : ∀ p, p < n → PhOk (phAt P p)) (hlok : ∀ p, p < n → LiOk (phAt P p) (lmp c.li p) (tck c.li p)) (hri : ∀ p, p < n → 0 ≤ (phAt P p).ri ∧ (phAt P p).ri ≤ 1) (hgr : ∀ p, p < n → 0 ≤ (phAt P p).gr ∧ (phAt P p).gr ≤ 3) (hin : NxIn n c.nx) (hwt : 0 ≤ c.wt ∧ c.wt ≤ 1000) (hcg : 0 ≤ c.gr ∧ c.gr ≤ 3) (hw0 : ¬ 0 < c.wt) (hoff : ¬ (0 ≤ t ∧ t < n)) (ht0 : ¬ 0 ≤ t) :
    Calls Try.prog 26 #[.agg #[.slice (some ⟨bA, oA, none⟩) n cP, .slice Bc n d, .int .i64 st], .agg #[.slice (some ⟨bD, oD, none⟩) n cL, .int .i64 c.gr, .slice (some ⟨bE, oE, none⟩) 2 cX, .int .i64 c.wt], .int .i64 t] w fun e w' => ∃ v, e = .returned v ∧ Below w.heap.size w w' ∧ CtH w' w.heap.size n v (stepC P C n c t) := by
  have HW0 := Lib.hid hw0
  have hgq := groups_bd (P := P) (fun i hi => hgr i (by omega)) n (by omega)
  have hgp := groups_pos (P := P) (n := n) h1 (fun i hi => (hgr i hi).1)
  obtain ⟨G, hG⟩ := Int.eq_ofNat_of_zero_le hgq.1
  have HG := Lib.hid hG
  rw [hG] at hgq hgp
  have hG14 : 1 ≤ G ∧ G ≤ 4 := by omega
  have zr0 : (((G : Nat) : Int) == 0) = false := by simp; omega
  obtain ⟨g', hg'⟩ : ∃ g', (c.gr + 1) % (G : Int) = g' := ⟨_, rfl⟩
  have HGG := Lib.hid (show (c.gr + 1) % groupsI P n = g' by rw [hG]; exact hg')
  have ztm : (c.gr + 1).tmod (G : Int) = g' := by rw [Int.tmod_eq_emod_of_nonneg (by omega)]; exact hg'
  have hg'b : 0 ≤ g' ∧ g' < 4 := by
    have h2 := Int.emod_nonneg (c.gr + 1) (show ((G : Nat) : Int) ≠ 0 by omega)
    have h3 := Int.emod_lt_of_pos (c.gr + 1) (show 0 < ((G : Nat) : Int) by omega)
    omega
  have zwg : IntKind.i64.wrap (c.gr + 1) = c.gr + 1 := by rw [IntKind.wrap_i64]; omega
  clear hg' hG hgq hgp
  have HN := Lib.hid hn
  have HC := Lib.hid hCn
  have HL := Lib.hid hLn
  have HX := Lib.hid hXn
  clear hn hCn hLn hXn
  have bW := lat_alloc (lat_alloc (lat_alloc (Below.refl w.heap.size w) (.cells #[.slice (some ⟨bA, oA, none⟩) n cP, .slice Bc n d, .int .i64 st] 30)) (.cells #[.slice (some ⟨bD, oD, none⟩) n cL, .int .i64 c.gr, .slice (some ⟨bE, oE, none⟩) 2 cX, .int .i64 c.wt] 25)) (.cells #[.slice none 0 0, .int .i64 0, .slice none 0 0, .int .i64 0] 25)
  have BJ := ((Blk.new (w := w) (t := 30) (cs := #[.slice (some ⟨bA, oA, none⟩) n cP, .slice Bc n d, .int .i64 st])).alloc (.cells #[.slice (some ⟨bD, oD, none⟩) n cL, .int .i64 c.gr, .slice (some ⟨bE, oE, none⟩) 2 cX, .int .i64 c.wt] 25)).alloc (.cells #[.slice none 0 0, .int .i64 0, .slice none 0 0, .int .i64 0] 25)
  have BC := (Blk.new (w := w.alloc (.cells #[.slice (some ⟨bA, oA, none⟩) n cP, .slice Bc n d, .int .i64 st] 30)) (t := 25) (cs := #[.slice (some ⟨bD, oD, none⟩) n cL, .int .i64 c.gr, .slice (some ⟨bE, oE, none⟩) 2 cX, .int .i64 c.wt])).alloc (.cells #[.slice none 0 0, .int .i64 0, .slice none 0 0, .int .i64 0] 25)
  have BR := Blk.new (w := (w.alloc (.cells #[.slice (some ⟨bA, oA, none⟩) n cP, .slice Bc n d, .int .i64 st] 30)).alloc (.cells #[.slice (some ⟨bD, oD, none⟩) n cL, .int .i64 c.gr, .slice (some ⟨bE, oE, none⟩) 2 cX, .int .i64 c.wt] 25)) (t := 25) (cs := #[.slice none 0 0, .int .i64 0, .slice none 0 0, .int .i64 0])
  rw [heap_size] at BC
  rw [heap_size, heap_size] at BR
  have hP1 := hP.grow bW
  have hC1 := hC.grow bW
  have hL1 := hL.grow bW
  have hX1 := hX.grow bW
  go_enter Try.func26, Try.ntmps26
  have c0 := BC.at 0 rfl
  have c1 := BC.at 1 rfl
  have c2 := BC.at 2 rfl
  have c3 := BC.at 3 rfl
  go_wp2_with fail
  generalize ((w.alloc (.cells #[.slice (some ⟨bA, oA, none⟩) n cP, .slice Bc n d, .int .i64 st] 30)).alloc (.cells #[.slice (some ⟨bD, oD, none⟩) n cL, .int .i64 c.gr, .slice (some ⟨bE, oE, none⟩) 2 cX, .int .i64 c.wt] 25)).alloc (.cells #[.slice none 0 0, .int .i64 0, .slice none 0 0, .int .i64 0] 25) = W at *
  have hWs : w.heap.size + 1 + 1 < W.heap.size := BR.lt
  obtain ⟨B, hBB⟩ : ∃ B, W.heap.size = B := ⟨_, rfl⟩
  refine (copy_any (some ⟨bD, oD, none⟩) (some ⟨bE, oE, none⟩) cL cX n c W HL.out HX.out hL1 hX1 h1 (by omega)).mono ?_
  rintro e W2 ⟨v, rfl, hb2, gl, cl, gx, cx, rfl, hgl, hgx, LI2, NX2⟩
  have b3 := lat_alloc (Below.refl W2.heap.size W2) (.cells #[.slice (some ⟨gl, 0, none⟩) n cl, .int .i64 c.gr, .slice (some ⟨gx, 0, none⟩) 2 cx, .int .i64 c.wt] 25)
  have hs2 := hb2.size
  have O3 : Out (W2.alloc (.cells #[.slice (some ⟨gl, 0, none⟩) n cl, .int .i64 c.gr, .slice (some ⟨gx, 0, none⟩) 2 cx, .int .i64 c.wt] 25)) W2.heap.size B n gl cl gx cx c := ⟨Blk.new, LI2.below b3, NX2.below b3, by omega, by omega, by have := LI2.lt; omega, by have := NX2.lt; omega⟩
  have bB3 : Below B W (W2.alloc (.cells #[.slice (some ⟨gl, 0, none⟩) n cl, .int .i64 c.gr, .slice (some ⟨gx, 0, none⟩) 2 cx, .int .i64 c.wt] 25)) := hBB ▸ (hb2.trans (b3.mono hb2.size))
  have hgO : B ≤ W2.heap.size := by omega
  have C3 := (BC.below hb2).below b3
  have c3 := C3.at 3 rfl
  rw [hBB] at hP1 hC1 hL1 hX1 hWs
  have hBW : B ≤ W.heap.size := by omega
  have HBB := Lib.hid hBB
  clear hBB hb2 hs2 hgl hgx LI2 NX2 hP hC hL hX
  have zw : decide (0 < c.wt) = false := decide_eq_false (by have := HW0.out; omega)
  have c0 := C3.at 0 rfl
  have J3 := BJ.low bB3 (show w.heap.size < B by omega)
  have j0 := J3.at 0 rfl
  have zt1 : decide ((0 : Int) ≤ t) = false := decide_eq_false (by omega)
  go_wp2_with fail
  clear c0 c3 j0 J3 C3
  generalize W2.alloc (.cells #[.slice (some ⟨gl, 0, none⟩) n cl, .int .i64 c.gr, .slice (some ⟨gx, 0, none⟩) 2 cx, .int .i64 c.wt] 25) = W3 at *
  generalize W2.heap.size = gO at *
  go_loopw [40] (fun v wr => ∃ i : Nat, i ≤ n ∧ v = .int .i64 i ∧ Below B W wr ∧ Out wr gO B n gl cl gx cx ⟨lightsL P C c.li n t i, c.gr, c.nx, c.wt⟩) (fun v _ => n - (intOf v).toNat)
  case atStart => exact ⟨0, by omega, rfl, bB3, O3⟩
  case round =>
    obtain ⟨i, hi, rfl, bBr, Or⟩ := hrel
    by_cases hlt : i < n
    · have hltZ : (i : Int) < n := by omega
      have hln := HL.out
      have hPln := HN.out
      obtain ⟨bA', oA', hA', hbAr, hXr⟩ := (hP1.low bBr hBW).at (i := i) (by omega)
      injection Option.some.inj hA' with hA2 hA3 _
      subst hA2; subst hA3
      obtain ⟨bD', oD', hD', hbDr, l0, l1⟩ := (hL1.low bBr hBW).at (i := i) (by omega)
      injection Option.some.inj hD' with hD2 hD3 _
      subst hD2; subst hD3
      clear hA' hD' hln hPln
      obtain ⟨x, hx⟩ : ∃ x, phAt P i = x := ⟨_, rfl⟩
      obtain ⟨lm, hlm⟩ : ∃ lm, lmp c.li i = lm := ⟨_, rfl⟩
      obtain ⟨tk, htk⟩ : ∃ tk, tck c.li i = tk := ⟨_, rfl⟩
      have hl0 : (prAt c.li i).1 = lm := hlm
      have hl1 : (prAt c.li i).2 = tk := htk
      have hlx := hlok i hlt
      have hpx := hpok i hlt
      rw [hx] at hXr hlx hpx
      rw [hlm, htk] at hlx
      rw [hl0] at l0
      rw [hl1] at l1
      have HXX := Lib.hid hx
      have HLM := Lib.hid hlm
      have HTK := Lib.hid htk
      have htb := (LiOk.bd hpx hlx).2.2
      have hmx := hpx.mx
      have HPX := Lib.hid hpx
      have HLX := Lib.hid hlx
      clear hx hlm htk hl0 hl1 hlx hpx
      have hmxb : -100 ≤ x.mx ∧ x.mx ≤ 100 := by have := HPX.out.mn; omega
      clear hmx
      have zwr : IntKind.i64.wrap (tk + 1) = tk + 1 := by rw [IntKind.wrap_i64]; omega
      have Jr := BJ.low bBr (show w.heap.size < B by omega)
      have X10 := Blk.new (w := wr) (t := 45) (cs := #[.int .i64 lm, .int .i64 tk])
      have hbx := lat_alloc (Below.refl wr.heap.size wr) (.cells #[.int .i64 lm, .int .i64 tk] 45)
      have hOr := Or
      go_wp2_with fail
      have q0 := X10.laterN 1 rfl
      have q1 := (Jr.below hbx).laterN 0 rfl
      have hXb := hXr.block (hbx.block bA hbAr)
      have q2 : ∀ w', Below (wr.alloc (.cells #[.int .i64 lm, .int .i64 tk] 45)).heap.size (wr.alloc (.cells #[.int .i64 lm, .int .i64 tk] 45)) w' → w'.cell? ⟨bA, oA + i * 8 + 3, none⟩ = some (.int .i64 x.mx) := fun w' hb => (hXb.block (hb.block bA (Nat.lt_of_lt_of_le hbAr hbx.size))).2.2.2.1
      clear l0 l1 hXb
      generalize wr.alloc (.cells #[.int .i64 lm, .int .i64 tk] 45) = W9 at *
      generalize hg10 : wr.heap.size = g10 at X10 q0 ⊢
      clear hg10
      by_cases h1 : x.mx ≤ tk + 1
      · have z1 : decide (x.mx ≤ tk + 1) = true := decide_eq_true h1
        have HLV := Lib.hid (show leaveB P C c.li n t i = true by unfold leaveB; rw [if_neg hoff, HXX.out, HTK.out]; exact z1)
        clear h1
        refine wp_region_grow (by kernel_rfl) (by kernel_rfl) ?_
        repeat' (first
            | go_big_quiet_skip
            | (go_big_quiet_want; first
                | (go_big_quiet_op; go_big_quiet_on)
                | (refine quiet_det ?_; apply Exists.intro; refine ⟨fun w' hC => ?_, ?_⟩; (go_simp <;> (first | rfl | exact ⟨rfl, rfl⟩)); apply Exists.intro; refine ⟨?_, ?_⟩; (go_simp <;> (first | rfl | exact ⟨rfl, rfl⟩)); go_big_quiet_on)
                | (show Oper.quiet _ { dst := _, op := .call { callee := .value _, args := _, argTypes := _ }, type := _, pos := _, after := _, guard := _ } _ _ _; refine quiet_call ?_; apply Exists.intro; apply Exists.intro; refine ⟨fun w' hC => ?_, ?_⟩; (go_simp <;> (first | rfl | exact ⟨rfl, rfl⟩)); apply Exists.intro; refine ⟨fun w' hC => ?_, ?_⟩; (first

                    | fail); apply Exists.intro; refine ⟨?_, ?_⟩; (go_simp <;> (first | rfl | exact ⟨rfl, rfl⟩)); go_big_quiet_on)))
        all_goals refine wpQuiet_nil ?_
        intro w10 hb10
        (try rw [zwr, z1])
        have O12 := Or.below (hbx.trans (Below.mono hb10 hbx.size))
        have J12 := (Jr.below hbx).below hb10
        have L12 := X10.below hb10
        have bB12 := bBr.trans (Below.mono (hbx.trans (Below.mono hb10 hbx.size)) (Nat.le_trans hBW bBr.size))
        have hX12 := (hXr.block (hbx.block bA hbAr)).block (hb10.block bA (Nat.lt_of_lt_of_le hbAr hbx.size))
        have hbA12 := Nat.lt_of_lt_of_le (Nat.lt_of_lt_of_le hbAr hbx.size) (Below.size hb10)
        clear q0 q1 q2
        go_wp2_with fail
        refine wp_region_pre (R := Bl) 12 153 [fun v _ => v = .pointer (some ⟨gO, 0, none⟩), fun v _ => v = .slice (some ⟨gl, 0, none⟩) n cl, fun v _ => v = .int .i64 i, fun v _ => v = .pointer (some ⟨w.heap.size, 0, none⟩), fun v _ => v = .slice (some ⟨bA, oA, none⟩) n cP, fun v _ => v = .int .i64 i, fun v _ => v = .pointer (some ⟨bA, oA + i * 8, none⟩), fun v _ => v = .agg #[.int .i64 x.ri, .int .i64 x.gr, .int .i64 x.mn, .int .i64 x.mx, .int .i64 x.yl, .int .i64 x.rd, .int .i64 x.wk, .int .i64 x.cl], fun v _ => v = .agg #[.int .i64 lm, .int .i64 tk], fun v _ => v = .bool true, fun v _ => v = .agg #[.int .i64 (stepV x lm tk true).1, .int .i64 (stepV x lm tk true).2], fun v _ => v = .pointer (some ⟨gl, i * 2, none⟩)] (Bl.trans) (Bl.drew) (by kernel_rfl) (fun _ _ d _ _ h => by cases d <;> exact h) rfl (by kernel_rfl) (stay_cons (stays_v _) (stay_cons (stays_v _) (stay_cons (stays_v _) (stay_cons (stays_v _) (stay_cons (stays_v _) (stay_cons (stays_v _) (stay_cons (stays_v _) (stay_cons (stays_v _) (stay_cons (stays_v _) (stay_cons (stays_v _) (stay_cons (stays_v _) (stay_cons (stays_v _) (stay_nil))))))))))))) ?_ ?_
        · simp only [List.take_succ_cons, List.take_zero]
          refine steps_cons (Bl.refl) (fun ev xw hb hc hf hfr hd hr => ?_) ?_
          · have e7 : ev (.tmp 7) = .pointer (some ⟨gO, 0, none⟩) := hfr 7 (by kernel_rfl)
            clear hfr hd
            show OpOk _ _ ev xw fun v w' => Bl xw w' ∧ (v = .pointer (some ⟨gO, 0, none⟩))
            refine opOk_hid (fun Rp HR => ?_)
            unfold OpOk
            go_simp
            rw [HR.out]
            exact ⟨hr, rfl⟩
          refine steps_cons (Bl.refl) (fun ev xw hb hc hf hfr hd hr => ?_) ?_
          · have e69 : ev (.tmp 69) = .pointer (some ⟨gO, 0, none⟩) := hd 0 69 (by kernel_rfl)
            clear hfr hd
            have k0 := (O12.blk.below hb).at 0 rfl
            show OpOk _ _ ev xw fun v w' => Bl xw w' ∧ (v = .slice (some ⟨gl, 0, none⟩) n cl)
            refine opOk_hid (fun Rp HR => ?_)
            unfold OpOk
            go_simp
            rw [HR.out]
            exact ⟨hr, rfl⟩
          refine steps_cons (Bl.refl) (fun ev xw hb hc hf hfr hd hr => ?_) ?_
          · have e9 : ev (.tmp 9) = .int .i64 i := hfr 9 (by kernel_rfl)
            clear hfr hd
            show OpOk _ _ ev xw fun v w' => Bl xw w' ∧ (v = .int .i64 i)
            refine opOk_hid (fun Rp HR => ?_)
            unfold OpOk
            go_simp
            rw [HR.out]
            exact ⟨hr, rfl⟩
          refine steps_cons (Bl.refl) (fun ev xw hb hc hf hfr hd hr => ?_) ?_
          · have e3 : ev (.tmp 3) = .pointer (some ⟨w.heap.size, 0, none⟩) := hfr 3 (by kernel_rfl)
            clear hfr hd
            show OpOk _ _ ev xw fun v w' => Bl xw w' ∧ (v = .pointer (some ⟨w.heap.size, 0, none⟩))
            refine opOk_hid (fun Rp HR => ?_)
            unfold OpOk
            go_simp
            rw [HR.out]
            exact ⟨hr, rfl⟩
          refine steps_cons (Bl.refl) (fun ev xw hb hc hf hfr hd hr => ?_) ?_
          · have e72 : ev (.tmp 72) = .pointer (some ⟨w.heap.size, 0, none⟩) := hd 3 72 (by kernel_rfl)
            clear hfr hd
            have k0 := (J12.below hb).at 0 rfl
            show OpOk _ _ ev xw fun v w' => Bl xw w' ∧ (v = .slice (some ⟨bA, oA, none⟩) n cP)
            refine opOk_hid (fun Rp HR => ?_)
            unfold OpOk
            go_simp
            rw [HR.out]
            exact ⟨hr, rfl⟩
          refine steps_cons (Bl.refl) (fun ev xw hb hc hf hfr hd hr => ?_) ?_
          · have e9 : ev (.tmp 9) = .int .i64 i := hfr 9 (by kernel_rfl)
            clear hfr hd
            show OpOk _ _ ev xw fun v w' => Bl xw w' ∧ (v = .int .i64 i)
            refine opOk_hid (fun Rp HR => ?_)
            unfold OpOk
            go_simp
            rw [HR.out]
            exact ⟨hr, rfl⟩
          refine steps_cons (Bl.refl) (fun ev xw hb hc hf hfr hd hr => ?_) ?_
          · have e73 : ev (.tmp 73) = .slice (some ⟨bA, oA, none⟩) n cP := hd 4 73 (by kernel_rfl)
            have e74 : ev (.tmp 74) = .int .i64 i := hd 5 74 (by kernel_rfl)
            clear hfr hd
            show OpOk _ _ ev xw fun v w' => Bl xw w' ∧ (v = .pointer (some ⟨bA, oA + i * 8, none⟩))
            refine opOk_hid (fun Rp HR => ?_)
            unfold OpOk
            go_simp
            rw [HR.out]
            exact ⟨hr, rfl⟩
          refine steps_cons (Bl.refl) (fun ev xw hb hc hf hfr hd hr => ?_) ?_
          · have e75 : ev (.tmp 75) = .pointer (some ⟨bA, oA + i * 8, none⟩) := hd 6 75 (by kernel_rfl)
            clear hfr hd
            obtain ⟨k0, k1, k2, k3, k4, k5, k6, k7⟩ := hX12.block (Below.block hb bA hbA12)
            show OpOk _ _ ev xw fun v w' => Bl xw w' ∧ (v = .agg #[.int .i64 x.ri, .int .i64 x.gr, .int .i64 x.mn, .int .i64 x.mx, .int .i64 x.yl, .int .i64 x.rd, .int .i64 x.wk, .int .i64 x.cl])
            refine opOk_hid (fun Rp HR => ?_)
            unfold OpOk
            go_simp
            rw [HR.out]
            exact ⟨hr, rfl⟩
          refine steps_cons (Bl.refl) (fun ev xw hb hc hf hfr hd hr => ?_) ?_
          · have e10 : ev (.tmp 10) = .pointer (some ⟨g10, 0, none⟩) := hfr 10 (by kernel_rfl)
            clear hfr hd
            have k0 := (L12.below hb).at 0 rfl
            have k1 := (L12.below hb).at 1 rfl
            show OpOk _ _ ev xw fun v w' => Bl xw w' ∧ (v = .agg #[.int .i64 lm, .int .i64 tk])
            refine opOk_hid (fun Rp HR => ?_)
            unfold OpOk
            go_simp
            rw [HR.out]
            exact ⟨hr, rfl⟩
          refine steps_cons (Bl.refl) (fun ev xw hb hc hf hfr hd hr => ?_) ?_
          · have e11 : ev (.tmp 11) = .bool true := hfr 11 (by kernel_rfl)
            clear hfr hd
            show OpOk _ _ ev xw fun v w' => Bl xw w' ∧ (v = .bool true)
            refine opOk_hid (fun Rp HR => ?_)
            unfold OpOk
            go_simp
            rw [HR.out]
            exact ⟨hr, rfl⟩
          refine steps_cons (Bl.refl) (fun ev xw hb hc hf hfr hd hr => ?_) ?_
          · have e76 : ev (.tmp 76) = .agg #[.int .i64 x.ri, .int .i64 x.gr, .int .i64 x.mn, .int .i64 x.mx, .int .i64 x.yl, .int .i64 x.rd, .int .i64 x.wk, .int .i64 x.cl] := hd 7 76 (by kernel_rfl)
            have e77 : ev (.tmp 77) = .agg #[.int .i64 lm, .int .i64 tk] := hd 8 77 (by kernel_rfl)
            have e78 : ev (.tmp 78) = .bool true := hd 9 78 (by kernel_rfl)
            clear hfr hd
            show OpOk _ _ ev xw fun v w' => Bl xw w' ∧ (v = .agg #[.int .i64 (stepV x lm tk true).1, .int .i64 (stepV x lm tk true).2])
            refine opOk_hid (fun Rp HR => ?_)
            unfold OpOk
            go_simp
            refine (rstep_any x lm tk true xw HPX.out HLX.out).mono ?_
            rintro e w'' ⟨rfl, hw⟩
            refine ⟨_, rfl, ?_⟩
            rw [HR.out]
            exact ⟨hw, rfl⟩
          refine steps_cons (Bl.refl) (fun ev xw hb hc hf hfr hd hr => ?_) ?_
          · have e70 : ev (.tmp 70) = .slice (some ⟨gl, 0, none⟩) n cl := hd 1 70 (by kernel_rfl)
            have e71 : ev (.tmp 71) = .int .i64 i := hd 2 71 (by kernel_rfl)
            clear hfr hd
            show OpOk _ _ ev xw fun v w' => Bl xw w' ∧ (v = .pointer (some ⟨gl, i * 2, none⟩))
            refine opOk_hid (fun Rp HR => ?_)
            unfold OpOk
            go_simp
            rw [HR.out]
            exact ⟨hr, rfl⟩
          exact steps_nil
        · intro vs W13 hb13 hk
          have k1 : vs 10 = .agg #[.int .i64 (stepV x lm tk true).1, .int .i64 (stepV x lm tk true).2] := hk 10 (by omega)
          have k2 : vs 11 = .pointer (some ⟨gl, i * 2, none⟩) := hk 11 (by omega)
          clear hk
          simp only [List.take_succ_cons, List.take_zero, List.drop_succ_cons, List.drop_zero, putAll, Act.put, List.setIfInBounds_toArray, List.set_cons_zero, List.set_cons_succ, k1, k2, Nat.reduceAdd]
          have O13 := O12.below hb13
          refine step_store_li (by rfl) (by rfl) (by rfl) (g := gl) (i := i) (by rfl) (by rfl) O13.li (by show i < (lightsL P C c.li n t i).length; rw [lights_len]; have := HL.out; omega) ?_
          intro w14 LI14 hg14
          have hO13l := O13.bl
          have bB14 : Below B W w14 := Below.grown (bB12.trans (Below.mono hb13 (Nat.le_trans hBW bB12.size))) hg14 (Nat.le_trans hBW (Below.size (bB12.trans (Below.mono hb13 (Nat.le_trans hBW bB12.size))))) (fun k e => by injection e with e; omega)
          have O14 : Out w14 gO B n gl cl gx cx ⟨lightsL P C c.li n t (i + 1), c.gr, c.nx, c.wt⟩ := ⟨O13.blk.grown hg14 (by intro e; injection e with e; exact O13.nl e), by
            have e1 : lightsL P C c.li n t (i + 1) = (lightsL P C c.li n t i).set i ((stepV x lm tk true).1, (stepV x lm tk true).2) := by
              rw [lightsL, HXX.out, HLM.out, HTK.out, HLV.out]
            rw [e1]; exact LI14, O13.nx.grown hg14 (by intro e; injection e with e; exact O13.ne e), O13.bl, O13.bx, O13.nl, O13.nn⟩
          unfold wpList
          go_wp2
          go_roundw
          case rel => exact ⟨i + 1, hlt, by go_num, bB14, O14⟩
          case measure => simp [intOf]; omega
      · have z1 : decide (x.mx ≤ tk + 1) = false := decide_eq_false h1
        have HLV := Lib.hid (show leaveB P C c.li n t i = false by unfold leaveB; rw [if_neg hoff, HXX.out, HTK.out]; exact z1)
        clear h1
        refine wp_region_grow (by kernel_rfl) (by kernel_rfl) ?_
        repeat' (first
            | go_big_quiet_skip
            | (go_big_quiet_want; first
                | (go_big_quiet_op; go_big_quiet_on)
                | (refine quiet_det ?_; apply Exists.intro; refine ⟨fun w' hC => ?_, ?_⟩; (go_simp <;> (first | rfl | exact ⟨rfl, rfl⟩)); apply Exists.intro; refine ⟨?_, ?_⟩; (go_simp <;> (first | rfl | exact ⟨rfl, rfl⟩)); go_big_quiet_on)
                | (show Oper.quiet _ { dst := _, op := .call { callee := .value _, args := _, argTypes := _ }, type := _, pos := _, after := _, guard := _ } _ _ _; refine quiet_call ?_; apply Exists.intro; apply Exists.intro; refine ⟨fun w' hC => ?_, ?_⟩; (go_simp <;> (first | rfl | exact ⟨rfl, rfl⟩)); apply Exists.intro; refine ⟨fun w' hC => ?_, ?_⟩; (first

                    | fail); apply Exists.intro; refine ⟨?_, ?_⟩; (go_simp <;> (first | rfl | exact ⟨rfl, rfl⟩)); go_big_quiet_on)))
        all_goals refine wpQuiet_nil ?_
        intro w10 hb10
        (try rw [zwr, z1])
        have O12 := Or.below (hbx.trans (Below.mono hb10 hbx.size))
        have J12 := (Jr.below hbx).below hb10
        have L12 := X10.below hb10
        have bB12 := bBr.trans (Below.mono (hbx.trans (Below.mono hb10 hbx.size)) (Nat.le_trans hBW bBr.size))
        have hX12 := (hXr.block (hbx.block bA hbAr)).block (hb10.block bA (Nat.lt_of_lt_of_le hbAr hbx.size))
        have hbA12 := Nat.lt_of_lt_of_le (Nat.lt_of_lt_of_le hbAr hbx.size) (Below.size hb10)
        clear q0 q1 q2
        go_wp2_with fail
        refine wp_region_pre (R := Bl) 12 153 [fun v _ => v = .pointer (some ⟨gO, 0, none⟩), fun v _ => v = .slice (some ⟨gl, 0, none⟩) n cl, fun v _ => v = .int .i64 i, fun v _ => v = .pointer (some ⟨w.heap.size, 0, none⟩), fun v _ => v = .slice (some ⟨bA, oA, none⟩) n cP, fun v _ => v = .int .i64 i, fun v _ => v = .pointer (some ⟨bA, oA + i * 8, none⟩), fun v _ => v = .agg #[.int .i64 x.ri, .int .i64 x.gr, .int .i64 x.mn, .int .i64 x.mx, .int .i64 x.yl, .int .i64 x.rd, .int .i64 x.wk, .int .i64 x.cl], fun v _ => v = .agg #[.int .i64 lm, .int .i64 tk], fun v _ => v = .bool false, fun v _ => v = .agg #[.int .i64 (stepV x lm tk false).1, .int .i64 (stepV x lm tk false).2], fun v _ => v = .pointer (some ⟨gl, i * 2, none⟩)] (Bl.trans) (Bl.drew) (by kernel_rfl) (fun _ _ d _ _ h => by cases d <;> exact h) rfl (by kernel_rfl) (stay_cons (stays_v _) (stay_cons (stays_v _) (stay_cons (stays_v _) (stay_cons (stays_v _) (stay_cons (stays_v _) (stay_cons (stays_v _) (stay_cons (stays_v _) (stay_cons (stays_v _) (stay_cons (stays_v _) (stay_cons (stays_v _) (stay_cons (stays_v _) (stay_cons (stays_v _) (stay_nil))))))))))))) ?_ ?_
        · simp only [List.take_succ_cons, List.take_zero]
          refine steps_cons (Bl.refl) (fun ev xw hb hc hf hfr hd hr => ?_) ?_
          · have e7 : ev (.tmp 7) = .pointer (some ⟨gO, 0, none⟩) := hfr 7 (by kernel_rfl)
            clear hfr hd
            show OpOk _ _ ev xw fun v w' => Bl xw w' ∧ (v = .pointer (some ⟨gO, 0, none⟩))
            refine opOk_hid (fun Rp HR => ?_)
            unfold OpOk
            go_simp
            rw [HR.out]
            exact ⟨hr, rfl⟩
          refine steps_cons (Bl.refl) (fun ev xw hb hc hf hfr hd hr => ?_) ?_
          · have e69 : ev (.tmp 69) = .pointer (some ⟨gO, 0, none⟩) := hd 0 69 (by kernel_rfl)
            clear hfr hd
            have k0 := (O12.blk.below hb).at 0 rfl
            show OpOk _ _ ev xw fun v w' => Bl xw w' ∧ (v = .slice (some ⟨gl, 0, none⟩) n cl)
            refine opOk_hid (fun Rp HR => ?_)
            unfold OpOk
            go_simp
            rw [HR.out]
            exact ⟨hr, rfl⟩
          refine steps_cons (Bl.refl) (fun ev xw hb hc hf hfr hd hr => ?_) ?_
          · have e9 : ev (.tmp 9) = .int .i64 i := hfr 9 (by kernel_rfl)
            clear hfr hd
            show OpOk _ _ ev xw fun v w' => Bl xw w' ∧ (v = .int .i64 i)
            refine opOk_hid (fun Rp HR => ?_)
            unfold OpOk
            go_simp
            rw [HR.out]
            exact ⟨hr, rfl⟩
          refine steps_cons (Bl.refl) (fun ev xw hb hc hf hfr hd hr => ?_) ?_
          · have e3 : ev (.tmp 3) = .pointer (some ⟨w.heap.size, 0, none⟩) := hfr 3 (by kernel_rfl)
            clear hfr hd
            show OpOk _ _ ev xw fun v w' => Bl xw w' ∧ (v = .pointer (some ⟨w.heap.size, 0, none⟩))
            refine opOk_hid (fun Rp HR => ?_)
            unfold OpOk
            go_simp
            rw [HR.out]
            exact ⟨hr, rfl⟩
          refine steps_cons (Bl.refl) (fun ev xw hb hc hf hfr hd hr => ?_) ?_
          · have e72 : ev (.tmp 72) = .pointer (some ⟨w.heap.size, 0, none⟩) := hd 3 72 (by kernel_rfl)
            clear hfr hd
            have k0 := (J12.below hb).at 0 rfl
            show OpOk _ _ ev xw fun v w' => Bl xw w' ∧ (v = .slice (some ⟨bA, oA, none⟩) n cP)
            refine opOk_hid (fun Rp HR => ?_)
            unfold OpOk
            go_simp
            rw [HR.out]
            exact ⟨hr, rfl⟩
          refine steps_cons (Bl.refl) (fun ev xw hb hc hf hfr hd hr => ?_) ?_
          · have e9 : ev (.tmp 9) = .int .i64 i := hfr 9 (by kernel_rfl)
            clear hfr hd
            show OpOk _ _ ev xw fun v w' => Bl xw w' ∧ (v = .int .i64 i)
            refine opOk_hid (fun Rp HR => ?_)
            unfold OpOk
            go_simp
            rw [HR.out]
            exact ⟨hr, rfl⟩
          refine steps_cons (Bl.refl) (fun ev xw hb hc hf hfr hd hr => ?_) ?_
          · have e73 : ev (.tmp 73) = .slice (some ⟨bA, oA, none⟩) n cP := hd 4 73 (by kernel_rfl)
            have e74 : ev (.tmp 74) = .int .i64 i := hd 5 74 (by kernel_rfl)
            clear hfr hd
            show OpOk _ _ ev xw fun v w' => Bl xw w' ∧ (v = .pointer (some ⟨bA, oA + i * 8, none⟩))
            refine opOk_hid (fun Rp HR => ?_)
            unfold OpOk
            go_simp
            rw [HR.out]
            exact ⟨hr, rfl⟩
          refine steps_cons (Bl.refl) (fun ev xw hb hc hf hfr hd hr => ?_) ?_
          · have e75 : ev (.tmp 75) = .pointer (some ⟨bA, oA + i * 8, none⟩) := hd 6 75 (by kernel_rfl)
            clear hfr hd
            obtain ⟨k0, k1, k2, k3, k4, k5, k6, k7⟩ := hX12.block (Below.block hb bA hbA12)
            show OpOk _ _ ev xw fun v w' => Bl xw w' ∧ (v = .agg #[.int .i64 x.ri, .int .i64 x.gr, .int .i64 x.mn, .int .i64 x.mx, .int .i64 x.yl, .int .i64 x.rd, .int .i64 x.wk, .int .i64 x.cl])
            refine opOk_hid (fun Rp HR => ?_)
            unfold OpOk
            go_simp
            rw [HR.out]
            exact ⟨hr, rfl⟩
          refine steps_cons (Bl.refl) (fun ev xw hb hc hf hfr hd hr => ?_) ?_
          · have e10 : ev (.tmp 10) = .pointer (some ⟨g10, 0, none⟩) := hfr 10 (by kernel_rfl)
            clear hfr hd
            have k0 := (L12.below hb).at 0 rfl
            have k1 := (L12.below hb).at 1 rfl
            show OpOk _ _ ev xw fun v w' => Bl xw w' ∧ (v = .agg #[.int .i64 lm, .int .i64 tk])
            refine opOk_hid (fun Rp HR => ?_)
            unfold OpOk
            go_simp
            rw [HR.out]
            exact ⟨hr, rfl⟩
          refine steps_cons (Bl.refl) (fun ev xw hb hc hf hfr hd hr => ?_) ?_
          · have e11 : ev (.tmp 11) = .bool false := hfr 11 (by kernel_rfl)
            clear hfr hd
            show OpOk _ _ ev xw fun v w' => Bl xw w' ∧ (v = .bool false)
            refine opOk_hid (fun Rp HR => ?_)
            unfold OpOk
            go_simp
            rw [HR.out]
            exact ⟨hr, rfl⟩
          refine steps_cons (Bl.refl) (fun ev xw hb hc hf hfr hd hr => ?_) ?_
          · have e76 : ev (.tmp 76) = .agg #[.int .i64 x.ri, .int .i64 x.gr, .int .i64 x.mn, .int .i64 x.mx, .int .i64 x.yl, .int .i64 x.rd, .int .i64 x.wk, .int .i64 x.cl] := hd 7 76 (by kernel_rfl)
            have e77 : ev (.tmp 77) = .agg #[.int .i64 lm, .int .i64 tk] := hd 8 77 (by kernel_rfl)
            have e78 : ev (.tmp 78) = .bool false := hd 9 78 (by kernel_rfl)
            clear hfr hd
            show OpOk _ _ ev xw fun v w' => Bl xw w' ∧ (v = .agg #[.int .i64 (stepV x lm tk false).1, .int .i64 (stepV x lm tk false).2])
            refine opOk_hid (fun Rp HR => ?_)
            unfold OpOk
            go_simp
            refine (rstep_any x lm tk false xw HPX.out HLX.out).mono ?_
            rintro e w'' ⟨rfl, hw⟩
            refine ⟨_, rfl, ?_⟩
            rw [HR.out]
            exact ⟨hw, rfl⟩
          refine steps_cons (Bl.refl) (fun ev xw hb hc hf hfr hd hr => ?_) ?_
          · have e70 : ev (.tmp 70) = .slice (some ⟨gl, 0, none⟩) n cl := hd 1 70 (by kernel_rfl)
            have e71 : ev (.tmp 71) = .int .i64 i := hd 2 71 (by kernel_rfl)
            clear hfr hd
            show OpOk _ _ ev xw fun v w' => Bl xw w' ∧ (v = .pointer (some ⟨gl, i * 2, none⟩))
            refine opOk_hid (fun Rp HR => ?_)
            unfold OpOk
            go_simp
            rw [HR.out]
            exact ⟨hr, rfl⟩
          exact steps_nil
        · intro vs W13 hb13 hk
          have k1 : vs 10 = .agg #[.int .i64 (stepV x lm tk false).1, .int .i64 (stepV x lm tk false).2] := hk 10 (by omega)
          have k2 : vs 11 = .pointer (some ⟨gl, i * 2, none⟩) := hk 11 (by omega)
          clear hk
          simp only [List.take_succ_cons, List.take_zero, List.drop_succ_cons, List.drop_zero, putAll, Act.put, List.setIfInBounds_toArray, List.set_cons_zero, List.set_cons_succ, k1, k2, Nat.reduceAdd]
          have O13 := O12.below hb13
          refine step_store_li (by rfl) (by rfl) (by rfl) (g := gl) (i := i) (by rfl) (by rfl) O13.li (by show i < (lightsL P C c.li n t i).length; rw [lights_len]; have := HL.out; omega) ?_
          intro w14 LI14 hg14
          have hO13l := O13.bl
          have bB14 : Below B W w14 := Below.grown (bB12.trans (Below.mono hb13 (Nat.le_trans hBW bB12.size))) hg14 (Nat.le_trans hBW (Below.size (bB12.trans (Below.mono hb13 (Nat.le_trans hBW bB12.size))))) (fun k e => by injection e with e; omega)
          have O14 : Out w14 gO B n gl cl gx cx ⟨lightsL P C c.li n t (i + 1), c.gr, c.nx, c.wt⟩ := ⟨O13.blk.grown hg14 (by intro e; injection e with e; exact O13.nl e), by
            have e1 : lightsL P C c.li n t (i + 1) = (lightsL P C c.li n t i).set i ((stepV x lm tk false).1, (stepV x lm tk false).2) := by
              rw [lightsL, HXX.out, HLM.out, HTK.out, HLV.out]
            rw [e1]; exact LI14, O13.nx.grown hg14 (by intro e; injection e with e; exact O13.ne e), O13.bl, O13.bx, O13.nl, O13.nn⟩
          unfold wpList
          go_wp2
          go_roundw
          case rel => exact ⟨i + 1, hlt, by go_num, bB14, O14⟩
          case measure => simp [intOf]; omega
    · have hltZ : ¬ (i : Int) < n := by omega
      obtain rfl : n = i := by omega

      have hlen : (lightsL P C c.li n t n).length = n := by rw [lights_len]; exact HL.out
      have HLL0 := Lib.hid hlen
      clear hlen
      have HST0 := Lib.hid (show stepC P C n c t = offC P C n (if setV (lightsL P C c.li n t n) n = 0 ∧ at_ c.nx 0 < 0 ∧ at_ c.nx 1 < 0 then ⟨lightsL P C c.li n t n, (c.gr + 1) % groupsI P n, nxL P n ((c.gr + 1) % groupsI P n) 2, c.wt⟩ else ⟨lightsL P C c.li n t n, c.gr, c.nx, c.wt⟩) 2 by unfold stepC; rw [if_neg (by have := HW0.out; omega), if_neg hoff])
      obtain ⟨LL, hLL⟩ : ∃ LL, lightsL P C c.li n t n = LL := ⟨_, rfl⟩
      rw [hLL] at Or HLL0 HST0
      have HLL := Lib.hid HLL0.out
      clear hLL HLL0
      have o0 := Or.blk.at 0 rfl
      have o1 := Or.blk.at 1 rfl
      have o2 := Or.blk.at 2 rfl
      have o3 := Or.blk.at 3 rfl
      go_wp2_with fail
      refine (set_any (some ⟨gl, 0, none⟩) (some ⟨gx, 0, none⟩) cl cx n LL c.gr c.wt _ HLL.out Or.li.prs (by omega)).mono ?_
      rintro e' WS ⟨rfl, hbS⟩
      clear o0 o1 o2 o3
      have bBS := bBr.trans (Below.mono hbS (Nat.le_trans hBW bBr.size))
      have OS := Or.below hbS
      obtain ⟨sv, hsv⟩ : ∃ sv, setV LL n = sv := ⟨_, rfl⟩
      rw [hsv] at HST0 ⊢
      clear hsv
      have o2 := OS.blk.at 2 rfl
      obtain ⟨b0, hb0⟩ : ∃ b0 : Bool, (((sv : Nat) : Int) == 0) = b0 := ⟨_, rfl⟩
      have HB0 := Lib.hid (show b0 = true ↔ sv = 0 by rw [← hb0, beq_iff_eq]; omega)
      go_wp2_with fail
      (try rw [hb0])
      clear hb0 o2
      go_loopw [14, 110] (fun s14 v wr => ∃ (k : Nat) (f : Bool), k ≤ 2 ∧ s14 = .bool f ∧ v = .int .i64 k ∧ wr = WS ∧ (f = true ↔ sv = 0 ∧ ∀ j, j < k → at_ c.nx j < 0)) (fun _ v _ => 2 - (intOf v).toNat)
      case atStart => exact ⟨0, b0, by omega, (by first | rfl | simp [*]), rfl, by first | rfl | trivial, by rw [HB0.out]; exact ⟨fun h => ⟨h, fun j hj => absurd hj (by omega)⟩, fun h => h.1⟩⟩
      case round =>
        obtain ⟨k, f, hk, rfl, rfl, rfl, hf⟩ := hrel
        have HF := Lib.hid hf
        clear hf
        by_cases hlk : k < 2
        · have hlkZ : (k : Int) < 2 := by omega
          obtain ⟨n0, _⟩ := OS.nx.at (i := k) (by have := HX.out; show k < c.nx.length; omega)
          change _ = some (Value.int IntKind.i64 (at_ c.nx k)) at n0
          obtain ⟨nv, hnv⟩ : ∃ nv, at_ c.nx k = nv := ⟨_, rfl⟩
          rw [hnv] at n0
          have HNV := Lib.hid hnv
          clear hnv
          cases f with
          | true =>
            by_cases h5 : nv < 0
            · have z5 : decide (nv < 0) = true := decide_eq_true h5
              have H5 := Lib.hid h5
              clear h5
              go_wp2
              go_roundw
              case rel => exact ⟨k + 1, true, hlk, (by first | rfl | simp [*]), by go_num, by first | rfl | trivial, by
                simp only [true_iff]
                have h1 := HF.out.1 (by trivial)
                exact ⟨h1.1, fun j hj => by
                  by_cases e : j = k
                  · subst e; rw [HNV.out]; exact H5.out
                  · exact h1.2 j (by omega)⟩⟩
              case measure => simp [intOf]; omega
            · have z5 : decide (nv < 0) = false := decide_eq_false h5
              have H5 := Lib.hid h5
              clear h5
              go_wp2
              go_roundw
              case rel => exact ⟨k + 1, false, hlk, (by first | rfl | simp [*]), by go_num, by first | rfl | trivial, by
                simp only [Bool.false_eq_true, false_iff]
                intro h
                have := h.2 k (by omega)
                rw [HNV.out] at this; exact H5.out this⟩
              case measure => simp [intOf]; omega
          | false =>
            go_wp2
            go_roundw
            case rel => exact ⟨k + 1, false, hlk, rfl, by go_num, by first | rfl | trivial, by
              simp only [Bool.false_eq_true, false_iff]
              intro h
              have := HF.out.2 ⟨h.1, fun j hj => h.2 j (by omega)⟩
              cases this⟩
            case measure => simp [intOf]; omega
        · have hlkZ : ¬ (k : Int) < 2 := by omega
          obtain rfl : k = 2 := by omega
          have HFF := Lib.hid (show f = true ↔ sv = 0 ∧ at_ c.nx 0 < 0 ∧ at_ c.nx 1 < 0 by
            rw [HF.out]
            exact ⟨fun h => ⟨h.1, h.2 0 (by omega), h.2 1 (by omega)⟩, fun h => ⟨h.1, fun j hj => by
              rcases (by omega : j = 0 ∨ j = 1) with rfl | rfl
              · exact h.2.1
              · exact h.2.2⟩⟩)
          cases f with
          | true =>
            have JS := BJ.low bBS (show w.heap.size < B by omega)
            go_wp2_with fail
            refine wp_region_pre (R := Bl) 7 153 [fun v _ => v = .agg #[.slice (some ⟨bA, oA, none⟩) n cP, .slice Bc n d, .int .i64 st], fun v _ => v = .pointer (some ⟨gO, 1, none⟩), fun v _ => v = .int .i64 c.gr, fun v _ => v = .int .i64 (c.gr + 1), fun v _ => v = .agg #[.slice (some ⟨bA, oA, none⟩) n cP, .slice Bc n d, .int .i64 st], fun v _ => v = .int .i64 G, fun v _ => v = (.int .i64 g')] (Bl.trans) (Bl.drew) (by kernel_rfl) (fun _ _ d _ _ h => by cases d <;> exact h) rfl (by kernel_rfl) (stay_cons (stays_v _) (stay_cons (stays_v _) (stay_cons (stays_v _) (stay_cons (stays_v _) (stay_cons (stays_v _) (stay_cons (stays_v _) (stay_cons (stays_v _) (stay_nil)))))))) ?_ ?_
            · simp only [List.take_succ_cons, List.take_zero]
              refine steps_cons (Bl.refl) (fun ev xw hb hc hf hfr hd hr => ?_) ?_
              · have e3 : ev (.tmp 3) = .pointer (some ⟨w.heap.size, 0, none⟩) := hfr 3 (by kernel_rfl)
                clear hfr hd
                have k0 := (JS.below hb).at 0 rfl
                have k1 := (JS.below hb).at 1 rfl
                have k2 := (JS.below hb).at 2 rfl
                show OpOk _ _ ev xw fun v w' => Bl xw w' ∧ (v = .agg #[.slice (some ⟨bA, oA, none⟩) n cP, .slice Bc n d, .int .i64 st])
                refine opOk_hid (fun Rp HR => ?_)
                unfold OpOk
                go_simp
                rw [HR.out]
                exact ⟨hr, rfl⟩
              refine steps_cons (Bl.refl) (fun ev xw hb hc hf hfr hd hr => ?_) ?_
              · have e7 : ev (.tmp 7) = .pointer (some ⟨gO, 0, none⟩) := hfr 7 (by kernel_rfl)
                clear hfr hd
                show OpOk _ _ ev xw fun v w' => Bl xw w' ∧ (v = .pointer (some ⟨gO, 1, none⟩))
                refine opOk_hid (fun Rp HR => ?_)
                unfold OpOk
                go_simp
                rw [HR.out]
                exact ⟨hr, rfl⟩
              refine steps_cons (Bl.refl) (fun ev xw hb hc hf hfr hd hr => ?_) ?_
              · have e122 : ev (.tmp 122) = .pointer (some ⟨gO, 1, none⟩) := hd 1 122 (by kernel_rfl)
                clear hfr hd
                have k0 := (OS.blk.below hb).at 1 rfl
                show OpOk _ _ ev xw fun v w' => Bl xw w' ∧ (v = .int .i64 c.gr)
                refine opOk_hid (fun Rp HR => ?_)
                unfold OpOk
                go_simp
                rw [HR.out]
                exact ⟨hr, rfl⟩
              refine steps_cons (Bl.refl) (fun ev xw hb hc hf hfr hd hr => ?_) ?_
              · have e123 : ev (.tmp 123) = .int .i64 c.gr := hd 2 123 (by kernel_rfl)
                clear hfr hd
                show OpOk _ _ ev xw fun v w' => Bl xw w' ∧ (v = .int .i64 (c.gr + 1))
                refine opOk_hid (fun Rp HR => ?_)
                unfold OpOk
                go_simp
                rw [HR.out]
                exact ⟨hr, rfl⟩
              refine steps_cons (Bl.refl) (fun ev xw hb hc hf hfr hd hr => ?_) ?_
              · have e3 : ev (.tmp 3) = .pointer (some ⟨w.heap.size, 0, none⟩) := hfr 3 (by kernel_rfl)
                clear hfr hd
                have k0 := (JS.below hb).at 0 rfl
                have k1 := (JS.below hb).at 1 rfl
                have k2 := (JS.below hb).at 2 rfl
                show OpOk _ _ ev xw fun v w' => Bl xw w' ∧ (v = .agg #[.slice (some ⟨bA, oA, none⟩) n cP, .slice Bc n d, .int .i64 st])
                refine opOk_hid (fun Rp HR => ?_)
                unfold OpOk
                go_simp
                rw [HR.out]
                exact ⟨hr, rfl⟩
              refine steps_cons (Bl.refl) (fun ev xw hb hc hf hfr hd hr => ?_) ?_
              · have e125 : ev (.tmp 125) = .agg #[.slice (some ⟨bA, oA, none⟩) n cP, .slice Bc n d, .int .i64 st] := hd 4 125 (by kernel_rfl)
                clear hfr hd
                show OpOk _ _ ev xw fun v w' => Bl xw w' ∧ (v = .int .i64 G)
                refine opOk_hid (fun Rp HR => ?_)
                unfold OpOk
                go_simp
                refine (rgroups_n (some ⟨bA, oA, none⟩) Bc cP d n n P st xw HN.out (hP1.low (bBS.trans (Below.mono hb (Nat.le_trans hBW bBS.size))) hBW) (by omega) hgr).mono ?_
                rintro e w'' ⟨rfl, hw⟩
                rw [HG.out]
                refine ⟨_, rfl, ?_⟩
                rw [HR.out]
                exact ⟨hw, rfl⟩
              refine steps_cons (Bl.refl) (fun ev xw hb hc hf hfr hd hr => ?_) ?_
              · have e124 : ev (.tmp 124) = .int .i64 (c.gr + 1) := hd 3 124 (by kernel_rfl)
                have e126 : ev (.tmp 126) = .int .i64 G := hd 5 126 (by kernel_rfl)
                clear hfr hd
                have zr1 : ¬ G = 0 := by omega
                show OpOk _ _ ev xw fun v w' => Bl xw w' ∧ (v = (.int .i64 g'))
                refine opOk_hid (fun Rp HR => ?_)
                unfold OpOk
                go_simp
                rw [HR.out]
                exact ⟨hr, rfl⟩
              exact steps_nil
            · intro vs W5 hb5 hk
              have k0 : vs 0 = .agg #[.slice (some ⟨bA, oA, none⟩) n cP, .slice Bc n d, .int .i64 st] := hk 0 (by omega)
              have k6 : vs 6 = .int .i64 g' := hk 6 (by omega)
              clear hk
              simp only [List.take_succ_cons, List.take_zero, List.drop_succ_cons, List.drop_zero, putAll, Act.put, List.setIfInBounds_toArray, List.set_cons_zero, List.set_cons_succ, k0, k6, Nat.reduceAdd]
              have bB5 := bBS.trans (Below.mono hb5 (Nat.le_trans hBW bBS.size))
              have O5 := OS.below hb5
              have hgO5 := O5.blk.lt
              have hgl5 := O5.li.lt
              have hs5 := bB5.size
              go_wp2_with fail
              refine (enter_any (some ⟨bA, oA, none⟩) Bc cP d n n gO P st g' c.gr c.wt (.slice (some ⟨gl, 0, none⟩) n cl) (.slice (some ⟨gx, 0, none⟩) 2 cx) W5 HN.out (hP1.low bB5 hBW) (by omega) O5.blk).mono ?_
              rintro e' w6 ⟨v6, g6, c6, rfl, hg6, hgy, Y6, own6⟩
              have bB6 : Below B W w6 := Below.grown bB5 hg6 (Nat.le_trans hBW hs5) (fun k e => by injection e with e; omega)
              have O6 : Out w6 gO B n gl cl g6 c6 ⟨LL, g', nxL P n g' 2, c.wt⟩ := ⟨Y6, O5.li.grown hg6 (by intro e; injection e with e; exact O5.nl e.symm), own6.nxb (nxL_len P n g' 2), O5.bl, by omega, O5.nl, by omega⟩
              have HST := Lib.hid (show stepC P C n c t = offC P C n ⟨LL, g', nxL P n g' 2, c.wt⟩ 2 by rw [HST0.out, if_pos (HFF.out.1 (by trivial)), HGG.out])
              have HON := Lib.hid (fun r => offC_ok P C n ⟨LL, g', nxL P n g' 2, c.wt⟩ h1 HLL.out (nxL_len P n g' 2) (nxL_in P n g' h1) r)
              clear HST0 HFF
              generalize (⟨LL, g', nxL P n g' 2, c.wt⟩ : Ct) = dd at *
              go_wp2_with fail
              go_loopw [129] (fun v wr => ∃ (r gy cy : Nat), r ≤ 2 ∧ v = .int .i64 r ∧ Below B W wr ∧ Out wr gO B n gl cl gy cy (offC P C n dd r)) (fun v _ => 2 - (intOf v).toNat)
              case atStart => exact ⟨0, g6, c6, by omega, rfl, bB6, O6⟩
              case round =>
                obtain ⟨r, gy, cy, hr, rfl, bBs, Os⟩ := hrel
                have HOS := Lib.hid (off_succ P C n dd r)
                have hok := HON.out r
                by_cases hlr : r < 2
                · have hlrZ : (r : Int) < 2 := by omega
                  obtain ⟨e, he⟩ : ∃ e, offC P C n dd r = e := ⟨_, rfl⟩
                  rw [he] at Os hok HOS
                  have HE := Lib.hid he
                  clear he
                  obtain ⟨hel, he2, hei⟩ := hok
                  have HEL := Lib.hid hel
                  have HE2 := Lib.hid he2
                  clear hel he2
                  have hcb := hei r
                  have Js := BJ.low bBs (show w.heap.size < B by omega)
                  have j0 := Js.at 0 rfl
                  have j1 := Js.at 1 rfl
                  have j2 := Js.at 2 rfl
                  have o0 := Os.blk.at 0 rfl
                  have o1 := Os.blk.at 1 rfl
                  have o2 := Os.blk.at 2 rfl
                  have o3 := Os.blk.at 3 rfl
                  go_wp2_with fail
                  refine (idle_any (some ⟨bA, oA, none⟩) Bc (some ⟨gl, 0, none⟩) (some ⟨gy, 0, none⟩) cP d cl cy n P e.li st e.gr e.wt r _ HN.out (hP1.low bBs hBW) HEL.out Os.li.prs (by omega)).mono ?_
                  rintro e' w4 ⟨rfl, hb4⟩
                  clear j0 j1 j2 o0 o1 o2 o3
                  have bB4 := bBs.trans (Below.mono hb4 (Nat.le_trans hBW bBs.size))
                  have O4 := Os.below hb4
                  obtain ⟨ib, hib⟩ : ∃ ib, idleB P e.li n r = ib := ⟨_, rfl⟩
                  rw [hib]
                  have HIB := Lib.hid hib
                  clear hib
                  cases ib with
                  | true =>
                    have hidl : IdleP P e.li n r := of_decide_eq_true HIB.out
                    obtain ⟨n0, _⟩ := O4.nx.at (i := r) (by have := HE2.out; omega)
                    have o2 := O4.blk.at 2 rfl
                    obtain ⟨nv, hnv⟩ : ∃ nv, at_ e.nx r = nv := ⟨_, rfl⟩
                    rw [hnv] at n0 HOS hcb
                    have HNV := Lib.hid hnv
                    clear hnv
                    by_cases hq : 0 ≤ nv
                    · obtain ⟨q, rfl⟩ := Int.eq_ofNat_of_zero_le hq
                      have hqn : q < n := by omega
                      have HQ := Lib.hid (show at_ e.nx r = (q : Int) from HNV.out)
                      have zq : decide ((0 : Int) ≤ (q : Int)) = true := by simp
                      have HS2 := Lib.hid (HOS.out.trans (if_pos ⟨hidl, hq⟩))
                      clear hidl hq
                      go_wp2_with fail
                      clear n0 o2 zq
                      have J4 := BJ.low bB4 (show w.heap.size < B by omega)
                      refine wp_region_pre (R := Bl) 6 153 [fun v _ => v = .agg #[.slice (some ⟨bA, oA, none⟩) n cP, .slice Bc n d, .int .i64 st], fun v _ => v = .pointer (some ⟨gO, 2, none⟩), fun v _ => v = .slice (some ⟨gy, 0, none⟩) 2 cy, fun v _ => v = .int .i64 r, fun v _ => v = .pointer (some ⟨gy, r, none⟩), fun v _ => v = .int .i64 q] (Bl.trans) (Bl.drew) (by kernel_rfl) (fun _ _ d _ _ h => by cases d <;> exact h) rfl (by kernel_rfl) (stay_cons (stays_v _) (stay_cons (stays_v _) (stay_cons (stays_v _) (stay_cons (stays_v _) (stay_cons (stays_v _) (stay_cons (stays_v _) (stay_nil))))))) ?_ ?_
                      · simp only [List.take_succ_cons, List.take_zero]
                        refine steps_cons (Bl.refl) (fun ev xw hb hc hf hfr hd hr => ?_) ?_
                        · have e3 : ev (.tmp 3) = .pointer (some ⟨w.heap.size, 0, none⟩) := hfr 3 (by kernel_rfl)
                          clear hfr hd
                          have k0 := (J4.below hb).at 0 rfl
                          have k1 := (J4.below hb).at 1 rfl
                          have k2 := (J4.below hb).at 2 rfl
                          show OpOk _ _ ev xw fun v w' => Bl xw w' ∧ (v = .agg #[.slice (some ⟨bA, oA, none⟩) n cP, .slice Bc n d, .int .i64 st])
                          refine opOk_hid (fun Rp HR => ?_)
                          unfold OpOk
                          go_simp
                          rw [HR.out]
                          exact ⟨hr, rfl⟩
                        refine steps_cons (Bl.refl) (fun ev xw hb hc hf hfr hd hr => ?_) ?_
                        · have e7 : ev (.tmp 7) = .pointer (some ⟨gO, 0, none⟩) := hfr 7 (by kernel_rfl)
                          clear hfr hd
                          show OpOk _ _ ev xw fun v w' => Bl xw w' ∧ (v = .pointer (some ⟨gO, 2, none⟩))
                          refine opOk_hid (fun Rp HR => ?_)
                          unfold OpOk
                          go_simp
                          rw [HR.out]
                          exact ⟨hr, rfl⟩
                        refine steps_cons (Bl.refl) (fun ev xw hb hc hf hfr hd hr => ?_) ?_
                        · have e145 : ev (.tmp 145) = .pointer (some ⟨gO, 2, none⟩) := hd 1 145 (by kernel_rfl)
                          clear hfr hd
                          have k0 := (O4.blk.below hb).at 2 rfl
                          show OpOk _ _ ev xw fun v w' => Bl xw w' ∧ (v = .slice (some ⟨gy, 0, none⟩) 2 cy)
                          refine opOk_hid (fun Rp HR => ?_)
                          unfold OpOk
                          go_simp
                          rw [HR.out]
                          exact ⟨hr, rfl⟩
                        refine steps_cons (Bl.refl) (fun ev xw hb hc hf hfr hd hr => ?_) ?_
                        · have e17 : ev (.tmp 17) = .int .i64 r := hfr 17 (by kernel_rfl)
                          clear hfr hd
                          show OpOk _ _ ev xw fun v w' => Bl xw w' ∧ (v = .int .i64 r)
                          refine opOk_hid (fun Rp HR => ?_)
                          unfold OpOk
                          go_simp
                          rw [HR.out]
                          exact ⟨hr, rfl⟩
                        refine steps_cons (Bl.refl) (fun ev xw hb hc hf hfr hd hr => ?_) ?_
                        · have e146 : ev (.tmp 146) = .slice (some ⟨gy, 0, none⟩) 2 cy := hd 2 146 (by kernel_rfl)
                          have e147 : ev (.tmp 147) = .int .i64 r := hd 3 147 (by kernel_rfl)
                          clear hfr hd
                          show OpOk _ _ ev xw fun v w' => Bl xw w' ∧ (v = .pointer (some ⟨gy, r, none⟩))
                          refine opOk_hid (fun Rp HR => ?_)
                          unfold OpOk
                          go_simp
                          rw [HR.out]
                          exact ⟨hr, rfl⟩
                        refine steps_cons (Bl.refl) (fun ev xw hb hc hf hfr hd hr => ?_) ?_
                        · have e148 : ev (.tmp 148) = .pointer (some ⟨gy, r, none⟩) := hd 4 148 (by kernel_rfl)
                          clear hfr hd
                          have k0 := ((O4.nx.below hb).at (i := r) (show r < e.nx.length by have := HE2.out; omega)).1
                          rw [HQ.out] at k0
                          show OpOk _ _ ev xw fun v w' => Bl xw w' ∧ (v = .int .i64 q)
                          refine opOk_hid (fun Rp HR => ?_)
                          unfold OpOk
                          go_simp
                          rw [HR.out]
                          exact ⟨hr, rfl⟩
                        exact steps_nil
                      · intro vs W5 hb5 hk
                        have k0 : vs 0 = .agg #[.slice (some ⟨bA, oA, none⟩) n cP, .slice Bc n d, .int .i64 st] := hk 0 (by omega)
                        have k5 : vs 5 = .int .i64 q := hk 5 (by omega)
                        clear hk
                        simp only [List.take_succ_cons, List.take_zero, List.drop_succ_cons, List.drop_zero, putAll, Act.put, List.setIfInBounds_toArray, List.set_cons_zero, List.set_cons_succ, k0, k5, Nat.reduceAdd]
                        have bB5 := bB4.trans (Below.mono hb5 (Nat.le_trans hBW bB4.size))
                        have O5 := O4.below hb5
                        go_wp2_with fail
                        refine (begin_any (some ⟨bA, oA, none⟩) Bc cP d n gO B gl cl gy cy q P C e st W5 HN.out (hP1.stay bB5) HC.out (hC1.below bB5) HEL.out HE2.out O5 (Nat.le_trans hBW bB5.size) hgO O5.ne (by omega) hqn hri).mono ?_
                        rintro e' w6 ⟨⟨v6, rfl⟩, hb6, gz, cz, O6⟩
                        go_wp2
                        go_roundw
                        case rel => exact ⟨r + 1, gz, cz, hlr, by go_num, bB5.trans hb6, by rw [HS2.out]; exact O6⟩
                        case measure => simp [intOf]; omega
                    · have zq : decide ((0 : Int) ≤ nv) = false := decide_eq_false hq
                      have HS2 := Lib.hid (HOS.out.trans (if_neg (fun h => hq h.2)))
                      clear hq
                      go_wp2
                      go_roundw
                      case rel => exact ⟨r + 1, gy, cy, hlr, by go_num, bB4, by rw [HS2.out]; exact O4⟩
                      case measure => simp [intOf]; omega
                  | false =>
                    have HS2 := Lib.hid (HOS.out.trans (if_neg (fun h => by have h1 := HIB.out; unfold idleB at h1; rw [decide_eq_true h.1] at h1; cases h1)))
                    go_wp2
                    go_roundw
                    case rel => exact ⟨r + 1, gy, cy, hlr, by go_num, bB4, by rw [HS2.out]; exact O4⟩
                    case measure => simp [intOf]; omega
                · have hlrZ : ¬ (r : Int) < 2 := by omega
                  obtain rfl : r = 2 := by omega
                  have bB9 := bBs
                  have O9 := Os
                  have R9 := BR.low bB9 hWs
                  have o0 := O9.blk.at 0 rfl
                  have o1 := O9.blk.at 1 rfl
                  have o2 := O9.blk.at 2 rfl
                  have o3 := O9.blk.at 3 rfl
                  go_wp2_with (refine step_store_ct (by rfl) (by rfl) (by rfl) (b := w.heap.size + 1 + 1) (by rfl) (by rfl) R9 ?_; intro w9 Z9 hg9)
                  refine bodyPost_ret (results_cell rfl rfl (load_control Z9)) rfl ?_
                  have hF9 : Below w.heap.size w w9 := Below.grown (bW.trans (Below.mono bB9 (Nat.le_trans bW.size (Nat.le_of_eq HBB.out)))) hg9 (Below.size (bW.trans (Below.mono bB9 (Nat.le_trans bW.size (Nat.le_of_eq HBB.out))))) (fun k e => by injection e with e; omega)
                  have hWw := bW.size
                  have hBBx := HBB.out
                  have hO9l := O9.bl
                  have hO9x := O9.bx
                  rw [HST.out]
                  exact ⟨_, rfl, hF9, gl, _, _, _, rfl, by omega, by omega, O9.li.grown hg9 (by intro e; injection e with e; omega), O9.nx.grown hg9 (by intro e; injection e with e; omega)⟩
          | false =>
            have HST := Lib.hid (show stepC P C n c t = offC P C n ⟨LL, c.gr, c.nx, c.wt⟩ 2 by rw [HST0.out, if_neg (fun h => by have := HFF.out.2 h; cases this)])
            have HON := Lib.hid (fun r => offC_ok P C n ⟨LL, c.gr, c.nx, c.wt⟩ h1 HLL.out HX.out hin r)
            clear HST0 HFF
            generalize (⟨LL, c.gr, c.nx, c.wt⟩ : Ct) = dd at *
            go_wp2_with fail
            go_loopw [129] (fun v wr => ∃ (r gy cy : Nat), r ≤ 2 ∧ v = .int .i64 r ∧ Below B W wr ∧ Out wr gO B n gl cl gy cy (offC P C n dd r)) (fun v _ => 2 - (intOf v).toNat)
            case atStart => exact ⟨0, gx, cx, by omega, rfl, bBS, OS⟩
            case round =>
              obtain ⟨r, gy, cy, hr, rfl, bBs, Os⟩ := hrel
              have HOS := Lib.hid (off_succ P C n dd r)
              have hok := HON.out r
              by_cases hlr : r < 2
              · have hlrZ : (r : Int) < 2 := by omega
                obtain ⟨e, he⟩ : ∃ e, offC P C n dd r = e := ⟨_, rfl⟩
                rw [he] at Os hok HOS
                have HE := Lib.hid he
                clear he
                obtain ⟨hel, he2, hei⟩ := hok
                have HEL := Lib.hid hel
                have HE2 := Lib.hid he2
                clear hel he2
                have hcb := hei r
                have Js := BJ.low bBs (show w.heap.size < B by omega)
                have j0 := Js.at 0 rfl
                have j1 := Js.at 1 rfl
                have j2 := Js.at 2 rfl
                have o0 := Os.blk.at 0 rfl
                have o1 := Os.blk.at 1 rfl
                have o2 := Os.blk.at 2 rfl
                have o3 := Os.blk.at 3 rfl
                go_wp2_with fail
                refine (idle_any (some ⟨bA, oA, none⟩) Bc (some ⟨gl, 0, none⟩) (some ⟨gy, 0, none⟩) cP d cl cy n P e.li st e.gr e.wt r _ HN.out (hP1.low bBs hBW) HEL.out Os.li.prs (by omega)).mono ?_
                rintro e' w4 ⟨rfl, hb4⟩
                clear j0 j1 j2 o0 o1 o2 o3
                have bB4 := bBs.trans (Below.mono hb4 (Nat.le_trans hBW bBs.size))
                have O4 := Os.below hb4
                obtain ⟨ib, hib⟩ : ∃ ib, idleB P e.li n r = ib := ⟨_, rfl⟩
                rw [hib]
                have HIB := Lib.hid hib
                clear hib
                cases ib with
                | true =>
                  have hidl : IdleP P e.li n r := of_decide_eq_true HIB.out
                  obtain ⟨n0, _⟩ := O4.nx.at (i := r) (by have := HE2.out; omega)
                  have o2 := O4.blk.at 2 rfl
                  obtain ⟨nv, hnv⟩ : ∃ nv, at_ e.nx r = nv := ⟨_, rfl⟩
                  rw [hnv] at n0 HOS hcb
                  have HNV := Lib.hid hnv
                  clear hnv
                  by_cases hq : 0 ≤ nv
                  · obtain ⟨q, rfl⟩ := Int.eq_ofNat_of_zero_le hq
                    have hqn : q < n := by omega
                    have HQ := Lib.hid (show at_ e.nx r = (q : Int) from HNV.out)
                    have zq : decide ((0 : Int) ≤ (q : Int)) = true := by simp
                    have HS2 := Lib.hid (HOS.out.trans (if_pos ⟨hidl, hq⟩))
                    clear hidl hq
                    go_wp2_with fail
                    clear n0 o2 zq
                    have J4 := BJ.low bB4 (show w.heap.size < B by omega)
                    refine wp_region_pre (R := Bl) 6 153 [fun v _ => v = .agg #[.slice (some ⟨bA, oA, none⟩) n cP, .slice Bc n d, .int .i64 st], fun v _ => v = .pointer (some ⟨gO, 2, none⟩), fun v _ => v = .slice (some ⟨gy, 0, none⟩) 2 cy, fun v _ => v = .int .i64 r, fun v _ => v = .pointer (some ⟨gy, r, none⟩), fun v _ => v = .int .i64 q] (Bl.trans) (Bl.drew) (by kernel_rfl) (fun _ _ d _ _ h => by cases d <;> exact h) rfl (by kernel_rfl) (stay_cons (stays_v _) (stay_cons (stays_v _) (stay_cons (stays_v _) (stay_cons (stays_v _) (stay_cons (stays_v _) (stay_cons (stays_v _) (stay_nil))))))) ?_ ?_
                    · simp only [List.take_succ_cons, List.take_zero]
                      refine steps_cons (Bl.refl) (fun ev xw hb hc hf hfr hd hr => ?_) ?_
                      · have e3 : ev (.tmp 3) = .pointer (some ⟨w.heap.size, 0, none⟩) := hfr 3 (by kernel_rfl)
                        clear hfr hd
                        have k0 := (J4.below hb).at 0 rfl
                        have k1 := (J4.below hb).at 1 rfl
                        have k2 := (J4.below hb).at 2 rfl
                        show OpOk _ _ ev xw fun v w' => Bl xw w' ∧ (v = .agg #[.slice (some ⟨bA, oA, none⟩) n cP, .slice Bc n d, .int .i64 st])
                        refine opOk_hid (fun Rp HR => ?_)
                        unfold OpOk
                        go_simp
                        rw [HR.out]
                        exact ⟨hr, rfl⟩
                      refine steps_cons (Bl.refl) (fun ev xw hb hc hf hfr hd hr => ?_) ?_
                      · have e7 : ev (.tmp 7) = .pointer (some ⟨gO, 0, none⟩) := hfr 7 (by kernel_rfl)
                        clear hfr hd
                        show OpOk _ _ ev xw fun v w' => Bl xw w' ∧ (v = .pointer (some ⟨gO, 2, none⟩))
                        refine opOk_hid (fun Rp HR => ?_)
                        unfold OpOk
                        go_simp
                        rw [HR.out]
                        exact ⟨hr, rfl⟩
                      refine steps_cons (Bl.refl) (fun ev xw hb hc hf hfr hd hr => ?_) ?_
                      · have e145 : ev (.tmp 145) = .pointer (some ⟨gO, 2, none⟩) := hd 1 145 (by kernel_rfl)
                        clear hfr hd
                        have k0 := (O4.blk.below hb).at 2 rfl
                        show OpOk _ _ ev xw fun v w' => Bl xw w' ∧ (v = .slice (some ⟨gy, 0, none⟩) 2 cy)
                        refine opOk_hid (fun Rp HR => ?_)
                        unfold OpOk
                        go_simp
                        rw [HR.out]
                        exact ⟨hr, rfl⟩
                      refine steps_cons (Bl.refl) (fun ev xw hb hc hf hfr hd hr => ?_) ?_
                      · have e17 : ev (.tmp 17) = .int .i64 r := hfr 17 (by kernel_rfl)
                        clear hfr hd
                        show OpOk _ _ ev xw fun v w' => Bl xw w' ∧ (v = .int .i64 r)
                        refine opOk_hid (fun Rp HR => ?_)
                        unfold OpOk
                        go_simp
                        rw [HR.out]
                        exact ⟨hr, rfl⟩
                      refine steps_cons (Bl.refl) (fun ev xw hb hc hf hfr hd hr => ?_) ?_
                      · have e146 : ev (.tmp 146) = .slice (some ⟨gy, 0, none⟩) 2 cy := hd 2 146 (by kernel_rfl)
                        have e147 : ev (.tmp 147) = .int .i64 r := hd 3 147 (by kernel_rfl)
                        clear hfr hd
                        show OpOk _ _ ev xw fun v w' => Bl xw w' ∧ (v = .pointer (some ⟨gy, r, none⟩))
                        refine opOk_hid (fun Rp HR => ?_)
                        unfold OpOk
                        go_simp
                        rw [HR.out]
                        exact ⟨hr, rfl⟩
                      refine steps_cons (Bl.refl) (fun ev xw hb hc hf hfr hd hr => ?_) ?_
                      · have e148 : ev (.tmp 148) = .pointer (some ⟨gy, r, none⟩) := hd 4 148 (by kernel_rfl)
                        clear hfr hd
                        have k0 := ((O4.nx.below hb).at (i := r) (show r < e.nx.length by have := HE2.out; omega)).1
                        rw [HQ.out] at k0
                        show OpOk _ _ ev xw fun v w' => Bl xw w' ∧ (v = .int .i64 q)
                        refine opOk_hid (fun Rp HR => ?_)
                        unfold OpOk
                        go_simp
                        rw [HR.out]
                        exact ⟨hr, rfl⟩
                      exact steps_nil
                    · intro vs W5 hb5 hk
                      have k0 : vs 0 = .agg #[.slice (some ⟨bA, oA, none⟩) n cP, .slice Bc n d, .int .i64 st] := hk 0 (by omega)
                      have k5 : vs 5 = .int .i64 q := hk 5 (by omega)
                      clear hk
                      simp only [List.take_succ_cons, List.take_zero, List.drop_succ_cons, List.drop_zero, putAll, Act.put, List.setIfInBounds_toArray, List.set_cons_zero, List.set_cons_succ, k0, k5, Nat.reduceAdd]
                      have bB5 := bB4.trans (Below.mono hb5 (Nat.le_trans hBW bB4.size))
                      have O5 := O4.below hb5
                      go_wp2_with fail
                      refine (begin_any (some ⟨bA, oA, none⟩) Bc cP d n gO B gl cl gy cy q P C e st W5 HN.out (hP1.stay bB5) HC.out (hC1.below bB5) HEL.out HE2.out O5 (Nat.le_trans hBW bB5.size) hgO O5.ne (by omega) hqn hri).mono ?_
                      rintro e' w6 ⟨⟨v6, rfl⟩, hb6, gz, cz, O6⟩
                      go_wp2
                      go_roundw
                      case rel => exact ⟨r + 1, gz, cz, hlr, by go_num, bB5.trans hb6, by rw [HS2.out]; exact O6⟩
                      case measure => simp [intOf]; omega
                  · have zq : decide ((0 : Int) ≤ nv) = false := decide_eq_false hq
                    have HS2 := Lib.hid (HOS.out.trans (if_neg (fun h => hq h.2)))
                    clear hq
                    go_wp2
                    go_roundw
                    case rel => exact ⟨r + 1, gy, cy, hlr, by go_num, bB4, by rw [HS2.out]; exact O4⟩
                    case measure => simp [intOf]; omega
                | false =>
                  have HS2 := Lib.hid (HOS.out.trans (if_neg (fun h => by have h1 := HIB.out; unfold idleB at h1; rw [decide_eq_true h.1] at h1; cases h1)))
                  go_wp2
                  go_roundw
                  case rel => exact ⟨r + 1, gy, cy, hlr, by go_num, bB4, by rw [HS2.out]; exact O4⟩
                  case measure => simp [intOf]; omega
              · have hlrZ : ¬ (r : Int) < 2 := by omega
                obtain rfl : r = 2 := by omega
                have bB9 := bBs
                have O9 := Os
                have R9 := BR.low bB9 hWs
                have o0 := O9.blk.at 0 rfl
                have o1 := O9.blk.at 1 rfl
                have o2 := O9.blk.at 2 rfl
                have o3 := O9.blk.at 3 rfl
                go_wp2_with (refine step_store_ct (by rfl) (by rfl) (by rfl) (b := w.heap.size + 1 + 1) (by rfl) (by rfl) R9 ?_; intro w9 Z9 hg9)
                refine bodyPost_ret (results_cell rfl rfl (load_control Z9)) rfl ?_
                have hF9 : Below w.heap.size w w9 := Below.grown (bW.trans (Below.mono bB9 (Nat.le_trans bW.size (Nat.le_of_eq HBB.out)))) hg9 (Below.size (bW.trans (Below.mono bB9 (Nat.le_trans bW.size (Nat.le_of_eq HBB.out))))) (fun k e => by injection e with e; omega)
                have hWw := bW.size
                have hBBx := HBB.out
                have hO9l := O9.bl
                have hO9x := O9.bx
                rw [HST.out]
                exact ⟨_, rfl, hF9, gl, _, _, _, rfl, by omega, by omega, O9.li.grown hg9 (by intro e; injection e with e; omega), O9.nx.grown hg9 (by intro e; injection e with e; omega)⟩
end Go.Proofs.Ytkpbkahmbbkcdaa
