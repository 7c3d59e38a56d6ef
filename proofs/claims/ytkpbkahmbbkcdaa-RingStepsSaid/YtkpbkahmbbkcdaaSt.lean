/-
  The law RingSteps. Conditions: none.
-/
import Derived.Test.YtkpbkahmbbkcdaaLc
import Derived.Test.YtkpbkahmbbkcdaaTs
import Derived.Test.YtkpbkahmbbkcdaaJq
import Derived.BigQuiet
namespace Go.Proofs.Ytkpbkahmbbkcdaa
open Go.ChangeShapes Go.WideShapes Go.RowKit
set_option linter.unusedVariables false

set_option maxRecDepth 40000 in
set_option maxHeartbeats 8000000 in
theorem steps_any (A0 : Option Addr) (cA : Nat) (l : List Int) (B0 : Option Addr) (cB : Nat) (m : List Int) (C0 : Option Addr) (cC : Nat) (ts : List Int) (w : World) (hs : Ints .i64 w w.heap.size A0 l) (hn : Nums l) (hl : l.length ≤ 9223372036854775807) (hsm0 : Ints .i64 w w.heap.size B0 m) (hnm : Nums m) (hlm : m.length ≤ 9223372036854775807) (hst0 : Ints .i64 w w.heap.size C0 ts) (hnt : Nums ts) (hlt0 : ts.length ≤ 9223372036854775807) :
    Calls Try.prog 4 #[.slice A0 l.length cA, .slice B0 m.length cB, .slice C0 ts.length cC] w fun e w' => e = .returned (.bool true) ∧ Below w.heap.size w w' := by
  go_enter Try.func4, Try.ntmps4
  by_cases hlen : (60 : Int) < ts.length
  · go_wp2_with fail
    refine (awake_any _).mono ?_
    rintro e w2 ⟨rfl, hb⟩
    go_wp2
    go_ret
    exact ⟨rfl, hb⟩
  go_wp2_with fail
  refine (new_ok A0 l cA _ hs hn hl).mono ?_
  rintro e w2 ⟨rfl, hdk, hb2, hlt2⟩
  go_wp2_with fail
  refine (junction_any w.heap.size w2 hdk).mono ?_
  rintro e w3 ⟨hgr, hdk3, q, st, ex, P, A1, B1, cU, cW, rfl, hj, hP, hI, hA1, hB1, hcU, hdW⟩
  have hb3 := hgr.base hb2 (Nat.le_refl _)
  have hjc := junC_drawn hj
  have hjv := jun_drawn hj
  obtain ⟨n, hnn⟩ : ∃ n, P.length = n := ⟨_, rfl⟩
  obtain ⟨C, hCC⟩ : ∃ C, rowsL P ex = C := ⟨_, rfl⟩
  rw [hnn, hCC] at hjc
  rw [hCC] at hI hjv
  rw [hnn] at hcU hdW ⊢
  have HN := Lib.hid hnn
  have HRC := Lib.hid hjc.rows.len
  clear hnn hCC hgr hdk hdk3 hb2 hj hA1 hB1
  have h1 := hjc.h1
  have h8 := hjc.h8
  obtain ⟨bA, oA, rfl, hbA, _⟩ := hP (by have := HN.out; omega)
  obtain ⟨bB, oB, rfl, hbB, _⟩ := hI (by have := HRC.out; omega)
  have bJ := lat_alloc (Below.refl w3.heap.size w3) (.cells #[.slice (some ⟨bA, oA, none⟩) n cU, .slice (some ⟨bB, oB, none⟩) n cW, .int .i64 st] 30)
  have BJ := Blk.new (w := w3) (t := 30) (cs := #[.slice (some ⟨bA, oA, none⟩) n cU, .slice (some ⟨bB, oB, none⟩) n cW, .int .i64 st])
  have hI4 := hI.grow bJ
  have hP4 := hP.grow bJ
  have hb4 := hb3.trans (bJ.mono hb3.size)
  have hsm := (hsm0.below hb4).more hb4.size
  have hst := (hst0.below hb4).more hb4.size
  go_wp2_with fail
  have HGC := Lib.hid (heap_size w3 (.cells #[.slice (some ⟨bA, oA, none⟩) n cU, .slice (some ⟨bB, oB, none⟩) n cW, .int .i64 st] 30))
  generalize w3.alloc (.cells #[.slice (some ⟨bA, oA, none⟩) n cU, .slice (some ⟨bB, oB, none⟩) n cW, .int .i64 st] 30) = W4 at *
  generalize w3.heap.size = gj at *
  clear bJ hI hP hb3 hs hsm0 hst0
  obtain ⟨B, hBB⟩ : ∃ B, W4.heap.size = B := ⟨_, rfl⟩
  have HBB := Lib.hid hBB
  have hgjB : gj < B := by have := HGC.out; omega
  have hbAB : bA < B := by have := HGC.out; omega
  have hbBB : bB < B := by have := HGC.out; omega
  have hBW : B ≤ W4.heap.size := by omega
  have hBWle : B ≤ W4.heap.size := hBW
  have hwB : w.heap.size ≤ B := by have := hb4.size; omega
  have hsr := hst
  rw [hBB] at hI4 hP4 hsm hsr
  clear hBB
  refine wp_region_invs 6 67 (JQ W4 B n P C st (.slice B0 m.length cB) (.agg #[.slice (some ⟨bA, oA, none⟩) n cU, .slice (some ⟨bB, oB, none⟩) n cW, .int .i64 st])) (by kernel_rfl) (fun _ _ d _ _ h => by cases d <;> exact h) rfl (by kernel_rfl) (JQ.start HBB.out.symm) ?_ ?_
  · intro k' o hk' ho
    have hk6 : k' = 0 ∨ k' = 1 ∨ k' = 2 ∨ k' = 3 ∨ k' = 4 ∨ k' = 5 := by omega
    rcases hk6 with rfl | rfl | rfl | rfl | rfl | rfl
    · obtain rfl := Option.some.inj ho
      intro lst vs ev xw hJ hl hc hf hfr hd
      have e1 : ev (.tmp 1) = .slice B0 m.length cB := hfr 1 (frm_of (by kernel_rfl))
      clear hfr hd
      refine opS_hid (fun Rp HR => ?_)
      unfold OpS
      go_simp
      rw [HR.out]
      exact hJ.op0 rfl
    · obtain rfl := Option.some.inj ho
      intro lst vs ev xw hJ hl hc hf hfr hd
      have dx22 := hd 0 22 (by kernel_rfl) rfl
      have ex22 : ev (.tmp 22) = .slice B0 m.length cB := dx22.2.trans (hJ.v0 dx22.1)
      clear hfr hd dx22
      have hb := hJ.grew
      have hbig := hJ.big
      refine opS_hid (fun Rp HR => ?_)
      unfold OpS
      go_simp
      refine (new_ok B0 m cB xw (hsm.low hb (Nat.le_of_eq HBB.out.symm)) hnm hlm).mono ?_
      rintro e w'' ⟨rfl, h1, h2, h3⟩
      refine ⟨_, rfl, ?_⟩
      rw [HR.out]
      exact hJ.op1 hl rfl h1 h2
    · obtain rfl := Option.some.inj ho
      intro lst vs ev xw hJ hl hc hf hfr hd
      have e7 : ev (.tmp 7) = .pointer (some ⟨gj, 0, none⟩) := hfr 7 (frm_of (by kernel_rfl))
      clear hfr hd
      have hb := hJ.grew
      have Jx := BJ.low hb hgjB
      have k0 := Jx.at 0 rfl
      have k1 := Jx.at 1 rfl
      have k2 := Jx.at 2 rfl
      refine opS_hid (fun Rp HR => ?_)
      unfold OpS
      go_simp
      rw [HR.out]
      exact hJ.op2 rfl
    · obtain rfl := Option.some.inj ho
      intro lst vs ev xw hJ hl hc hf hfr hd
      have dx23 := hd 1 23 (by kernel_rfl) rfl
      have dx24 := hd 2 24 (by kernel_rfl) rfl
      obtain ⟨g, g1, g2, g3, g4⟩ := hJ.v1 dx23.1
      have ex23 : ev (.tmp 23) = .pointer (some ⟨g, 0, none⟩) := dx23.2.trans g1
      have ex24 : ev (.tmp 24) = .agg #[.slice (some ⟨bA, oA, none⟩) n cU, .slice (some ⟨bB, oB, none⟩) n cW, .int .i64 st] := dx24.2.trans (hJ.v2 dx24.1)
      have hdk := g4 hl
      have h1 := dx23.1
      have hb := hJ.grew
      clear hfr hd dx23 dx24
      refine opS_hid (fun Rp HR => ?_)
      unfold OpS
      go_simp
      refine (control_any g (some ⟨bA, oA, none⟩) (some ⟨bB, oB, none⟩) cU cW n P C st xw hjc hdk (hP4.low hb (Nat.le_of_eq HBB.out.symm)) (hI4.low hb (Nat.le_of_eq HBB.out.symm)) (fun a ha => by injection ha with ha; subst ha; show bA ≠ g; omega) (fun a ha => by injection ha with ha; subst ha; show bB ≠ g; omega)).mono ?_
      rintro e w'' ⟨v, rfl, q1, q2, c, q3, q4⟩
      refine ⟨_, rfl, ?_⟩
      rw [HR.out]
      exact hJ.op3 HBB.out hl h1 g1 g2 q1 q3 q4
    · obtain rfl := Option.some.inj ho
      intro lst vs ev xw hJ hl hc hf hfr hd
      clear hfr hd
      refine opS_hid (fun Rp HR => ?_)
      unfold OpS
      go_simp
      rw [HR.out]
      exact hJ.op4 hl rfl
    · obtain rfl := Option.some.inj ho
      intro lst vs ev xw hJ hl hc hf hfr hd
      have d8 := hd 4 8 (by kernel_rfl) rfl
      have dx25 := hd 3 25 (by kernel_rfl) rfl
      obtain ⟨g, g1, g2, g3, _⟩ := hJ.v4 d8.1
      obtain ⟨c, q1, gl, cl, gx, cx, q2, q3, q4, q5, q6⟩ := hJ.v3 dx25.1
      have e8 : ev (.tmp 8) = .pointer (some ⟨g, 0, none⟩) := d8.2.trans g1
      have ex25 : ev (.tmp 25) = .agg #[.slice (some ⟨gl, 0, none⟩) n cl, .int .i64 c.gr, .slice (some ⟨gx, 0, none⟩) 2 cx, .int .i64 c.wt] := dx25.2.trans q2
      have h3 := dx25.1
      have h4 := d8.1
      have hB := g3 hl
      clear hfr hd d8 dx25
      have hB : Blk xw g 25 #[.slice none 0 0, .int .i64 0, .slice none 0 0, .int .i64 0] := hB
      have f0 := hB.frozen 0
      have f1 := hB.frozen 1
      have f2 := hB.frozen 2
      have f3 := hB.frozen 3
      have c0 := hB.at 0 rfl
      have cU := hB.at 1 rfl
      have c2 := hB.at 2 rfl
      have c3 := hB.at 3 rfl
      have hst4 := hB.set4 (.slice (some ⟨gl, 0, none⟩) n cl) (.int .i64 c.gr) (.slice (some ⟨gx, 0, none⟩) 2 cx) (.int .i64 c.wt)
      have hgr4 := grownBy_setAt (grownBy_setAt (grownBy_setAt (grownBy_set xw g 0 (.slice (some ⟨gl, 0, none⟩) n cl)) g 1 (.int .i64 c.gr) rfl) g 2 (.slice (some ⟨gx, 0, none⟩) 2 cx) rfl) g 3 (.int .i64 c.wt) rfl
      refine opS_hid (fun Rp HR => ?_)
      unfold OpS
      go_simp
      rw [HR.out]
      exact hJ.op5 hl h3 h4 g1 q2 hgr4 hst4
  · intro vs w5 hJ
    have k0 := hJ.v0 rfl
    obtain ⟨g, k1, _, _, _⟩ := hJ.v1 rfl
    have k2 := hJ.v2 rfl
    obtain ⟨c0, hv0, gl, cl, gx, cx, k3, hgl, hgx, L6, N6⟩ := hJ.v3 rfl
    obtain ⟨gc, k4, hBgc, _, r2⟩ := hJ.v4 rfl
    obtain ⟨cs, r3, BC⟩ := r2 rfl
    rw [k3] at r3
    injection r3 with r3
    subst r3
    have b6 := hJ.grew
    simp only [List.take_succ_cons, List.take_zero, List.drop_succ_cons, List.drop_zero, putAll, Act.put, List.setIfInBounds_toArray, List.set_cons_zero, List.set_cons_succ, k0, k1, k2, k3, k4, Nat.reduceAdd, Nat.reduceSub]
    clear hJ k0 k1 k2 k3 k4
    have hlc : gl ≠ gc := L6.ne_ct BC
    have hxc : gx ≠ gc := N6.ne_ct BC
    unfold wpList
    have J5 := BJ.low b6 hgjB
    have j0 := J5.at 0 rfl
    have hgcs := BC.lt
    have hs6 := b6.size
    have hrt := hsr.low b6 hBW
    have own0 := own_new (k := .i64) (e := 3) (w := w5) (base := w5.heap.size) #[.int .i64 (-1), .int .i64 (n : Nat)] [-1, (n : Int)] rfl (Nat.le_refl _) (by simp)
    have bX := lat_alloc (Below.refl w5.heap.size w5) (.cells #[.int .i64 (-1), .int .i64 (n : Nat)] 3)
    have hrt2 := hrt.grow bX
    have hsz := bX.size
    go_wp2_with (at_builtin; refine wpList_append_ints rfl (.tmp 29) (.tmp 30) _ rfl w5.heap.size 3 .i64 8 Try.underlying23 int_info (.slice (some ⟨w5.heap.size, 0, none⟩) 2 2) [-1, (n : Int)] rfl own0 C0 cC ts ts.length rfl rfl hrt2 (by simp; omega) (by omega) hsz ?_; intro v1 w6 own1 g1 a1; have bY := bX.grown g1 hsz (fun k e => (own0.lt e).1); obtain ⟨X, hX⟩ : ∃ X, [-1, (n : Int)] ++ ts = X := ⟨_, rfl⟩; rw [hX] at own1; obtain ⟨gA, capA, rfl, hgA1, hgA2⟩ := own1.form (by rw [← hX]; simp))
    have hRc : gA ≠ gc := by omega
    have R6 := own1.nxb rfl
    have hNX : ∀ x ∈ X, -9223372036854775808 ≤ x ∧ x ≤ 9223372036854775807 := by
      intro x hx
      rw [← hX] at hx
      rcases List.mem_append.1 hx with hx | hx
      · simp only [List.mem_cons, List.not_mem_nil, or_false] at hx
        rcases hx with rfl | rfl <;> omega
      · exact hnt x hx
    have HNX0 := Lib.hid hNX
    have hXl : X.length ≤ 62 := by rw [← hX]; simp; omega
    have S6 : StdC W4 w6 B gc n c0 := ⟨gl, cl, gx, cx, b6.trans (bY.mono (by omega)), BC.below bY, L6.below bY, N6.below bY, hlc, hxc⟩
    clear hX hNX own1 own0 g1 a1 bX bY hrt hrt2 hsz J5 j0 BC L6 N6 b6 hgA1 hgA2 hs6 hgcs hgl hgx hlc hxc hst hsm hnt hnm hn
    go_loopw [33] (fun v wr => ∃ i c, i ≤ X.length ∧ v = .int .i64 (i : Nat) ∧ StdC W4 wr B gc n c ∧ CtV P C n st c ∧ NxB wr gA X) (fun v _ => X.length - (intOf v).toNat)
    case atStart => exact ⟨0, _, Nat.zero_le _, rfl, S6, hv0, R6⟩
    case round =>
      obtain ⟨i, c, hi, rfl, hS, hvc, Rr⟩ := hrel
      clear S6 hv0 R6
      by_cases hlt : i < X.length
      · as_aux_lemma =>
        have hltZ : (i : Int) < X.length := by omega
        obtain ⟨t0, tf⟩ := Rr.at hlt
        clear tf
        obtain ⟨x, hx⟩ : ∃ x, at_ X i = x := ⟨_, rfl⟩
        have hxb : -9223372036854775808 ≤ x ∧ x ≤ 9223372036854775807 := by rw [← hx]; exact HNX0.out _ (by simp [at_, hlt])
        rw [hx] at t0
        clear hx
        obtain ⟨gl, cl, gx, cx, Br, Cr, Lr, Nr, hlc, hxc⟩ := hS
        have Jr := BJ.low Br hgjB
        have j0 := Jr.at 0 rfl
        obtain ⟨k, hk, hkn⟩ := modI_nat' x ((n : Int) + 1) (by omega)
        have HMD := Lib.hid hk
        have zw1 : IntKind.i64.wrap ((n : Int) + 1) = (n : Int) + 1 := by rw [IntKind.wrap_i64]; omega
        have zw2 : IntKind.i64.wrap ((k : Int) - 1) = (k : Int) - 1 := by rw [IntKind.wrap_i64]; omega
        clear hk
        go_wp2_with fail
        refine (mod_k HMD.out (by omega) (by omega) (by omega) (by omega) _).mono ?_
        rintro e w' ⟨rfl, rfl⟩
        go_wp2_with fail
        have bZ := lat_alloc (Below.refl wr.heap.size wr) (.cells #[.int .i64 x, .int .i64 ((k : Int) - 1)] 3)
        have I8 : NxB (wr.alloc (.cells #[.int .i64 x, .int .i64 ((k : Int) - 1)] 3)) wr.heap.size [x, (k : Int) - 1] := ⟨_, Blk.new, fun r hr => by
          rcases (by simpa using hr : r < 2) with _
          rcases (by have : r < 2 := by simpa using hr
                     omega : r = 0 ∨ r = 1) with rfl | rfl <;> rfl⟩
        have hgcr := Cr.lt
        have hIc : wr.heap.size ≠ gc := by omega
        have S8 : StdC W4 (wr.alloc (.cells #[.int .i64 x, .int .i64 ((k : Int) - 1)] 3)) B gc n c := ⟨gl, cl, gx, cx, Br.trans (bZ.mono (Nat.le_trans hBW Br.size)), Cr.below bZ, Lr.below bZ, Nr.below bZ, hlc, hxc⟩
        have R8 := Rr.below bZ
        clear Br Cr Lr Nr hlc hxc Jr j0 t0 bZ Rr hgcr zw1 zw2
        generalize wr.alloc (.cells #[.int .i64 x, .int .i64 ((k : Int) - 1)] 3) = W8 at *
        generalize wr.heap.size = gI at *
        obtain ⟨Y, hY⟩ : ∃ Y, [x, (k : Int) - 1] = Y := ⟨_, rfl⟩
        have HY := Lib.hid (show Y.length = 2 by rw [← hY]; rfl)
        rw [hY] at I8
        clear hY
        have V8 := hvc
        clear hvc
        go_loopw [47] (fun v wr => ∃ (r : Nat) (c : Ct), r ≤ 2 ∧ v = .int .i64 r ∧ StdC W4 wr B gc n c ∧ CtV P C n st c ∧ NxB wr gA X ∧ NxB wr gI Y) (fun v _ => 2 - (intOf v).toNat)
        case atStart => exact ⟨0, c, by omega, rfl, S8, V8, R8, I8⟩
        case round =>
          obtain ⟨r, c, hr, rfl, hS, hvc, R9, I9⟩ := hrel
          clear S8 V8 R8 I8
          by_cases hlr : r < 2
          · as_aux_lemma =>
            have hlrZ : (r : Int) < 2 := by omega
            obtain ⟨t0, tf⟩ := I9.at (i := r) (by rw [HY.out]; exact hlr)
            clear tf
            obtain ⟨y, hy⟩ : ∃ y, at_ Y r = y := ⟨_, rfl⟩
            rw [hy] at t0
            clear hy
            obtain ⟨gl, cl, gx, cx, B9, C9, L9, N9, hlc, hxc⟩ := hS
            have J9 := BJ.low B9 hgjB
            have hB9 := Nat.le_trans hBW B9.size
            have hvs := step_v hjc.rows hvc h1 hjc.pok hjc.ri hjc.gr y
            obtain ⟨s, hss⟩ : ∃ s, stepC P C n c y = s := ⟨_, rfl⟩
            rw [hss] at hvs
            have HSS := Lib.hid hss
            have HVC := Lib.hid hvc
            have HLI := Lib.hid hvs.li
            have HNX := Lib.hid hvs.nx
            have HVS := Lib.hid hvs
            clear hss hvc hvs
            go_wp2_with fail
            clear t0
            generalize wr = W9 at *
            obtain ⟨K, hK⟩ : ∃ K, K = known ([fun v _ => v = .agg #[.slice (some ⟨bA, oA, none⟩) n cU, .slice (some ⟨bB, oB, none⟩) n cW, .int .i64 st], fun v _ => v = .agg #[.slice (some ⟨gl, 0, none⟩) n cl, .int .i64 (c).gr, .slice (some ⟨gx, 0, none⟩) 2 cx, .int .i64 (c).wt], fun v _ => v = .int .i64 y, fun v w => CtH w W9.heap.size n v s, fun v _ => v = .agg #[.slice (some ⟨bA, oA, none⟩) n cU, .slice (some ⟨bB, oB, none⟩) n cW, .int .i64 st], fun v _ => v = .agg #[.slice (some ⟨gl, 0, none⟩) n cl, .int .i64 (c).gr, .slice (some ⟨gx, 0, none⟩) 2 cx, .int .i64 (c).wt], fun v _ => v = .int .i64 y, fun v w => CtH w W9.heap.size n v s, fun _ _ => True, fun _ _ => True, fun _ _ => True, fun _ _ => True]) := ⟨_, rfl⟩
            have hg : ∀ i v (w w' : World), K i v w → Below w.heap.size w w' → K i v w' := by rw [hK]; exact fun i v w w' h hb => known_stays (L := [fun v _ => v = .agg #[.slice (some ⟨bA, oA, none⟩) n cU, .slice (some ⟨bB, oB, none⟩) n cW, .int .i64 st], fun v _ => v = .agg #[.slice (some ⟨gl, 0, none⟩) n cl, .int .i64 (c).gr, .slice (some ⟨gx, 0, none⟩) 2 cx, .int .i64 (c).wt], fun v _ => v = .int .i64 y, fun v w => CtH w W9.heap.size n v s, fun v _ => v = .agg #[.slice (some ⟨bA, oA, none⟩) n cU, .slice (some ⟨bB, oB, none⟩) n cW, .int .i64 st], fun v _ => v = .agg #[.slice (some ⟨gl, 0, none⟩) n cl, .int .i64 (c).gr, .slice (some ⟨gx, 0, none⟩) 2 cx, .int .i64 (c).wt], fun v _ => v = .int .i64 y, fun v w => CtH w W9.heap.size n v s, fun _ _ => True, fun _ _ => True, fun _ _ => True, fun _ _ => True]) (R := Bl) (stay_cons (stays_v _) (stay_cons (stays_v _) (stay_cons (stays_v _) (stay_cons (fun v w w1 h hb => CtH.below h hb) (stay_cons (stays_v _) (stay_cons (stays_v _) (stay_cons (stays_v _) (stay_cons (fun v w w1 h hb => CtH.below h hb) (stay_cons (fun _ _ _ _ _ => trivial) (stay_cons (fun _ _ _ _ _ => trivial) (stay_cons (fun _ _ _ _ _ => trivial) (stay_cons (fun _ _ _ _ _ => trivial) (stay_nil))))))))))))) i v w w' h hb
            have hs0 : ∀ i v (w w' : World) b cs, K i v w → Blk w b 25 cs → w.grownBy w' (some b) → K i v w' := by rw [hK]; exact fun i v w w' b cs h hB hg => known_stays (L := [fun v _ => v = .agg #[.slice (some ⟨bA, oA, none⟩) n cU, .slice (some ⟨bB, oB, none⟩) n cW, .int .i64 st], fun v _ => v = .agg #[.slice (some ⟨gl, 0, none⟩) n cl, .int .i64 (c).gr, .slice (some ⟨gx, 0, none⟩) 2 cx, .int .i64 (c).wt], fun v _ => v = .int .i64 y, fun v w => CtH w W9.heap.size n v s, fun v _ => v = .agg #[.slice (some ⟨bA, oA, none⟩) n cU, .slice (some ⟨bB, oB, none⟩) n cW, .int .i64 st], fun v _ => v = .agg #[.slice (some ⟨gl, 0, none⟩) n cl, .int .i64 (c).gr, .slice (some ⟨gx, 0, none⟩) 2 cx, .int .i64 (c).wt], fun v _ => v = .int .i64 y, fun v w => CtH w W9.heap.size n v s, fun _ _ => True, fun _ _ => True, fun _ _ => True, fun _ _ => True]) (R := fun w w' => ∃ b cs, Blk w b 25 cs ∧ w.grownBy w' (some b)) (stay_cons (stays_v _) (stay_cons (stays_v _) (stay_cons (stays_v _) (stay_cons (fun v w w1 h hb => by obtain ⟨b, cs, hB, hg⟩ := hb; exact CtH.stored h hB hg) (stay_cons (stays_v _) (stay_cons (stays_v _) (stay_cons (stays_v _) (stay_cons (fun v w w1 h hb => by obtain ⟨b, cs, hB, hg⟩ := hb; exact CtH.stored h hB hg) (stay_cons (fun _ _ _ _ _ => trivial) (stay_cons (fun _ _ _ _ _ => trivial) (stay_cons (fun _ _ _ _ _ => trivial) (stay_cons (fun _ _ _ _ _ => trivial) (stay_nil))))))))))))) i v w w' h ⟨b, cs, hB, hg⟩
            have hs1 : ∀ i v (w w' : World) b cs, K i v w → Blk w b 25 cs → w.grownBy w' (some b) → K i v w' := by rw [hK]; exact fun i v w w' b cs h hB hg => known_stays (L := [fun v _ => v = .agg #[.slice (some ⟨bA, oA, none⟩) n cU, .slice (some ⟨bB, oB, none⟩) n cW, .int .i64 st], fun v _ => v = .agg #[.slice (some ⟨gl, 0, none⟩) n cl, .int .i64 (c).gr, .slice (some ⟨gx, 0, none⟩) 2 cx, .int .i64 (c).wt], fun v _ => v = .int .i64 y, fun v w => CtH w W9.heap.size n v s, fun v _ => v = .agg #[.slice (some ⟨bA, oA, none⟩) n cU, .slice (some ⟨bB, oB, none⟩) n cW, .int .i64 st], fun v _ => v = .agg #[.slice (some ⟨gl, 0, none⟩) n cl, .int .i64 (c).gr, .slice (some ⟨gx, 0, none⟩) 2 cx, .int .i64 (c).wt], fun v _ => v = .int .i64 y, fun v w => CtH w W9.heap.size n v s, fun _ _ => True, fun _ _ => True, fun _ _ => True, fun _ _ => True]) (R := fun w w' => ∃ b cs, Blk w b 25 cs ∧ w.grownBy w' (some b)) (stay_cons (stays_v _) (stay_cons (stays_v _) (stay_cons (stays_v _) (stay_cons (fun v w w1 h hb => by obtain ⟨b, cs, hB, hg⟩ := hb; exact CtH.stored h hB hg) (stay_cons (stays_v _) (stay_cons (stays_v _) (stay_cons (stays_v _) (stay_cons (fun v w w1 h hb => by obtain ⟨b, cs, hB, hg⟩ := hb; exact CtH.stored h hB hg) (stay_cons (fun _ _ _ _ _ => trivial) (stay_cons (fun _ _ _ _ _ => trivial) (stay_cons (fun _ _ _ _ _ => trivial) (stay_cons (fun _ _ _ _ _ => trivial) (stay_nil))))))))))))) i v w w' h ⟨b, cs, hB, hg⟩
            have K0 : ∀ v w, K 0 v w ↔ (fun v _ => v = .agg #[.slice (some ⟨bA, oA, none⟩) n cU, .slice (some ⟨bB, oB, none⟩) n cW, .int .i64 st] : Value → World → Prop) v w := fun v w => by rw [hK]; exact Iff.rfl
            have K1 : ∀ v w, K 1 v w ↔ (fun v _ => v = .agg #[.slice (some ⟨gl, 0, none⟩) n cl, .int .i64 (c).gr, .slice (some ⟨gx, 0, none⟩) 2 cx, .int .i64 (c).wt] : Value → World → Prop) v w := fun v w => by rw [hK]; exact Iff.rfl
            have K2 : ∀ v w, K 2 v w ↔ (fun v _ => v = .int .i64 y : Value → World → Prop) v w := fun v w => by rw [hK]; exact Iff.rfl
            have K3 : ∀ v w, K 3 v w ↔ (fun v w => CtH w W9.heap.size n v s : Value → World → Prop) v w := fun v w => by rw [hK]; exact Iff.rfl
            have K4 : ∀ v w, K 4 v w ↔ (fun v _ => v = .agg #[.slice (some ⟨bA, oA, none⟩) n cU, .slice (some ⟨bB, oB, none⟩) n cW, .int .i64 st] : Value → World → Prop) v w := fun v w => by rw [hK]; exact Iff.rfl
            have K5 : ∀ v w, K 5 v w ↔ (fun v _ => v = .agg #[.slice (some ⟨gl, 0, none⟩) n cl, .int .i64 (c).gr, .slice (some ⟨gx, 0, none⟩) 2 cx, .int .i64 (c).wt] : Value → World → Prop) v w := fun v w => by rw [hK]; exact Iff.rfl
            have K6 : ∀ v w, K 6 v w ↔ (fun v _ => v = .int .i64 y : Value → World → Prop) v w := fun v w => by rw [hK]; exact Iff.rfl
            have K7 : ∀ v w, K 7 v w ↔ (fun v w => CtH w W9.heap.size n v s : Value → World → Prop) v w := fun v w => by rw [hK]; exact Iff.rfl
            have K8 : ∀ v w, K 8 v w ↔ (fun _ _ => True : Value → World → Prop) v w := fun v w => by rw [hK]; exact Iff.rfl
            have K9 : ∀ v w, K 9 v w ↔ (fun _ _ => True : Value → World → Prop) v w := fun v w => by rw [hK]; exact Iff.rfl
            have K10 : ∀ v w, K 10 v w ↔ (fun _ _ => True : Value → World → Prop) v w := fun v w => by rw [hK]; exact Iff.rfl
            have K11 : ∀ v w, K 11 v w ↔ (fun _ _ => True : Value → World → Prop) v w := fun v w => by rw [hK]; exact Iff.rfl
            clear hK
            refine wp_region_invs 12 67 (TwoB W9 K 8 10 3 9 11 7 25 25 #[.slice none 0 0, .int .i64 0, .slice none 0 0, .int .i64 0] #[.slice none 0 0, .int .i64 0, .slice none 0 0, .int .i64 0]) (by kernel_rfl) (fun _ _ d _ _ h => by cases d <;> exact h) rfl (by kernel_rfl) (fun vs => TwoB.start vs) ?_ ?_
            · intro k' o hk' ho
              have hk6 : k' = 0 ∨ k' = 1 ∨ k' = 2 ∨ k' = 3 ∨ k' = 4 ∨ k' = 5 ∨ k' = 6 ∨ k' = 7 ∨ k' = 8 ∨ k' = 9 ∨ k' = 10 ∨ k' = 11 := by omega
              rcases hk6 with rfl | rfl | rfl | rfl | rfl | rfl | rfl | rfl | rfl | rfl | rfl | rfl
              · obtain rfl := Option.some.inj ho
                intro lst vs ev xw hJ hl hc hf hfr hd
                have e7 : ev (.tmp 7) = .pointer (some ⟨gj, 0, none⟩) := hfr 7 (frm_of (by kernel_rfl))
                have hb := hJ.grew
                clear hfr hd 
                have k0 := (J9.below hb).at 0 rfl
                have k1 := (J9.below hb).at 1 rfl
                have k2 := (J9.below hb).at 2 rfl
                refine opS_hid (fun Rp HR => ?_)
                unfold OpS
                go_simp
                rw [HR.out]
                exact hJ.op hg hl (by decide) (by decide) (by decide) (by decide) (Below.refl _ _) ((K0 _ _).2 rfl)
              · obtain rfl := Option.some.inj ho
                intro lst vs ev xw hJ hl hc hf hfr hd
                have e8 : ev (.tmp 8) = .pointer (some ⟨gc, 0, none⟩) := hfr 8 (frm_of (by kernel_rfl))
                have hb := hJ.grew
                clear hfr hd 
                have k0 := (C9.below hb).at 0 rfl
                have k1 := (C9.below hb).at 1 rfl
                have k2 := (C9.below hb).at 2 rfl
                have k3 := (C9.below hb).at 3 rfl
                refine opS_hid (fun Rp HR => ?_)
                unfold OpS
                go_simp
                rw [HR.out]
                exact hJ.op hg hl (by decide) (by decide) (by decide) (by decide) (Below.refl _ _) ((K1 _ _).2 rfl)
              · obtain rfl := Option.some.inj ho
                intro lst vs ev xw hJ hl hc hf hfr hd
                have e12 : ev (.tmp 12) = .int .i64 y := hfr 12 (frm_of (by kernel_rfl))
                have hb := hJ.grew
                clear hfr hd 
                refine opS_hid (fun Rp HR => ?_)
                unfold OpS
                go_simp
                rw [HR.out]
                exact hJ.op hg hl (by decide) (by decide) (by decide) (by decide) (Below.refl _ _) ((K2 _ _).2 rfl)
              · obtain rfl := Option.some.inj ho
                intro lst vs ev xw hJ hl hc hf hfr hd
                have d51 := hd 0 51 (by kernel_rfl) rfl
                have e51 : ev (.tmp 51) = .agg #[.slice (some ⟨bA, oA, none⟩) n cU, .slice (some ⟨bB, oB, none⟩) n cW, .int .i64 st] := d51.2.trans ((K0 _ _).1 (hJ.known 0 d51.1))
                have d52 := hd 1 52 (by kernel_rfl) rfl
                have e52 : ev (.tmp 52) = .agg #[.slice (some ⟨gl, 0, none⟩) n cl, .int .i64 (c).gr, .slice (some ⟨gx, 0, none⟩) 2 cx, .int .i64 (c).wt] := d52.2.trans ((K1 _ _).1 (hJ.known 1 d52.1))
                have d53 := hd 2 53 (by kernel_rfl) rfl
                have e53 : ev (.tmp 53) = .int .i64 y := d53.2.trans ((K2 _ _).1 (hJ.known 2 d53.1))
                have hb := hJ.grew
                clear hfr hd d51 d52 d53
                refine opS_hid (fun Rp HR => ?_)
                unfold OpS
                go_simp
                refine (pstep_any (some ⟨bA, oA, none⟩) (some ⟨bB, oB, none⟩) (some ⟨gl, 0, none⟩) (some ⟨gx, 0, none⟩) cU cW cl cx n P C c st y xw hjc hjv HVC.out (hP4.low (B9.trans (hb.mono hB9)) hBW) (hI4.low (B9.trans (hb.mono hB9)) hBW) hcU (L9.below hb).prs (N9.below hb).ints).mono ?_
                rintro e w'' ⟨v, rfl, hw, hh⟩
                refine ⟨_, rfl, ?_⟩
                rw [HR.out]
                rw [HSS.out] at hh
                exact hJ.op hg hl (by decide) (by decide) (by decide) (by decide) hw ((K3 _ _).2 (hh.lower hb.size))
              · obtain rfl := Option.some.inj ho
                intro lst vs ev xw hJ hl hc hf hfr hd
                have e7 : ev (.tmp 7) = .pointer (some ⟨gj, 0, none⟩) := hfr 7 (frm_of (by kernel_rfl))
                have hb := hJ.grew
                clear hfr hd 
                have k0 := (J9.below hb).at 0 rfl
                have k1 := (J9.below hb).at 1 rfl
                have k2 := (J9.below hb).at 2 rfl
                refine opS_hid (fun Rp HR => ?_)
                unfold OpS
                go_simp
                rw [HR.out]
                exact hJ.op hg hl (by decide) (by decide) (by decide) (by decide) (Below.refl _ _) ((K4 _ _).2 rfl)
              · obtain rfl := Option.some.inj ho
                intro lst vs ev xw hJ hl hc hf hfr hd
                have e8 : ev (.tmp 8) = .pointer (some ⟨gc, 0, none⟩) := hfr 8 (frm_of (by kernel_rfl))
                have hb := hJ.grew
                clear hfr hd 
                have k0 := (C9.below hb).at 0 rfl
                have k1 := (C9.below hb).at 1 rfl
                have k2 := (C9.below hb).at 2 rfl
                have k3 := (C9.below hb).at 3 rfl
                refine opS_hid (fun Rp HR => ?_)
                unfold OpS
                go_simp
                rw [HR.out]
                exact hJ.op hg hl (by decide) (by decide) (by decide) (by decide) (Below.refl _ _) ((K5 _ _).2 rfl)
              · obtain rfl := Option.some.inj ho
                intro lst vs ev xw hJ hl hc hf hfr hd
                have e12 : ev (.tmp 12) = .int .i64 y := hfr 12 (frm_of (by kernel_rfl))
                have hb := hJ.grew
                clear hfr hd 
                refine opS_hid (fun Rp HR => ?_)
                unfold OpS
                go_simp
                rw [HR.out]
                exact hJ.op hg hl (by decide) (by decide) (by decide) (by decide) (Below.refl _ _) ((K6 _ _).2 rfl)
              · obtain rfl := Option.some.inj ho
                intro lst vs ev xw hJ hl hc hf hfr hd
                have d55 := hd 4 55 (by kernel_rfl) rfl
                have e55 : ev (.tmp 55) = .agg #[.slice (some ⟨bA, oA, none⟩) n cU, .slice (some ⟨bB, oB, none⟩) n cW, .int .i64 st] := d55.2.trans ((K4 _ _).1 (hJ.known 4 d55.1))
                have d56 := hd 5 56 (by kernel_rfl) rfl
                have e56 : ev (.tmp 56) = .agg #[.slice (some ⟨gl, 0, none⟩) n cl, .int .i64 (c).gr, .slice (some ⟨gx, 0, none⟩) 2 cx, .int .i64 (c).wt] := d56.2.trans ((K5 _ _).1 (hJ.known 5 d56.1))
                have d57 := hd 6 57 (by kernel_rfl) rfl
                have e57 : ev (.tmp 57) = .int .i64 y := d57.2.trans ((K6 _ _).1 (hJ.known 6 d57.1))
                have hb := hJ.grew
                clear hfr hd d55 d56 d57
                refine opS_hid (fun Rp HR => ?_)
                unfold OpS
                go_simp
                refine (cstep_any (some ⟨bA, oA, none⟩) (some ⟨bB, oB, none⟩) (some ⟨gl, 0, none⟩) (some ⟨gx, 0, none⟩) cU cW cl cx n P C c st y xw hjc HVC.out (hP4.low (B9.trans (hb.mono hB9)) hBW) (hI4.low (B9.trans (hb.mono hB9)) hBW) (L9.below hb).prs (N9.below hb).ints).mono ?_
                rintro e w'' ⟨v, rfl, hw, hh⟩
                refine ⟨_, rfl, ?_⟩
                rw [HR.out]
                rw [HSS.out] at hh
                exact hJ.op hg hl (by decide) (by decide) (by decide) (by decide) hw ((K7 _ _).2 (hh.lower hb.size))
              · obtain rfl := Option.some.inj ho
                intro lst vs ev xw hJ hl hc hf hfr hd
                have hb := hJ.grew
                clear hfr hd 
                refine opS_hid (fun Rp HR => ?_)
                unfold OpS
                go_simp
                rw [HR.out]
                exact hJ.lay1 hg hl (by decide) (fun v w => (K8 v w).2 trivial)
              · obtain rfl := Option.some.inj ho
                intro lst vs ev xw hJ hl hc hf hfr hd
                have hb := hJ.grew
                clear hfr hd 
                refine opS_hid (fun Rp HR => ?_)
                unfold OpS
                go_simp
                rw [HR.out]
                exact hJ.lay2 hg hl (by decide) (fun v w => (K9 v w).2 trivial)
              · obtain rfl := Option.some.inj ho
                intro lst vs ev xw hJ hl hc hf hfr hd
                have d13 := hd 8 13 (by kernel_rfl) rfl
                have d54 := hd 3 54 (by kernel_rfl) rfl
                obtain ⟨gl54, cl54, gx54, cx54, e54, h54⟩ : CtH xw W9.heap.size n (vs 3) s := (K3 _ _).1 (hJ.known 3 d54.1)
                have x54 := d54.2.trans e54
                have hb := hJ.grew
                obtain ⟨bb, e1, e2, hB⟩ := hJ.at1 d13.1 hl
                have e13 := d13.2.trans e1
                have hB : Blk xw bb 25 #[.slice none 0 0, .int .i64 0, .slice none 0 0, .int .i64 0] := hB
                refine opS_store_ct rfl e13 x54 hB ?_
                intro w' hst hgr
                exact hJ.store1 hs0 hl d13.1 d54.1 (by decide) (fun v w => (K10 v w).2 trivial) e1 e54 hgr hst
              · obtain rfl := Option.some.inj ho
                intro lst vs ev xw hJ hl hc hf hfr hd
                have d14 := hd 9 14 (by kernel_rfl) rfl
                have d58 := hd 7 58 (by kernel_rfl) rfl
                obtain ⟨gl58, cl58, gx58, cx58, e58, h58⟩ : CtH xw W9.heap.size n (vs 7) s := (K7 _ _).1 (hJ.known 7 d58.1)
                have x58 := d58.2.trans e58
                have hb := hJ.grew
                obtain ⟨bb, e1, e2, hB⟩ := hJ.at2 d14.1 hl
                have e14 := d14.2.trans e1
                have hB : Blk xw bb 25 #[.slice none 0 0, .int .i64 0, .slice none 0 0, .int .i64 0] := hB
                refine opS_store_ct rfl e14 x58 hB ?_
                intro w' hst hgr
                exact hJ.store2 hs1 hl d14.1 d58.1 (by decide) (fun v w => (K11 v w).2 trivial) e1 e58 hgr hst
            · intro vs w5 hJ
              obtain ⟨g1, g2, cs1, cs2, k_a1, k_a2, hg1, hg2, hne, k_f1, k_f2, X1, X2⟩ := hJ.fin rfl rfl rfl rfl
              have hb5 := hJ.grew
              have k0 : vs 0 = .agg #[.slice (some ⟨bA, oA, none⟩) n cU, .slice (some ⟨bB, oB, none⟩) n cW, .int .i64 st] := (K0 _ _).1 (hJ.known 0 rfl)
              have k1 : vs 1 = .agg #[.slice (some ⟨gl, 0, none⟩) n cl, .int .i64 (c).gr, .slice (some ⟨gx, 0, none⟩) 2 cx, .int .i64 (c).wt] := (K1 _ _).1 (hJ.known 1 rfl)
              have k2 : vs 2 = .int .i64 y := (K2 _ _).1 (hJ.known 2 rfl)
              have k4 : vs 4 = .agg #[.slice (some ⟨bA, oA, none⟩) n cU, .slice (some ⟨bB, oB, none⟩) n cW, .int .i64 st] := (K4 _ _).1 (hJ.known 4 rfl)
              have k5 : vs 5 = .agg #[.slice (some ⟨gl, 0, none⟩) n cl, .int .i64 (c).gr, .slice (some ⟨gx, 0, none⟩) 2 cx, .int .i64 (c).wt] := (K5 _ _).1 (hJ.known 5 rfl)
              have k6 : vs 6 = .int .i64 y := (K6 _ _).1 (hJ.known 6 rfl)
              simp only [List.take_succ_cons, List.take_zero, List.drop_succ_cons, List.drop_zero, putAll, Act.put, List.setIfInBounds_toArray, List.set_cons_zero, List.set_cons_succ, k0, k1, k2, k4, k5, k6, k_a1, k_a2, Nat.reduceAdd, Nat.reduceSub]
              obtain ⟨gl2, cl2, gx2, cx2, q1, ⟨hgl2, hcl2⟩, hgx2, L10, N10⟩ := (K3 _ _).1 (hJ.known 3 rfl)
              obtain ⟨gl3, cl3, gx3, cx3, q2, ⟨hgl3, hcl3⟩, hgx3, L11, N11⟩ := (K7 _ _).1 (hJ.known 7 rfl)
              rw [q1] at k_f1
              obtain rfl := (Value.agg.inj k_f1).symm
              rw [q2] at k_f2
              obtain rfl := (Value.agg.inj k_f2).symm
              clear hJ k_f1 k_f2 hg hs0 hs1
              simp only [q1, q2]
              clear q1 q2
              unfold wpList
              have a0 := X1.at 0 rfl; have a1 := X1.at 1 rfl; have a2 := X1.at 2 rfl; have a3 := X1.at 3 rfl
              have b0 := X2.at 0 rfl; have b1 := X2.at 1 rfl; have b2 := X2.at 2 rfl; have b3 := X2.at 3 rfl
              go_wp2_with fail
              refine (same_t gl2 cl2 gx2 cx2 gl3 cl3 gx3 cx3 n s w5 HLI.out HNX.out (by omega) L10 N10 L11 N11).mono ?_
              rintro e w6 ⟨rfl, b6⟩
              clear a0 a1 a2 a3 b0 b1 b2 b3
              have Y2 := X2.below b6
              have C10 := (C9.below hb5).below b6
              have hgcs := C9.lt
              have L12 := L11.below b6
              have N12 := N11.below b6
              have I12 := (I9.below hb5).below b6
              have R12 := (R9.below hb5).below b6
              have hIs := I9.lt
              have hRs := R9.lt
              have B12 := (B9.trans (hb5.mono hB9)).trans (b6.mono (Nat.le_trans hB9 hb5.size))
              have b0 := Y2.at 0 rfl; have b1 := Y2.at 1 rfl; have b2 := Y2.at 2 rfl; have b3 := Y2.at 3 rfl
              go_wp2_with (refine step_store_ct (by rfl) (by rfl) (by rfl) (by rfl) (by rfl) C10 ?_; intro w7 C13 hg7)
              go_roundw
              case rel => exact ⟨r + 1, s, hlr, by go_num, ⟨gl3, cl3, gx3, cx3, B12.grown hg7 (Nat.le_trans hBW B12.size) (fun k e => by injection e with e; omega), C13, L12.grown hg7 (by intro e; injection e with e; omega), N12.grown hg7 (by intro e; injection e with e; omega), by omega, by omega⟩, HVS.out, R12.grown hg7 (by intro e; injection e with e; exact hRc e.symm), I12.grown hg7 (by intro e; injection e with e; exact hIc e.symm)⟩
              case measure => simp [intOf]; omega
          · as_aux_lemma =>
            have hlrZ : ¬ (r : Int) < 2 := by omega
            go_wp2
            go_roundw
            case rel => exact ⟨i + 1, c, hlt, by go_num, hS, hvc, R9⟩
            case measure => simp [intOf]; omega
      · as_aux_lemma =>
        have hltZ : ¬ (i : Int) < X.length := by omega
        have hBr : Below B W4 wr := by obtain ⟨_, _, _, _, h, _⟩ := hS; exact h
        go_wp2_with fail
        refine (awake_any _).mono ?_
        rintro e w2 ⟨rfl, hb⟩
        go_wp2
        go_ret
        exact ⟨rfl, hb4.trans ((hBr.mono hwB).trans (hb.mono (Nat.le_trans hb4.size hBr.size)))⟩
end Go.Proofs.Ytkpbkahmbbkcdaa
