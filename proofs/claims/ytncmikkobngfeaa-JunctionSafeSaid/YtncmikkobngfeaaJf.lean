/-
  The law JunctionSafe. Conditions: none.
-/
import Derived.Test.YtncmikkobngfeaaJv
import Derived.Deep.OwnRows
import Derived.BigQuiet
import Derived.Deep.CutRange
namespace Go.Proofs.Ytncmikkobngfeaa
open Go.ChangeShapes Go.WideShapes Go.RowKit
set_option linter.unusedVariables false

open Classical in
theorem bool_of (p : Prop) : ∃ b : Bool, b = true ↔ p := ⟨decide p, by simp⟩
/-- The variable gs holds the signal with the control c. -/
def StdS (W wr : World) (B gs n : Nat) (c : Ct) (b : Bool) : Prop := ∃ gl cl gx cx : Nat, Below B W wr ∧ Blk wr gs 27 #[.slice (some ⟨gl, 0, none⟩) n cl, .int .i64 (c).gr, .slice (some ⟨gx, 0, none⟩) 2 cx, .int .i64 (c).wt, .bool b] ∧ LiB wr gl c.li ∧ NxB wr gx c.nx
/-- The set of the lamps that are green or yellow, of the first k. -/
def setP (L : List Int) : Nat → Nat
  | 0 => 0
  | k + 1 => setP L k + if at_ L k = 1 ∨ at_ L k = 2 then 2 ^ k else 0
theorem setP_yes {L : List Int} {k : Nat} (h : at_ L k = 1 ∨ at_ L k = 2) : setP L (k + 1) = setP L k + 2 ^ k := by rw [setP, if_pos h]
theorem setP_no {L : List Int} {k : Nat} (h : ¬ (at_ L k = 1 ∨ at_ L k = 2)) : setP L (k + 1) = setP L k := by rw [setP, if_neg h]; rfl
theorem setP_lt (L : List Int) : ∀ k, setP L k < 2 ^ k
  | 0 => by simp [setP]
  | k + 1 => by
    have := setP_lt L k
    rw [setP, Nat.pow_succ]
    split <;> omega
theorem setP_bit (L : List Int) (k p : Nat) : (setP L k).testBit p = (decide (p < k) && decide (at_ L p = 1 ∨ at_ L p = 2)) := by
  induction k with
  | zero => simp [setP]
  | succ k ih =>
    have hl := setP_lt L k
    rw [setP]
    by_cases hf : at_ L k = 1 ∨ at_ L k = 2
    · have e := Nat.two_pow_add_eq_or_of_lt hl 1
      rw [Nat.mul_one] at e
      rw [if_pos hf, Nat.add_comm, e, Nat.testBit_or, Nat.testBit_two_pow, ih]
      rcases Nat.lt_trichotomy p k with g | g | g
      · simp [g, show ¬ k = p by omega, show p < k + 1 by omega]
      · subst g; simp [hf]
      · simp [show ¬ k = p by omega, show ¬ p < k by omega, show ¬ p < k + 1 by omega]
    · rw [if_neg hf, Nat.add_zero, ih]
      rcases Nat.lt_trichotomy p k with g | g | g
      · simp [g, show p < k + 1 by omega]
      · subst g; simp [hf]
      · simp [show ¬ p < k by omega, show ¬ p < k + 1 by omega]
theorem setP_has {L : List Int} {n p : Nat} (h : hasB ((setP L n : Nat) : Int) p = true) : p < n ∧ (at_ L p = 1 ∨ at_ L p = 2) := by
  rw [hasB_nat, setP_bit] at h
  simpa using h
theorem lamp_03 {p : Ph} {a t : Int} (h : LiOk p a t) : 0 ≤ a ∧ a ≤ 3 := by
  unfold LiOk at h
  omega
theorem init_set (P : List Ph) (n : Nat) (st : Int) : setV (initC P n st).li n = 0 := (setV_zero _ _).2 fun p hp => by
  show lmp (List.replicate n ((0, 0) : Int × Int)) p = 0
  unfold lmp; rw [prAt_rep hp]
theorem rset_0 {D E : Option Addr} {cL cX n : Nat} {L : List (Int × Int)} {g wt : Int} (w : World) (hLn : L.length = n) (hL : Prs w w.heap.size D L) (h8 : n ≤ 60) (h0 : setV L n = 0) :
    Calls Try.prog 25 #[.agg #[.slice D n cL, .int .i64 g, .slice E 2 cX, .int .i64 wt]] w fun e w' => e = .returned (.int .i64 0) ∧ Below w.heap.size w w' :=
  (set_any D E cL cX n L g wt w hLn hL h8).mono fun e w' h => ⟨by rw [h.1, h0]; rfl, h.2⟩
/-- What any step makes of a signal, latched or not. -/
theorem jstep_all {n : Nat} {P : List Ph} {C : List Int} {c : Ct} {st : Int} (t k : Int) (b : Bool) (hj : JunC P C n st) (hjv : JunV P C st) (hv : CtV P C n st c) : ∃ (s : Ct) (b' : Bool), CtV P C n st s ∧ (b = true → b' = true) ∧ ∀ (A Bc D E : Option Addr) (cP d cL cX : Nat) (w : World), Phs w w.heap.size A P → Ints .i64 w w.heap.size Bc C → n ≤ cP → Prs w w.heap.size D c.li → Ints .i64 w w.heap.size E c.nx →
    Calls Try.prog 20 #[.agg #[.slice A n cP, .slice Bc n d, .int .i64 st], .agg #[.slice D n cL, .int .i64 c.gr, .slice E 2 cX, .int .i64 c.wt, .bool b], .int .i64 t, .int .i64 k] w fun e w' => ∃ v, e = .returned v ∧ Below w.heap.size w w' ∧ SgH w' w.heap.size n v s b' := by
  have h8 := hj.h8
  cases b with
  | true => exact ⟨c, true, hv, fun h => h, fun A Bc D E cP d cL cX w hP hC hcP hL hX => jstep_l A Bc D E cP d cL cX n c st t k w hj.h1 (by omega) hv.li hv.nx hL hX⟩
  | false =>
    obtain ⟨b', hb'⟩ := bool_of (Fb C (seenV (stepC P C n c t).li n k))
    exact ⟨stepC P C n c t, b', step_v hj.rows hv hj.h1 hj.pok hj.ri hj.gr t, fun h => absurd h (by decide), fun A Bc D E cP d cL cX w hP hC hcP hL hX => jstep_s A Bc D E cP d cL cX n P C c _ st t k b' w rfl hj hjv hv hP hC hcP hL hX hb'⟩
set_option maxRecDepth 40000 in
set_option maxHeartbeats 8000000 in
theorem safe_any (A0 : Option Addr) (cA : Nat) (l : List Int) (B0 : Option Addr) (cB : Nat) (ts : List Int) (w : World) (hs : Ints .i64 w w.heap.size A0 l) (hn : Nums l) (hl : l.length ≤ 9223372036854775807) (hsm0 : Ints .i64 w w.heap.size B0 ts) (hnm : Nums ts) (hlm : ts.length ≤ 9223372036854775807) :
    Calls Try.prog 4 #[.slice A0 l.length cA, .slice B0 ts.length cB] w fun e w' => e = .returned (.bool true) ∧ Below w.heap.size w w' := by
  go_enter Try.func4, Try.ntmps4
  by_cases hlen : (120 : Int) < ts.length
  · go_wp2_with fail
    refine (awake_any _).mono ?_
    rintro e w2 ⟨rfl, hb⟩
    go_wp2
    go_ret
    exact ⟨rfl, hb⟩
  go_wp2_with fail
  refine (new_ok A0 l cA _ hs hn hl).mono ?_
  rintro e w2 ⟨rfl, hdk, hb2, hlt2⟩
  go_wp2_with fail
  refine (junction_any w.heap.size w2 hdk).mono ?_
  rintro e w3 ⟨hgr, hdk3, q, st, ex, P, A1, B1, cU, cW, rfl, hj, hP, hI, hA1, hB1, hcU, hdW⟩
  have hb3 := hgr.base hb2 (Nat.le_refl _)
  have hjc := junC_drawn hj
  have hjv := jun_drawn hj
  obtain ⟨n, hnn⟩ : ∃ n, P.length = n := ⟨_, rfl⟩
  obtain ⟨C, hCC⟩ : ∃ C, rowsL P ex = C := ⟨_, rfl⟩
  rw [hnn, hCC] at hjc
  rw [hCC] at hI hjv
  rw [hnn] at hcU hdW ⊢
  have HN := Lib.hid hnn
  have HRC := Lib.hid hjc.rows.len
  clear hnn hCC hgr hdk hdk3 hb2 hj hA1 hB1
  have h1 := hjc.h1
  have h8 := hjc.h8
  obtain ⟨bA, oA, rfl, hbA, _⟩ := hP (by have := HN.out; omega)
  obtain ⟨bB, oB, rfl, hbB, _⟩ := hI (by have := HRC.out; omega)
  have bJ := lat_alloc (Below.refl w3.heap.size w3) (.cells #[.slice (some ⟨bA, oA, none⟩) n cU, .slice (some ⟨bB, oB, none⟩) n cW, .int .i64 st] 31)
  have BJ := Blk.new (w := w3) (t := 31) (cs := #[.slice (some ⟨bA, oA, none⟩) n cU, .slice (some ⟨bB, oB, none⟩) n cW, .int .i64 st])
  have hI4 := hI.grow bJ
  have hP4 := hP.grow bJ
  have hb4 := hb3.trans (bJ.mono hb3.size)
  have hsm := (hsm0.below hb4).more hb4.size
  go_wp2_with fail
  have HGC := Lib.hid (heap_size w3 (.cells #[.slice (some ⟨bA, oA, none⟩) n cU, .slice (some ⟨bB, oB, none⟩) n cW, .int .i64 st] 31))
  generalize w3.alloc (.cells #[.slice (some ⟨bA, oA, none⟩) n cU, .slice (some ⟨bB, oB, none⟩) n cW, .int .i64 st] 31) = W4 at *
  generalize w3.heap.size = gj at *
  clear bJ hI hP hb3 hs hsm0
  obtain ⟨B, hBB⟩ : ∃ B, W4.heap.size = B := ⟨_, rfl⟩
  have HBB := Lib.hid hBB
  have hgjB : gj < B := by have := HGC.out; omega
  have hbAB : bA < B := by have := HGC.out; omega
  have hbBB : bB < B := by have := HGC.out; omega
  have hBW : B ≤ W4.heap.size := by omega
  have hwB : w.heap.size ≤ B := by have := hb4.size; omega
  rw [hBB] at hI4 hP4 hsm
  clear hBB
  have Jx := BJ
  have j0 := BJ.at 0 rfl
  have j1 := BJ.at 1 rfl
  have j2 := BJ.at 2 rfl
  refine (jnew_any (some ⟨bA, oA, none⟩) (some ⟨bB, oB, none⟩) cU cW n P st W4 HN.out (hP4.low (Below.refl _ _) hBW) h1 (by omega)).mono ?_
  rintro e w5 ⟨v, rfl, b5, gl, cl, gx, cx, rfl, ⟨hgl, hcl⟩, hgx, L5, N5⟩
  clear j0 j1 j2 Jx
  have bX := lat_alloc (Below.refl w5.heap.size w5) (.cells #[.slice (some ⟨gl, 0, none⟩) n cl, .int .i64 (initC P n st).gr, .slice (some ⟨gx, 0, none⟩) 2 cx, .int .i64 (initC P n st).wt, .bool false] 27)
  have X6 := Blk.new (w := w5) (t := 27) (cs := #[.slice (some ⟨gl, 0, none⟩) n cl, .int .i64 (initC P n st).gr, .slice (some ⟨gx, 0, none⟩) 2 cx, .int .i64 (initC P n st).wt, .bool false])
  have L6 := L5.below bX
  have N6 := N5.below bX
  have b6 : Below B W4 (w5.alloc (.cells #[.slice (some ⟨gl, 0, none⟩) n cl, .int .i64 (initC P n st).gr, .slice (some ⟨gx, 0, none⟩) 2 cx, .int .i64 (initC P n st).wt, .bool false] 27)) := (Below.mono b5 hBW).trans (bX.mono (Nat.le_trans hBW b5.size))
  have hs5 := b5.size
  go_wp2_with fail
  generalize w5.alloc (.cells #[.slice (some ⟨gl, 0, none⟩) n cl, .int .i64 (initC P n st).gr, .slice (some ⟨gx, 0, none⟩) 2 cx, .int .i64 (initC P n st).wt, .bool false] 27) = W6 at *
  obtain ⟨gs, hgs⟩ : ∃ gs, w5.heap.size = gs := ⟨_, rfl⟩
  rw [hgs] at X6 ⊢
  have hBgs : B ≤ gs := by omega
  have hv0 : CtV P C n st (initC P n st) := init_v h1 hjc.st.1 hjc.gr
  have S6 : StdS W4 W6 B gs n (initC P n st) false := ⟨gl, cl, gx, cx, b6, X6, L6, N6⟩
  clear bX L6 N6 b6 X6 L5 N5 b5 hs5 hgs hgl hgx hcl
  go_loopw [30] (fun v wr => ∃ (i : Nat) (c : Ct) (b : Bool), i ≤ ts.length ∧ v = .int .i64 (i : Nat) ∧ StdS W4 wr B gs n c b ∧ CtV P C n st c) (fun v _ => ts.length - (intOf v).toNat)
  case atStart => exact ⟨0, _, false, Nat.zero_le _, rfl, S6, hv0⟩
  case round =>
    obtain ⟨i, c, b, hi, rfl, hS, hvc⟩ := hrel
    clear S6 hv0
    by_cases hlt : i < ts.length
    · as_aux_lemma =>
      have hltZ : (i : Int) < ts.length := by omega
      obtain ⟨bT, oT, rfl, hbT, hcT⟩ := hsm (by omega)
      obtain ⟨x, hx⟩ : ∃ x, at_ ts i = x := ⟨_, rfl⟩
      have hxb : -9223372036854775808 ≤ x ∧ x ≤ 9223372036854775807 := by rw [← hx]; exact hnm _ (by simp [at_, hlt])
      obtain ⟨gl, cl, gx, cx, Br, Sr, Lr, Nr⟩ := hS
      have t0 := (Br.cell (p := ⟨bT, oT + i, none⟩) hbT).trans (hcT i hlt)
      rw [hx] at t0
      clear hcT hx
      have Jr := BJ.low Br hgjB
      have j0 := Jr.at 0 rfl
      have hBr : B ≤ wr.heap.size := Nat.le_trans hBW Br.size
      have hq64 := tdiv_bd x 64 (by omega) hxb.1 hxb.2
      have hq4 := tdiv_bd x 4 (by omega) hxb.1 hxb.2
      have hq512 := tdiv_bd x 512 (by omega) hxb.1 hxb.2
      have HQ64 := Lib.hid hq64
      have HQ512 := Lib.hid hq512
      obtain ⟨m4, hm4, hm4n⟩ := modI_nat' x 4 (by omega)
      have HM4 := Lib.hid hm4
      obtain ⟨mk, hmk, hmkn⟩ := modI_nat' (x.tdiv 4) n (by omega)
      have HMK := Lib.hid hmk
      obtain ⟨T, hT, hTn⟩ := modI_nat' (x.tdiv 64) ((n : Int) + 1) (by omega)
      have HT := Lib.hid (fun xw => mod_b (a := x.tdiv 64) (m := (n : Int) + 1) (k := T) hT (by omega) (by omega) (by omega) (by omega) xw)
      obtain ⟨m5, hm5, hm5n⟩ := modI_nat' (x.tdiv 512) 5 (by omega)
      have HM5 := Lib.hid hm5
      have HVC := Lib.hid hvc
      have HV0 := Lib.hid (show CtV P C n st (initC P n st) from init_v h1 hjc.st.1 hjc.gr)
      clear hm4 hmk hT hm5 hvc hq512 hq64
      go_wp2_with fail
      refine (mod_k HM4.out (by omega) (by omega) (by omega) (by omega) _).mono ?_
      rintro e w8 ⟨rfl, rfl⟩
      go_upto_if 36 with fail
      go_cut [9, 30] from 30 to 130 (fun s9 s30 wx => s30 = .int .i64 (i : Nat) ∧ (∃ k : Int, s9 = .int .i64 k ∧ -1 ≤ k ∧ k < n) ∧ wr = wx)
      case first =>
        by_cases hm3 : m4 = 3
        · have z3 : ((m4 : Int) == 3) = true := by rw [hm3]; rfl
          clear hm3
          go_wp2_with fail
          refine (mod_k HMK.out (by omega) (by omega) (by omega) (by omega) _).mono ?_
          rintro e w8 ⟨rfl, rfl⟩
          go_wp2_with fail
          go_meet
          case rel => exact ⟨rfl, ⟨mk, rfl, by omega, hmkn⟩, rfl⟩
        · have z3 : ((m4 : Int) == 3) = false := by simp; omega
          clear hm3
          go_wp2_with fail
          go_meet
          case rel => exact ⟨rfl, ⟨-1, rfl, by omega, by omega⟩, rfl⟩
      case rest =>
        obtain ⟨rfl, ⟨k, rfl, hk0, hkn⟩, hwc⟩ := hcut
        subst hwc
        clear t0 j0
        obtain ⟨s, b', hvs, hbb, hcall⟩ := jstep_all ((T : Nat) - 1) k b hjc hjv HVC.out
        have HBB2 := Lib.hid hbb
        have HCALL := Lib.hid hcall
        have HVS := Lib.hid hvs
        have HLI := Lib.hid hvs.li
        have HNX := Lib.hid hvs.nx
        clear hbb hcall hvs
        go_wp2_with fail
        refine wp_region_pre (R := Bl) 13 132 [fun v _ => v = .agg #[.slice (some ⟨bA, oA, none⟩) n cU, .slice (some ⟨bB, oB, none⟩) n cW, .int .i64 st], fun v _ => v = .agg #[.slice (some ⟨gl, 0, none⟩) n cl, .int .i64 (c).gr, .slice (some ⟨gx, 0, none⟩) 2 cx, .int .i64 (c).wt, .bool b], fun v _ => v = .int .i64 x, fun v _ => v = .int .i64 (x.tdiv 64), fun v _ => v = .pointer (some ⟨gj, 0, none⟩), fun v _ => v = .slice (some ⟨bA, oA, none⟩) n cU, fun v _ => v = .int .i64 n, fun v _ => v = .int .i64 ((n : Int) + 1), fun v _ => v = .int .i64 (T : Nat), fun v _ => v = .int .i64 ((T : Nat) - 1), fun v _ => v = .int .i64 k, fun v w => SgH w wr.heap.size n (v) s b', fun v w => ∃ b, v = .pointer (some ⟨b, 0, none⟩) ∧ Blk w b 27 #[.slice none 0 0, .int .i64 0, .slice none 0 0, .int .i64 0, .bool false] ∧ wr.heap.size ≤ b] (Bl.trans) (Bl.drew) (by kernel_rfl) (fun _ _ d _ _ h => by cases d <;> exact h) rfl (by kernel_rfl) (stay_cons (stays_v _) (stay_cons (stays_v _) (stay_cons (stays_v _) (stay_cons (stays_v _) (stay_cons (stays_v _) (stay_cons (stays_v _) (stay_cons (stays_v _) (stay_cons (stays_v _) (stay_cons (stays_v _) (stay_cons (stays_v _) (stay_cons (stays_v _) (stay_cons (fun v w w1 h hb => SgH.below h hb) (stay_cons (fun v w w1 h hb => by obtain ⟨b, h1, h2, h3⟩ := h; exact ⟨b, h1, h2.below hb, h3⟩) (stay_nil)))))))))))))) ?_ ?_
        · simp only [List.take_succ_cons, List.take_zero]
          refine steps_cons (Bl.refl) (fun ev xw hb hc hf hfr hd hr => ?_) ?_
          · have e5 : ev (.tmp 5) = .pointer (some ⟨gj, 0, none⟩) := hfr 5 (by kernel_rfl)
            clear hfr hd
            have k0 := (Jr.below hb).at 0 rfl
            have k1 := (Jr.below hb).at 1 rfl
            have k2 := (Jr.below hb).at 2 rfl
            show OpOk _ _ ev xw fun v w' => Bl xw w' ∧ (v = .agg #[.slice (some ⟨bA, oA, none⟩) n cU, .slice (some ⟨bB, oB, none⟩) n cW, .int .i64 st])
            refine opOk_hid (fun Rp HR => ?_)
            unfold OpOk
            go_simp
            rw [HR.out]
            exact ⟨hr, rfl⟩
          refine steps_cons (Bl.refl) (fun ev xw hb hc hf hfr hd hr => ?_) ?_
          · have e6 : ev (.tmp 6) = .pointer (some ⟨gs, 0, none⟩) := hfr 6 (by kernel_rfl)
            clear hfr hd
            have k0 := (Sr.below hb).at 0 rfl
            have k1 := (Sr.below hb).at 1 rfl
            have k2 := (Sr.below hb).at 2 rfl
            have k3 := (Sr.below hb).at 3 rfl
            have k4 := (Sr.below hb).at 4 rfl
            show OpOk _ _ ev xw fun v w' => Bl xw w' ∧ (v = .agg #[.slice (some ⟨gl, 0, none⟩) n cl, .int .i64 (c).gr, .slice (some ⟨gx, 0, none⟩) 2 cx, .int .i64 (c).wt, .bool b])
            refine opOk_hid (fun Rp HR => ?_)
            unfold OpOk
            go_simp
            rw [HR.out]
            exact ⟨hr, rfl⟩
          refine steps_cons (Bl.refl) (fun ev xw hb hc hf hfr hd hr => ?_) ?_
          · have e8 : ev (.tmp 8) = .int .i64 x := hfr 8 (by kernel_rfl)
            clear hfr hd
            show OpOk _ _ ev xw fun v w' => Bl xw w' ∧ (v = .int .i64 x)
            refine opOk_hid (fun Rp HR => ?_)
            unfold OpOk
            go_simp
            rw [HR.out]
            exact ⟨hr, rfl⟩
          refine steps_cons (Bl.refl) (fun ev xw hb hc hf hfr hd hr => ?_) ?_
          · have e45 : ev (.tmp 45) = .int .i64 x := hd 2 45 (by kernel_rfl)
            clear hfr hd
            have zq : IntKind.i64.wrap (x.tdiv 64) = x.tdiv 64 := by rw [IntKind.wrap_i64]; have := HQ64.out; omega
            show OpOk _ _ ev xw fun v w' => Bl xw w' ∧ (v = .int .i64 (x.tdiv 64))
            refine opOk_hid (fun Rp HR => ?_)
            unfold OpOk
            go_simp
            rw [HR.out]
            exact ⟨hr, rfl⟩
          refine steps_cons (Bl.refl) (fun ev xw hb hc hf hfr hd hr => ?_) ?_
          · have e5 : ev (.tmp 5) = .pointer (some ⟨gj, 0, none⟩) := hfr 5 (by kernel_rfl)
            clear hfr hd
            show OpOk _ _ ev xw fun v w' => Bl xw w' ∧ (v = .pointer (some ⟨gj, 0, none⟩))
            refine opOk_hid (fun Rp HR => ?_)
            unfold OpOk
            go_simp
            rw [HR.out]
            exact ⟨hr, rfl⟩
          refine steps_cons (Bl.refl) (fun ev xw hb hc hf hfr hd hr => ?_) ?_
          · have e47 : ev (.tmp 47) = .pointer (some ⟨gj, 0, none⟩) := hd 4 47 (by kernel_rfl)
            clear hfr hd
            have k0 := (Jr.below hb).at 0 rfl
            show OpOk _ _ ev xw fun v w' => Bl xw w' ∧ (v = .slice (some ⟨bA, oA, none⟩) n cU)
            refine opOk_hid (fun Rp HR => ?_)
            unfold OpOk
            go_simp
            rw [HR.out]
            exact ⟨hr, rfl⟩
          refine steps_cons (Bl.refl) (fun ev xw hb hc hf hfr hd hr => ?_) ?_
          · have e48 : ev (.tmp 48) = .slice (some ⟨bA, oA, none⟩) n cU := hd 5 48 (by kernel_rfl)
            clear hfr hd
            show OpOk _ _ ev xw fun v w' => Bl xw w' ∧ (v = .int .i64 n)
            refine opOk_hid (fun Rp HR => ?_)
            unfold OpOk
            go_simp
            rw [HR.out]
            exact ⟨hr, rfl⟩
          refine steps_cons (Bl.refl) (fun ev xw hb hc hf hfr hd hr => ?_) ?_
          · have e49 : ev (.tmp 49) = .int .i64 n := hd 6 49 (by kernel_rfl)
            clear hfr hd
            have zw : IntKind.i64.wrap ((n : Int) + 1) = (n : Int) + 1 := by rw [IntKind.wrap_i64]; omega
            show OpOk _ _ ev xw fun v w' => Bl xw w' ∧ (v = .int .i64 ((n : Int) + 1))
            refine opOk_hid (fun Rp HR => ?_)
            unfold OpOk
            go_simp
            rw [HR.out]
            exact ⟨hr, rfl⟩
          refine steps_cons (Bl.refl) (fun ev xw hb hc hf hfr hd hr => ?_) ?_
          · have e46 : ev (.tmp 46) = .int .i64 (x.tdiv 64) := hd 3 46 (by kernel_rfl)
            have e50 : ev (.tmp 50) = .int .i64 ((n : Int) + 1) := hd 7 50 (by kernel_rfl)
            clear hfr hd
            show OpOk _ _ ev xw fun v w' => Bl xw w' ∧ (v = .int .i64 (T : Nat))
            refine opOk_hid (fun Rp HR => ?_)
            unfold OpOk
            go_simp
            refine (HT.out xw).mono ?_
            rintro e w'' ⟨rfl, hw⟩
            refine ⟨_, rfl, ?_⟩
            rw [HR.out]
            exact ⟨hw, rfl⟩
          refine steps_cons (Bl.refl) (fun ev xw hb hc hf hfr hd hr => ?_) ?_
          · have e51 : ev (.tmp 51) = .int .i64 (T : Nat) := hd 8 51 (by kernel_rfl)
            clear hfr hd
            have zw : IntKind.i64.wrap ((T : Nat) - 1) = ((T : Nat) - 1 : Int) := by rw [IntKind.wrap_i64]; omega
            show OpOk _ _ ev xw fun v w' => Bl xw w' ∧ (v = .int .i64 ((T : Nat) - 1))
            refine opOk_hid (fun Rp HR => ?_)
            unfold OpOk
            go_simp
            rw [HR.out]
            exact ⟨hr, rfl⟩
          refine steps_cons (Bl.refl) (fun ev xw hb hc hf hfr hd hr => ?_) ?_
          · have e9 : ev (.tmp 9) = .int .i64 k := hfr 9 (by kernel_rfl)
            clear hfr hd
            show OpOk _ _ ev xw fun v w' => Bl xw w' ∧ (v = .int .i64 k)
            refine opOk_hid (fun Rp HR => ?_)
            unfold OpOk
            go_simp
            rw [HR.out]
            exact ⟨hr, rfl⟩
          refine steps_cons (Bl.refl) (fun ev xw hb hc hf hfr hd hr => ?_) ?_
          · have e43 : ev (.tmp 43) = .agg #[.slice (some ⟨bA, oA, none⟩) n cU, .slice (some ⟨bB, oB, none⟩) n cW, .int .i64 st] := hd 0 43 (by kernel_rfl)
            have e44 : ev (.tmp 44) = .agg #[.slice (some ⟨gl, 0, none⟩) n cl, .int .i64 (c).gr, .slice (some ⟨gx, 0, none⟩) 2 cx, .int .i64 (c).wt, .bool b] := hd 1 44 (by kernel_rfl)
            have e52 : ev (.tmp 52) = .int .i64 ((T : Nat) - 1) := hd 9 52 (by kernel_rfl)
            have e53 : ev (.tmp 53) = .int .i64 k := hd 10 53 (by kernel_rfl)
            clear hfr hd
            show OpOk _ _ ev xw fun v w' => Bl xw w' ∧ (SgH w' wr.heap.size n (v) s b')
            refine opOk_hid (fun Rp HR => ?_)
            unfold OpOk
            go_simp
            refine (HCALL.out (some ⟨bA, oA, none⟩) (some ⟨bB, oB, none⟩) (some ⟨gl, 0, none⟩) (some ⟨gx, 0, none⟩) cU cW cl cx xw (hP4.low (Br.trans (Below.mono hb hBr)) hBW) (hI4.low (Br.trans (Below.mono hb hBr)) hBW) hcU (Lr.below hb).prs (Nr.below hb).ints).mono ?_
            rintro e w'' ⟨v, rfl, hw, hh⟩
            refine ⟨_, rfl, ?_⟩
            rw [HR.out]
            exact ⟨hw, hh.lower (Below.size hb)⟩
          refine steps_cons (Bl.refl) (fun ev xw hb hc hf hfr hd hr => ?_) ?_
          · clear hfr hd
            show OpOk _ _ ev xw fun v w' => Bl xw w' ∧ (∃ b, v = .pointer (some ⟨b, 0, none⟩) ∧ Blk w' b 27 #[.slice none 0 0, .int .i64 0, .slice none 0 0, .int .i64 0, .bool false] ∧ wr.heap.size ≤ b)
            refine opOk_hid (fun Rp HR => ?_)
            unfold OpOk
            go_simp
            rw [HR.out]
            exact ⟨lat_alloc (Below.refl _ _) _, _, rfl, Blk.new, Below.size hb⟩
          exact steps_nil
        · intro vs W11 hb11 hk
          obtain ⟨gl2, cl2, gx2, cx2, k11, ⟨hgl2, hcl2⟩, hgx2, L11, N11⟩ : SgH W11 wr.heap.size n (vs 11) s b' := hk 11 (by omega)
          obtain ⟨gX, k12, X11, hgX⟩ : ∃ b, vs 12 = .pointer (some ⟨b, 0, none⟩) ∧ Blk W11 b 27 #[.slice none 0 0, .int .i64 0, .slice none 0 0, .int .i64 0, .bool false] ∧ wr.heap.size ≤ b := hk 12 (by omega)
          clear hk
          simp only [List.take_succ_cons, List.take_zero, List.drop_succ_cons, List.drop_zero, putAll, Act.put, List.setIfInBounds_toArray, List.set_cons_zero, List.set_cons_succ, k11, k12, Nat.reduceAdd]
          have hgss := Sr.lt
          have B11 : Below B W4 W11 := Br.trans (Below.mono hb11 hBr)
          have S11 := Sr.below hb11
          have hlX := L11.ne_sg X11
          have hxX := N11.ne_sg X11
          have hlS := L11.ne_sg S11
          have hxS := N11.ne_sg S11
          have hXS : gX ≠ gs := by omega
          unfold wpList
          refine step_store_sg (by rfl) (by rfl) (by rfl) (by rfl) (by rfl) X11 ?_
          intro w13 X13 hg13
          have L13 := L11.grown hg13 (by intro e; injection e with e; exact hlX e.symm)
          have N13 := N11.grown hg13 (by intro e; injection e with e; exact hxX e.symm)
          have S13 := S11.grown hg13 (by intro e; injection e with e; exact hXS e)
          have B13 : Below B W4 w13 := B11.grown hg13 (Nat.le_trans hBW B11.size) (fun k e => by injection e with e; omega)
          clear Br Lr Nr Jr Sr hb11 X11 L11 N11 S11 B11 hg13 hgl2 hgx2 hcl2 hgX hlX hxX k11 k12 HQ64 HT HCALL
          unfold wpList
          cases b with
          | true =>
            obtain rfl : b' = true := HBB2.out rfl
            as_aux_lemma =>
              have x0 := X13.at 0 rfl; have x1 := X13.at 1 rfl; have x2 := X13.at 2 rfl; have x3 := X13.at 3 rfl; have x4 := X13.at 4 rfl
              have s4 := S13.at 4 rfl
              have hn60 : n ≤ 60 := by omega
              go_wp2_with fail
              refine (jlamps_any (some ⟨gl2, 0, none⟩) (some ⟨gx2, 0, none⟩) cl2 cx2 n s.li s.gr s.wt true w13 HLI.out L13.prs hn60).mono ?_
              rintro e w14 ⟨AI, cI, rfl, b14, I14⟩
              obtain ⟨bI, oI, rfl, hbI, _⟩ := I14 (by rw [lampsV_len]; omega)
              obtain ⟨LP, hLP⟩ : ∃ LP, lampsV s.li true n n = LP := ⟨_, rfl⟩
              have HLP := Lib.hid (show ∀ p, p < n → at_ LP p = cond true 4 (lmp s.li p) from fun p hp => by rw [← hLP]; exact lampsV_at s.li true n n (Nat.le_refl n) p hp)
              have HLL := Lib.hid (show LP.length = n by rw [← hLP]; exact lampsV_len _ _ _ _)
              rw [hLP] at I14
              have X14 := X13.below b14
              have S14 := S13.below b14
              have L14 := L13.below b14
              have N14 := N13.below b14
              have B14 := B13.trans (b14.mono (Nat.le_trans hBW B13.size))
              clear hLP x0 x1 x2 x3 x4 s4 X13 S13 L13 N13 B13 b14
              go_wp2_with fail
              go_loopw [12, 66] (fun s12 v wr => ∃ p : Nat, p ≤ n ∧ s12 = .int .i64 (setP LP p : Nat) ∧ v = .int .i64 p ∧ Below w14.heap.size w14 wr) (fun _ v _ => n - (intOf v).toNat)
              case atStart => exact ⟨0, by omega, rfl, rfl, Below.refl _ _⟩
              case round =>
                obtain ⟨p, hp, rfl, rfl, hbr⟩ := hrel
                by_cases hlp : p < n
                · as_aux_lemma =>
                  have hltZ2 : (p : Int) < n := by omega
                  obtain ⟨bI', oI', hA', _, hcI⟩ := (I14.grow hbr) (by have := HLL.out; omega)
                  injection Option.some.inj hA' with hA2 hA3 _
                  subst hA2; subst hA3
                  have m0 := hcI p (by have := HLL.out; omega)
                  have x4 := (X14.below hbr).at 4 rfl
                  obtain ⟨lp, hlp2⟩ : ∃ lp, at_ LP p = lp := ⟨_, rfl⟩
                  rw [hlp2] at m0
                  clear hcI hA'
                  have h4 : lp = 4 := by rw [← hlp2]; exact HLP.out p hlp
                  subst h4
                  have HS := Lib.hid (show setP LP (p + 1) = setP LP p from setP_no (by rw [hlp2]; omega))
                  clear hlp2
                  generalize setP LP p = sv at *
                  go_wp2
                  go_roundw
                  case rel => exact ⟨p + 1, hlp, by rw [HS.out], by go_num, hbr⟩
                  case measure => simp [intOf]; omega
                · as_aux_lemma =>
                  have hltZ2 : ¬ (p : Int) < n := by omega
                  have hpn : p = n := by omega
                  rw [hpn]
                  have HNO := Lib.hid (show ∀ p q, p < n → q < n → hasB ((setP LP n : Nat) : Int) p = true → hasB ((setP LP n : Nat) : Int) q = true → hasB (at_ C p) q = false by
                    intro p q hp hq h3 h4
                    replace h3 := (setP_has h3).2
                    replace h4 := (setP_has h4).2
                    exact absurd h3 (by rw [HLP.out p hp]; show ¬ ((4 : Int) = 1 ∨ (4 : Int) = 2); decide))
                  have X15 := X14.below hbr
                  have S15 := S14.below hbr
                  have L15 := L14.below hbr
                  have N15 := N14.below hbr
                  have B15 := B14.trans (hbr.mono (Nat.le_trans hBW B14.size))
                  have J15 := BJ.low B15 hgjB
                  have j1 := J15.at 1 rfl
                  have zneq : ((n : Int) != (n : Int)) = false := by simp
                  have hltZ3 : ¬ (n : Int) < n := by omega
                  clear hltZ2 hpn hbr X14 S14 L14 N14 B14
                  generalize setP LP n = sv at *
                  go_wp2_with fail
                  refine (rclash_c (A := some ⟨bB, oB, none⟩) (cA := cW) wr HRC.out (hI4.low B15 hBW) (by omega) HNO.out).mono ?_
                  rintro e w16 ⟨rfl, b16⟩
                  have X16 := X15.below b16
                  have S16 := S15.below b16
                  have L16 := L15.below b16
                  have N16 := N15.below b16
                  have B16 := B15.trans (b16.mono (Nat.le_trans hBW B15.size))
                  have J16 := BJ.low B16 hgjB
                  have j0 := J16.at 0 rfl
                  clear j1
                  have x0 := X16.at 0 rfl; have x1 := X16.at 1 rfl; have x2 := X16.at 2 rfl; have x3 := X16.at 3 rfl; have x4 := X16.at 4 rfl
                  go_wp2_with (refine step_store_sg (by rfl) (by rfl) (by rfl) (by rfl) (by rfl) S16 ?_; intro w17 S17 hg17)
                  have hlS := L16.ne_sg S16
                  have hxS := N16.ne_sg S16
                  have L17 := L16.grown hg17 (by intro e; injection e with e; exact hlS e.symm)
                  have N17 := N16.grown hg17 (by intro e; injection e with e; exact hxS e.symm)
                  have B17 : Below B W4 w17 := B16.grown hg17 (Nat.le_trans hBW B16.size) (fun k e => by injection e with e; omega)
                  have J17 := BJ.low B17 hgjB
                  clear j0 x0 x1 x2 x3 x4 X15 X16 S15 S16 L15 L16 N15 N16 B15 B16 J15 J16 b16 hlS hxS hg17
                  refine (mod_k HM5.out (by omega) (by omega) (by have := HQ512.out.1; omega) (by have := HQ512.out.2; omega) _).mono ?_
                  rintro e w18 ⟨rfl, rfl⟩
                  by_cases h5 : m5 = 4
                  · have z5 : ((m5 : Int) == 4) = true := by rw [h5]; rfl
                    have j0 := J17.at 0 rfl; have j1 := J17.at 1 rfl; have j2 := J17.at 2 rfl
                    have s0 := S17.at 0 rfl; have s1 := S17.at 1 rfl; have s2 := S17.at 2 rfl; have s3 := S17.at 3 rfl; have s4 := S17.at 4 rfl
                    clear h5
                    go_wp2_with fail
                    refine (jreset_any (some ⟨bA, oA, none⟩) (some ⟨bB, oB, none⟩) (some ⟨gl2, 0, none⟩) (some ⟨gx2, 0, none⟩) cU cW cl2 cx2 n P s st true w17 HN.out (hP4.low B17 hBW) h1 hn60 HLI.out HNX.out L17.prs N17.ints).mono ?_
                    rintro e w19 ⟨v, rfl, b19, gl4, cl4, gx4, cx4, rfl, ⟨hgl4, hcl4⟩, hgx4, L19, N19⟩
                    replace L19 : LiB w19 gl4 (initC P n st).li := L19
                    replace N19 : NxB w19 gx4 (initC P n st).nx := N19
                    clear j0 j1 j2 s0 s1 s2 s3 s4
                    have S19 := S17.below b19
                    have hgS17 := S17.lt
                    have bY := lat_alloc (Below.refl w19.heap.size w19) (.cells #[.slice (some ⟨gl4, 0, none⟩) n cl4, .int .i64 ((initC P n st)).gr, .slice (some ⟨gx4, 0, none⟩) 2 cx4, .int .i64 ((initC P n st)).wt, .bool false] 27)
                    have Y20 := Blk.new (w := w19) (t := 27) (cs := #[.slice (some ⟨gl4, 0, none⟩) n cl4, .int .i64 ((initC P n st)).gr, .slice (some ⟨gx4, 0, none⟩) 2 cx4, .int .i64 ((initC P n st)).wt, .bool false])
                    have L20 := L19.below bY
                    have N20 := N19.below bY
                    have S20 := S19.below bY
                    have B20 := (B17.trans (b19.mono (Nat.le_trans hBW B17.size))).trans (bY.mono (Nat.le_trans (Nat.le_trans hBW B17.size) b19.size))
                    have y0 := Y20.at 0 rfl; have y1 := Y20.at 1 rfl; have y2 := Y20.at 2 rfl; have y3 := Y20.at 3 rfl; have y4 := Y20.at 4 rfl
                    have s4 := S20.at 4 rfl
                    go_wp2_with fail
                    refine (rset_0 (D := some ⟨gl4, 0, none⟩) (E := some ⟨gx4, 0, none⟩) (cL := cl4) (cX := cx4) (g := (initC P n st).gr) (wt := (initC P n st).wt) _ HV0.out.li L20.prs (by omega) (init_set P n st)).mono ?_
                    rintro e w21 ⟨rfl, b21⟩
                    have S21 := S20.below b21
                    have Y21 := Y20.below b21
                    have L21 := L20.below b21
                    have N21 := N20.below b21
                    have B21 := B20.trans (b21.mono (Nat.le_trans hBW B20.size))
                    clear y0 y1 y2 y3 y4 s4
                    have y0 := Y21.at 0 rfl; have y1 := Y21.at 1 rfl; have y2 := Y21.at 2 rfl; have y3 := Y21.at 3 rfl; have y4 := Y21.at 4 rfl
                    go_wp2_with (refine step_store_sg (by rfl) (by rfl) (by rfl) (by rfl) (by rfl) S21 ?_; intro w22 S22 hg22)
                    have hlS := L21.ne_sg S21
                    have hxS := N21.ne_sg S21
                    have hst : StdS W4 w22 B gs n (initC P n st) false := ⟨gl4, cl4, gx4, cx4, B21.grown hg22 (Nat.le_trans hBW B21.size) (fun k e => by injection e with e; omega), S22, L21.grown hg22 (by intro e; injection e with e; exact hlS e.symm), N21.grown hg22 (by intro e; injection e with e; exact hxS e.symm)⟩
                    go_roundw
                    case rel => exact ⟨i + 1, (initC P n st), false, hlt, by go_num, hst, HV0.out⟩
                    case measure => simp [intOf]; omega
                  · have z5 : ((m5 : Int) == 4) = false := by simp; omega
                    clear h5
                    go_wp2_with fail
                    have hst : StdS W4 w17 B gs n s true := ⟨gl2, cl2, gx2, cx2, B17, S17, L17, N17⟩
                    go_roundw
                    case rel => exact ⟨i + 1, s, true, hlt, by go_num, hst, HVS.out⟩
                    case measure => simp [intOf]; omega
          | false =>
            cases b' with
            | true =>
              as_aux_lemma =>
                have x0 := X13.at 0 rfl; have x1 := X13.at 1 rfl; have x2 := X13.at 2 rfl; have x3 := X13.at 3 rfl; have x4 := X13.at 4 rfl
                have s4 := S13.at 4 rfl
                have hn60 : n ≤ 60 := by omega
                go_wp2_with fail
                refine (jlamps_any (some ⟨gl2, 0, none⟩) (some ⟨gx2, 0, none⟩) cl2 cx2 n s.li s.gr s.wt true w13 HLI.out L13.prs hn60).mono ?_
                rintro e w14 ⟨AI, cI, rfl, b14, I14⟩
                obtain ⟨bI, oI, rfl, hbI, _⟩ := I14 (by rw [lampsV_len]; omega)
                obtain ⟨LP, hLP⟩ : ∃ LP, lampsV s.li true n n = LP := ⟨_, rfl⟩
                have HLP := Lib.hid (show ∀ p, p < n → at_ LP p = cond true 4 (lmp s.li p) from fun p hp => by rw [← hLP]; exact lampsV_at s.li true n n (Nat.le_refl n) p hp)
                have HLL := Lib.hid (show LP.length = n by rw [← hLP]; exact lampsV_len _ _ _ _)
                rw [hLP] at I14
                have X14 := X13.below b14
                have S14 := S13.below b14
                have L14 := L13.below b14
                have N14 := N13.below b14
                have B14 := B13.trans (b14.mono (Nat.le_trans hBW B13.size))
                clear hLP x0 x1 x2 x3 x4 s4 X13 S13 L13 N13 B13 b14
                go_wp2_with fail
                go_loopw [12, 66] (fun s12 v wr => ∃ p : Nat, p ≤ n ∧ s12 = .int .i64 (setP LP p : Nat) ∧ v = .int .i64 p ∧ Below w14.heap.size w14 wr) (fun _ v _ => n - (intOf v).toNat)
                case atStart => exact ⟨0, by omega, rfl, rfl, Below.refl _ _⟩
                case round =>
                  obtain ⟨p, hp, rfl, rfl, hbr⟩ := hrel
                  by_cases hlp : p < n
                  · as_aux_lemma =>
                    have hltZ2 : (p : Int) < n := by omega
                    obtain ⟨bI', oI', hA', _, hcI⟩ := (I14.grow hbr) (by have := HLL.out; omega)
                    injection Option.some.inj hA' with hA2 hA3 _
                    subst hA2; subst hA3
                    have m0 := hcI p (by have := HLL.out; omega)
                    have x4 := (X14.below hbr).at 4 rfl
                    obtain ⟨lp, hlp2⟩ : ∃ lp, at_ LP p = lp := ⟨_, rfl⟩
                    rw [hlp2] at m0
                    clear hcI hA'
                    have h4 : lp = 4 := by rw [← hlp2]; exact HLP.out p hlp
                    subst h4
                    have HS := Lib.hid (show setP LP (p + 1) = setP LP p from setP_no (by rw [hlp2]; omega))
                    clear hlp2
                    generalize setP LP p = sv at *
                    go_wp2
                    go_roundw
                    case rel => exact ⟨p + 1, hlp, by rw [HS.out], by go_num, hbr⟩
                    case measure => simp [intOf]; omega
                  · as_aux_lemma =>
                    have hltZ2 : ¬ (p : Int) < n := by omega
                    have hpn : p = n := by omega
                    rw [hpn]
                    have HNO := Lib.hid (show ∀ p q, p < n → q < n → hasB ((setP LP n : Nat) : Int) p = true → hasB ((setP LP n : Nat) : Int) q = true → hasB (at_ C p) q = false by
                      intro p q hp hq h3 h4
                      replace h3 := (setP_has h3).2
                      replace h4 := (setP_has h4).2
                      exact absurd h3 (by rw [HLP.out p hp]; show ¬ ((4 : Int) = 1 ∨ (4 : Int) = 2); decide))
                    have X15 := X14.below hbr
                    have S15 := S14.below hbr
                    have L15 := L14.below hbr
                    have N15 := N14.below hbr
                    have B15 := B14.trans (hbr.mono (Nat.le_trans hBW B14.size))
                    have J15 := BJ.low B15 hgjB
                    have j1 := J15.at 1 rfl
                    have zneq : ((n : Int) != (n : Int)) = false := by simp
                    have hltZ3 : ¬ (n : Int) < n := by omega
                    clear hltZ2 hpn hbr X14 S14 L14 N14 B14
                    generalize setP LP n = sv at *
                    go_wp2_with fail
                    refine (rclash_c (A := some ⟨bB, oB, none⟩) (cA := cW) wr HRC.out (hI4.low B15 hBW) (by omega) HNO.out).mono ?_
                    rintro e w16 ⟨rfl, b16⟩
                    have X16 := X15.below b16
                    have S16 := S15.below b16
                    have L16 := L15.below b16
                    have N16 := N15.below b16
                    have B16 := B15.trans (b16.mono (Nat.le_trans hBW B15.size))
                    have J16 := BJ.low B16 hgjB
                    have j0 := J16.at 0 rfl
                    clear j1
                    have x0 := X16.at 0 rfl; have x1 := X16.at 1 rfl; have x2 := X16.at 2 rfl; have x3 := X16.at 3 rfl; have x4 := X16.at 4 rfl
                    go_wp2_with (refine step_store_sg (by rfl) (by rfl) (by rfl) (by rfl) (by rfl) S16 ?_; intro w17 S17 hg17)
                    have hlS := L16.ne_sg S16
                    have hxS := N16.ne_sg S16
                    have L17 := L16.grown hg17 (by intro e; injection e with e; exact hlS e.symm)
                    have N17 := N16.grown hg17 (by intro e; injection e with e; exact hxS e.symm)
                    have B17 : Below B W4 w17 := B16.grown hg17 (Nat.le_trans hBW B16.size) (fun k e => by injection e with e; omega)
                    have J17 := BJ.low B17 hgjB
                    clear j0 x0 x1 x2 x3 x4 X15 X16 S15 S16 L15 L16 N15 N16 B15 B16 J15 J16 b16 hlS hxS hg17
                    refine (mod_k HM5.out (by omega) (by omega) (by have := HQ512.out.1; omega) (by have := HQ512.out.2; omega) _).mono ?_
                    rintro e w18 ⟨rfl, rfl⟩
                    by_cases h5 : m5 = 4
                    · have z5 : ((m5 : Int) == 4) = true := by rw [h5]; rfl
                      have j0 := J17.at 0 rfl; have j1 := J17.at 1 rfl; have j2 := J17.at 2 rfl
                      have s0 := S17.at 0 rfl; have s1 := S17.at 1 rfl; have s2 := S17.at 2 rfl; have s3 := S17.at 3 rfl; have s4 := S17.at 4 rfl
                      clear h5
                      go_wp2_with fail
                      refine (jreset_any (some ⟨bA, oA, none⟩) (some ⟨bB, oB, none⟩) (some ⟨gl2, 0, none⟩) (some ⟨gx2, 0, none⟩) cU cW cl2 cx2 n P s st true w17 HN.out (hP4.low B17 hBW) h1 hn60 HLI.out HNX.out L17.prs N17.ints).mono ?_
                      rintro e w19 ⟨v, rfl, b19, gl4, cl4, gx4, cx4, rfl, ⟨hgl4, hcl4⟩, hgx4, L19, N19⟩
                      replace L19 : LiB w19 gl4 (initC P n st).li := L19
                      replace N19 : NxB w19 gx4 (initC P n st).nx := N19
                      clear j0 j1 j2 s0 s1 s2 s3 s4
                      have S19 := S17.below b19
                      have hgS17 := S17.lt
                      have bY := lat_alloc (Below.refl w19.heap.size w19) (.cells #[.slice (some ⟨gl4, 0, none⟩) n cl4, .int .i64 ((initC P n st)).gr, .slice (some ⟨gx4, 0, none⟩) 2 cx4, .int .i64 ((initC P n st)).wt, .bool false] 27)
                      have Y20 := Blk.new (w := w19) (t := 27) (cs := #[.slice (some ⟨gl4, 0, none⟩) n cl4, .int .i64 ((initC P n st)).gr, .slice (some ⟨gx4, 0, none⟩) 2 cx4, .int .i64 ((initC P n st)).wt, .bool false])
                      have L20 := L19.below bY
                      have N20 := N19.below bY
                      have S20 := S19.below bY
                      have B20 := (B17.trans (b19.mono (Nat.le_trans hBW B17.size))).trans (bY.mono (Nat.le_trans (Nat.le_trans hBW B17.size) b19.size))
                      have y0 := Y20.at 0 rfl; have y1 := Y20.at 1 rfl; have y2 := Y20.at 2 rfl; have y3 := Y20.at 3 rfl; have y4 := Y20.at 4 rfl
                      have s4 := S20.at 4 rfl
                      go_wp2_with fail
                      refine (rset_0 (D := some ⟨gl4, 0, none⟩) (E := some ⟨gx4, 0, none⟩) (cL := cl4) (cX := cx4) (g := (initC P n st).gr) (wt := (initC P n st).wt) _ HV0.out.li L20.prs (by omega) (init_set P n st)).mono ?_
                      rintro e w21 ⟨rfl, b21⟩
                      have S21 := S20.below b21
                      have Y21 := Y20.below b21
                      have L21 := L20.below b21
                      have N21 := N20.below b21
                      have B21 := B20.trans (b21.mono (Nat.le_trans hBW B20.size))
                      clear y0 y1 y2 y3 y4 s4
                      have y0 := Y21.at 0 rfl; have y1 := Y21.at 1 rfl; have y2 := Y21.at 2 rfl; have y3 := Y21.at 3 rfl; have y4 := Y21.at 4 rfl
                      go_wp2_with (refine step_store_sg (by rfl) (by rfl) (by rfl) (by rfl) (by rfl) S21 ?_; intro w22 S22 hg22)
                      have hlS := L21.ne_sg S21
                      have hxS := N21.ne_sg S21
                      have hst : StdS W4 w22 B gs n (initC P n st) false := ⟨gl4, cl4, gx4, cx4, B21.grown hg22 (Nat.le_trans hBW B21.size) (fun k e => by injection e with e; omega), S22, L21.grown hg22 (by intro e; injection e with e; exact hlS e.symm), N21.grown hg22 (by intro e; injection e with e; exact hxS e.symm)⟩
                      go_roundw
                      case rel => exact ⟨i + 1, (initC P n st), false, hlt, by go_num, hst, HV0.out⟩
                      case measure => simp [intOf]; omega
                    · have z5 : ((m5 : Int) == 4) = false := by simp; omega
                      clear h5
                      go_wp2_with fail
                      have hst : StdS W4 w17 B gs n s true := ⟨gl2, cl2, gx2, cx2, B17, S17, L17, N17⟩
                      go_roundw
                      case rel => exact ⟨i + 1, s, true, hlt, by go_num, hst, HVS.out⟩
                      case measure => simp [intOf]; omega
            | false =>
              as_aux_lemma =>
                have x0 := X13.at 0 rfl; have x1 := X13.at 1 rfl; have x2 := X13.at 2 rfl; have x3 := X13.at 3 rfl; have x4 := X13.at 4 rfl
                have s4 := S13.at 4 rfl
                have hn60 : n ≤ 60 := by omega
                go_wp2_with fail
                refine (jlamps_any (some ⟨gl2, 0, none⟩) (some ⟨gx2, 0, none⟩) cl2 cx2 n s.li s.gr s.wt false w13 HLI.out L13.prs hn60).mono ?_
                rintro e w14 ⟨AI, cI, rfl, b14, I14⟩
                obtain ⟨bI, oI, rfl, hbI, _⟩ := I14 (by rw [lampsV_len]; omega)
                obtain ⟨LP, hLP⟩ : ∃ LP, lampsV s.li false n n = LP := ⟨_, rfl⟩
                have HLP := Lib.hid (show ∀ p, p < n → at_ LP p = cond false 4 (lmp s.li p) from fun p hp => by rw [← hLP]; exact lampsV_at s.li false n n (Nat.le_refl n) p hp)
                have HLL := Lib.hid (show LP.length = n by rw [← hLP]; exact lampsV_len _ _ _ _)
                rw [hLP] at I14
                have X14 := X13.below b14
                have S14 := S13.below b14
                have L14 := L13.below b14
                have N14 := N13.below b14
                have B14 := B13.trans (b14.mono (Nat.le_trans hBW B13.size))
                clear hLP x0 x1 x2 x3 x4 s4 X13 S13 L13 N13 B13 b14
                go_wp2_with fail
                go_loopw [12, 66] (fun s12 v wr => ∃ p : Nat, p ≤ n ∧ s12 = .int .i64 (setP LP p : Nat) ∧ v = .int .i64 p ∧ Below w14.heap.size w14 wr) (fun _ v _ => n - (intOf v).toNat)
                case atStart => exact ⟨0, by omega, rfl, rfl, Below.refl _ _⟩
                case round =>
                  obtain ⟨p, hp, rfl, rfl, hbr⟩ := hrel
                  by_cases hlp : p < n
                  · as_aux_lemma =>
                    have hltZ2 : (p : Int) < n := by omega
                    obtain ⟨bI', oI', hA', _, hcI⟩ := (I14.grow hbr) (by have := HLL.out; omega)
                    injection Option.some.inj hA' with hA2 hA3 _
                    subst hA2; subst hA3
                    have m0 := hcI p (by have := HLL.out; omega)
                    have x4 := (X14.below hbr).at 4 rfl
                    obtain ⟨lp, hlp2⟩ : ∃ lp, at_ LP p = lp := ⟨_, rfl⟩
                    rw [hlp2] at m0
                    clear hcI hA'
                    have hlm : lmp s.li p = lp := (HLP.out p hlp).symm.trans hlp2
                    have h03 := lamp_03 (HVS.out.ok p hlp)
                    rw [hlm] at h03
                    clear hlm
                    have z4 : (lp == 4) = false := by simp; omega
                    have hp60 : p ≤ 60 := by omega
                    have hsl := setP_lt LP p
                    have hpw := pow_60 (k := p) (by omega)
                    have hwp := wrap_pow (k := p) (by omega)
                    by_cases h12 : lp = 1 ∨ lp = 2
                    · have HS := Lib.hid (show setP LP (p + 1) = setP LP p + 2 ^ p from setP_yes (by rw [hlp2]; exact h12))
                      clear hlp2
                      generalize setP LP p = sv at *
                      obtain ⟨m2, hm2⟩ : ∃ m2 : Nat, 2 ^ p = m2 := ⟨_, rfl⟩
                      rw [hm2] at hwp hsl hpw HS
                      have hor := or_pow2 hm2 hsl hp60
                      clear hm2
                      have hm2 : sv < 1152921504606846976 ∧ m2 ≤ 1152921504606846976 := ⟨Nat.lt_of_lt_of_le hsl hpw, hpw⟩
                      clear hsl hpw h03
                      rcases h12 with rfl | rfl
                      · clear z4
                        go_wp2
                        go_roundw
                        case rel => exact ⟨p + 1, hlp, by rw [HS.out]; simp, by go_num, hbr⟩
                        case measure => simp [intOf]; omega
                      · clear z4
                        go_wp2
                        go_roundw
                        case rel => exact ⟨p + 1, hlp, by rw [HS.out]; simp, by go_num, hbr⟩
                        case measure => simp [intOf]; omega
                    · have HS := Lib.hid (show setP LP (p + 1) = setP LP p from setP_no (by rw [hlp2]; exact h12))
                      have z1 : (lp == 1) = false := by simp; omega
                      have z2 : (lp == 2) = false := by simp; omega
                      clear hlp2 hsl hpw hwp h12 h03
                      generalize setP LP p = sv at *
                      go_wp2
                      go_roundw
                      case rel => exact ⟨p + 1, hlp, by rw [HS.out], by go_num, hbr⟩
                      case measure => simp [intOf]; omega
                  · as_aux_lemma =>
                    have hltZ2 : ¬ (p : Int) < n := by omega
                    have hpn : p = n := by omega
                    rw [hpn]
                    have HNO := Lib.hid (show ∀ p q, p < n → q < n → hasB ((setP LP n : Nat) : Int) p = true → hasB ((setP LP n : Nat) : Int) q = true → hasB (at_ C p) q = false by
                      intro p q hp hq h3 h4
                      replace h3 := (setP_has h3).2
                      replace h4 := (setP_has h4).2
                      exact HVS.out.no p q hp hq (by have h9 : at_ LP p = lmp s.li p := HLP.out p hp; omega) (by have h9 : at_ LP q = lmp s.li q := HLP.out q hq; omega))
                    have X15 := X14.below hbr
                    have S15 := S14.below hbr
                    have L15 := L14.below hbr
                    have N15 := N14.below hbr
                    have B15 := B14.trans (hbr.mono (Nat.le_trans hBW B14.size))
                    have J15 := BJ.low B15 hgjB
                    have j1 := J15.at 1 rfl
                    have zneq : ((n : Int) != (n : Int)) = false := by simp
                    have hltZ3 : ¬ (n : Int) < n := by omega
                    clear hltZ2 hpn hbr X14 S14 L14 N14 B14
                    generalize setP LP n = sv at *
                    go_wp2_with fail
                    refine (rclash_c (A := some ⟨bB, oB, none⟩) (cA := cW) wr HRC.out (hI4.low B15 hBW) (by omega) HNO.out).mono ?_
                    rintro e w16 ⟨rfl, b16⟩
                    have X16 := X15.below b16
                    have S16 := S15.below b16
                    have L16 := L15.below b16
                    have N16 := N15.below b16
                    have B16 := B15.trans (b16.mono (Nat.le_trans hBW B15.size))
                    have J16 := BJ.low B16 hgjB
                    have j0 := J16.at 0 rfl
                    clear j1
                    have x0 := X16.at 0 rfl; have x1 := X16.at 1 rfl; have x2 := X16.at 2 rfl; have x3 := X16.at 3 rfl; have x4 := X16.at 4 rfl
                    go_wp2_with (refine step_store_sg (by rfl) (by rfl) (by rfl) (by rfl) (by rfl) S16 ?_; intro w17 S17 hg17)
                    have hlS := L16.ne_sg S16
                    have hxS := N16.ne_sg S16
                    have L17 := L16.grown hg17 (by intro e; injection e with e; exact hlS e.symm)
                    have N17 := N16.grown hg17 (by intro e; injection e with e; exact hxS e.symm)
                    have B17 : Below B W4 w17 := B16.grown hg17 (Nat.le_trans hBW B16.size) (fun k e => by injection e with e; omega)
                    have J17 := BJ.low B17 hgjB
                    clear j0 x0 x1 x2 x3 x4 X15 X16 S15 S16 L15 L16 N15 N16 B15 B16 J15 J16 b16 hlS hxS hg17
                    refine (mod_k HM5.out (by omega) (by omega) (by have := HQ512.out.1; omega) (by have := HQ512.out.2; omega) _).mono ?_
                    rintro e w18 ⟨rfl, rfl⟩
                    by_cases h5 : m5 = 4
                    · have z5 : ((m5 : Int) == 4) = true := by rw [h5]; rfl
                      have j0 := J17.at 0 rfl; have j1 := J17.at 1 rfl; have j2 := J17.at 2 rfl
                      have s0 := S17.at 0 rfl; have s1 := S17.at 1 rfl; have s2 := S17.at 2 rfl; have s3 := S17.at 3 rfl; have s4 := S17.at 4 rfl
                      clear h5
                      go_wp2_with fail
                      refine (jreset_any (some ⟨bA, oA, none⟩) (some ⟨bB, oB, none⟩) (some ⟨gl2, 0, none⟩) (some ⟨gx2, 0, none⟩) cU cW cl2 cx2 n P s st false w17 HN.out (hP4.low B17 hBW) h1 hn60 HLI.out HNX.out L17.prs N17.ints).mono ?_
                      rintro e w19 ⟨v, rfl, b19, gl4, cl4, gx4, cx4, rfl, ⟨hgl4, hcl4⟩, hgx4, L19, N19⟩
                      replace L19 : LiB w19 gl4 s.li := L19
                      replace N19 : NxB w19 gx4 s.nx := N19
                      clear j0 j1 j2 s0 s1 s2 s3 s4
                      have S19 := S17.below b19
                      have hgS17 := S17.lt
                      have bY := lat_alloc (Below.refl w19.heap.size w19) (.cells #[.slice (some ⟨gl4, 0, none⟩) n cl4, .int .i64 (s).gr, .slice (some ⟨gx4, 0, none⟩) 2 cx4, .int .i64 (s).wt, .bool false] 27)
                      have Y20 := Blk.new (w := w19) (t := 27) (cs := #[.slice (some ⟨gl4, 0, none⟩) n cl4, .int .i64 (s).gr, .slice (some ⟨gx4, 0, none⟩) 2 cx4, .int .i64 (s).wt, .bool false])
                      have L20 := L19.below bY
                      have N20 := N19.below bY
                      have S20 := S19.below bY
                      have B20 := (B17.trans (b19.mono (Nat.le_trans hBW B17.size))).trans (bY.mono (Nat.le_trans (Nat.le_trans hBW B17.size) b19.size))
                      have y0 := Y20.at 0 rfl; have y1 := Y20.at 1 rfl; have y2 := Y20.at 2 rfl; have y3 := Y20.at 3 rfl; have y4 := Y20.at 4 rfl
                      have s4 := S20.at 4 rfl
                      go_wp2_with (refine step_store_sg (by rfl) (by rfl) (by rfl) (by rfl) (by rfl) S20 ?_; intro w22 S22 hg22)
                      have L21 := L20
                      have N21 := N20
                      have B21 := B20
                      have S21 := S20
                      have hlS := L21.ne_sg S21
                      have hxS := N21.ne_sg S21
                      have hst : StdS W4 w22 B gs n s false := ⟨gl4, cl4, gx4, cx4, B21.grown hg22 (Nat.le_trans hBW B21.size) (fun k e => by injection e with e; omega), S22, L21.grown hg22 (by intro e; injection e with e; exact hlS e.symm), N21.grown hg22 (by intro e; injection e with e; exact hxS e.symm)⟩
                      go_roundw
                      case rel => exact ⟨i + 1, s, false, hlt, by go_num, hst, HVS.out⟩
                      case measure => simp [intOf]; omega
                    · have z5 : ((m5 : Int) == 4) = false := by simp; omega
                      clear h5
                      go_wp2_with fail
                      have hst : StdS W4 w17 B gs n s false := ⟨gl2, cl2, gx2, cx2, B17, S17, L17, N17⟩
                      go_roundw
                      case rel => exact ⟨i + 1, s, false, hlt, by go_num, hst, HVS.out⟩
                      case measure => simp [intOf]; omega
    · as_aux_lemma =>
      have hltZ : ¬ (i : Int) < ts.length := by omega
      have hBr : Below B W4 wr := by obtain ⟨_, _, _, _, h, _⟩ := hS; exact h
      go_wp2_with fail
      refine (awake_any _).mono ?_
      rintro e w2 ⟨rfl, hb⟩
      go_wp2
      go_ret
      exact ⟨rfl, hb4.trans ((hBr.mono hwB).trans (hb.mono (Nat.le_trans hb4.size hBr.size)))⟩
end Go.Proofs.Ytncmikkobngfeaa
