/-
  The law PlanNeeds answers true: its walk. Conditions: none.
-/
import Derived.Test.YtngdaieopnadbaaAw
import Derived.Test.YtngdaieopnadbaaTw
import Derived.Test.YtngdaieopnadbaaR
import Derived.BigQuiet
namespace Go.Proofs.Ytngdaieopnadbaa
open Go.ChangeShapes Go.WideShapes Go.RowKit
set_option linter.unusedVariables false

theorem Blk.laterN {W : World} {g : Nat} {t : TypeId} {cs : Array Value} (h : Blk W g t cs) (i : Nat) {v : Value} (hv : cs[i]? = some v) : ∀ w', Below W.heap.size W w' → w'.cell? ⟨g, i, none⟩ = some v := fun w' hb => ((h.below hb).cell i).trans hv
theorem below_of_grown {w w' : World} (h : w.grownBy w' none) : Below w.heap.size w w' := ⟨h.os, h.tape, h.output, h.size, fun k hk => h.block k hk (by simp)⟩
theorem step_store8 {ops : Array Oper} {o : Oper} {a : Act} {w : World} {rest : List Oper} {Q : Exit → Act → World → Prop} (hgd : o.guard = none) {p v : Operand} (ho : o.op = .store 51 p v) (hd : o.dst = none) {b : Nat} {x : Ph} (hp : a.eval p = .pointer (some ⟨b, 0, none⟩)) (hv : a.eval v = .agg #[.int .i64 x.ri, .int .i64 x.gr, .int .i64 x.mn, .int .i64 x.mx, .int .i64 x.yl, .int .i64 x.rd, .int .i64 x.wk, .int .i64 x.cl]) (hB : Blk w b 51 #[.int .i64 0, .int .i64 0, .int .i64 0, .int .i64 0, .int .i64 0, .int .i64 0, .int .i64 0, .int .i64 0])
    (h : ∀ w' : World, Blk w' b 51 #[.int .i64 x.ri, .int .i64 x.gr, .int .i64 x.mn, .int .i64 x.mx, .int .i64 x.yl, .int .i64 x.rd, .int .i64 x.wk, .int .i64 x.cl] → w.grownBy w' (some b) → wpList Try.prog ops Q rest a w') :
    wpList Try.prog ops Q (o :: rest) a w := by
  unfold wpList
  have hw : Region.wanted o (yielded ops a.tmps) = true := by unfold Region.wanted; rw [hgd]
  rw [if_pos hw]
  refine .inl ?_
  have f0 := hB.frozen 0
  have f1 := hB.frozen 1
  have f2 := hB.frozen 2
  have f3 := hB.frozen 3
  have f4 := hB.frozen 4
  have f5 := hB.frozen 5
  have f6 := hB.frozen 6
  have f7 := hB.frozen 7
  have c0 := hB.at 0 rfl
  have c1 := hB.at 1 rfl
  have c2 := hB.at 2 rfl
  have c3 := hB.at 3 rfl
  have c4 := hB.at 4 rfl
  have c5 := hB.at 5 rfl
  have c6 := hB.at 6 rfl
  have c7 := hB.at 7 rfl
  have hk := h _ (hB.set8 (.int .i64 x.ri) (.int .i64 x.gr) (.int .i64 x.mn) (.int .i64 x.mx) (.int .i64 x.yl) (.int .i64 x.rd) (.int .i64 x.wk) (.int .i64 x.cl)) (grown8 w b _ _ _ _ _ _ _ _)
  unfold Oper.wp
  simp only [execOp, ho, hp, hv]
  go_simp
  all_goals (first | exact hk | (simp [Act.put, hd]; exact hk))
theorem frm_of {l : List Oper} {n : Nat} {t : Tmp} (h : ((List.range n).all fun i => ((l[i]?).bind (·.dst)) != some t) = true) : ∀ i, i < n → ((l[i]?).bind (·.dst)) ≠ some t := fun i hi => by
  have := List.all_eq_true.1 h i (List.mem_range.2 hi)
  simpa using this
theorem wp_seq_mid {P : Program} {x : Code} {K0 : Act → World → Prop} {Q : Exit → Act → World → Prop} {a : Act} {w : World} (K : Act → World → Prop) (h : x.wp P (Exit.then K Q) a w) (hy : ∀ a w, K a w → K0 a w) : x.wp P (Exit.then K0 Q) a w :=
  (wp_mono h fun e a w hq => by
    cases e <;> first | exact hy _ _ hq | exact hq)
theorem own_ints_at {k : IntKind} {e : TypeId} {w : World} {base g n cap : Nat} {l : List Int} (h : Own k e w base (.slice (some ⟨g, 0, none⟩) n cap) l) : Ints k w w.heap.size (some ⟨g, 0, none⟩) l := by
  obtain ⟨A, c, hv, _, _, hi⟩ := h.ints
  injection hv with hA _ _
  subst hA
  exact hi
theorem modI_nat (a : Int) (n : Nat) (h : 0 < n) : ∃ k : Nat, modI a n = k ∧ k < n := by
  have := modI_bd a n (by omega)
  exact ⟨(modI a n).toNat, by omega, by omega⟩
theorem mod_n {a : Int} {n k : Nat} (hk : modI a n = k) (h : 0 < n) (h8 : n ≤ 8) (a0 : -9223372036854775808 ≤ a) (a1 : a ≤ 9223372036854775807) (w : World) : Calls Try.prog 19 #[.int .i64 a, .int .i64 n] w fun e w' => e = .returned (.int .i64 k) ∧ w = w' := by
  rw [← hk]; exact mod_any a n (by omega) (by omega) a0 a1 w
theorem plan_c {A B : Option Addr} {c d n m : Nat} {P : List Ph} {C : List Int} {st : Int} {b : Bool} (h : junB P C st = b) (w : World) (hn : P.length = n) (hm : C.length = m) (hP : Phs w w.heap.size A P) (hI : Ints .i64 w w.heap.size B C) (hc : n ≤ c) :
    Calls Try.prog 11 #[.agg #[.slice A n c, .slice B m d, .int .i64 st]] w fun e w' => e = .returned (.bool b) ∧ Below w.heap.size w w' := by
  subst h; exact plan_any A B c d n m P C st w hn hm hP hI hc
set_option maxRecDepth 100000 in
set_option maxHeartbeats 8000000 in
theorem needs_any (A : Option Addr) (cA : Nat) (l : List Int) (a q0 : Int) (w : World) (hs : Ints .i64 w w.heap.size A l) (hn : Nums l) (hl : l.length ≤ 9223372036854775807) (a0 : -9223372036854775808 ≤ a) (a1 : a ≤ 9223372036854775807) (b0 : -9223372036854775808 ≤ q0) (b1 : q0 ≤ 9223372036854775807) :
    Calls Try.prog 6 #[.slice A l.length cA, .int .i64 a, .int .i64 q0] w fun e w' => e = .returned (.bool true) ∧ Below w.heap.size w w' := by
  go_enter Try.func6, Try.ntmps6
  go_wp2_with fail
  refine (new_ok A l cA _ hs hn hl).mono ?_
  rintro e w2 ⟨rfl, hdk, hb2, hlt2⟩
  go_wp2_with fail
  refine (junction_any w.heap.size w2 hdk).mono ?_
  rintro e w3 ⟨hgr, hdk3, q, st, ex, P, A1, B1, c1, d1, rfl, hj, hP, hI, hA1, hB1, hc1, hd1⟩
  have hb3 := hgr.base hb2 (Nat.le_refl _)
  have hP8 : 1 ≤ P.length ∧ P.length ≤ 8 := by have h1 := hj.len; have h2 := shapeL_len q; omega
  obtain ⟨n, hnn⟩ : ∃ n, P.length = n := ⟨_, rfl⟩
  obtain ⟨p, hp1, hp2⟩ := modI_nat a n (by omega)
  obtain ⟨k, hk1, hk2⟩ := modI_nat q0 n (by omega)
  rw [hnn] at hP8 hc1 hd1 ⊢
  have HN := Lib.hid hnn
  have HP1 := Lib.hid hp1
  have HK1 := Lib.hid hk1
  clear hnn hp1 hk1 hgr hdk hdk3 hb2
  obtain ⟨b, off, rfl, hbB, hX⟩ := hP.at (i := p) (by have := HN.out; omega)
  obtain ⟨b', off', hA', hbB', hY⟩ := hP.at (i := k) (by have := HN.out; omega)
  injection Option.some.inj hA' with hA2 hA3 _
  subst hA2; subst hA3
  have bA := lat_alloc (Below.refl w3.heap.size w3) (.cells #[.slice (some ⟨b, off, none⟩) n c1, .slice B1 n d1, .int .i64 st] 25)
  have BJ := Blk.new (w := w3) (t := 25) (cs := #[.slice (some ⟨b, off, none⟩) n c1, .slice B1 n d1, .int .i64 st])
  have hI4 := hI.grow bA
  have hP4 := hP.grow bA
  have hX := hX.block (bA.block _ hbB)
  have hY := hY.block (bA.block _ hbB)
  have hbW : b < (w3.alloc (.cells #[.slice (some ⟨b, off, none⟩) n c1, .slice B1 n d1, .int .i64 st] 25)).heap.size := Nat.lt_of_lt_of_le hbB bA.size
  have hb4 := hb3.trans (bA.mono hb3.size)
  have hwgj := hb3.size
  have hbgj := hbB
  have j0 := BJ.at 0 rfl
  have j1 := BJ.at 1 rfl
  have j2 := BJ.at 2 rfl
  go_wp2_with fail
  have HGC := Lib.hid (heap_size w3 (.cells #[.slice (some ⟨b, off, none⟩) n c1, .slice B1 n d1, .int .i64 st] 25))
  generalize w3.alloc (.cells #[.slice (some ⟨b, off, none⟩) n c1, .slice B1 n d1, .int .i64 st] 25) = W4 at *
  generalize w3.heap.size = gj at *
  clear bA hI hP hbB hbB' hA' hb3
  refine (mod_n HP1.out (by omega) (by omega) a0 a1 _).mono ?_
  rintro e w' ⟨rfl, rfl⟩
  go_wp2_with fail
  refine (mod_n HK1.out (by omega) (by omega) b0 b1 _).mono ?_
  rintro e w' ⟨rfl, rfl⟩
  have hn8 : 0 < n ∧ n ≤ 8 := by omega
  by_cases hpk : p = k
  · subst hpk
    go_wp2_with fail
    refine (plan_c (jun_t (jun_drawn hj)) W4 HN.out (by rw [rows_len]; exact HN.out) hP4 hI4 hc1).mono ?_
    rintro e w5 ⟨rfl, hb5⟩
    go_wp2_with fail
    refine (awake_any w5).mono ?_
    rintro e w6 ⟨rfl, hb6⟩
    go_wp2
    go_ret
    exact ⟨rfl, hb4.trans ((hb5.trans (hb6.mono hb5.size)).mono hb4.size)⟩
  have HPK := Lib.hid hpk
  have zpk : ((p : Int) == (k : Int)) = false := by simp; omega
  clear hpk
  have hpZ : (p : Int) < n := by omega
  have hkZ : (k : Int) < n := by omega
  obtain ⟨x, hx⟩ : ∃ x, phAt P p = x := ⟨_, rfl⟩
  obtain ⟨y, hy⟩ : ∃ y, phAt P k = y := ⟨_, rfl⟩
  rw [hx] at hX
  rw [hy] at hY
  have HX := Lib.hid hx
  have HY := Lib.hid hy
  clear hx hy j0 j1 j2
  go_wp2_with fail
  have hCn : (rowsL P ex).length = n := by rw [rows_len]; exact HN.out
  have hxp := rows_bd P ex (i := p) (by have := HN.out; omega)
  have hxk := rows_bd P ex (i := k) (by have := HN.out; omega)
  rw [HN.out] at hxp hxk
  have zx1 := xor_turn (k := k) hxp hP8.2 hk2
  have zx2 := xor_turn (k := p) hxk hP8.2 hp2
  have HFL := Lib.hid (jun_flip hj (p := p) (k := k) (by have := HN.out; omega) (by have := HN.out; omega) HPK.out)
  have HAT := Lib.hid (show at_ ((rowsL P ex).set p (turnB (at_ (rowsL P ex) p) k)) k = at_ (rowsL P ex) k by rw [at_set (by omega), if_neg (fun e => HPK.out e.symm)])
  have HC2 := Lib.hid (show (flipL (rowsL P ex) p k).length = n by unfold flipL; rw [List.length_set, List.length_set, hCn])
  have HC := Lib.hid hCn
  have HFD := Lib.hid (show ((rowsL P ex).set p (turnB (at_ (rowsL P ex) p) k)).set k (turnB (at_ (rowsL P ex) k) p) = flipL (rowsL P ex) p k from rfl)
  clear hCn hxp hxk
  generalize rowsL P ex = C at *
  generalize flipL C p k = C2 at *
  refine wp_seq_mid (fun a' w' => ∃ (e1 e2 : Nat) (v33 v34 v35 v36 v37 v38 v39 v40 v41 v42 : Value), a' = { tmps := #[.slice A l.length cA, .int .i64 a, .int .i64 q0, undef, undef, undef, .bool false, .pointer (some ⟨gj, 0, none⟩), .int .i64 n, .int .i64 p, .int .i64 k, .pointer (some ⟨e1, 0, none⟩), .pointer (some ⟨e2, 0, none⟩), .slice A l.length cA, .pointer (some ⟨w.heap.size, 0, none⟩), .agg #[.slice (some ⟨b, off, none⟩) n c1, .slice B1 n d1, .int .i64 st], .pointer (some ⟨gj, 0, none⟩), .slice (some ⟨b, off, none⟩) n c1, .int .i64 n, .int .i64 a, .int .i64 n, .int .i64 p, .int .i64 q0, .int .i64 n, .int .i64 k, .int .i64 p, .int .i64 k, .bool false, undef, undef, undef, undef, undef, v33, v34, v35, v36, v37, v38, v39, v40, v41, v42, undef, undef, undef, undef, undef, undef, undef, undef, undef, undef, undef, undef, undef, undef, undef, undef, undef, undef, undef, undef, undef, undef, undef, undef, undef, undef, undef, undef, undef, undef, undef, undef, undef, undef, undef, undef, undef, undef, undef, undef, undef, undef], defers := [] } ∧ Blk w' e1 51 #[.int .i64 x.ri, .int .i64 x.gr, .int .i64 x.mn, .int .i64 x.mx, .int .i64 x.yl, .int .i64 x.rd, .int .i64 x.wk, .int .i64 x.cl] ∧ Blk w' e2 51 #[.int .i64 y.ri, .int .i64 y.gr, .int .i64 y.mn, .int .i64 y.mx, .int .i64 y.yl, .int .i64 y.rd, .int .i64 y.wk, .int .i64 y.cl] ∧ W4.heap.size ≤ e1 ∧ W4.heap.size ≤ e2 ∧ e1 ≠ e2 ∧ Below W4.heap.size W4 w') ?_ ?_
  · refine wp_region_invs 14 85 (JTw W4 10 (fun i => [(.pointer (some ⟨gj, 0, none⟩)), (.slice (some ⟨b, off, none⟩) n c1), (.int .i64 p), (.pointer (some ⟨b, off + p * 8, none⟩)), (.agg #[.int .i64 x.ri, .int .i64 x.gr, .int .i64 x.mn, .int .i64 x.mx, .int .i64 x.yl, .int .i64 x.rd, .int .i64 x.wk, .int .i64 x.cl]), (.pointer (some ⟨gj, 0, none⟩)), (.slice (some ⟨b, off, none⟩) n c1), (.int .i64 k), (.pointer (some ⟨b, off + k * 8, none⟩)), (.agg #[.int .i64 y.ri, .int .i64 y.gr, .int .i64 y.mn, .int .i64 y.mx, .int .i64 y.yl, .int .i64 y.rd, .int .i64 y.wk, .int .i64 y.cl])].getD i undef) 51 #[.int .i64 0, .int .i64 0, .int .i64 0, .int .i64 0, .int .i64 0, .int .i64 0, .int .i64 0, .int .i64 0] #[.int .i64 x.ri, .int .i64 x.gr, .int .i64 x.mn, .int .i64 x.mx, .int .i64 x.yl, .int .i64 x.rd, .int .i64 x.wk, .int .i64 x.cl] #[.int .i64 y.ri, .int .i64 y.gr, .int .i64 y.mn, .int .i64 y.mx, .int .i64 y.yl, .int .i64 y.rd, .int .i64 y.wk, .int .i64 y.cl]) (by kernel_rfl) (fun _ _ d _ _ h => by cases d <;> exact h) rfl (by kernel_rfl) JTw.start ?_ ?_
    · intro k' o hk' ho
      have hk14 : k' = 0 ∨ k' = 1 ∨ k' = 2 ∨ k' = 3 ∨ k' = 4 ∨ k' = 5 ∨ k' = 6 ∨ k' = 7 ∨ k' = 8 ∨ k' = 9 ∨ k' = 10 ∨ k' = 11 ∨ k' = 12 ∨ k' = 13 := by omega
      rcases hk14 with rfl | rfl | rfl | rfl | rfl | rfl | rfl | rfl | rfl | rfl | rfl | rfl | rfl | rfl
      · obtain rfl := Option.some.inj ho
        intro lst vs ev xw hJ hl hc hf hfr hd
        have e7 : ev (.tmp 7) = .pointer (some ⟨gj, 0, none⟩) := hfr 7 (frm_of (by kernel_rfl))
        have hb := hJ.grew
        clear hfr hd
        refine opS_hid (fun Rp HR => ?_)
        unfold OpS
        go_simp
        rw [HR.out]
        exact hJ.pure (k := 0) (by omega) rfl
      · obtain rfl := Option.some.inj ho
        intro lst vs ev xw hJ hl hc hf hfr hd
        have d33 := hd 0 33 (by kernel_rfl) rfl
        have e33 : ev (.tmp 33) = .pointer (some ⟨gj, 0, none⟩) := d33.2.trans (hJ.vals 0 (by omega) d33.1)
        clear d33
        have hb := hJ.grew
        clear hfr hd
        have k0 := (BJ.below hb).at 0 rfl
        refine opS_hid (fun Rp HR => ?_)
        unfold OpS
        go_simp
        rw [HR.out]
        exact hJ.pure (k := 1) (by omega) rfl
      · obtain rfl := Option.some.inj ho
        intro lst vs ev xw hJ hl hc hf hfr hd
        have e9 : ev (.tmp 9) = .int .i64 p := hfr 9 (frm_of (by kernel_rfl))
        have hb := hJ.grew
        clear hfr hd
        refine opS_hid (fun Rp HR => ?_)
        unfold OpS
        go_simp
        rw [HR.out]
        exact hJ.pure (k := 2) (by omega) rfl
      · obtain rfl := Option.some.inj ho
        intro lst vs ev xw hJ hl hc hf hfr hd
        have d34 := hd 1 34 (by kernel_rfl) rfl
        have e34 : ev (.tmp 34) = .slice (some ⟨b, off, none⟩) n c1 := d34.2.trans (hJ.vals 1 (by omega) d34.1)
        clear d34
        have d35 := hd 2 35 (by kernel_rfl) rfl
        have e35 : ev (.tmp 35) = .int .i64 p := d35.2.trans (hJ.vals 2 (by omega) d35.1)
        clear d35
        have hb := hJ.grew
        clear hfr hd
        refine opS_hid (fun Rp HR => ?_)
        unfold OpS
        go_simp
        rw [HR.out]
        exact hJ.pure (k := 3) (by omega) rfl
      · obtain rfl := Option.some.inj ho
        intro lst vs ev xw hJ hl hc hf hfr hd
        have d36 := hd 3 36 (by kernel_rfl) rfl
        have e36 : ev (.tmp 36) = .pointer (some ⟨b, off + p * 8, none⟩) := d36.2.trans (hJ.vals 3 (by omega) d36.1)
        clear d36
        have hb := hJ.grew
        clear hfr hd
        obtain ⟨k0, k1, k2, k3, k4, k5, k6, k7⟩ := hX.block (Below.block hb b hbW)
        refine opS_hid (fun Rp HR => ?_)
        unfold OpS
        go_simp
        rw [HR.out]
        exact hJ.pure (k := 4) (by omega) rfl
      · obtain rfl := Option.some.inj ho
        intro lst vs ev xw hJ hl hc hf hfr hd
        have e7 : ev (.tmp 7) = .pointer (some ⟨gj, 0, none⟩) := hfr 7 (frm_of (by kernel_rfl))
        have hb := hJ.grew
        clear hfr hd
        refine opS_hid (fun Rp HR => ?_)
        unfold OpS
        go_simp
        rw [HR.out]
        exact hJ.pure (k := 5) (by omega) rfl
      · obtain rfl := Option.some.inj ho
        intro lst vs ev xw hJ hl hc hf hfr hd
        have d38 := hd 5 38 (by kernel_rfl) rfl
        have e38 : ev (.tmp 38) = .pointer (some ⟨gj, 0, none⟩) := d38.2.trans (hJ.vals 5 (by omega) d38.1)
        clear d38
        have hb := hJ.grew
        clear hfr hd
        have k0 := (BJ.below hb).at 0 rfl
        refine opS_hid (fun Rp HR => ?_)
        unfold OpS
        go_simp
        rw [HR.out]
        exact hJ.pure (k := 6) (by omega) rfl
      · obtain rfl := Option.some.inj ho
        intro lst vs ev xw hJ hl hc hf hfr hd
        have e10 : ev (.tmp 10) = .int .i64 k := hfr 10 (frm_of (by kernel_rfl))
        have hb := hJ.grew
        clear hfr hd
        refine opS_hid (fun Rp HR => ?_)
        unfold OpS
        go_simp
        rw [HR.out]
        exact hJ.pure (k := 7) (by omega) rfl
      · obtain rfl := Option.some.inj ho
        intro lst vs ev xw hJ hl hc hf hfr hd
        have d39 := hd 6 39 (by kernel_rfl) rfl
        have e39 : ev (.tmp 39) = .slice (some ⟨b, off, none⟩) n c1 := d39.2.trans (hJ.vals 6 (by omega) d39.1)
        clear d39
        have d40 := hd 7 40 (by kernel_rfl) rfl
        have e40 : ev (.tmp 40) = .int .i64 k := d40.2.trans (hJ.vals 7 (by omega) d40.1)
        clear d40
        have hb := hJ.grew
        clear hfr hd
        refine opS_hid (fun Rp HR => ?_)
        unfold OpS
        go_simp
        rw [HR.out]
        exact hJ.pure (k := 8) (by omega) rfl
      · obtain rfl := Option.some.inj ho
        intro lst vs ev xw hJ hl hc hf hfr hd
        have d41 := hd 8 41 (by kernel_rfl) rfl
        have e41 : ev (.tmp 41) = .pointer (some ⟨b, off + k * 8, none⟩) := d41.2.trans (hJ.vals 8 (by omega) d41.1)
        clear d41
        have hb := hJ.grew
        clear hfr hd
        obtain ⟨k0, k1, k2, k3, k4, k5, k6, k7⟩ := hY.block (Below.block hb b hbW)
        refine opS_hid (fun Rp HR => ?_)
        unfold OpS
        go_simp
        rw [HR.out]
        exact hJ.pure (k := 9) (by omega) rfl
      · obtain rfl := Option.some.inj ho
        intro lst vs ev xw hJ hl hc hf hfr hd
        have hb := hJ.grew
        clear hfr hd
        refine opS_hid (fun Rp HR => ?_)
        unfold OpS
        go_simp
        rw [HR.out]
        exact hJ.allocx hl rfl
      · obtain rfl := Option.some.inj ho
        intro lst vs ev xw hJ hl hc hf hfr hd
        have hb := hJ.grew
        clear hfr hd
        refine opS_hid (fun Rp HR => ?_)
        unfold OpS
        go_simp
        rw [HR.out]
        exact hJ.allocy hl rfl
      · obtain rfl := Option.some.inj ho
        intro lst vs ev xw hJ hl hc hf hfr hd
        have d11 := hd 10 11 (by kernel_rfl) rfl
        have d37 := hd 4 37 (by kernel_rfl) rfl
        have e37 : ev (.tmp 37) = .agg #[.int .i64 x.ri, .int .i64 x.gr, .int .i64 x.mn, .int .i64 x.mx, .int .i64 x.yl, .int .i64 x.rd, .int .i64 x.wk, .int .i64 x.cl] := d37.2.trans (hJ.vals 4 (by omega) d37.1)
        clear d37
        have dx := (hd 10 11 (by kernel_rfl) rfl).1
        have dy := (hd 11 12 (by kernel_rfl) rfl).1
        obtain ⟨e1, h1, h2, h3⟩ := hJ.px dx
        rw [show lst (10 + 2) = false from hl] at h3
        rw [h1] at d11
        have ee := d11.2
        have hb := hJ.grew
        clear hfr hd
        simp only [Bool.false_eq_true, if_false] at h3
        have f0 := h3.frozen 0
        have f1 := h3.frozen 1
        have f2 := h3.frozen 2
        have f3 := h3.frozen 3
        have f4 := h3.frozen 4
        have f5 := h3.frozen 5
        have f6 := h3.frozen 6
        have f7 := h3.frozen 7
        have c0 := h3.at 0 rfl
        have c1 := h3.at 1 rfl
        have c2 := h3.at 2 rfl
        have c3 := h3.at 3 rfl
        have c4 := h3.at 4 rfl
        have c5 := h3.at 5 rfl
        have c6 := h3.at 6 rfl
        have c7 := h3.at 7 rfl
        have hst := h3.set8 (.int .i64 x.ri) (.int .i64 x.gr) (.int .i64 x.mn) (.int .i64 x.mx) (.int .i64 x.yl) (.int .i64 x.rd) (.int .i64 x.wk) (.int .i64 x.cl)
        have hgr := grown8 xw e1 (.int .i64 x.ri) (.int .i64 x.gr) (.int .i64 x.mn) (.int .i64 x.mx) (.int .i64 x.yl) (.int .i64 x.rd) (.int .i64 x.wk) (.int .i64 x.cl)
        refine opS_hid (fun Rp HR => ?_)
        unfold OpS
        go_simp
        rw [HR.out]
        exact hJ.storex dx dy h1 hgr hst
      · obtain rfl := Option.some.inj ho
        intro lst vs ev xw hJ hl hc hf hfr hd
        have d12 := hd 11 12 (by kernel_rfl) rfl
        have d42 := hd 9 42 (by kernel_rfl) rfl
        have e42 : ev (.tmp 42) = .agg #[.int .i64 y.ri, .int .i64 y.gr, .int .i64 y.mn, .int .i64 y.mx, .int .i64 y.yl, .int .i64 y.rd, .int .i64 y.wk, .int .i64 y.cl] := d42.2.trans (hJ.vals 9 (by omega) d42.1)
        clear d42
        have dx := (hd 10 11 (by kernel_rfl) rfl).1
        have dy := (hd 11 12 (by kernel_rfl) rfl).1
        obtain ⟨e1, h1, h2, h3⟩ := hJ.py dy
        rw [show lst (10 + 3) = false from hl] at h3
        rw [h1] at d12
        have ee := d12.2
        have hb := hJ.grew
        clear hfr hd
        simp only [Bool.false_eq_true, if_false] at h3
        have f0 := h3.frozen 0
        have f1 := h3.frozen 1
        have f2 := h3.frozen 2
        have f3 := h3.frozen 3
        have f4 := h3.frozen 4
        have f5 := h3.frozen 5
        have f6 := h3.frozen 6
        have f7 := h3.frozen 7
        have c0 := h3.at 0 rfl
        have c1 := h3.at 1 rfl
        have c2 := h3.at 2 rfl
        have c3 := h3.at 3 rfl
        have c4 := h3.at 4 rfl
        have c5 := h3.at 5 rfl
        have c6 := h3.at 6 rfl
        have c7 := h3.at 7 rfl
        have hst := h3.set8 (.int .i64 y.ri) (.int .i64 y.gr) (.int .i64 y.mn) (.int .i64 y.mx) (.int .i64 y.yl) (.int .i64 y.rd) (.int .i64 y.wk) (.int .i64 y.cl)
        have hgr := grown8 xw e1 (.int .i64 y.ri) (.int .i64 y.gr) (.int .i64 y.mn) (.int .i64 y.mx) (.int .i64 y.yl) (.int .i64 y.rd) (.int .i64 y.wk) (.int .i64 y.cl)
        refine opS_hid (fun Rp HR => ?_)
        unfold OpS
        go_simp
        rw [HR.out]
        exact hJ.storey dx dy h1 hgr hst
    · intro vs w5 hJ
      have k0 : vs 0 = .pointer (some ⟨gj, 0, none⟩) := hJ.vals 0 (by omega) rfl
      have k1 : vs 1 = .slice (some ⟨b, off, none⟩) n c1 := hJ.vals 1 (by omega) rfl
      have k2 : vs 2 = .int .i64 p := hJ.vals 2 (by omega) rfl
      have k3 : vs 3 = .pointer (some ⟨b, off + p * 8, none⟩) := hJ.vals 3 (by omega) rfl
      have k4 : vs 4 = .agg #[.int .i64 x.ri, .int .i64 x.gr, .int .i64 x.mn, .int .i64 x.mx, .int .i64 x.yl, .int .i64 x.rd, .int .i64 x.wk, .int .i64 x.cl] := hJ.vals 4 (by omega) rfl
      have k5 : vs 5 = .pointer (some ⟨gj, 0, none⟩) := hJ.vals 5 (by omega) rfl
      have k6 : vs 6 = .slice (some ⟨b, off, none⟩) n c1 := hJ.vals 6 (by omega) rfl
      have k7 : vs 7 = .int .i64 k := hJ.vals 7 (by omega) rfl
      have k8 : vs 8 = .pointer (some ⟨b, off + k * 8, none⟩) := hJ.vals 8 (by omega) rfl
      have k9 : vs 9 = .agg #[.int .i64 y.ri, .int .i64 y.gr, .int .i64 y.mn, .int .i64 y.mx, .int .i64 y.yl, .int .i64 y.rd, .int .i64 y.wk, .int .i64 y.cl] := hJ.vals 9 (by omega) rfl
      obtain ⟨e1, h1, h2, h3⟩ := hJ.px rfl
      obtain ⟨e2, h4, h5, h6⟩ := hJ.py rfl
      have h3 : Blk w5 e1 51 #[.int .i64 x.ri, .int .i64 x.gr, .int .i64 x.mn, .int .i64 x.mx, .int .i64 x.yl, .int .i64 x.rd, .int .i64 x.wk, .int .i64 x.cl] := h3
      have h6 : Blk w5 e2 51 #[.int .i64 y.ri, .int .i64 y.gr, .int .i64 y.mn, .int .i64 y.mx, .int .i64 y.yl, .int .i64 y.rd, .int .i64 y.wk, .int .i64 y.cl] := h6
      have hne := hJ.ne rfl rfl
      rw [h1, h4] at hne
      have hne : e1 ≠ e2 := fun e => hne (by rw [e])
      simp only [List.take_succ_cons, List.take_zero, List.drop_succ_cons, List.drop_zero, putAll, Act.put, List.setIfInBounds_toArray, List.set_cons_zero, List.set_cons_succ, k0, k1, k2, k3, k4, k5, k6, k7, k8, k9, h1, h4, Nat.reduceAdd, Nat.reduceSub]
      exact ⟨e1, e2, _, _, _, _, _, _, _, _, _, _, rfl, h3, h6, h2, h5, hne, hJ.grew⟩
  · rintro a1' w1 ⟨e1, e2, v33, v34, v35, v36, v37, v38, v39, v40, v41, v42, rfl, X1, X2, hl1, hl2, hne, hbF⟩
    have BJ1 := BJ.below hbF
    have j1 := BJ1.at 1 rfl
    have hI1 := hI4.grow hbF
    have hgj1 : gj < w1.heap.size := BJ1.lt
    have hgjW := HGC.out
    have hbw1 := hb4.trans (hbF.mono hb4.size)
    have hWs := hbF.size
    clear hX hY hbW
    go_wp2_with (at_builtin; refine wpList_append_ints rfl (.const (.slice none 0 0)) (.tmp 44) _ rfl w1.heap.size 3 .i64 8 Try.underlying23 int_info _ [] rfl (Own.nil_ _ _ _ _) B1 d1 C n HC.out rfl hI1 (by have := HC.out; simp; omega) (by omega) (Nat.le_refl _) ?_; intro v6 w6 own6 g6 a6; rw [List.nil_append] at own6; obtain ⟨gb, cap6, hv6, hgb, hgb2⟩ := own6.form (by have := HC.out; omega); rw [HC.out] at hv6; subst hv6; have hb6 : Below w1.heap.size w1 w6 := below_of_grown g6; have BJ6 := BJ1.below hb6; have m1 := BJ6.at 1 rfl; have m1f := BJ6.frozen 1; have BJ7 : Blk (w6.setCell ⟨gj, 1, none⟩ (.slice (some ⟨gb, 0, none⟩) n cap6)) gj 25 #[.slice (some ⟨b, off, none⟩) n c1, .slice (some ⟨gb, 0, none⟩) n cap6, .int .i64 st] := BJ6.set_ 1 _; have own7 := own_set (g := gj) (i := 1) own6 (.slice (some ⟨gb, 0, none⟩) n cap6) hgj1; have m7 := BJ7.at 1 rfl; obtain ⟨d7, f7⟩ := own7.cell (i := p) (by have := HC.out; omega); have own8 := own7.set (i := p) (by have := HC.out; omega) (turnB (at_ C p) k); have hgg : gj ≠ gb := (by omega); have BJ8 := BJ7.far (p := ⟨gb, p, none⟩) hgg (.int .i64 (turnB (at_ C p) k)); have m8 := BJ8.at 1 rfl; obtain ⟨d8, f8⟩ := own8.cell (i := k) (by rw [List.length_set]; have := HC.out; omega); rw [HAT.out] at d8; have own9 := own8.set (i := k) (by rw [List.length_set]; have := HC.out; omega) (turnB (at_ C k) p); have BJ9 := BJ8.far (p := ⟨gb, k, none⟩) hgg (.int .i64 (turnB (at_ C k) p)); have X9 := (((X1.below hb6).far (p := ⟨gj, 1, none⟩) (show e1 ≠ gj by omega) (.slice (some ⟨gb, 0, none⟩) n cap6)).far (p := ⟨gb, p, none⟩) (show e1 ≠ gb by have := X1.lt; omega) (.int .i64 (turnB (at_ C p) k))).far (p := ⟨gb, k, none⟩) (show e1 ≠ gb by have := X1.lt; omega) (.int .i64 (turnB (at_ C k) p)); have Y9 := (((X2.below hb6).far (p := ⟨gj, 1, none⟩) (show e2 ≠ gj by omega) (.slice (some ⟨gb, 0, none⟩) n cap6)).far (p := ⟨gb, p, none⟩) (show e2 ≠ gb by have := X2.lt; omega) (.int .i64 (turnB (at_ C p) k))).far (p := ⟨gb, k, none⟩) (show e2 ≠ gb by have := X2.lt; omega) (.int .i64 (turnB (at_ C k) p)); have hP6 := (hP4.grow hbF).grow hb6; have hP9 : Phs (((w6.setCell ⟨gj, 1, none⟩ (.slice (some ⟨gb, 0, none⟩) n cap6)).setCell ⟨gb, p, none⟩ (.int .i64 (turnB (at_ C p) k))).setCell ⟨gb, k, none⟩ (.int .i64 (turnB (at_ C k) p))) (((w6.setCell ⟨gj, 1, none⟩ (.slice (some ⟨gb, 0, none⟩) n cap6)).setCell ⟨gb, p, none⟩ (.int .i64 (turnB (at_ C p) k))).setCell ⟨gb, k, none⟩ (.int .i64 (turnB (at_ C k) p))).heap.size (some ⟨b, off, none⟩) P := hP6.keep (by rw [size_set, size_set, size_set]; exact Nat.le_refl _) (fun a0 ha hB => (by injection ha with ha; subst ha; rw [Below.heap_setCell _ _ _ _ (show b ≠ gb by omega), Below.heap_setCell _ _ _ _ (show b ≠ gb by omega), Below.heap_setCell _ _ _ _ (show b ≠ gj by omega)])); have hb16 : Below w.heap.size w w6 := hbw1.trans (hb6.mono hbw1.size); have hW9 : Below w.heap.size w (((w6.setCell ⟨gj, 1, none⟩ (.slice (some ⟨gb, 0, none⟩) n cap6)).setCell ⟨gb, p, none⟩ (.int .i64 (turnB (at_ C p) k))).setCell ⟨gb, k, none⟩ (.int .i64 (turnB (at_ C k) p))) := Below.setCell (p := ⟨gb, k, none⟩) (Below.setCell (p := ⟨gb, p, none⟩) (Below.setCell (p := ⟨gj, 1, none⟩) hb16 hwgj _) (show w.heap.size ≤ gb by omega) _) (show w.heap.size ≤ gb by omega) _; have hI9 := own_ints_at own9; clear BJ6 BJ7 BJ8 own6 own7 own8 own9 a6)
    generalize (((w6.setCell ⟨gj, 1, none⟩ (.slice (some ⟨gb, 0, none⟩) n cap6)).setCell ⟨gb, p, none⟩ (.int .i64 (turnB (at_ C p) k))).setCell ⟨gb, k, none⟩ (.int .i64 (turnB (at_ C k) p))) = W9 at *
    clear m1 m1f m7 m8 d7 d8 f7 f8 zx1 zx2 j1
    rw [HFD.out] at hI9
    by_cases h1 : x.ri = y.ri
    · have z1 : (x.ri != y.ri) = false := by simp [h1]
      have HJB := Lib.hid (show junB P C2 st = false from jun_f (fun h => by have := HFL.out.1 h; unfold needB at this; rw [HX.out, HY.out, decide_eq_true h1, Bool.true_or] at this; cases this))
      clear h1
      have j0 := BJ9.laterN 0 rfl
      have j1 := BJ9.laterN 1 rfl
      have j2 := BJ9.laterN 2 rfl
      have x0 := X9.laterN 0 rfl
      have x1 := X9.laterN 1 rfl
      have y0 := Y9.laterN 0 rfl
      have y1 := Y9.laterN 1 rfl
      refine wp_region_grow (by kernel_rfl) (by kernel_rfl) ?_
      repeat' (first
          | go_big_quiet_skip
          | (go_big_quiet_want; first
              | (go_big_quiet_op; go_big_quiet_on)
              | (refine quiet_det ?_; apply Exists.intro; refine ⟨fun w' hC => ?_, ?_⟩; (go_simp <;> (first | rfl | exact ⟨rfl, rfl⟩)); apply Exists.intro; refine ⟨?_, ?_⟩; (go_simp <;> (first | rfl | exact ⟨rfl, rfl⟩)); go_big_quiet_on)
              | (show Oper.quiet _ { dst := _, op := .call { callee := .value _, args := _, argTypes := _ }, type := _, pos := _, after := _, guard := _ } _ _ _; refine quiet_call ?_; apply Exists.intro; apply Exists.intro; refine ⟨fun w' hC => ?_, ?_⟩; (go_simp <;> (first | rfl | exact ⟨rfl, rfl⟩)); apply Exists.intro; refine ⟨fun w' hC => ?_, ?_⟩; (first
                  | with_reducible exact grow_call (plan_c (A := some ⟨b, off, none⟩) (B := some ⟨gb, 0, none⟩) (c := c1) (d := cap6) HJB.out w' HN.out HC2.out (hP9.grow hC) (hI9.grow hC) hc1) hC
                  | with_reducible exact grow_call (awake_any w') hC
                  | fail); apply Exists.intro; refine ⟨?_, ?_⟩; (go_simp <;> (first | rfl | exact ⟨rfl, rfl⟩)); go_big_quiet_on)))
      all_goals refine wpQuiet_nil ?_
      intro w10 hb10
      clear j0 j1 j2 x0 x1 y0 y1
      go_wp2
      go_ret
      exact ⟨rfl, hW9.trans (hb10.mono hW9.size)⟩
    · have z1 : (x.ri != y.ri) = true := by simpa using h1
      by_cases h2 : x.gr = y.gr
      · have z2 : (x.gr == y.gr) = true := by simp [h2]
        have HJB := Lib.hid (show junB P C2 st = true from jun_t (HFL.out.2 (by unfold needB; rw [HX.out, HY.out, decide_eq_false h1, decide_eq_true h2]; rfl)))
        clear h1 h2
        have j0 := BJ9.laterN 0 rfl
        have j1 := BJ9.laterN 1 rfl
        have j2 := BJ9.laterN 2 rfl
        have x0 := X9.laterN 0 rfl
        have x1 := X9.laterN 1 rfl
        have y0 := Y9.laterN 0 rfl
        have y1 := Y9.laterN 1 rfl
        refine wp_region_grow (by kernel_rfl) (by kernel_rfl) ?_
        repeat' (first
            | go_big_quiet_skip
            | (go_big_quiet_want; first
                | (go_big_quiet_op; go_big_quiet_on)
                | (refine quiet_det ?_; apply Exists.intro; refine ⟨fun w' hC => ?_, ?_⟩; (go_simp <;> (first | rfl | exact ⟨rfl, rfl⟩)); apply Exists.intro; refine ⟨?_, ?_⟩; (go_simp <;> (first | rfl | exact ⟨rfl, rfl⟩)); go_big_quiet_on)
                | (show Oper.quiet _ { dst := _, op := .call { callee := .value _, args := _, argTypes := _ }, type := _, pos := _, after := _, guard := _ } _ _ _; refine quiet_call ?_; apply Exists.intro; apply Exists.intro; refine ⟨fun w' hC => ?_, ?_⟩; (go_simp <;> (first | rfl | exact ⟨rfl, rfl⟩)); apply Exists.intro; refine ⟨fun w' hC => ?_, ?_⟩; (first
                    | with_reducible exact grow_call (plan_c (A := some ⟨b, off, none⟩) (B := some ⟨gb, 0, none⟩) (c := c1) (d := cap6) HJB.out w' HN.out HC2.out (hP9.grow hC) (hI9.grow hC) hc1) hC
                    | with_reducible exact grow_call (awake_any w') hC
                    | fail); apply Exists.intro; refine ⟨?_, ?_⟩; (go_simp <;> (first | rfl | exact ⟨rfl, rfl⟩)); go_big_quiet_on)))
        all_goals refine wpQuiet_nil ?_
        intro w10 hb10
        clear j0 j1 j2 x0 x1 y0 y1
        go_wp2
        go_ret
        exact ⟨rfl, hW9.trans (hb10.mono hW9.size)⟩
      · have z2 : (x.gr == y.gr) = false := by simpa using h2
        have HJB := Lib.hid (show junB P C2 st = false from jun_f (fun h => by have := HFL.out.1 h; unfold needB at this; rw [HX.out, HY.out, decide_eq_false h1, decide_eq_false h2] at this; cases this))
        clear h1 h2
        have j0 := BJ9.laterN 0 rfl
        have j1 := BJ9.laterN 1 rfl
        have j2 := BJ9.laterN 2 rfl
        have x0 := X9.laterN 0 rfl
        have x1 := X9.laterN 1 rfl
        have y0 := Y9.laterN 0 rfl
        have y1 := Y9.laterN 1 rfl
        refine wp_region_grow (by kernel_rfl) (by kernel_rfl) ?_
        repeat' (first
            | go_big_quiet_skip
            | (go_big_quiet_want; first
                | (go_big_quiet_op; go_big_quiet_on)
                | (refine quiet_det ?_; apply Exists.intro; refine ⟨fun w' hC => ?_, ?_⟩; (go_simp <;> (first | rfl | exact ⟨rfl, rfl⟩)); apply Exists.intro; refine ⟨?_, ?_⟩; (go_simp <;> (first | rfl | exact ⟨rfl, rfl⟩)); go_big_quiet_on)
                | (show Oper.quiet _ { dst := _, op := .call { callee := .value _, args := _, argTypes := _ }, type := _, pos := _, after := _, guard := _ } _ _ _; refine quiet_call ?_; apply Exists.intro; apply Exists.intro; refine ⟨fun w' hC => ?_, ?_⟩; (go_simp <;> (first | rfl | exact ⟨rfl, rfl⟩)); apply Exists.intro; refine ⟨fun w' hC => ?_, ?_⟩; (first
                    | with_reducible exact grow_call (plan_c (A := some ⟨b, off, none⟩) (B := some ⟨gb, 0, none⟩) (c := c1) (d := cap6) HJB.out w' HN.out HC2.out (hP9.grow hC) (hI9.grow hC) hc1) hC
                    | with_reducible exact grow_call (awake_any w') hC
                    | fail); apply Exists.intro; refine ⟨?_, ?_⟩; (go_simp <;> (first | rfl | exact ⟨rfl, rfl⟩)); go_big_quiet_on)))
        all_goals refine wpQuiet_nil ?_
        intro w10 hb10
        clear j0 j1 j2 x0 x1 y0 y1
        go_wp2
        go_ret
        exact ⟨rfl, hW9.trans (hb10.mono hW9.size)⟩
end Go.Proofs.Ytngdaieopnadbaa
