/-
  A view of a junction that does not flash. Conditions: few phases.
-/
import Derived.Test.YtmgifmdpjlefcaaFl
import Derived.Test.YtmgifmdpjlefcaaRk
namespace Go.Proofs.Ytmgifmdpjlefcaa
open Go.ChangeShapes Go.WideShapes Go.ChangeAt Go.RowKit
set_option linter.unusedVariables false

def fillL (f : Nat → Int) (n i : Nat) : List Int := (List.range n).map fun j => if j < i then f j else 0
theorem fill_len (f : Nat → Int) (n i : Nat) : (fillL f n i).length = n := by simp [fillL]
theorem fill_zero (f : Nat → Int) (n : Nat) : fillL f n 0 = List.replicate n 0 := by
  unfold fillL
  simp [List.map_const']
theorem fill_at (f : Nat → Int) {n i j : Nat} (h : j < n) : at_ (fillL f n i) j = if j < i then f j else 0 := by
  unfold fillL at_
  simp [h]
theorem fill_set (f : Nat → Int) {n i : Nat} (h : i < n) : (fillL f n i).set i (f i) = fillL f n (i + 1) := by
  apply List.ext_getElem
  · simp [fillL]
  · intro j h1 h2
    simp only [fillL, List.getElem_set, List.getElem_map, List.getElem_range]
    by_cases e : i = j
    · subst e; simp
    · rw [if_neg e]
      by_cases e2 : j < i
      · rw [if_pos e2, if_pos (by omega)]
      · rw [if_neg e2, if_neg (by omega)]
theorem fill_skip (f : Nat → Int) {n i : Nat} (h : i < n) (h0 : f i = 0) : fillL f n i = fillL f n (i + 1) := by
  unfold fillL
  refine List.map_congr_left fun j _ => ?_
  by_cases e : j = i
  · subst e; simp [h0]
  · by_cases e2 : j < i
    · rw [if_pos e2, if_pos (by omega)]
    · rw [if_neg e2, if_neg (by omega)]

/-- What is known of a view while its two flags are laid. -/
structure JV (W : World) (gs gv : Nat) (k : Int) (s1 s2 : Value) (lst : Nat → Bool) (vs : Nat → Value) (w : World) : Prop where
  grew : W.grownBy w (some gv)
  below : Below gv W w
  blk : Blk w gv 40 #[.bool (!lst 4), .bool (lst 6 && (k != -1)), s1, s2]
  vals : ∀ i, i ≠ 4 → i ≠ 6 → lst i = true → vs i = if i = 0 then .pointer (some ⟨gs, 0, none⟩) else if i = 1 then .int .i64 k else if i = 2 then .bool (k != -1) else if i = 3 then .pointer (some ⟨gv, 0, none⟩) else .pointer (some ⟨gv, 1, none⟩)
theorem JV.start {W : World} {gs gv : Nat} {k : Int} {s1 s2 : Value} (h : Blk W gv 40 #[.bool true, .bool false, s1, s2]) (vs : Nat → Value) : JV W gs gv k s1 s2 (fun _ => false) vs (W.drewN 1) :=
  ⟨grownBy_drewN (.refl _ _) 1, below_drewN (Below.refl _ _), h.drewN 1, fun _ _ _ h => by cases h⟩
section
variable {W : World} {gs gv : Nat} {k : Int} {s1 s2 : Value} {lst : Nat → Bool} {vs : Nat → Value} {w : World}
theorem JV.pure {j : Nat} {v : Value} (h : JV W gs gv k s1 s2 lst vs w) (h4 : j ≠ 4) (h6 : j ≠ 6) (hv : v = if j = 0 then .pointer (some ⟨gs, 0, none⟩) else if j = 1 then .int .i64 k else if j = 2 then .bool (k != -1) else if j = 3 then .pointer (some ⟨gv, 0, none⟩) else .pointer (some ⟨gv, 1, none⟩)) :
    JV W gs gv k s1 s2 (fun i => decide (i = j) || lst i) (fun i => if i = j then v else vs i) w := by
  have e4 : (decide (4 = j) || lst 4) = lst 4 := by simp [show ¬ 4 = j from fun e => h4 e.symm]
  have e6 : (decide (6 = j) || lst 6) = lst 6 := by simp [show ¬ 6 = j from fun e => h6 e.symm]
  refine ⟨h.grew, h.below, ?_, fun i a b hl => ?_⟩
  · show Blk w gv _ #[.bool (!(decide (4 = j) || lst 4)), .bool ((decide (6 = j) || lst 6) && (k != -1)), s1, s2]
    rw [e4, e6]; exact h.blk
  · show (if i = j then v else vs i) = _
    by_cases e : i = j
    · rw [if_pos e]; subst e; exact hv
    · rw [if_neg e]; exact h.vals i a b (by simpa [e] using hl)
theorem JV.sto0 {u : Value} (h : JV W gs gv k s1 s2 lst vs w) (hu : u = undef) : JV W gs gv k s1 s2 (fun i => decide (i = 4) || lst i) (fun i => if i = 4 then u else vs i) (w.setCell ⟨gv, 0, none⟩ (.bool false)) := by
  have hg := grownBy_set w gv 0 (.bool false)
  refine ⟨grownBy_setAt h.grew gv 0 _ rfl, Below.grown h.below hg (Nat.le_trans (Nat.le_of_lt h.blk.lt) (Nat.le_refl _)) (fun q e => by injection e with e; omega), ?_, fun i a b hl => ?_⟩
  · have := h.blk.set_ 0 (.bool false)
    simpa using this
  · show (if i = 4 then u else vs i) = _
    rw [if_neg a]; exact h.vals i a b (by simpa [a] using hl)
theorem JV.sto1 {u : Value} (h : JV W gs gv k s1 s2 lst vs w) (hu : u = undef) : JV W gs gv k s1 s2 (fun i => decide (i = 6) || lst i) (fun i => if i = 6 then u else vs i) (w.setCell ⟨gv, 1, none⟩ (.bool (k != -1))) := by
  have hg := grownBy_set w gv 1 (.bool (k != -1))
  refine ⟨grownBy_setAt h.grew gv 1 _ rfl, Below.grown h.below hg (Nat.le_trans (Nat.le_of_lt h.blk.lt) (Nat.le_refl _)) (fun q e => by injection e with e; omega), ?_, fun i a b hl => ?_⟩
  · have := h.blk.set_ 1 (.bool (k != -1))
    simpa using this
  · show (if i = 6 then u else vs i) = _
    rw [if_neg b]; exact h.vals i a b (by simpa [b] using hl)
end
set_option maxRecDepth 20000 in
set_option maxHeartbeats 2000000 in
theorem of_any (A Bc : Option Addr) (cP d n : Nat) (st : Int) (P : List Ph) (c : Ct) (gl cl : Nat) (XA : Option Addr) (xn xc : Nat) (k green : Int) (E : Option Addr) (ne ce : Nat) (w : World) (h1 : 1 ≤ n) (h8 : n ≤ 60) (hP : Phs w w.heap.size A P) (hn : P.length = n) (hpok : ∀ p, p < n → PhOk (phAt P p)) (hL : LiB w gl c.li) (hli : c.li.length = n) (hcl : n ≤ cl) (hlok : ∀ p, p < n → LiOk (phAt P p) (lmp c.li p) (tck c.li p)) :
    Calls Try.prog 11 #[.agg #[.slice A n cP, .slice Bc n d, .int .i64 st], .agg #[.slice (some ⟨gl, 0, none⟩) n cl, .int .i64 c.gr, .slice XA xn xc, .int .i64 c.wt, .bool false], .agg #[.int .i64 k, .int .i64 green, .slice E ne ce]] w fun e w' => ∃ g h : Nat, e = .returned (.agg #[.bool false, .bool (k != -1), .slice (some ⟨g, 0, none⟩) n n, .slice (some ⟨h, 0, none⟩) n n]) ∧ Below w.heap.size w w' ∧ w.heap.size ≤ g ∧ w.heap.size ≤ h ∧ g ≠ h ∧ NxB w' g (fillL (fun i => colV (lmp c.li i)) n n) ∧ NxB w' h (fillL (fun i => countV (phAt P i) (lmp c.li i) (tck c.li i)) n n) := by
  have HN := Lib.hid hn
  have HLI := Lib.hid hli
  have HLO := Lib.hid hlok
  have HPO := Lib.hid hpok
  clear hn hli hlok hpok
  obtain ⟨cf, hcf⟩ : ∃ f : Nat → Int, (fun i => colV (lmp c.li i)) = f := ⟨_, rfl⟩
  obtain ⟨nf, hnf⟩ : ∃ f : Nat → Int, (fun i => countV (phAt P i) (lmp c.li i) (tck c.li i)) = f := ⟨_, rfl⟩
  have HCF := Lib.hid (fun i => congrFun hcf i)
  have HNF := Lib.hid (fun i => congrFun hnf i)
  rw [hcf, hnf]
  clear hcf hnf
  have bW := lat_alloc (lat_alloc (lat_alloc (lat_alloc (Below.refl w.heap.size w) (.cells #[.slice A n cP, .slice Bc n d, .int .i64 st] 29)) (.cells #[.slice (some ⟨gl, 0, none⟩) n cl, .int .i64 c.gr, .slice XA xn xc, .int .i64 c.wt, .bool false] 34)) (.cells #[.int .i64 k, .int .i64 green, .slice E ne ce] 36)) (.cells #[.bool false, .bool false, .slice none 0 0, .slice none 0 0] 40)
  have BJ := (((Blk.new (w := w) (t := 29) (cs := #[.slice A n cP, .slice Bc n d, .int .i64 st])).alloc (.cells #[.slice (some ⟨gl, 0, none⟩) n cl, .int .i64 c.gr, .slice XA xn xc, .int .i64 c.wt, .bool false] 34)).alloc (.cells #[.int .i64 k, .int .i64 green, .slice E ne ce] 36)).alloc (.cells #[.bool false, .bool false, .slice none 0 0, .slice none 0 0] 40)
  have BS := ((Blk.new (w := w.alloc (.cells #[.slice A n cP, .slice Bc n d, .int .i64 st] 29)) (t := 34) (cs := #[.slice (some ⟨gl, 0, none⟩) n cl, .int .i64 c.gr, .slice XA xn xc, .int .i64 c.wt, .bool false])).alloc (.cells #[.int .i64 k, .int .i64 green, .slice E ne ce] 36)).alloc (.cells #[.bool false, .bool false, .slice none 0 0, .slice none 0 0] 40)
  have BV := (Blk.new (w := (w.alloc (.cells #[.slice A n cP, .slice Bc n d, .int .i64 st] 29)).alloc (.cells #[.slice (some ⟨gl, 0, none⟩) n cl, .int .i64 c.gr, .slice XA xn xc, .int .i64 c.wt, .bool false] 34)) (t := 36) (cs := #[.int .i64 k, .int .i64 green, .slice E ne ce])).alloc (.cells #[.bool false, .bool false, .slice none 0 0, .slice none 0 0] 40)
  have BR := Blk.new (w := ((w.alloc (.cells #[.slice A n cP, .slice Bc n d, .int .i64 st] 29)).alloc (.cells #[.slice (some ⟨gl, 0, none⟩) n cl, .int .i64 c.gr, .slice XA xn xc, .int .i64 c.wt, .bool false] 34)).alloc (.cells #[.int .i64 k, .int .i64 green, .slice E ne ce] 36)) (t := 40) (cs := #[.bool false, .bool false, .slice none 0 0, .slice none 0 0])
  simp only [heap_size] at BS BV BR
  have hP1 := hP.grow bW
  have hL1 := hL.below bW
  go_enter Try.func11, Try.ntmps11
  go_wp2_with fail
  generalize (((w.alloc (.cells #[.slice A n cP, .slice Bc n d, .int .i64 st] 29)).alloc (.cells #[.slice (some ⟨gl, 0, none⟩) n cl, .int .i64 c.gr, .slice XA xn xc, .int .i64 c.wt, .bool false] 34)).alloc (.cells #[.int .i64 k, .int .i64 green, .slice E ne ce] 36)).alloc (.cells #[.bool false, .bool false, .slice none 0 0, .slice none 0 0] 40) = W at *
  have hWl := bW.size
  have hgg : w.heap.size + 1 + 1 + 1 < W.heap.size := BR.lt
  refine (flash_any A Bc cP d n st W h8).mono ?_
  rintro e W2 ⟨g, h, rfl, hb2, hg2, hh2, hgh, NG, NH⟩
  have bV := lat_alloc (Below.refl W2.heap.size W2) (.cells #[.bool true, .bool false, .slice (some ⟨g, 0, none⟩) n n, .slice (some ⟨h, 0, none⟩) n n] 40)
  have hb3 := hb2.trans (bV.mono hb2.size)
  have BJ3 := BJ.below hb3
  have BS3 := BS.below hb3
  have BV3 := BV.below hb3
  have BR3 := BR.below hb3
  have BW := Lib.hid (Blk.new (w := W2) (t := 40) (cs := #[.bool true, .bool false, .slice (some ⟨g, 0, none⟩) n n, .slice (some ⟨h, 0, none⟩) n n]))
  have NG3 := NG.below bV
  have NH3 := NH.below bV
  have hP3 := hP1.grow hb3
  have hL3 := hL1.below hb3
  have gN := NG.lt
  have hN := NH.lt
  have x4 := BS3.at 4 rfl
  go_wp2_with fail
  clear bV
  have hWV := hb3.size
  generalize W2.alloc (.cells #[.bool true, .bool false, .slice (some ⟨g, 0, none⟩) n n, .slice (some ⟨h, 0, none⟩) n n] 40) = V at *
  generalize hgv : W2.heap.size = gv at *
  have hb2s := hb2.size
  rw [hgv] at hb2s
  clear hgv x4 hb2
  refine wp_region_invs 7 59 (JV V (w.heap.size + 1 + 1) gv k (.slice (some ⟨g, 0, none⟩) n n) (.slice (some ⟨h, 0, none⟩) n n)) (by kernel_rfl) (fun _ _ d _ _ h => by cases d <;> exact h) rfl (by kernel_rfl) (fun vs => JV.start BW.out vs) ?_ ?_
  · intro k' o hk' ho
    have hk6 : k' = 0 ∨ k' = 1 ∨ k' = 2 ∨ k' = 3 ∨ k' = 4 ∨ k' = 5 ∨ k' = 6 := by omega
    rcases hk6 with rfl | rfl | rfl | rfl | rfl | rfl | rfl
    · obtain rfl := Option.some.inj ho
      intro lst vs ev xw hJ hl hc hf hfr hd
      have e5 : ev (.tmp 5) = .pointer (some ⟨w.heap.size + 1 + 1, 0, none⟩) := hfr 5 (frm_of (by kernel_rfl))
      clear hfr hd
      refine opS_hid (fun Rp HR => ?_)
      unfold OpS
      go_simp
      rw [HR.out]
      exact hJ.pure (by decide) (by decide) rfl
    · obtain rfl := Option.some.inj ho
      intro lst vs ev xw hJ hl hc hf hfr hd
      have d15 := hd 0 15 (by kernel_rfl) rfl
      have e15 : ev (.tmp 15) = .pointer (some ⟨w.heap.size + 1 + 1, 0, none⟩) := d15.2.trans (hJ.vals 0 (by decide) (by decide) d15.1)
      clear d15
      clear hfr hd
      have s0 := (BV3.low hJ.below (by omega)).at 0 rfl
      refine opS_hid (fun Rp HR => ?_)
      unfold OpS
      go_simp
      rw [HR.out]
      exact hJ.pure (by decide) (by decide) rfl
    · obtain rfl := Option.some.inj ho
      intro lst vs ev xw hJ hl hc hf hfr hd
      have d16 := hd 1 16 (by kernel_rfl) rfl
      have e16 : ev (.tmp 16) = .int .i64 k := d16.2.trans (hJ.vals 1 (by decide) (by decide) d16.1)
      clear d16
      clear hfr hd
      refine opS_hid (fun Rp HR => ?_)
      unfold OpS
      go_simp
      rw [HR.out]
      exact hJ.pure (by decide) (by decide) rfl
    · obtain rfl := Option.some.inj ho
      intro lst vs ev xw hJ hl hc hf hfr hd
      have e7 : ev (.tmp 7) = .pointer (some ⟨gv, 0, none⟩) := hfr 7 (frm_of (by kernel_rfl))
      clear hfr hd
      refine opS_hid (fun Rp HR => ?_)
      unfold OpS
      go_simp
      rw [HR.out]
      exact hJ.pure (by decide) (by decide) rfl
    · obtain rfl := Option.some.inj ho
      intro lst vs ev xw hJ hl hc hf hfr hd
      have d18 := hd 3 18 (by kernel_rfl) rfl
      have e18 : ev (.tmp 18) = .pointer (some ⟨gv, 0, none⟩) := d18.2.trans (hJ.vals 3 (by decide) (by decide) d18.1)
      clear d18
      clear hfr hd
      have x0 := hJ.blk.at 0 rfl
      have f0 := hJ.blk.frozen 0
      refine opS_hid (fun Rp HR => ?_)
      unfold OpS
      go_simp
      rw [HR.out]
      exact hJ.sto0 rfl
    · obtain rfl := Option.some.inj ho
      intro lst vs ev xw hJ hl hc hf hfr hd
      have e7 : ev (.tmp 7) = .pointer (some ⟨gv, 0, none⟩) := hfr 7 (frm_of (by kernel_rfl))
      clear hfr hd
      refine opS_hid (fun Rp HR => ?_)
      unfold OpS
      go_simp
      rw [HR.out]
      exact hJ.pure (by decide) (by decide) rfl
    · obtain rfl := Option.some.inj ho
      intro lst vs ev xw hJ hl hc hf hfr hd
      have d19 := hd 5 19 (by kernel_rfl) rfl
      have e19 : ev (.tmp 19) = .pointer (some ⟨gv, 1, none⟩) := d19.2.trans (hJ.vals 5 (by decide) (by decide) d19.1)
      clear d19
      have d17 := hd 2 17 (by kernel_rfl) rfl
      have e17 : ev (.tmp 17) = .bool (k != -1) := d17.2.trans (hJ.vals 2 (by decide) (by decide) d17.1)
      clear d17
      clear hfr hd
      have x1 := hJ.blk.at 1 rfl
      have f1 := hJ.blk.frozen 1
      refine opS_hid (fun Rp HR => ?_)
      unfold OpS
      go_simp
      rw [HR.out]
      exact hJ.sto1 rfl
  · intro vs w5 hJ
    have k0 := hJ.vals 0 (by decide) (by decide) rfl
    have k1 := hJ.vals 1 (by decide) (by decide) rfl
    have k2 := hJ.vals 2 (by decide) (by decide) rfl
    have k3 := hJ.vals 3 (by decide) (by decide) rfl
    have k5 := hJ.vals 5 (by decide) (by decide) rfl
    have hB : Blk w5 gv 40 #[.bool false, .bool (k != -1), .slice (some ⟨g, 0, none⟩) n n, .slice (some ⟨h, 0, none⟩) n n] := hJ.blk
    have hF := hJ.below
    clear hJ
    simp only [List.take_succ_cons, List.take_zero, List.drop_succ_cons, List.drop_zero, putAll, Act.put, List.setIfInBounds_toArray, List.set_cons_zero, List.set_cons_succ, k0, k1, k2, k3, k5, Nat.reduceAdd, Nat.reduceSub]
    clear k0 k1 k2 k3 k5
    unfold wpList
    have gL := hL1.lt
    have hFW := hF.mono hb2s
    have JX := BJ3.low hF (by omega)
    have SX := BS3.low hF (by omega)
    have RX := BR3.low hF (by omega)
    have NG5 := NG3.move (hF.block g gN)
    have NH5 := NH3.move (hF.block h hN)
    have hL5 := hL3.move (hF.block gl (by omega))
    have hP5 : Phs w5 W.heap.size A P := (hP1.stay hb3).stay hFW
    have hbF : Below w.heap.size w w5 := bW.trans ((hb3.trans hFW).mono hWl)
    have hgvs := hB.lt
    clear hF BJ3 BS3 BV3 BR3 BV BR BJ BS bW BW NG NH NG3 NH3 hL hL1 hL3 hP1 hP3 hP hb3
    have s0 := SX.at 0 rfl
    have j0 := JX.at 0 rfl
    go_wp2_with fail
    clear s0 j0
    have hW5 : W.heap.size ≤ w5.heap.size := by omega
    go_loopw [33] (fun v wr => ∃ i : Nat, i ≤ n ∧ v = .int .i64 i ∧ Below W.heap.size w5 wr ∧ Blk wr gv 40 #[.bool false, .bool (k != -1), .slice (some ⟨g, 0, none⟩) n n, .slice (some ⟨h, 0, none⟩) n n] ∧ NxB wr g (fillL cf n i) ∧ NxB wr h (fillL nf n i)) (fun v _ => n - (intOf v).toNat)
    case atStart => exact ⟨0, by omega, rfl, Below.refl _ _, hB, by rw [fill_zero]; exact NG5, by rw [fill_zero]; exact NH5⟩
    case round =>
      obtain ⟨i, hi, rfl, bR, RV, RG, RH⟩ := hrel
      by_cases hlt : i < n
      · have hltZ : (i : Int) < n := by omega
        obtain ⟨l0, l1, _, _⟩ := (hL5.move (bR.block gl (by omega))).at (i := i) (by have := HLI.out; omega)
        obtain ⟨bA, oA, rfl, hbA, hXr⟩ := (hP5.stay bR).at (i := i) (by have := HN.out; omega)
        have hpx := HPO.out i hlt
        have hlx := HLO.out i hlt
        have HCI := Lib.hid (HCF.out i)
        have HNI := Lib.hid (HNF.out i)
        change _ = some (Value.int .i64 (lmp c.li i)) at l0
        change _ = some (Value.int .i64 (tck c.li i)) at l1
        generalize phAt P i = x at hXr hpx hlx HCI HNI
        generalize lmp c.li i = lm at l0 hlx HCI HNI
        generalize tck c.li i = tk at l1 hlx HNI
        have HTB := Lib.hid (show 0 ≤ tk ∧ tk ≤ 1073741824 by have := (LiOk.bd hpx hlx).2.2; omega)
        have HPX := Lib.hid hpx
        clear hpx hlx
        have Jr := JX.low bR (by omega)
        have X10 := Blk.new (w := wr) (t := 67) (cs := #[.int .i64 lm, .int .i64 tk])
        have hbx := lat_alloc (Below.refl wr.heap.size wr) (.cells #[.int .i64 lm, .int .i64 tk] 67)
        go_wp2_with fail
        clear l0 l1
        have bRx := bR.trans (hbx.mono (Nat.le_trans hW5 bR.size))
        have hXx := hXr.block (bRx.block bA hbA |>.trans (bR.block bA hbA).symm)
        have RVx := RV.below hbx
        have RGx := RG.below hbx
        have RHx := RH.below hbx
        have Jx := Jr.below hbx
        have hsr := bR.size
        clear hbx hXr RV RG RH Jr bR
        generalize wr.alloc (.cells #[.int .i64 lm, .int .i64 tk] 67) = W7 at *
        generalize hgx : wr.heap.size = gx at *
        have hWgx : w5.heap.size ≤ gx := by omega
        clear hgx hsr
        refine (red_any lm tk _).mono ?_
        rintro e W8 ⟨rfl, hb8⟩
        have bR8 := bRx.trans (hb8.mono (Nat.le_trans hW5 bRx.size))
        have hX9 := hXx.block (bR8.block bA hbA |>.trans (bRx.block bA hbA).symm)
        have RV8 := RVx.below hb8
        have RG8 := RGx.below hb8
        have RH8 := RHx.below hb8
        have Jr8 := Jx.below hb8
        have X8 := X10.below hb8
        clear hb8 hXx RVx RGx RHx Jx X10 bRx
        by_cases hr : redB lm = true
        · rw [hr]
          have hcv : cf i = lm := by
            rw [← HCI.out]
            have : lm = 1 ∨ lm = 2 := of_decide_eq_true hr
            unfold colV; rw [if_pos this]
          have HCV := Lib.hid hcv
          clear hr hcv
          have r2 := RV8.at 2 rfl
          have x0 := X8.at 0 rfl
          have hbA8 : bA < W8.heap.size := Nat.lt_of_lt_of_le hbA (Nat.le_trans hW5 bR8.size)
          have hgx8 : gx < W8.heap.size := X8.lt
          have hs8 := bR8.size
          go_wp2_with (refine step_store_nx (by rfl) (by rfl) (by rfl) (g := g) (i := i) (by rfl) (by rfl) RG8 (show i < (fillL cf n i).length by rw [fill_len]; exact hlt) ?_; intro W9 RG9x hg9; have bR9 : Below W.heap.size w5 W9 := Below.grown bR8 hg9 (Nat.le_trans hW5 hs8) (fun q e => (by injection e with e; omega)))
          have RG9 : NxB W9 g (fillL cf n (i + 1)) := by
            rw [← HCV.out, fill_set cf hlt] at RG9x
            exact RG9x
          have RV9 := RV8.grown hg9 (by intro e; injection e with e; omega)
          have RH9 := RH8.grown hg9 (by intro e; injection e with e; omega)
          have Jr9 := Jr8.grown hg9 (by intro e; injection e with e; omega)
          have X9 := X8.grown hg9 (by intro e; injection e with e; omega)
          have hX9 := hX9.block (bR9.block bA hbA |>.trans (bR8.block bA hbA).symm)
          have hbA9 : bA < W9.heap.size := X9.lt |> fun _ => Nat.lt_of_lt_of_le hbA (Nat.le_trans hW5 bR9.size)
          clear r2 x0 RG9x RV8 RH8 Jr8 X8 RG8 bR8 hg9 hs8 hgx8 hbA8
          refine wp_region_pre (R := Bl) 11 59 [fun v _ => v = .pointer (some ⟨gv, 3, none⟩), fun v _ => v = .slice (some ⟨h, 0, none⟩) n n, fun v _ => v = .int .i64 i, fun v _ => v = .pointer (some ⟨w.heap.size, 0, none⟩), fun v _ => v = .slice (some ⟨bA, oA, none⟩) n cP, fun v _ => v = .int .i64 i, fun v _ => v = .pointer (some ⟨bA, oA + i * 8, none⟩), fun v _ => v = .agg #[.int .i64 x.ri, .int .i64 x.gr, .int .i64 x.mn, .int .i64 x.mx, .int .i64 x.yl, .int .i64 x.rd, .int .i64 x.wk, .int .i64 x.cl], fun v _ => v = .agg #[.int .i64 lm, .int .i64 tk], fun v _ => v = .int .i64 (countV x lm tk), fun v _ => v = .pointer (some ⟨h, i, none⟩)] (Bl.trans) (Bl.drew) (by kernel_rfl) (fun _ _ d _ _ h => by cases d <;> exact h) rfl (by kernel_rfl) (stay_cons (stays_v _) (stay_cons (stays_v _) (stay_cons (stays_v _) (stay_cons (stays_v _) (stay_cons (stays_v _) (stay_cons (stays_v _) (stay_cons (stays_v _) (stay_cons (stays_v _) (stay_cons (stays_v _) (stay_cons (stays_v _) (stay_cons (stays_v _) (stay_nil)))))))))))) ?_ ?_
          · simp only [List.take_succ_cons, List.take_zero]
            refine steps_cons (Bl.refl) (fun ev xw hb hc hf hfr hd hr => ?_) ?_
            · have e7 : ev (.tmp 7) = .pointer (some ⟨gv, 0, none⟩) := hfr 7 (by kernel_rfl)
              clear hfr hd
              show OpOk _ _ ev xw fun v w' => Bl xw w' ∧ (v = .pointer (some ⟨gv, 3, none⟩))
              refine opOk_hid (fun Rp HR => ?_)
              unfold OpOk
              go_simp
              rw [HR.out]
              exact ⟨hr, rfl⟩
            refine steps_cons (Bl.refl) (fun ev xw hb hc hf hfr hd hr => ?_) ?_
            · have e46 : ev (.tmp 46) = .pointer (some ⟨gv, 3, none⟩) := hd 0 46 (by kernel_rfl)
              clear hfr hd
              have r3 := (RV9.below hb).at 3 rfl
              show OpOk _ _ ev xw fun v w' => Bl xw w' ∧ (v = .slice (some ⟨h, 0, none⟩) n n)
              refine opOk_hid (fun Rp HR => ?_)
              unfold OpOk
              go_simp
              rw [HR.out]
              exact ⟨hr, rfl⟩
            refine steps_cons (Bl.refl) (fun ev xw hb hc hf hfr hd hr => ?_) ?_
            · have e8 : ev (.tmp 8) = .int .i64 i := hfr 8 (by kernel_rfl)
              clear hfr hd
              show OpOk _ _ ev xw fun v w' => Bl xw w' ∧ (v = .int .i64 i)
              refine opOk_hid (fun Rp HR => ?_)
              unfold OpOk
              go_simp
              rw [HR.out]
              exact ⟨hr, rfl⟩
            refine steps_cons (Bl.refl) (fun ev xw hb hc hf hfr hd hr => ?_) ?_
            · have e3 : ev (.tmp 3) = .pointer (some ⟨w.heap.size, 0, none⟩) := hfr 3 (by kernel_rfl)
              clear hfr hd
              show OpOk _ _ ev xw fun v w' => Bl xw w' ∧ (v = .pointer (some ⟨w.heap.size, 0, none⟩))
              refine opOk_hid (fun Rp HR => ?_)
              unfold OpOk
              go_simp
              rw [HR.out]
              exact ⟨hr, rfl⟩
            refine steps_cons (Bl.refl) (fun ev xw hb hc hf hfr hd hr => ?_) ?_
            · have e49 : ev (.tmp 49) = .pointer (some ⟨w.heap.size, 0, none⟩) := hd 3 49 (by kernel_rfl)
              clear hfr hd
              have j0 := (Jr9.below hb).at 0 rfl
              show OpOk _ _ ev xw fun v w' => Bl xw w' ∧ (v = .slice (some ⟨bA, oA, none⟩) n cP)
              refine opOk_hid (fun Rp HR => ?_)
              unfold OpOk
              go_simp
              rw [HR.out]
              exact ⟨hr, rfl⟩
            refine steps_cons (Bl.refl) (fun ev xw hb hc hf hfr hd hr => ?_) ?_
            · have e8 : ev (.tmp 8) = .int .i64 i := hfr 8 (by kernel_rfl)
              clear hfr hd
              show OpOk _ _ ev xw fun v w' => Bl xw w' ∧ (v = .int .i64 i)
              refine opOk_hid (fun Rp HR => ?_)
              unfold OpOk
              go_simp
              rw [HR.out]
              exact ⟨hr, rfl⟩
            refine steps_cons (Bl.refl) (fun ev xw hb hc hf hfr hd hr => ?_) ?_
            · have e50 : ev (.tmp 50) = .slice (some ⟨bA, oA, none⟩) n cP := hd 4 50 (by kernel_rfl)
              have e51 : ev (.tmp 51) = .int .i64 i := hd 5 51 (by kernel_rfl)
              clear hfr hd
              show OpOk _ _ ev xw fun v w' => Bl xw w' ∧ (v = .pointer (some ⟨bA, oA + i * 8, none⟩))
              refine opOk_hid (fun Rp HR => ?_)
              unfold OpOk
              go_simp
              rw [HR.out]
              exact ⟨hr, rfl⟩
            refine steps_cons (Bl.refl) (fun ev xw hb hc hf hfr hd hr => ?_) ?_
            · have e52 : ev (.tmp 52) = .pointer (some ⟨bA, oA + i * 8, none⟩) := hd 6 52 (by kernel_rfl)
              clear hfr hd
              obtain ⟨x0, x1, x2, x3, x4, x5, x6, x7⟩ := hX9.block (hb.block bA hbA9)
              show OpOk _ _ ev xw fun v w' => Bl xw w' ∧ (v = .agg #[.int .i64 x.ri, .int .i64 x.gr, .int .i64 x.mn, .int .i64 x.mx, .int .i64 x.yl, .int .i64 x.rd, .int .i64 x.wk, .int .i64 x.cl])
              refine opOk_hid (fun Rp HR => ?_)
              unfold OpOk
              go_simp
              rw [HR.out]
              exact ⟨hr, rfl⟩
            refine steps_cons (Bl.refl) (fun ev xw hb hc hf hfr hd hr => ?_) ?_
            · have e9 : ev (.tmp 9) = .pointer (some ⟨gx, 0, none⟩) := hfr 9 (by kernel_rfl)
              clear hfr hd
              have y0 := (X9.below hb).at 0 rfl
              have y1 := (X9.below hb).at 1 rfl
              show OpOk _ _ ev xw fun v w' => Bl xw w' ∧ (v = .agg #[.int .i64 lm, .int .i64 tk])
              refine opOk_hid (fun Rp HR => ?_)
              unfold OpOk
              go_simp
              rw [HR.out]
              exact ⟨hr, rfl⟩
            refine steps_cons (Bl.refl) (fun ev xw hb hc hf hfr hd hr => ?_) ?_
            · have e53 : ev (.tmp 53) = .agg #[.int .i64 x.ri, .int .i64 x.gr, .int .i64 x.mn, .int .i64 x.mx, .int .i64 x.yl, .int .i64 x.rd, .int .i64 x.wk, .int .i64 x.cl] := hd 7 53 (by kernel_rfl)
              have e54 : ev (.tmp 54) = .agg #[.int .i64 lm, .int .i64 tk] := hd 8 54 (by kernel_rfl)
              clear hfr hd
              show OpOk _ _ ev xw fun v w' => Bl xw w' ∧ (v = .int .i64 (countV x lm tk))
              refine opOk_hid (fun Rp HR => ?_)
              unfold OpOk
              go_simp
              refine (count_any x lm tk xw HPX.out HTB.out).mono ?_
              rintro e w'' ⟨rfl, hw⟩
              refine ⟨_, rfl, ?_⟩
              rw [HR.out]
              exact ⟨hw, rfl⟩
            refine steps_cons (Bl.refl) (fun ev xw hb hc hf hfr hd hr => ?_) ?_
            · have e47 : ev (.tmp 47) = .slice (some ⟨h, 0, none⟩) n n := hd 1 47 (by kernel_rfl)
              have e48 : ev (.tmp 48) = .int .i64 i := hd 2 48 (by kernel_rfl)
              clear hfr hd
              show OpOk _ _ ev xw fun v w' => Bl xw w' ∧ (v = .pointer (some ⟨h, i, none⟩))
              refine opOk_hid (fun Rp HR => ?_)
              unfold OpOk
              go_simp
              rw [HR.out]
              exact ⟨hr, rfl⟩
            exact steps_nil
          · intro vs W10 hb10 hk
            have k9 : vs 9 = .int .i64 (countV x lm tk) := hk 9 (by omega)
            have k10 : vs 10 = .pointer (some ⟨h, i, none⟩) := hk 10 (by omega)
            clear hk
            simp only [List.take_succ_cons, List.take_zero, List.drop_succ_cons, List.drop_zero, putAll, Act.put, List.setIfInBounds_toArray, List.set_cons_zero, List.set_cons_succ, k9, k10, Nat.reduceAdd, Nat.reduceSub]
            clear k9 k10
            have RH10 := RH9.below hb10
            refine step_store_nx (by rfl) (by rfl) (by rfl) (g := h) (i := i) (by rfl) (by rfl) RH10 (show i < (fillL nf n i).length by rw [fill_len]; exact hlt) ?_
            intro W11 RH11 hg11
            unfold wpList
            have RG11 := (RG9.below hb10).grown hg11 (by intro e; injection e with e; omega)
            have RV11 := (RV9.below hb10).grown hg11 (by intro e; injection e with e; omega)
            have bR10 : Below W.heap.size w5 W10 := bR9.trans (hb10.mono (Nat.le_trans hW5 bR9.size))
            have bR11 : Below W.heap.size w5 W11 := Below.grown bR10 hg11 (Nat.le_trans hW5 bR10.size) (fun q e => by injection e with e; omega)
            have HR11 : NxB W11 h (fillL nf n (i + 1)) := by
              have e : countV x lm tk = nf i := HNI.out
              rw [e, fill_set nf hlt] at RH11
              exact RH11
            go_wp2
            go_roundw
            case rel => exact ⟨i + 1, hlt, by go_num, bR11, RV11, RG11, HR11⟩
            case measure => simp [intOf]; omega
        · have hrf : redB lm = false := by simpa using hr
          rw [hrf]
          have hcv : cf i = 0 := by
            rw [← HCI.out]
            have : ¬ (lm = 1 ∨ lm = 2) := fun e => hr (decide_eq_true e)
            unfold colV; rw [if_neg this]
          clear hr hrf
          have RG9 : NxB W8 g (fillL cf n (i + 1)) := by rw [← fill_skip cf hlt hcv]; exact RG8
          have RV9 := RV8
          have RH9 := RH8
          have Jr9 := Jr8
          have X9 := X8
          have bR9 := bR8
          have hbA9 : bA < W8.heap.size := Nat.lt_of_lt_of_le hbA (Nat.le_trans hW5 bR9.size)
          clear hcv RV8 RH8 Jr8 X8 RG8 bR8
          go_wp2_with fail
          refine wp_region_pre (R := Bl) 11 59 [fun v _ => v = .pointer (some ⟨gv, 3, none⟩), fun v _ => v = .slice (some ⟨h, 0, none⟩) n n, fun v _ => v = .int .i64 i, fun v _ => v = .pointer (some ⟨w.heap.size, 0, none⟩), fun v _ => v = .slice (some ⟨bA, oA, none⟩) n cP, fun v _ => v = .int .i64 i, fun v _ => v = .pointer (some ⟨bA, oA + i * 8, none⟩), fun v _ => v = .agg #[.int .i64 x.ri, .int .i64 x.gr, .int .i64 x.mn, .int .i64 x.mx, .int .i64 x.yl, .int .i64 x.rd, .int .i64 x.wk, .int .i64 x.cl], fun v _ => v = .agg #[.int .i64 lm, .int .i64 tk], fun v _ => v = .int .i64 (countV x lm tk), fun v _ => v = .pointer (some ⟨h, i, none⟩)] (Bl.trans) (Bl.drew) (by kernel_rfl) (fun _ _ d _ _ h => by cases d <;> exact h) rfl (by kernel_rfl) (stay_cons (stays_v _) (stay_cons (stays_v _) (stay_cons (stays_v _) (stay_cons (stays_v _) (stay_cons (stays_v _) (stay_cons (stays_v _) (stay_cons (stays_v _) (stay_cons (stays_v _) (stay_cons (stays_v _) (stay_cons (stays_v _) (stay_cons (stays_v _) (stay_nil)))))))))))) ?_ ?_
          · simp only [List.take_succ_cons, List.take_zero]
            refine steps_cons (Bl.refl) (fun ev xw hb hc hf hfr hd hr => ?_) ?_
            · have e7 : ev (.tmp 7) = .pointer (some ⟨gv, 0, none⟩) := hfr 7 (by kernel_rfl)
              clear hfr hd
              show OpOk _ _ ev xw fun v w' => Bl xw w' ∧ (v = .pointer (some ⟨gv, 3, none⟩))
              refine opOk_hid (fun Rp HR => ?_)
              unfold OpOk
              go_simp
              rw [HR.out]
              exact ⟨hr, rfl⟩
            refine steps_cons (Bl.refl) (fun ev xw hb hc hf hfr hd hr => ?_) ?_
            · have e46 : ev (.tmp 46) = .pointer (some ⟨gv, 3, none⟩) := hd 0 46 (by kernel_rfl)
              clear hfr hd
              have r3 := (RV9.below hb).at 3 rfl
              show OpOk _ _ ev xw fun v w' => Bl xw w' ∧ (v = .slice (some ⟨h, 0, none⟩) n n)
              refine opOk_hid (fun Rp HR => ?_)
              unfold OpOk
              go_simp
              rw [HR.out]
              exact ⟨hr, rfl⟩
            refine steps_cons (Bl.refl) (fun ev xw hb hc hf hfr hd hr => ?_) ?_
            · have e8 : ev (.tmp 8) = .int .i64 i := hfr 8 (by kernel_rfl)
              clear hfr hd
              show OpOk _ _ ev xw fun v w' => Bl xw w' ∧ (v = .int .i64 i)
              refine opOk_hid (fun Rp HR => ?_)
              unfold OpOk
              go_simp
              rw [HR.out]
              exact ⟨hr, rfl⟩
            refine steps_cons (Bl.refl) (fun ev xw hb hc hf hfr hd hr => ?_) ?_
            · have e3 : ev (.tmp 3) = .pointer (some ⟨w.heap.size, 0, none⟩) := hfr 3 (by kernel_rfl)
              clear hfr hd
              show OpOk _ _ ev xw fun v w' => Bl xw w' ∧ (v = .pointer (some ⟨w.heap.size, 0, none⟩))
              refine opOk_hid (fun Rp HR => ?_)
              unfold OpOk
              go_simp
              rw [HR.out]
              exact ⟨hr, rfl⟩
            refine steps_cons (Bl.refl) (fun ev xw hb hc hf hfr hd hr => ?_) ?_
            · have e49 : ev (.tmp 49) = .pointer (some ⟨w.heap.size, 0, none⟩) := hd 3 49 (by kernel_rfl)
              clear hfr hd
              have j0 := (Jr9.below hb).at 0 rfl
              show OpOk _ _ ev xw fun v w' => Bl xw w' ∧ (v = .slice (some ⟨bA, oA, none⟩) n cP)
              refine opOk_hid (fun Rp HR => ?_)
              unfold OpOk
              go_simp
              rw [HR.out]
              exact ⟨hr, rfl⟩
            refine steps_cons (Bl.refl) (fun ev xw hb hc hf hfr hd hr => ?_) ?_
            · have e8 : ev (.tmp 8) = .int .i64 i := hfr 8 (by kernel_rfl)
              clear hfr hd
              show OpOk _ _ ev xw fun v w' => Bl xw w' ∧ (v = .int .i64 i)
              refine opOk_hid (fun Rp HR => ?_)
              unfold OpOk
              go_simp
              rw [HR.out]
              exact ⟨hr, rfl⟩
            refine steps_cons (Bl.refl) (fun ev xw hb hc hf hfr hd hr => ?_) ?_
            · have e50 : ev (.tmp 50) = .slice (some ⟨bA, oA, none⟩) n cP := hd 4 50 (by kernel_rfl)
              have e51 : ev (.tmp 51) = .int .i64 i := hd 5 51 (by kernel_rfl)
              clear hfr hd
              show OpOk _ _ ev xw fun v w' => Bl xw w' ∧ (v = .pointer (some ⟨bA, oA + i * 8, none⟩))
              refine opOk_hid (fun Rp HR => ?_)
              unfold OpOk
              go_simp
              rw [HR.out]
              exact ⟨hr, rfl⟩
            refine steps_cons (Bl.refl) (fun ev xw hb hc hf hfr hd hr => ?_) ?_
            · have e52 : ev (.tmp 52) = .pointer (some ⟨bA, oA + i * 8, none⟩) := hd 6 52 (by kernel_rfl)
              clear hfr hd
              obtain ⟨x0, x1, x2, x3, x4, x5, x6, x7⟩ := hX9.block (hb.block bA hbA9)
              show OpOk _ _ ev xw fun v w' => Bl xw w' ∧ (v = .agg #[.int .i64 x.ri, .int .i64 x.gr, .int .i64 x.mn, .int .i64 x.mx, .int .i64 x.yl, .int .i64 x.rd, .int .i64 x.wk, .int .i64 x.cl])
              refine opOk_hid (fun Rp HR => ?_)
              unfold OpOk
              go_simp
              rw [HR.out]
              exact ⟨hr, rfl⟩
            refine steps_cons (Bl.refl) (fun ev xw hb hc hf hfr hd hr => ?_) ?_
            · have e9 : ev (.tmp 9) = .pointer (some ⟨gx, 0, none⟩) := hfr 9 (by kernel_rfl)
              clear hfr hd
              have y0 := (X9.below hb).at 0 rfl
              have y1 := (X9.below hb).at 1 rfl
              show OpOk _ _ ev xw fun v w' => Bl xw w' ∧ (v = .agg #[.int .i64 lm, .int .i64 tk])
              refine opOk_hid (fun Rp HR => ?_)
              unfold OpOk
              go_simp
              rw [HR.out]
              exact ⟨hr, rfl⟩
            refine steps_cons (Bl.refl) (fun ev xw hb hc hf hfr hd hr => ?_) ?_
            · have e53 : ev (.tmp 53) = .agg #[.int .i64 x.ri, .int .i64 x.gr, .int .i64 x.mn, .int .i64 x.mx, .int .i64 x.yl, .int .i64 x.rd, .int .i64 x.wk, .int .i64 x.cl] := hd 7 53 (by kernel_rfl)
              have e54 : ev (.tmp 54) = .agg #[.int .i64 lm, .int .i64 tk] := hd 8 54 (by kernel_rfl)
              clear hfr hd
              show OpOk _ _ ev xw fun v w' => Bl xw w' ∧ (v = .int .i64 (countV x lm tk))
              refine opOk_hid (fun Rp HR => ?_)
              unfold OpOk
              go_simp
              refine (count_any x lm tk xw HPX.out HTB.out).mono ?_
              rintro e w'' ⟨rfl, hw⟩
              refine ⟨_, rfl, ?_⟩
              rw [HR.out]
              exact ⟨hw, rfl⟩
            refine steps_cons (Bl.refl) (fun ev xw hb hc hf hfr hd hr => ?_) ?_
            · have e47 : ev (.tmp 47) = .slice (some ⟨h, 0, none⟩) n n := hd 1 47 (by kernel_rfl)
              have e48 : ev (.tmp 48) = .int .i64 i := hd 2 48 (by kernel_rfl)
              clear hfr hd
              show OpOk _ _ ev xw fun v w' => Bl xw w' ∧ (v = .pointer (some ⟨h, i, none⟩))
              refine opOk_hid (fun Rp HR => ?_)
              unfold OpOk
              go_simp
              rw [HR.out]
              exact ⟨hr, rfl⟩
            exact steps_nil
          · intro vs W10 hb10 hk
            have k9 : vs 9 = .int .i64 (countV x lm tk) := hk 9 (by omega)
            have k10 : vs 10 = .pointer (some ⟨h, i, none⟩) := hk 10 (by omega)
            clear hk
            simp only [List.take_succ_cons, List.take_zero, List.drop_succ_cons, List.drop_zero, putAll, Act.put, List.setIfInBounds_toArray, List.set_cons_zero, List.set_cons_succ, k9, k10, Nat.reduceAdd, Nat.reduceSub]
            clear k9 k10
            have RH10 := RH9.below hb10
            refine step_store_nx (by rfl) (by rfl) (by rfl) (g := h) (i := i) (by rfl) (by rfl) RH10 (show i < (fillL nf n i).length by rw [fill_len]; exact hlt) ?_
            intro W11 RH11 hg11
            unfold wpList
            have RG11 := (RG9.below hb10).grown hg11 (by intro e; injection e with e; omega)
            have RV11 := (RV9.below hb10).grown hg11 (by intro e; injection e with e; omega)
            have bR10 : Below W.heap.size w5 W10 := bR9.trans (hb10.mono (Nat.le_trans hW5 bR9.size))
            have bR11 : Below W.heap.size w5 W11 := Below.grown bR10 hg11 (Nat.le_trans hW5 bR10.size) (fun q e => by injection e with e; omega)
            have HR11 : NxB W11 h (fillL nf n (i + 1)) := by
              have e : countV x lm tk = nf i := HNI.out
              rw [e, fill_set nf hlt] at RH11
              exact RH11
            go_wp2
            go_roundw
            case rel => exact ⟨i + 1, hlt, by go_num, bR11, RV11, RG11, HR11⟩
            case measure => simp [intOf]; omega
      · have hltZ : ¬ (i : Int) < n := by omega
        have he : i = n := by omega
        subst he
        have RXr := RX.low bR (by omega)
        have v0 := RV.at 0 rfl
        have v1 := RV.at 1 rfl
        have v2 := RV.at 2 rfl
        have v3 := RV.at 3 rfl
        have hsr := bR.size
        go_wp2_with (refine step_store_v (by rfl) (by rfl) (by rfl) (b := w.heap.size + 1 + 1 + 1) (by rfl) (by rfl) RXr ?_; intro W9 RX9 hg9)
        refine bodyPost_ret (results_cell rfl rfl (load_view RX9)) rfl ?_
        have hF : Below w.heap.size w wr := hbF.trans (bR.mono hWl)
        exact ⟨g, h, rfl, Below.grown hF hg9 hF.size (fun q e => by injection e with e; omega), by omega, by omega, hgh, RG.grown hg9 (by intro e; injection e with e; omega), RH.grown hg9 (by intro e; injection e with e; omega)⟩
end Go.Proofs.Ytmgifmdpjlefcaa
