/-
  A copy of a control; the first control of a junction. Conditions: at least one phase.
-/
import Derived.Test.YtkpbkahmbbkcdaaCt
namespace Go.Proofs.Ytkpbkahmbbkcdaa
open Go.ChangeShapes Go.WideShapes Go.RowKit
set_option linter.unusedVariables false

theorem load_control {w : World} {g : Nat} {a b c d : Value} (h : Blk w g 25 #[a, b, c, d]) : (loadVar 25 ⟨g, 0, none⟩).run Try.prog w = .ok (.agg #[a, b, c, d]) w := by
  have c0 := Blk.cell h 0
  have c1 := Blk.cell h 1
  have c2 := Blk.cell h 2
  have c3 := Blk.cell h 3
  go_simp
theorem Blk.set4 {w : World} {g : Nat} {t : TypeId} {a b c d : Value} (h : Blk w g t #[a, b, c, d]) (a' b' c' d' : Value) :
    Blk ((((w.setCell ⟨g, 0, none⟩ a').setCell ⟨g, 1, none⟩ b').setCell ⟨g, 2, none⟩ c').setCell ⟨g, 3, none⟩ d') g t #[a', b', c', d'] := (((h.set_ 0 a').set_ 1 b').set_ 2 c').set_ 3 d'
theorem step_store_ct {ops : Array Oper} {o : Oper} {a : Act} {w : World} {rest : List Oper} {Q : Exit → Act → World → Prop} (hgd : o.guard = none) {p v : Operand} (ho : o.op = .store 25 p v) (hd : o.dst = none) {b : Nat} {A1 A2 : Option Addr} {n1 m1 n2 m2 : Nat} {gr wt : Int} {x0 y0 z0 u0 : Value} (hp : a.eval p = .pointer (some ⟨b, 0, none⟩)) (hv : a.eval v = .agg #[.slice A1 n1 m1, .int .i64 gr, .slice A2 n2 m2, .int .i64 wt]) (hB : Blk w b 25 #[x0, y0, z0, u0])
    (h : ∀ w' : World, Blk w' b 25 #[.slice A1 n1 m1, .int .i64 gr, .slice A2 n2 m2, .int .i64 wt] → w.grownBy w' (some b) → wpList Try.prog ops Q rest a w') :
    wpList Try.prog ops Q (o :: rest) a w := by
  unfold wpList
  have hw : Region.wanted o (yielded ops a.tmps) = true := by unfold Region.wanted; rw [hgd]
  rw [if_pos hw]
  refine .inl ?_
  have f0 := hB.frozen 0
  have f1 := hB.frozen 1
  have f2 := hB.frozen 2
  have f3 := hB.frozen 3
  have c0 := hB.at 0 rfl
  have c1 := hB.at 1 rfl
  have c2 := hB.at 2 rfl
  have c3 := hB.at 3 rfl
  have hk := h _ (hB.set4 (.slice A1 n1 m1) (.int .i64 gr) (.slice A2 n2 m2) (.int .i64 wt)) (grownBy_setAt (grownBy_setAt (grownBy_setAt (grownBy_set w b 0 _) b 1 _ rfl) b 2 _ rfl) b 3 _ rfl)
  unfold Oper.wp
  simp only [execOp, ho, hp, hv]
  go_simp
  all_goals (first | exact hk | (simp [Act.put, hd]; exact hk))
set_option maxRecDepth 20000 in
set_option maxHeartbeats 2000000 in
theorem copy_any (A N0 : Option Addr) (cA cN n : Nat) (c : Ct) (w : World) (hn0 : c.li.length = n) (hn20 : c.nx.length = 2) (hL0 : Prs w w.heap.size A c.li) (hN0 : Ints .i64 w w.heap.size N0 c.nx) (h1 : 0 < n) (h8 : n ≤ 60) :
    Calls Try.prog 34 #[.agg #[.slice A n cA, .int .i64 c.gr, .slice N0 2 cN, .int .i64 c.wt]] w fun e w' => ∃ v, e = .returned v ∧ Below w.heap.size w w' ∧ CtH w' w.heap.size n v c := by
  have hn := Lib.hid hn0
  have hn2 := Lib.hid hn20
  clear hn0 hn20
  have bW := lat_alloc (lat_alloc (Below.refl w.heap.size w) (.cells #[.slice A n cA, .int .i64 c.gr, .slice N0 2 cN, .int .i64 c.wt] 25)) (.cells #[.slice none 0 0, .int .i64 0, .slice none 0 0, .int .i64 0] 25)
  have B1 := (Blk.new (w := w) (t := 25) (cs := #[.slice A n cA, .int .i64 c.gr, .slice N0 2 cN, .int .i64 c.wt])).alloc (.cells #[.slice none 0 0, .int .i64 0, .slice none 0 0, .int .i64 0] 25)
  have B2 := Blk.new (w := w.alloc (.cells #[.slice A n cA, .int .i64 c.gr, .slice N0 2 cN, .int .i64 c.wt] 25)) (t := 25) (cs := #[.slice none 0 0, .int .i64 0, .slice none 0 0, .int .i64 0])
  rw [heap_size] at B2
  have hL := hL0.grow bW
  have hN := hN0.grow bW
  go_enter Try.func34, Try.ntmps34
  go_wp2_with fail
  generalize (w.alloc (.cells #[.slice A n cA, .int .i64 c.gr, .slice N0 2 cN, .int .i64 c.wt] 25)).alloc (.cells #[.slice none 0 0, .int .i64 0, .slice none 0 0, .int .i64 0] 25) = W at *
  have hgg : w.heap.size + 1 < W.heap.size := B2.lt
  clear hL0 hN0
  refine wp_region_pre (R := Bl) 11 14 [fun v _ => v = .pointer (some ⟨w.heap.size, 0, none⟩), fun v _ => v = .slice A n cA, fun v w => ∃ g cap : Nat, v = .slice (some ⟨g, 0, none⟩) n cap ∧ LiB w g c.li ∧ (W.heap.size ≤ g ∧ n ≤ cap), fun v _ => v = .pointer (some ⟨w.heap.size, 1, none⟩), fun v _ => v = .int .i64 c.gr, fun v _ => v = .pointer (some ⟨w.heap.size, 2, none⟩), fun v _ => v = .slice N0 2 cN, fun v w => ∃ g cap : Nat, v = .slice (some ⟨g, 0, none⟩) 2 cap ∧ NxB w g c.nx ∧ W.heap.size ≤ g, fun v _ => v = .pointer (some ⟨w.heap.size, 3, none⟩), fun v _ => v = .int .i64 c.wt, fun v w => CtH w W.heap.size n v c] (Bl.trans) (Bl.drew) (by kernel_rfl) (fun _ _ d _ _ h => by cases d <;> exact h) rfl (by kernel_rfl) (stay_cons (stays_v _) (stay_cons (stays_v _) (stay_cons (fun v w w1 h hb => by obtain ⟨g, cap, h1, h2, h3⟩ := h; exact ⟨g, cap, h1, h2.below hb, h3⟩) (stay_cons (stays_v _) (stay_cons (stays_v _) (stay_cons (stays_v _) (stay_cons (stays_v _) (stay_cons (fun v w w1 h hb => by obtain ⟨g, cap, h1, h2, h3⟩ := h; exact ⟨g, cap, h1, h2.below hb, h3⟩) (stay_cons (stays_v _) (stay_cons (stays_v _) (stay_cons (fun v w w1 h hb => CtH.below h hb) (stay_nil)))))))))))) ?_ ?_
  · simp only [List.take_succ_cons, List.take_zero]
    refine steps_cons (Bl.refl) (fun ev xw hb hc hf hfr hd hr => ?_) ?_
    · have e1 : ev (.tmp 1) = .pointer (some ⟨w.heap.size, 0, none⟩) := hfr 1 (by kernel_rfl)
      clear hfr hd
      show OpOk _ _ ev xw fun v w' => Bl xw w' ∧ (v = .pointer (some ⟨w.heap.size, 0, none⟩))
      refine opOk_hid (fun Rp HR => ?_)
      unfold OpOk
      go_simp
      rw [HR.out]
      exact ⟨hr, rfl⟩
    refine steps_cons (Bl.refl) (fun ev xw hb hc hf hfr hd hr => ?_) ?_
    · have e3 : ev (.tmp 3) = .pointer (some ⟨w.heap.size, 0, none⟩) := hd 0 3 (by kernel_rfl)
      clear hfr hd
      have k0 := (B1.below hb).at 0 rfl
      show OpOk _ _ ev xw fun v w' => Bl xw w' ∧ (v = .slice A n cA)
      refine opOk_hid (fun Rp HR => ?_)
      unfold OpOk
      go_simp
      rw [HR.out]
      exact ⟨hr, rfl⟩
    refine steps_cons (Bl.refl) (fun ev xw hb hc hf hfr hd hr => ?_) ?_
    · have e4 : ev (.tmp 4) = .slice A n cA := hd 1 4 (by kernel_rfl)
      clear hfr hd
      show OpOk _ _ ev xw fun v w' => Bl xw w' ∧ (∃ g cap : Nat, v = .slice (some ⟨g, 0, none⟩) n cap ∧ LiB w' g c.li ∧ (W.heap.size ≤ g ∧ n ≤ cap))
      refine opOk_hid (fun Rp HR => ?_)
      obtain ⟨g, cap, w', hr', hl', hb', hg', hcap⟩ := copy_li (w := xw) (c := cA) 22 (hL.grow hb) hn.out h1 (by omega)
      exact opOk_append rfl (hc _) e4 hr' (by rw [HR.out]; exact ⟨hb', g, cap, rfl, hl', Nat.le_trans (Below.size hb) hg', hcap⟩)
    refine steps_cons (Bl.refl) (fun ev xw hb hc hf hfr hd hr => ?_) ?_
    · have e1 : ev (.tmp 1) = .pointer (some ⟨w.heap.size, 0, none⟩) := hfr 1 (by kernel_rfl)
      clear hfr hd
      show OpOk _ _ ev xw fun v w' => Bl xw w' ∧ (v = .pointer (some ⟨w.heap.size, 1, none⟩))
      refine opOk_hid (fun Rp HR => ?_)
      unfold OpOk
      go_simp
      rw [HR.out]
      exact ⟨hr, rfl⟩
    refine steps_cons (Bl.refl) (fun ev xw hb hc hf hfr hd hr => ?_) ?_
    · have e6 : ev (.tmp 6) = .pointer (some ⟨w.heap.size, 1, none⟩) := hd 3 6 (by kernel_rfl)
      clear hfr hd
      have k1 := (B1.below hb).at 1 rfl
      show OpOk _ _ ev xw fun v w' => Bl xw w' ∧ (v = .int .i64 c.gr)
      refine opOk_hid (fun Rp HR => ?_)
      unfold OpOk
      go_simp
      rw [HR.out]
      exact ⟨hr, rfl⟩
    refine steps_cons (Bl.refl) (fun ev xw hb hc hf hfr hd hr => ?_) ?_
    · have e1 : ev (.tmp 1) = .pointer (some ⟨w.heap.size, 0, none⟩) := hfr 1 (by kernel_rfl)
      clear hfr hd
      show OpOk _ _ ev xw fun v w' => Bl xw w' ∧ (v = .pointer (some ⟨w.heap.size, 2, none⟩))
      refine opOk_hid (fun Rp HR => ?_)
      unfold OpOk
      go_simp
      rw [HR.out]
      exact ⟨hr, rfl⟩
    refine steps_cons (Bl.refl) (fun ev xw hb hc hf hfr hd hr => ?_) ?_
    · have e8 : ev (.tmp 8) = .pointer (some ⟨w.heap.size, 2, none⟩) := hd 5 8 (by kernel_rfl)
      clear hfr hd
      have k2 := (B1.below hb).at 2 rfl
      show OpOk _ _ ev xw fun v w' => Bl xw w' ∧ (v = .slice N0 2 cN)
      refine opOk_hid (fun Rp HR => ?_)
      unfold OpOk
      go_simp
      rw [HR.out]
      exact ⟨hr, rfl⟩
    refine steps_cons (Bl.refl) (fun ev xw hb hc hf hfr hd hr => ?_) ?_
    · have e9 : ev (.tmp 9) = .slice N0 2 cN := hd 6 9 (by kernel_rfl)
      clear hfr hd
      show OpOk _ _ ev xw fun v w' => Bl xw w' ∧ (∃ g cap : Nat, v = .slice (some ⟨g, 0, none⟩) 2 cap ∧ NxB w' g c.nx ∧ W.heap.size ≤ g)
      refine opOk_hid (fun Rp HR => ?_)
      obtain ⟨g, cap, w', hr', hl', hb', hg'⟩ := copy_nx (w := xw) (c := cN) 23 (hN.grow hb) hn2.out (by omega) (by omega)
      exact opOk_append rfl (hc _) e9 hr' (by rw [HR.out]; exact ⟨hb', g, cap, rfl, hl', Nat.le_trans (Below.size hb) hg'⟩)
    refine steps_cons (Bl.refl) (fun ev xw hb hc hf hfr hd hr => ?_) ?_
    · have e1 : ev (.tmp 1) = .pointer (some ⟨w.heap.size, 0, none⟩) := hfr 1 (by kernel_rfl)
      clear hfr hd
      show OpOk _ _ ev xw fun v w' => Bl xw w' ∧ (v = .pointer (some ⟨w.heap.size, 3, none⟩))
      refine opOk_hid (fun Rp HR => ?_)
      unfold OpOk
      go_simp
      rw [HR.out]
      exact ⟨hr, rfl⟩
    refine steps_cons (Bl.refl) (fun ev xw hb hc hf hfr hd hr => ?_) ?_
    · have e11 : ev (.tmp 11) = .pointer (some ⟨w.heap.size, 3, none⟩) := hd 8 11 (by kernel_rfl)
      clear hfr hd
      have k3 := (B1.below hb).at 3 rfl
      show OpOk _ _ ev xw fun v w' => Bl xw w' ∧ (v = .int .i64 c.wt)
      refine opOk_hid (fun Rp HR => ?_)
      unfold OpOk
      go_simp
      rw [HR.out]
      exact ⟨hr, rfl⟩
    refine steps_cons (Bl.refl) (fun ev xw hb hc hf hfr hd hr => ?_) ?_
    · obtain ⟨gl, cl, e5, L5, l5⟩ : ∃ g cap : Nat, ev (.tmp 5) = .slice (some ⟨g, 0, none⟩) n cap ∧ LiB xw g c.li ∧ (W.heap.size ≤ g ∧ n ≤ cap) := hd 2 5 (by kernel_rfl)
      have e7 : ev (.tmp 7) = .int .i64 c.gr := hd 4 7 (by kernel_rfl)
      obtain ⟨gx, cx, e10, L10, l10⟩ : ∃ g cap : Nat, ev (.tmp 10) = .slice (some ⟨g, 0, none⟩) 2 cap ∧ NxB xw g c.nx ∧ W.heap.size ≤ g := hd 7 10 (by kernel_rfl)
      have e12 : ev (.tmp 12) = .int .i64 c.wt := hd 9 12 (by kernel_rfl)
      clear hfr hd
      show OpOk _ _ ev xw fun v w' => Bl xw w' ∧ (CtH w' W.heap.size n v c)
      refine opOk_hid (fun Rp HR => ?_)
      unfold OpOk
      go_simp
      rw [HR.out]
      exact ⟨hr, gl, cl, gx, cx, rfl, l5, l10, L5, L10⟩
    exact steps_nil
  · intro vs W5 hb5 hk
    obtain ⟨gl, cl, gx, cx, k1, l5, l10, L5, L10⟩ : CtH W5 W.heap.size n (vs 10) c := hk 10 (by omega)
    clear hk
    simp only [List.take_succ_cons, List.take_zero, List.drop_succ_cons, List.drop_zero, putAll, Act.put, List.setIfInBounds_toArray, List.set_cons_zero, List.set_cons_succ, k1, Nat.reduceAdd]
    have X2 := B2.below hb5
    refine step_store_ct (by rfl) (by rfl) (by rfl) (b := w.heap.size + 1) (by rfl) (by rfl) X2 ?_
    intro w6 Y2 hg6
    have hbF : Below w.heap.size w w6 := Below.grown (bW.trans (Below.mono hb5 bW.size)) hg6 (Below.size (bW.trans (Below.mono hb5 bW.size))) (fun k e => by injection e with e; omega)
    have hWl : W.heap.size ≤ W5.heap.size := Below.size hb5
    unfold wpList
    go_wp2
    refine bodyPost_ret (results_cell rfl rfl (load_control Y2)) rfl ?_
    exact ⟨_, rfl, hbF, gl, cl, gx, cx, rfl, by omega, by omega, L5.grown hg6 (by intro e; injection e with e; omega), L10.grown hg6 (by intro e; injection e with e; omega)⟩
end Go.Proofs.Ytkpbkahmbbkcdaa
