/-
  The other side's order of two claims. Conditions: small numbers.
-/
import Derived.Test.YtikffoepndpfjaaRk
import Derived.Test.YtikffoepndpfjaaMh
namespace Go.Proofs.Ytikffoepndpfjaa
open Go.ChangeShapes Go.WideShapes Go.RowKit
set_option linter.unusedVariables false

/-- One step of the region: a call after which the world only grew. -/
def Stp (a b : World) : Prop := Below a.heap.size a b
theorem Blk.stp {w w' : World} {g : Nat} {t : TypeId} {cs : Array Value} (h : Blk w g t cs) (hb : Stp w w') : Blk w' g t cs := h.below hb
theorem blk_new2 {w : World} {o : Obj} {t : TypeId} {cs : Array Value} : Blk ((w.alloc o).alloc (.cells cs t)) (w.heap.size + 1) t cs := by
  have B := Blk.new (w := w.alloc o) (t := t) (cs := cs)
  rw [heap_size] at B
  exact B
theorem step_store5 {ops : Array Oper} {o : Oper} {a : Act} {w : World} {rest : List Oper} {Q : Exit → Act → World → Prop} (hgd : o.guard = none) {p v : Operand} (ho : o.op = .store 64 p v) (hd : o.dst = none) {b : Nat} {per cap : Int} {l : List Int} {now : Int} {x : Cl} (hp : a.eval p = .pointer (some ⟨b, 0, none⟩)) (hv : a.eval v = .agg (keyV per cap l now x)) (hB : Blk w b 64 #[.int .i64 0, .int .i64 0, .int .i64 0, .int .i64 0, .int .i64 0])
    (h : ∀ w' : World, Blk w' b 64 (keyV per cap l now x) → w.grownBy w' (some b) → wpList Try.prog ops Q rest a w') :
    wpList Try.prog ops Q (o :: rest) a w := by
  unfold wpList
  have hw : Region.wanted o (yielded ops a.tmps) = true := by unfold Region.wanted; rw [hgd]
  rw [if_pos hw]
  refine .inl ?_
  have f0 := hB.frozen 0
  have f1 := hB.frozen 1
  have f2 := hB.frozen 2
  have f3 := hB.frozen 3
  have f4 := hB.frozen 4
  have c0 := hB.at 0 rfl
  have c1 := hB.at 1 rfl
  have c2 := hB.at 2 rfl
  have c3 := hB.at 3 rfl
  have c4 := hB.at 4 rfl
  have hk := h _ (hB.set5_ _ _ _ _ _) (grownBy_setAt (grownBy_setAt (grownBy_setAt (grownBy_setAt (grownBy_set w b 0 _) b 1 _ rfl) b 2 _ rfl) b 3 _ rfl) b 4 _ rfl)
  simp only [keyV, keyC, keyL, List.map] at hv
  unfold Oper.wp
  simp only [execOp, ho, hp, hv]
  go_simp
  all_goals (first | exact hk | (simp [Act.put, hd]; exact hk))
theorem wp_seq_mid {P : Program} {x : Code} {K0 : Act → World → Prop} {Q : Exit → Act → World → Prop} {a : Act} {w : World} (K : Act → World → Prop) (h : x.wp P (Exit.then K Q) a w) (hy : ∀ a w, K a w → K0 a w) : x.wp P (Exit.then K0 Q) a w :=
  (wp_mono h fun e a w hq => by
    cases e <;> first | exact hy _ _ hq | exact hq)
set_option maxHeartbeats 100000000 in
theorem rless_any (per cap hold lock sp sg : Int) (A : Option Addr) (c n : Nat) (l : List Int) (now : Int) (x y : Cl) (w : World) (hn : l.length = n) (hs : Ints .i64 w w.heap.size A l) (hl : n ≤ 1000000) (hS : Small l) (hper : 1 ≤ per ∧ per ≤ 10000) (hcap : 0 ≤ cap ∧ cap ≤ 1000) (hlock : 0 ≤ lock ∧ lock ≤ 1000) (hnow : 0 ≤ now ∧ now ≤ 10000) (hx : ClOk x) (hy : ClOk y) (hst : startV l x.ph x.si ≤ now) (hst' : startV l y.ph y.si ≤ now) :
    Calls Try.prog 41 #[.agg #[.slice none 0 0, .slice none 0 0, .int .i64 per, .int .i64 cap, .int .i64 hold, .int .i64 lock], .agg #[.int .i64 sp, .int .i64 sg, .slice A n c], .int .i64 now, .agg #[.int .i64 x.ag, .int .i64 x.id, .int .i64 x.ph, .int .i64 x.cl, .int .i64 x.si], .agg #[.int .i64 y.ag, .int .i64 y.id, .int .i64 y.ph, .int .i64 y.cl, .int .i64 y.si]] w fun e w' => e = .returned (.bool (lessC per cap l now x y)) ∧ Below w.heap.size w w' := by
  have hn0 := Lib.hid hn
  clear hn
  have bW := lat_alloc (lat_alloc (lat_alloc (lat_alloc (Below.refl w.heap.size w) (.cells #[.slice none 0 0, .slice none 0 0, .int .i64 per, .int .i64 cap, .int .i64 hold, .int .i64 lock] 33)) (.cells #[.int .i64 sp, .int .i64 sg, .slice A n c] 24)) (.cells #[.int .i64 x.ag, .int .i64 x.id, .int .i64 x.ph, .int .i64 x.cl, .int .i64 x.si] 47)) (.cells #[.int .i64 y.ag, .int .i64 y.id, .int .i64 y.ph, .int .i64 y.cl, .int .i64 y.si] 47)
  have B0 := (((Blk.new (w := w) (t := 33) (cs := #[.slice none 0 0, .slice none 0 0, .int .i64 per, .int .i64 cap, .int .i64 hold, .int .i64 lock])).alloc (.cells #[.int .i64 sp, .int .i64 sg, .slice A n c] 24)).alloc (.cells #[.int .i64 x.ag, .int .i64 x.id, .int .i64 x.ph, .int .i64 x.cl, .int .i64 x.si] 47)).alloc (.cells #[.int .i64 y.ag, .int .i64 y.id, .int .i64 y.ph, .int .i64 y.cl, .int .i64 y.si] 47)
  have B1 := ((Blk.new (w := w.alloc (.cells #[.slice none 0 0, .slice none 0 0, .int .i64 per, .int .i64 cap, .int .i64 hold, .int .i64 lock] 33)) (t := 24) (cs := #[.int .i64 sp, .int .i64 sg, .slice A n c])).alloc (.cells #[.int .i64 x.ag, .int .i64 x.id, .int .i64 x.ph, .int .i64 x.cl, .int .i64 x.si] 47)).alloc (.cells #[.int .i64 y.ag, .int .i64 y.id, .int .i64 y.ph, .int .i64 y.cl, .int .i64 y.si] 47)
  have B2 := (Blk.new (w := (w.alloc (.cells #[.slice none 0 0, .slice none 0 0, .int .i64 per, .int .i64 cap, .int .i64 hold, .int .i64 lock] 33)).alloc (.cells #[.int .i64 sp, .int .i64 sg, .slice A n c] 24)) (t := 47) (cs := #[.int .i64 x.ag, .int .i64 x.id, .int .i64 x.ph, .int .i64 x.cl, .int .i64 x.si])).alloc (.cells #[.int .i64 y.ag, .int .i64 y.id, .int .i64 y.ph, .int .i64 y.cl, .int .i64 y.si] 47)
  have B3 := Blk.new (w := ((w.alloc (.cells #[.slice none 0 0, .slice none 0 0, .int .i64 per, .int .i64 cap, .int .i64 hold, .int .i64 lock] 33)).alloc (.cells #[.int .i64 sp, .int .i64 sg, .slice A n c] 24)).alloc (.cells #[.int .i64 x.ag, .int .i64 x.id, .int .i64 x.ph, .int .i64 x.cl, .int .i64 x.si] 47)) (t := 47) (cs := #[.int .i64 y.ag, .int .i64 y.id, .int .i64 y.ph, .int .i64 y.cl, .int .i64 y.si])
  rw [heap_size] at B1
  rw [heap_size, heap_size] at B2
  rw [heap_size, heap_size, heap_size] at B3
  have hs1 := hs.grow bW
  go_enter Try.func41, Try.ntmps41
  go_wp2_with fail
  generalize (((w.alloc (.cells #[.slice none 0 0, .slice none 0 0, .int .i64 per, .int .i64 cap, .int .i64 hold, .int .i64 lock] 33)).alloc (.cells #[.int .i64 sp, .int .i64 sg, .slice A n c] 24)).alloc (.cells #[.int .i64 x.ag, .int .i64 x.id, .int .i64 x.ph, .int .i64 x.cl, .int .i64 x.si] 47)).alloc (.cells #[.int .i64 y.ag, .int .i64 y.id, .int .i64 y.ph, .int .i64 y.cl, .int .i64 y.si] 47) = W at *
  have a0 := B0.laterN 0 rfl
  have a1 := B0.laterN 1 rfl
  have a2 := B0.laterN 2 rfl
  have a3 := B0.laterN 3 rfl
  have a4 := B0.laterN 4 rfl
  have a5 := B0.laterN 5 rfl
  have b0 := B1.laterN 0 rfl
  have b1 := B1.laterN 1 rfl
  have b2 := B1.laterN 2 rfl
  have d0 := B2.laterN 0 rfl
  have d1 := B2.laterN 1 rfl
  have d2 := B2.laterN 2 rfl
  have d3 := B2.laterN 3 rfl
  have d4 := B2.laterN 4 rfl
  have e0 := B3.laterN 0 rfl
  have e1 := B3.laterN 1 rfl
  have e2 := B3.laterN 2 rfl
  have e3 := B3.laterN 3 rfl
  have e4 := B3.laterN 4 rfl
  have hd0 : W.heap.size ≤ W.drew.heap.size := Nat.le_refl _
  refine wp_seq_mid (fun a' w' => ∃ (b1 b2 : Nat) (v14 v15 v16 v17 v18 v19 v20 v21 v22 v23 : Value), a' = { tmps := #[.agg #[.slice none 0 0, .slice none 0 0, .int .i64 per, .int .i64 cap, .int .i64 hold, .int .i64 lock], .agg #[.int .i64 sp, .int .i64 sg, .slice A n c], .int .i64 now, .agg #[.int .i64 x.ag, .int .i64 x.id, .int .i64 x.ph, .int .i64 x.cl, .int .i64 x.si], .agg #[.int .i64 y.ag, .int .i64 y.id, .int .i64 y.ph, .int .i64 y.cl, .int .i64 y.si], .pointer (some ⟨w.heap.size, 0, none⟩), .pointer (some ⟨w.heap.size + 1, 0, none⟩), undef, .pointer (some ⟨w.heap.size + 1 + 1, 0, none⟩), .pointer (some ⟨w.heap.size + 1 + 1 + 1, 0, none⟩), .bool false, .pointer (some ⟨b1, 0, none⟩), .pointer (some ⟨b2, 0, none⟩), undef, v14, v15, v16, v17, v18, v19, v20, v21, v22, v23, undef, undef, undef, undef, undef, undef, undef, undef, undef, undef, undef, undef, undef, undef, undef, undef, undef, undef], defers := [] } ∧ Blk w' b1 64 (keyV per cap l now x) ∧ Blk w' b2 64 (keyV per cap l now y) ∧ Below W.heap.size W w') ?_ ?_
  · refine wp_region_pre2 (R := Bl) 12 42 [fun v _ => v = .agg #[.slice none 0 0, .slice none 0 0, .int .i64 per, .int .i64 cap, .int .i64 hold, .int .i64 lock], fun v _ => v = .agg #[.int .i64 sp, .int .i64 sg, .slice A n c], fun v _ => v = .int .i64 now, fun v _ => v = .agg #[.int .i64 x.ag, .int .i64 x.id, .int .i64 x.ph, .int .i64 x.cl, .int .i64 x.si], fun v _ => v = .agg (keyV per cap l now x), fun v _ => v = .agg #[.slice none 0 0, .slice none 0 0, .int .i64 per, .int .i64 cap, .int .i64 hold, .int .i64 lock], fun v _ => v = .agg #[.int .i64 sp, .int .i64 sg, .slice A n c], fun v _ => v = .int .i64 now, fun v _ => v = .agg #[.int .i64 y.ag, .int .i64 y.id, .int .i64 y.ph, .int .i64 y.cl, .int .i64 y.si], fun v _ => v = .agg (keyV per cap l now y), fun v w => ∃ b, v = .pointer (some ⟨b, 0, none⟩) ∧ Blk w b 64 #[.int .i64 0, .int .i64 0, .int .i64 0, .int .i64 0, .int .i64 0] ∧ W.heap.size ≤ b, fun v w => ∃ b, v = .pointer (some ⟨b, 0, none⟩) ∧ Blk w b 64 #[.int .i64 0, .int .i64 0, .int .i64 0, .int .i64 0, .int .i64 0] ∧ W.heap.size ≤ b] (fun k => k == 10 || k == 11) ?_ (Bl.trans) (Bl.drew) (by kernel_rfl) (fun _ _ d _ _ h => by cases d <;> exact h) rfl (by kernel_rfl) (stay_cons (stays_v _) (stay_cons (stays_v _) (stay_cons (stays_v _) (stay_cons (stays_v _) (stay_cons (stays_v _) (stay_cons (stays_v _) (stay_cons (stays_v _) (stay_cons (stays_v _) (stay_cons (stays_v _) (stay_cons (stays_v _) (stay_cons (fun v w w1 h hb => by obtain ⟨b, h1, h2, h3⟩ := h; exact ⟨b, h1, h2.below hb, h3⟩) (stay_cons (fun v w w1 h hb => by obtain ⟨b, h1, h2, h3⟩ := h; exact ⟨b, h1, h2.below hb, h3⟩) (stay_nil))))))))))))) ?_ ?_
    · intro i v w f h
      simp only [Bool.or_eq_true, beq_iff_eq] at f
      rcases f with rfl | rfl
      · obtain ⟨b, h1, h2⟩ : ∃ b, v = .pointer (some ⟨b, 0, none⟩) ∧ Blk w b 64 #[.int .i64 0, .int .i64 0, .int .i64 0, .int .i64 0, .int .i64 0] ∧ W.heap.size ≤ b := h
        first | exact ⟨b, h1, h2.lt⟩ | exact ⟨b, h1, h2.1.lt⟩
      · obtain ⟨b, h1, h2⟩ : ∃ b, v = .pointer (some ⟨b, 0, none⟩) ∧ Blk w b 64 #[.int .i64 0, .int .i64 0, .int .i64 0, .int .i64 0, .int .i64 0] ∧ W.heap.size ≤ b := h
        first | exact ⟨b, h1, h2.lt⟩ | exact ⟨b, h1, h2.1.lt⟩
    · simp only [List.take_succ_cons, List.take_zero]
      refine steps_cons2 (Bl.refl) (fun ev xw hb hc hf hfr hd hr => ?_) ?_
      · have e5 : ev (.tmp 5) = .pointer (some ⟨w.heap.size, 0, none⟩) := hfr 5 (by kernel_rfl)
        clear hfr hd
        have kf0 := (B0.below hb).at 0 rfl
        have kf1 := (B0.below hb).at 1 rfl
        have kf2 := (B0.below hb).at 2 rfl
        have kf3 := (B0.below hb).at 3 rfl
        have kf4 := (B0.below hb).at 4 rfl
        have kf5 := (B0.below hb).at 5 rfl
        show OpOk _ _ ev xw fun v w' => Bl xw w' ∧ (v = .agg #[.slice none 0 0, .slice none 0 0, .int .i64 per, .int .i64 cap, .int .i64 hold, .int .i64 lock]) ∧ Frsh (fun k => k == 10 || k == 11) 0 v xw
        refine opOk_hid (fun Rp HR => ?_)
        unfold OpOk
        go_simp
        rw [HR.out]
        exact ⟨hr, rfl, fun h => absurd h (by decide)⟩
      refine steps_cons2 (Bl.refl) (fun ev xw hb hc hf hfr hd hr => ?_) ?_
      · have e6 : ev (.tmp 6) = .pointer (some ⟨w.heap.size + 1, 0, none⟩) := hfr 6 (by kernel_rfl)
        clear hfr hd
        have ks0 := (B1.below hb).at 0 rfl
        have ks1 := (B1.below hb).at 1 rfl
        have ks2 := (B1.below hb).at 2 rfl
        show OpOk _ _ ev xw fun v w' => Bl xw w' ∧ (v = .agg #[.int .i64 sp, .int .i64 sg, .slice A n c]) ∧ Frsh (fun k => k == 10 || k == 11) 1 v xw
        refine opOk_hid (fun Rp HR => ?_)
        unfold OpOk
        go_simp
        rw [HR.out]
        exact ⟨hr, rfl, fun h => absurd h (by decide)⟩
      refine steps_cons2 (Bl.refl) (fun ev xw hb hc hf hfr hd hr => ?_) ?_
      · have e2 : ev (.tmp 2) = .int .i64 now := hfr 2 (by kernel_rfl)
        clear hfr hd
        show OpOk _ _ ev xw fun v w' => Bl xw w' ∧ (v = .int .i64 now) ∧ Frsh (fun k => k == 10 || k == 11) 2 v xw
        refine opOk_hid (fun Rp HR => ?_)
        unfold OpOk
        go_simp
        rw [HR.out]
        exact ⟨hr, rfl, fun h => absurd h (by decide)⟩
      refine steps_cons2 (Bl.refl) (fun ev xw hb hc hf hfr hd hr => ?_) ?_
      · have e8 : ev (.tmp 8) = .pointer (some ⟨w.heap.size + 1 + 1, 0, none⟩) := hfr 8 (by kernel_rfl)
        clear hfr hd
        have kc0 := (B2.below hb).at 0 rfl
        have kc1 := (B2.below hb).at 1 rfl
        have kc2 := (B2.below hb).at 2 rfl
        have kc3 := (B2.below hb).at 3 rfl
        have kc4 := (B2.below hb).at 4 rfl
        show OpOk _ _ ev xw fun v w' => Bl xw w' ∧ (v = .agg #[.int .i64 x.ag, .int .i64 x.id, .int .i64 x.ph, .int .i64 x.cl, .int .i64 x.si]) ∧ Frsh (fun k => k == 10 || k == 11) 3 v xw
        refine opOk_hid (fun Rp HR => ?_)
        unfold OpOk
        go_simp
        rw [HR.out]
        exact ⟨hr, rfl, fun h => absurd h (by decide)⟩
      refine steps_cons2 (Bl.refl) (fun ev xw hb hc hf hfr hd hr => ?_) ?_
      · have e14 : ev (.tmp 14) = .agg #[.slice none 0 0, .slice none 0 0, .int .i64 per, .int .i64 cap, .int .i64 hold, .int .i64 lock] := hd 0 14 (by kernel_rfl)
        have e15 : ev (.tmp 15) = .agg #[.int .i64 sp, .int .i64 sg, .slice A n c] := hd 1 15 (by kernel_rfl)
        have e16 : ev (.tmp 16) = .int .i64 now := hd 2 16 (by kernel_rfl)
        have e17 : ev (.tmp 17) = .agg #[.int .i64 x.ag, .int .i64 x.id, .int .i64 x.ph, .int .i64 x.cl, .int .i64 x.si] := hd 3 17 (by kernel_rfl)
        clear hfr hd
        show OpOk _ _ ev xw fun v w' => Bl xw w' ∧ (v = .agg (keyV per cap l now x)) ∧ Frsh (fun k => k == 10 || k == 11) 4 v xw
        refine opOk_hid (fun Rp HR => ?_)
        unfold OpOk
        go_simp
        refine (rkey_any per cap hold lock sp sg A c n l now x xw hn0.out (hs1.grow hb) hl hS hper hcap hlock hnow hx hst).mono ?_
        rintro e w'' ⟨rfl, hw⟩
        refine ⟨_, rfl, ?_⟩
        rw [HR.out]
        exact ⟨hw, rfl, fun h => absurd h (by decide)⟩
      refine steps_cons2 (Bl.refl) (fun ev xw hb hc hf hfr hd hr => ?_) ?_
      · have e5 : ev (.tmp 5) = .pointer (some ⟨w.heap.size, 0, none⟩) := hfr 5 (by kernel_rfl)
        clear hfr hd
        have kf0 := (B0.below hb).at 0 rfl
        have kf1 := (B0.below hb).at 1 rfl
        have kf2 := (B0.below hb).at 2 rfl
        have kf3 := (B0.below hb).at 3 rfl
        have kf4 := (B0.below hb).at 4 rfl
        have kf5 := (B0.below hb).at 5 rfl
        show OpOk _ _ ev xw fun v w' => Bl xw w' ∧ (v = .agg #[.slice none 0 0, .slice none 0 0, .int .i64 per, .int .i64 cap, .int .i64 hold, .int .i64 lock]) ∧ Frsh (fun k => k == 10 || k == 11) 5 v xw
        refine opOk_hid (fun Rp HR => ?_)
        unfold OpOk
        go_simp
        rw [HR.out]
        exact ⟨hr, rfl, fun h => absurd h (by decide)⟩
      refine steps_cons2 (Bl.refl) (fun ev xw hb hc hf hfr hd hr => ?_) ?_
      · have e6 : ev (.tmp 6) = .pointer (some ⟨w.heap.size + 1, 0, none⟩) := hfr 6 (by kernel_rfl)
        clear hfr hd
        have ks0 := (B1.below hb).at 0 rfl
        have ks1 := (B1.below hb).at 1 rfl
        have ks2 := (B1.below hb).at 2 rfl
        show OpOk _ _ ev xw fun v w' => Bl xw w' ∧ (v = .agg #[.int .i64 sp, .int .i64 sg, .slice A n c]) ∧ Frsh (fun k => k == 10 || k == 11) 6 v xw
        refine opOk_hid (fun Rp HR => ?_)
        unfold OpOk
        go_simp
        rw [HR.out]
        exact ⟨hr, rfl, fun h => absurd h (by decide)⟩
      refine steps_cons2 (Bl.refl) (fun ev xw hb hc hf hfr hd hr => ?_) ?_
      · have e2 : ev (.tmp 2) = .int .i64 now := hfr 2 (by kernel_rfl)
        clear hfr hd
        show OpOk _ _ ev xw fun v w' => Bl xw w' ∧ (v = .int .i64 now) ∧ Frsh (fun k => k == 10 || k == 11) 7 v xw
        refine opOk_hid (fun Rp HR => ?_)
        unfold OpOk
        go_simp
        rw [HR.out]
        exact ⟨hr, rfl, fun h => absurd h (by decide)⟩
      refine steps_cons2 (Bl.refl) (fun ev xw hb hc hf hfr hd hr => ?_) ?_
      · have e9 : ev (.tmp 9) = .pointer (some ⟨w.heap.size + 1 + 1 + 1, 0, none⟩) := hfr 9 (by kernel_rfl)
        clear hfr hd
        have kc0 := (B3.below hb).at 0 rfl
        have kc1 := (B3.below hb).at 1 rfl
        have kc2 := (B3.below hb).at 2 rfl
        have kc3 := (B3.below hb).at 3 rfl
        have kc4 := (B3.below hb).at 4 rfl
        show OpOk _ _ ev xw fun v w' => Bl xw w' ∧ (v = .agg #[.int .i64 y.ag, .int .i64 y.id, .int .i64 y.ph, .int .i64 y.cl, .int .i64 y.si]) ∧ Frsh (fun k => k == 10 || k == 11) 8 v xw
        refine opOk_hid (fun Rp HR => ?_)
        unfold OpOk
        go_simp
        rw [HR.out]
        exact ⟨hr, rfl, fun h => absurd h (by decide)⟩
      refine steps_cons2 (Bl.refl) (fun ev xw hb hc hf hfr hd hr => ?_) ?_
      · have e19 : ev (.tmp 19) = .agg #[.slice none 0 0, .slice none 0 0, .int .i64 per, .int .i64 cap, .int .i64 hold, .int .i64 lock] := hd 5 19 (by kernel_rfl)
        have e20 : ev (.tmp 20) = .agg #[.int .i64 sp, .int .i64 sg, .slice A n c] := hd 6 20 (by kernel_rfl)
        have e21 : ev (.tmp 21) = .int .i64 now := hd 7 21 (by kernel_rfl)
        have e22 : ev (.tmp 22) = .agg #[.int .i64 y.ag, .int .i64 y.id, .int .i64 y.ph, .int .i64 y.cl, .int .i64 y.si] := hd 8 22 (by kernel_rfl)
        clear hfr hd
        show OpOk _ _ ev xw fun v w' => Bl xw w' ∧ (v = .agg (keyV per cap l now y)) ∧ Frsh (fun k => k == 10 || k == 11) 9 v xw
        refine opOk_hid (fun Rp HR => ?_)
        unfold OpOk
        go_simp
        refine (rkey_any per cap hold lock sp sg A c n l now y xw hn0.out (hs1.grow hb) hl hS hper hcap hlock hnow hy hst').mono ?_
        rintro e w'' ⟨rfl, hw⟩
        refine ⟨_, rfl, ?_⟩
        rw [HR.out]
        exact ⟨hw, rfl, fun h => absurd h (by decide)⟩
      refine steps_cons2 (Bl.refl) (fun ev xw hb hc hf hfr hd hr => ?_) ?_
      · clear hfr hd
        show OpOk _ _ ev xw fun v w' => Bl xw w' ∧ (∃ b, v = .pointer (some ⟨b, 0, none⟩) ∧ Blk w' b 64 #[.int .i64 0, .int .i64 0, .int .i64 0, .int .i64 0, .int .i64 0] ∧ W.heap.size ≤ b) ∧ Frsh (fun k => k == 10 || k == 11) 10 v xw
        refine opOk_hid (fun Rp HR => ?_)
        unfold OpOk
        go_simp
        rw [HR.out]
        exact ⟨lat_alloc (Below.refl _ _) _, ⟨_, rfl, Blk.new, Below.size hb⟩, fun _ => ⟨_, rfl, Nat.le_refl _⟩⟩
      refine steps_cons2 (Bl.refl) (fun ev xw hb hc hf hfr hd hr => ?_) ?_
      · clear hfr hd
        show OpOk _ _ ev xw fun v w' => Bl xw w' ∧ (∃ b, v = .pointer (some ⟨b, 0, none⟩) ∧ Blk w' b 64 #[.int .i64 0, .int .i64 0, .int .i64 0, .int .i64 0, .int .i64 0] ∧ W.heap.size ≤ b) ∧ Frsh (fun k => k == 10 || k == 11) 11 v xw
        refine opOk_hid (fun Rp HR => ?_)
        unfold OpOk
        go_simp
        rw [HR.out]
        exact ⟨lat_alloc (Below.refl _ _) _, ⟨_, rfl, Blk.new, Below.size hb⟩, fun _ => ⟨_, rfl, Nat.le_refl _⟩⟩
      exact steps_nil2
    · intro vs W5 hb5 hk hpw
      have k1 : vs 4 = .agg (keyV per cap l now x) := hk 4 (by omega)
      have k2 : vs 9 = .agg (keyV per cap l now y) := hk 9 (by omega)
      obtain ⟨b1, k3, X1, hl1⟩ : ∃ b, vs 10 = .pointer (some ⟨b, 0, none⟩) ∧ Blk W5 b 64 #[.int .i64 0, .int .i64 0, .int .i64 0, .int .i64 0, .int .i64 0] ∧ W.heap.size ≤ b := hk 10 (by omega)
      obtain ⟨b2, k4, X2, hl2⟩ : ∃ b, vs 11 = .pointer (some ⟨b, 0, none⟩) ∧ Blk W5 b 64 #[.int .i64 0, .int .i64 0, .int .i64 0, .int .i64 0, .int .i64 0] ∧ W.heap.size ≤ b := hk 11 (by omega)
      have hne : b1 ≠ b2 := fun e => hpw 10 11 (by omega) (by omega) (by omega) rfl rfl (by rw [k3, k4, e])
      clear hk hpw
      simp only [List.take_succ_cons, List.take_zero, List.drop_succ_cons, List.drop_zero, putAll, Act.put, List.setIfInBounds_toArray, List.set_cons_zero, List.set_cons_succ, k1, k2, k3, k4, Nat.reduceAdd]
      refine step_store5 (by rfl) (by rfl) (by rfl) (b := b1) (by rfl) (by rfl) X1 ?_
      intro w6 Y1 hg6
      have Y2 := X2.grown hg6 (by intro e; injection e with e; omega)
      clear X1 X2
      refine step_store5 (by rfl) (by rfl) (by rfl) (b := b2) (by rfl) (by rfl) Y2 ?_
      intro w7 Z2 hg7
      have Z1 := Y1.grown hg7 (by intro e; injection e with e; omega)
      have hF1 : Below W.heap.size W w6 := Below.grown hb5 hg6 (Below.size hb5) (fun k e => by injection e with e; omega)
      have hF2 : Below W.heap.size W w7 := Below.grown hF1 hg7 (Below.size hF1) (fun k e => by injection e with e; omega)
      exact ⟨b1, b2, _, _, _, _, _, _, _, _, _, _, rfl, Z1, Z2, hF2⟩
  · rintro a1 w1 ⟨b1, b2, v14, v15, v16, v17, v18, v19, v20, v21, v22, v23, rfl, X1, X2, hbF⟩
    obtain ⟨x0, x1, x2, x3, x4, hkx⟩ : ∃ x0 x1 x2 x3 x4, keyC per cap l now x = [x0, x1, x2, x3, x4] := ⟨_, _, _, _, _, rfl⟩
    obtain ⟨y0, y1, y2, y3, y4, hky⟩ : ∃ x0 x1 x2 x3 x4, keyC per cap l now y = [x0, x1, x2, x3, x4] := ⟨_, _, _, _, _, rfl⟩
    have hlex : lessC per cap l now x y = lexB [x0, x1, x2, x3, x4] [y0, y1, y2, y3, y4] := by rw [lessC, hkx, hky]
    have HLEX := Lib.hid hlex
    clear hlex
    unfold keyV at X1 X2
    rw [hkx] at X1
    rw [hky] at X2
    have X1 : Blk w1 b1 64 #[.int .i64 x0, .int .i64 x1, .int .i64 x2, .int .i64 x3, .int .i64 x4] := X1
    have X2 : Blk w1 b2 64 #[.int .i64 y0, .int .i64 y1, .int .i64 y2, .int .i64 y3, .int .i64 y4] := X2
    clear hkx hky a0 a1 a2 a3 a4 a5 d0 d1 d2 d3 d4 e0 e1 e2 e3 e4
    have bF := bW.trans (hbF.mono bW.size)
    go_wp2
    go_loopw [24] (fun v wr => ∃ k : Nat, k ≤ 5 ∧ v = .int .i64 k ∧ Below w1.heap.size w1 wr ∧ Go.RowKit.Hid ((0 < k → x0 = y0) ∧ (1 < k → x1 = y1) ∧ (2 < k → x2 = y2) ∧ (3 < k → x3 = y3) ∧ (4 < k → x4 = y4))) (fun v _ => 5 - (intOf v).toNat)
    case atStart => exact ⟨0, by omega, rfl, Below.refl _ _, Lib.hid (by omega)⟩
    case round =>
      obtain ⟨k, hk, rfl, hbr, HE⟩ := hrel
      have Y1 := X1.below hbr
      have Y2 := X2.below hbr
      have hc : k = 0 ∨ k = 1 ∨ k = 2 ∨ k = 3 ∨ k = 4 ∨ k = 5 := by omega
      clear hk
      have p0 := Y1.laterN 0 rfl
      have p1 := Y1.laterN 1 rfl
      have p2 := Y1.laterN 2 rfl
      have p3 := Y1.laterN 3 rfl
      have p4 := Y1.laterN 4 rfl
      have q0 := Y2.laterN 0 rfl
      have q1 := Y2.laterN 1 rfl
      have q2 := Y2.laterN 2 rfl
      have q3 := Y2.laterN 3 rfl
      have q4 := Y2.laterN 4 rfl
      rcases hc with rfl | rfl | rfl | rfl | rfl | rfl
      · by_cases h : x0 = y0
        · have z : (x0 != y0) = false := by simp [h]
          have HH := Lib.hid h
          clear h
          go_wp2_with fail
          refine wp_region_grow (by kernel_rfl) (by kernel_rfl) ?_
          repeat' (first
              | go_big_quiet_skip
              | (go_big_quiet_want; first
                  | (go_big_quiet_op; go_big_quiet_on)
                  | (refine quiet_det ?_; apply Exists.intro; refine ⟨fun w' hC => ?_, ?_⟩; (go_simp <;> (first | rfl | exact ⟨rfl, rfl⟩)); apply Exists.intro; refine ⟨?_, ?_⟩; (go_simp <;> (first | rfl | exact ⟨rfl, rfl⟩)); go_big_quiet_on)
                  | (show Oper.quiet _ { dst := _, op := .call { callee := .value _, args := _, argTypes := _ }, type := _, pos := _, after := _, guard := _ } _ _ _; refine quiet_call ?_; apply Exists.intro; apply Exists.intro; refine ⟨fun w' hC => ?_, ?_⟩; (go_simp <;> (first | rfl | exact ⟨rfl, rfl⟩)); apply Exists.intro; refine ⟨fun w' hC => ?_, ?_⟩; (first

                      | fail); apply Exists.intro; refine ⟨?_, ?_⟩; (go_simp <;> (first | rfl | exact ⟨rfl, rfl⟩)); go_big_quiet_on)))
          all_goals refine wpQuiet_nil ?_
          intro w3 hw3
          clear p0 p1 p2 p3 p4 q0 q1 q2 q3 q4
          go_wp2
          go_roundw
          case rel => exact ⟨1, by omega, by go_num, hbr.trans (hw3.mono hbr.size), Lib.hid (by have := HE.out; have := HH.out; omega)⟩
          case measure => simp [intOf]
        · have z : (x0 != y0) = true := by simpa using h
          have HH := Lib.hid h
          clear h
          go_wp2_with fail
          refine wp_region_grow (by kernel_rfl) (by kernel_rfl) ?_
          repeat' (first
              | go_big_quiet_skip
              | (go_big_quiet_want; first
                  | (go_big_quiet_op; go_big_quiet_on)
                  | (refine quiet_det ?_; apply Exists.intro; refine ⟨fun w' hC => ?_, ?_⟩; (go_simp <;> (first | rfl | exact ⟨rfl, rfl⟩)); apply Exists.intro; refine ⟨?_, ?_⟩; (go_simp <;> (first | rfl | exact ⟨rfl, rfl⟩)); go_big_quiet_on)
                  | (show Oper.quiet _ { dst := _, op := .call { callee := .value _, args := _, argTypes := _ }, type := _, pos := _, after := _, guard := _ } _ _ _; refine quiet_call ?_; apply Exists.intro; apply Exists.intro; refine ⟨fun w' hC => ?_, ?_⟩; (go_simp <;> (first | rfl | exact ⟨rfl, rfl⟩)); apply Exists.intro; refine ⟨fun w' hC => ?_, ?_⟩; (first

                      | fail); apply Exists.intro; refine ⟨?_, ?_⟩; (go_simp <;> (first | rfl | exact ⟨rfl, rfl⟩)); go_big_quiet_on)))
          all_goals refine wpQuiet_nil ?_
          intro w3 hw3
          clear p0 p1 p2 p3 p4 q0 q1 q2 q3 q4
          have Z1 := Y1.below hw3
          have Z2 := Y2.below hw3
          have p0 := Z1.laterN 0 rfl
          have p1 := Z1.laterN 1 rfl
          have p2 := Z1.laterN 2 rfl
          have p3 := Z1.laterN 3 rfl
          have p4 := Z1.laterN 4 rfl
          have q0 := Z2.laterN 0 rfl
          have q1 := Z2.laterN 1 rfl
          have q2 := Z2.laterN 2 rfl
          have q3 := Z2.laterN 3 rfl
          have q4 := Z2.laterN 4 rfl
          go_wp2_with fail
          refine wp_region_grow (by kernel_rfl) (by kernel_rfl) ?_
          repeat' (first
              | go_big_quiet_skip
              | (go_big_quiet_want; first
                  | (go_big_quiet_op; go_big_quiet_on)
                  | (refine quiet_det ?_; apply Exists.intro; refine ⟨fun w' hC => ?_, ?_⟩; (go_simp <;> (first | rfl | exact ⟨rfl, rfl⟩)); apply Exists.intro; refine ⟨?_, ?_⟩; (go_simp <;> (first | rfl | exact ⟨rfl, rfl⟩)); go_big_quiet_on)
                  | (show Oper.quiet _ { dst := _, op := .call { callee := .value _, args := _, argTypes := _ }, type := _, pos := _, after := _, guard := _ } _ _ _; refine quiet_call ?_; apply Exists.intro; apply Exists.intro; refine ⟨fun w' hC => ?_, ?_⟩; (go_simp <;> (first | rfl | exact ⟨rfl, rfl⟩)); apply Exists.intro; refine ⟨fun w' hC => ?_, ?_⟩; (first

                      | fail); apply Exists.intro; refine ⟨?_, ?_⟩; (go_simp <;> (first | rfl | exact ⟨rfl, rfl⟩)); go_big_quiet_on)))
          all_goals refine wpQuiet_nil ?_
          intro w4 hw4
          clear p0 p1 p2 p3 p4 q0 q1 q2 q3 q4
          go_wp2
          go_ret
          refine ⟨ret_b ?_, bF.trans ((hbr.trans ((hw3.trans (hw4.mono hw3.size)).mono hbr.size)).mono bF.size)⟩
          rw [HLEX.out]
          obtain ⟨e0, e1, e2, e3, e4⟩ := HE.out
          have hh := HH.out
          clear z
          simp [lexB, *]

      · by_cases h : x1 = y1
        · have z : (x1 != y1) = false := by simp [h]
          have HH := Lib.hid h
          clear h
          go_wp2_with fail
          refine wp_region_grow (by kernel_rfl) (by kernel_rfl) ?_
          repeat' (first
              | go_big_quiet_skip
              | (go_big_quiet_want; first
                  | (go_big_quiet_op; go_big_quiet_on)
                  | (refine quiet_det ?_; apply Exists.intro; refine ⟨fun w' hC => ?_, ?_⟩; (go_simp <;> (first | rfl | exact ⟨rfl, rfl⟩)); apply Exists.intro; refine ⟨?_, ?_⟩; (go_simp <;> (first | rfl | exact ⟨rfl, rfl⟩)); go_big_quiet_on)
                  | (show Oper.quiet _ { dst := _, op := .call { callee := .value _, args := _, argTypes := _ }, type := _, pos := _, after := _, guard := _ } _ _ _; refine quiet_call ?_; apply Exists.intro; apply Exists.intro; refine ⟨fun w' hC => ?_, ?_⟩; (go_simp <;> (first | rfl | exact ⟨rfl, rfl⟩)); apply Exists.intro; refine ⟨fun w' hC => ?_, ?_⟩; (first

                      | fail); apply Exists.intro; refine ⟨?_, ?_⟩; (go_simp <;> (first | rfl | exact ⟨rfl, rfl⟩)); go_big_quiet_on)))
          all_goals refine wpQuiet_nil ?_
          intro w3 hw3
          clear p0 p1 p2 p3 p4 q0 q1 q2 q3 q4
          go_wp2
          go_roundw
          case rel => exact ⟨2, by omega, by go_num, hbr.trans (hw3.mono hbr.size), Lib.hid (by have := HE.out; have := HH.out; omega)⟩
          case measure => simp [intOf]
        · have z : (x1 != y1) = true := by simpa using h
          have HH := Lib.hid h
          clear h
          go_wp2_with fail
          refine wp_region_grow (by kernel_rfl) (by kernel_rfl) ?_
          repeat' (first
              | go_big_quiet_skip
              | (go_big_quiet_want; first
                  | (go_big_quiet_op; go_big_quiet_on)
                  | (refine quiet_det ?_; apply Exists.intro; refine ⟨fun w' hC => ?_, ?_⟩; (go_simp <;> (first | rfl | exact ⟨rfl, rfl⟩)); apply Exists.intro; refine ⟨?_, ?_⟩; (go_simp <;> (first | rfl | exact ⟨rfl, rfl⟩)); go_big_quiet_on)
                  | (show Oper.quiet _ { dst := _, op := .call { callee := .value _, args := _, argTypes := _ }, type := _, pos := _, after := _, guard := _ } _ _ _; refine quiet_call ?_; apply Exists.intro; apply Exists.intro; refine ⟨fun w' hC => ?_, ?_⟩; (go_simp <;> (first | rfl | exact ⟨rfl, rfl⟩)); apply Exists.intro; refine ⟨fun w' hC => ?_, ?_⟩; (first

                      | fail); apply Exists.intro; refine ⟨?_, ?_⟩; (go_simp <;> (first | rfl | exact ⟨rfl, rfl⟩)); go_big_quiet_on)))
          all_goals refine wpQuiet_nil ?_
          intro w3 hw3
          clear p0 p1 p2 p3 p4 q0 q1 q2 q3 q4
          have Z1 := Y1.below hw3
          have Z2 := Y2.below hw3
          have p0 := Z1.laterN 0 rfl
          have p1 := Z1.laterN 1 rfl
          have p2 := Z1.laterN 2 rfl
          have p3 := Z1.laterN 3 rfl
          have p4 := Z1.laterN 4 rfl
          have q0 := Z2.laterN 0 rfl
          have q1 := Z2.laterN 1 rfl
          have q2 := Z2.laterN 2 rfl
          have q3 := Z2.laterN 3 rfl
          have q4 := Z2.laterN 4 rfl
          go_wp2_with fail
          refine wp_region_grow (by kernel_rfl) (by kernel_rfl) ?_
          repeat' (first
              | go_big_quiet_skip
              | (go_big_quiet_want; first
                  | (go_big_quiet_op; go_big_quiet_on)
                  | (refine quiet_det ?_; apply Exists.intro; refine ⟨fun w' hC => ?_, ?_⟩; (go_simp <;> (first | rfl | exact ⟨rfl, rfl⟩)); apply Exists.intro; refine ⟨?_, ?_⟩; (go_simp <;> (first | rfl | exact ⟨rfl, rfl⟩)); go_big_quiet_on)
                  | (show Oper.quiet _ { dst := _, op := .call { callee := .value _, args := _, argTypes := _ }, type := _, pos := _, after := _, guard := _ } _ _ _; refine quiet_call ?_; apply Exists.intro; apply Exists.intro; refine ⟨fun w' hC => ?_, ?_⟩; (go_simp <;> (first | rfl | exact ⟨rfl, rfl⟩)); apply Exists.intro; refine ⟨fun w' hC => ?_, ?_⟩; (first

                      | fail); apply Exists.intro; refine ⟨?_, ?_⟩; (go_simp <;> (first | rfl | exact ⟨rfl, rfl⟩)); go_big_quiet_on)))
          all_goals refine wpQuiet_nil ?_
          intro w4 hw4
          clear p0 p1 p2 p3 p4 q0 q1 q2 q3 q4
          go_wp2
          go_ret
          refine ⟨ret_b ?_, bF.trans ((hbr.trans ((hw3.trans (hw4.mono hw3.size)).mono hbr.size)).mono bF.size)⟩
          rw [HLEX.out]
          obtain ⟨e0, e1, e2, e3, e4⟩ := HE.out
          have hh := HH.out
          clear z
          simp [lexB, *]

      · by_cases h : x2 = y2
        · have z : (x2 != y2) = false := by simp [h]
          have HH := Lib.hid h
          clear h
          go_wp2_with fail
          refine wp_region_grow (by kernel_rfl) (by kernel_rfl) ?_
          repeat' (first
              | go_big_quiet_skip
              | (go_big_quiet_want; first
                  | (go_big_quiet_op; go_big_quiet_on)
                  | (refine quiet_det ?_; apply Exists.intro; refine ⟨fun w' hC => ?_, ?_⟩; (go_simp <;> (first | rfl | exact ⟨rfl, rfl⟩)); apply Exists.intro; refine ⟨?_, ?_⟩; (go_simp <;> (first | rfl | exact ⟨rfl, rfl⟩)); go_big_quiet_on)
                  | (show Oper.quiet _ { dst := _, op := .call { callee := .value _, args := _, argTypes := _ }, type := _, pos := _, after := _, guard := _ } _ _ _; refine quiet_call ?_; apply Exists.intro; apply Exists.intro; refine ⟨fun w' hC => ?_, ?_⟩; (go_simp <;> (first | rfl | exact ⟨rfl, rfl⟩)); apply Exists.intro; refine ⟨fun w' hC => ?_, ?_⟩; (first

                      | fail); apply Exists.intro; refine ⟨?_, ?_⟩; (go_simp <;> (first | rfl | exact ⟨rfl, rfl⟩)); go_big_quiet_on)))
          all_goals refine wpQuiet_nil ?_
          intro w3 hw3
          clear p0 p1 p2 p3 p4 q0 q1 q2 q3 q4
          go_wp2
          go_roundw
          case rel => exact ⟨3, by omega, by go_num, hbr.trans (hw3.mono hbr.size), Lib.hid (by have := HE.out; have := HH.out; omega)⟩
          case measure => simp [intOf]
        · have z : (x2 != y2) = true := by simpa using h
          have HH := Lib.hid h
          clear h
          go_wp2_with fail
          refine wp_region_grow (by kernel_rfl) (by kernel_rfl) ?_
          repeat' (first
              | go_big_quiet_skip
              | (go_big_quiet_want; first
                  | (go_big_quiet_op; go_big_quiet_on)
                  | (refine quiet_det ?_; apply Exists.intro; refine ⟨fun w' hC => ?_, ?_⟩; (go_simp <;> (first | rfl | exact ⟨rfl, rfl⟩)); apply Exists.intro; refine ⟨?_, ?_⟩; (go_simp <;> (first | rfl | exact ⟨rfl, rfl⟩)); go_big_quiet_on)
                  | (show Oper.quiet _ { dst := _, op := .call { callee := .value _, args := _, argTypes := _ }, type := _, pos := _, after := _, guard := _ } _ _ _; refine quiet_call ?_; apply Exists.intro; apply Exists.intro; refine ⟨fun w' hC => ?_, ?_⟩; (go_simp <;> (first | rfl | exact ⟨rfl, rfl⟩)); apply Exists.intro; refine ⟨fun w' hC => ?_, ?_⟩; (first

                      | fail); apply Exists.intro; refine ⟨?_, ?_⟩; (go_simp <;> (first | rfl | exact ⟨rfl, rfl⟩)); go_big_quiet_on)))
          all_goals refine wpQuiet_nil ?_
          intro w3 hw3
          clear p0 p1 p2 p3 p4 q0 q1 q2 q3 q4
          have Z1 := Y1.below hw3
          have Z2 := Y2.below hw3
          have p0 := Z1.laterN 0 rfl
          have p1 := Z1.laterN 1 rfl
          have p2 := Z1.laterN 2 rfl
          have p3 := Z1.laterN 3 rfl
          have p4 := Z1.laterN 4 rfl
          have q0 := Z2.laterN 0 rfl
          have q1 := Z2.laterN 1 rfl
          have q2 := Z2.laterN 2 rfl
          have q3 := Z2.laterN 3 rfl
          have q4 := Z2.laterN 4 rfl
          go_wp2_with fail
          refine wp_region_grow (by kernel_rfl) (by kernel_rfl) ?_
          repeat' (first
              | go_big_quiet_skip
              | (go_big_quiet_want; first
                  | (go_big_quiet_op; go_big_quiet_on)
                  | (refine quiet_det ?_; apply Exists.intro; refine ⟨fun w' hC => ?_, ?_⟩; (go_simp <;> (first | rfl | exact ⟨rfl, rfl⟩)); apply Exists.intro; refine ⟨?_, ?_⟩; (go_simp <;> (first | rfl | exact ⟨rfl, rfl⟩)); go_big_quiet_on)
                  | (show Oper.quiet _ { dst := _, op := .call { callee := .value _, args := _, argTypes := _ }, type := _, pos := _, after := _, guard := _ } _ _ _; refine quiet_call ?_; apply Exists.intro; apply Exists.intro; refine ⟨fun w' hC => ?_, ?_⟩; (go_simp <;> (first | rfl | exact ⟨rfl, rfl⟩)); apply Exists.intro; refine ⟨fun w' hC => ?_, ?_⟩; (first

                      | fail); apply Exists.intro; refine ⟨?_, ?_⟩; (go_simp <;> (first | rfl | exact ⟨rfl, rfl⟩)); go_big_quiet_on)))
          all_goals refine wpQuiet_nil ?_
          intro w4 hw4
          clear p0 p1 p2 p3 p4 q0 q1 q2 q3 q4
          go_wp2
          go_ret
          refine ⟨ret_b ?_, bF.trans ((hbr.trans ((hw3.trans (hw4.mono hw3.size)).mono hbr.size)).mono bF.size)⟩
          rw [HLEX.out]
          obtain ⟨e0, e1, e2, e3, e4⟩ := HE.out
          have hh := HH.out
          clear z
          simp [lexB, *]

      · by_cases h : x3 = y3
        · have z : (x3 != y3) = false := by simp [h]
          have HH := Lib.hid h
          clear h
          go_wp2_with fail
          refine wp_region_grow (by kernel_rfl) (by kernel_rfl) ?_
          repeat' (first
              | go_big_quiet_skip
              | (go_big_quiet_want; first
                  | (go_big_quiet_op; go_big_quiet_on)
                  | (refine quiet_det ?_; apply Exists.intro; refine ⟨fun w' hC => ?_, ?_⟩; (go_simp <;> (first | rfl | exact ⟨rfl, rfl⟩)); apply Exists.intro; refine ⟨?_, ?_⟩; (go_simp <;> (first | rfl | exact ⟨rfl, rfl⟩)); go_big_quiet_on)
                  | (show Oper.quiet _ { dst := _, op := .call { callee := .value _, args := _, argTypes := _ }, type := _, pos := _, after := _, guard := _ } _ _ _; refine quiet_call ?_; apply Exists.intro; apply Exists.intro; refine ⟨fun w' hC => ?_, ?_⟩; (go_simp <;> (first | rfl | exact ⟨rfl, rfl⟩)); apply Exists.intro; refine ⟨fun w' hC => ?_, ?_⟩; (first

                      | fail); apply Exists.intro; refine ⟨?_, ?_⟩; (go_simp <;> (first | rfl | exact ⟨rfl, rfl⟩)); go_big_quiet_on)))
          all_goals refine wpQuiet_nil ?_
          intro w3 hw3
          clear p0 p1 p2 p3 p4 q0 q1 q2 q3 q4
          go_wp2
          go_roundw
          case rel => exact ⟨4, by omega, by go_num, hbr.trans (hw3.mono hbr.size), Lib.hid (by have := HE.out; have := HH.out; omega)⟩
          case measure => simp [intOf]
        · have z : (x3 != y3) = true := by simpa using h
          have HH := Lib.hid h
          clear h
          go_wp2_with fail
          refine wp_region_grow (by kernel_rfl) (by kernel_rfl) ?_
          repeat' (first
              | go_big_quiet_skip
              | (go_big_quiet_want; first
                  | (go_big_quiet_op; go_big_quiet_on)
                  | (refine quiet_det ?_; apply Exists.intro; refine ⟨fun w' hC => ?_, ?_⟩; (go_simp <;> (first | rfl | exact ⟨rfl, rfl⟩)); apply Exists.intro; refine ⟨?_, ?_⟩; (go_simp <;> (first | rfl | exact ⟨rfl, rfl⟩)); go_big_quiet_on)
                  | (show Oper.quiet _ { dst := _, op := .call { callee := .value _, args := _, argTypes := _ }, type := _, pos := _, after := _, guard := _ } _ _ _; refine quiet_call ?_; apply Exists.intro; apply Exists.intro; refine ⟨fun w' hC => ?_, ?_⟩; (go_simp <;> (first | rfl | exact ⟨rfl, rfl⟩)); apply Exists.intro; refine ⟨fun w' hC => ?_, ?_⟩; (first

                      | fail); apply Exists.intro; refine ⟨?_, ?_⟩; (go_simp <;> (first | rfl | exact ⟨rfl, rfl⟩)); go_big_quiet_on)))
          all_goals refine wpQuiet_nil ?_
          intro w3 hw3
          clear p0 p1 p2 p3 p4 q0 q1 q2 q3 q4
          have Z1 := Y1.below hw3
          have Z2 := Y2.below hw3
          have p0 := Z1.laterN 0 rfl
          have p1 := Z1.laterN 1 rfl
          have p2 := Z1.laterN 2 rfl
          have p3 := Z1.laterN 3 rfl
          have p4 := Z1.laterN 4 rfl
          have q0 := Z2.laterN 0 rfl
          have q1 := Z2.laterN 1 rfl
          have q2 := Z2.laterN 2 rfl
          have q3 := Z2.laterN 3 rfl
          have q4 := Z2.laterN 4 rfl
          go_wp2_with fail
          refine wp_region_grow (by kernel_rfl) (by kernel_rfl) ?_
          repeat' (first
              | go_big_quiet_skip
              | (go_big_quiet_want; first
                  | (go_big_quiet_op; go_big_quiet_on)
                  | (refine quiet_det ?_; apply Exists.intro; refine ⟨fun w' hC => ?_, ?_⟩; (go_simp <;> (first | rfl | exact ⟨rfl, rfl⟩)); apply Exists.intro; refine ⟨?_, ?_⟩; (go_simp <;> (first | rfl | exact ⟨rfl, rfl⟩)); go_big_quiet_on)
                  | (show Oper.quiet _ { dst := _, op := .call { callee := .value _, args := _, argTypes := _ }, type := _, pos := _, after := _, guard := _ } _ _ _; refine quiet_call ?_; apply Exists.intro; apply Exists.intro; refine ⟨fun w' hC => ?_, ?_⟩; (go_simp <;> (first | rfl | exact ⟨rfl, rfl⟩)); apply Exists.intro; refine ⟨fun w' hC => ?_, ?_⟩; (first

                      | fail); apply Exists.intro; refine ⟨?_, ?_⟩; (go_simp <;> (first | rfl | exact ⟨rfl, rfl⟩)); go_big_quiet_on)))
          all_goals refine wpQuiet_nil ?_
          intro w4 hw4
          clear p0 p1 p2 p3 p4 q0 q1 q2 q3 q4
          go_wp2
          go_ret
          refine ⟨ret_b ?_, bF.trans ((hbr.trans ((hw3.trans (hw4.mono hw3.size)).mono hbr.size)).mono bF.size)⟩
          rw [HLEX.out]
          obtain ⟨e0, e1, e2, e3, e4⟩ := HE.out
          have hh := HH.out
          clear z
          simp [lexB, *]

      · by_cases h : x4 = y4
        · have z : (x4 != y4) = false := by simp [h]
          have HH := Lib.hid h
          clear h
          go_wp2_with fail
          refine wp_region_grow (by kernel_rfl) (by kernel_rfl) ?_
          repeat' (first
              | go_big_quiet_skip
              | (go_big_quiet_want; first
                  | (go_big_quiet_op; go_big_quiet_on)
                  | (refine quiet_det ?_; apply Exists.intro; refine ⟨fun w' hC => ?_, ?_⟩; (go_simp <;> (first | rfl | exact ⟨rfl, rfl⟩)); apply Exists.intro; refine ⟨?_, ?_⟩; (go_simp <;> (first | rfl | exact ⟨rfl, rfl⟩)); go_big_quiet_on)
                  | (show Oper.quiet _ { dst := _, op := .call { callee := .value _, args := _, argTypes := _ }, type := _, pos := _, after := _, guard := _ } _ _ _; refine quiet_call ?_; apply Exists.intro; apply Exists.intro; refine ⟨fun w' hC => ?_, ?_⟩; (go_simp <;> (first | rfl | exact ⟨rfl, rfl⟩)); apply Exists.intro; refine ⟨fun w' hC => ?_, ?_⟩; (first

                      | fail); apply Exists.intro; refine ⟨?_, ?_⟩; (go_simp <;> (first | rfl | exact ⟨rfl, rfl⟩)); go_big_quiet_on)))
          all_goals refine wpQuiet_nil ?_
          intro w3 hw3
          clear p0 p1 p2 p3 p4 q0 q1 q2 q3 q4
          go_wp2
          go_roundw
          case rel => exact ⟨5, by omega, by go_num, hbr.trans (hw3.mono hbr.size), Lib.hid (by have := HE.out; have := HH.out; omega)⟩
          case measure => simp [intOf]
        · have z : (x4 != y4) = true := by simpa using h
          have HH := Lib.hid h
          clear h
          go_wp2_with fail
          refine wp_region_grow (by kernel_rfl) (by kernel_rfl) ?_
          repeat' (first
              | go_big_quiet_skip
              | (go_big_quiet_want; first
                  | (go_big_quiet_op; go_big_quiet_on)
                  | (refine quiet_det ?_; apply Exists.intro; refine ⟨fun w' hC => ?_, ?_⟩; (go_simp <;> (first | rfl | exact ⟨rfl, rfl⟩)); apply Exists.intro; refine ⟨?_, ?_⟩; (go_simp <;> (first | rfl | exact ⟨rfl, rfl⟩)); go_big_quiet_on)
                  | (show Oper.quiet _ { dst := _, op := .call { callee := .value _, args := _, argTypes := _ }, type := _, pos := _, after := _, guard := _ } _ _ _; refine quiet_call ?_; apply Exists.intro; apply Exists.intro; refine ⟨fun w' hC => ?_, ?_⟩; (go_simp <;> (first | rfl | exact ⟨rfl, rfl⟩)); apply Exists.intro; refine ⟨fun w' hC => ?_, ?_⟩; (first

                      | fail); apply Exists.intro; refine ⟨?_, ?_⟩; (go_simp <;> (first | rfl | exact ⟨rfl, rfl⟩)); go_big_quiet_on)))
          all_goals refine wpQuiet_nil ?_
          intro w3 hw3
          clear p0 p1 p2 p3 p4 q0 q1 q2 q3 q4
          have Z1 := Y1.below hw3
          have Z2 := Y2.below hw3
          have p0 := Z1.laterN 0 rfl
          have p1 := Z1.laterN 1 rfl
          have p2 := Z1.laterN 2 rfl
          have p3 := Z1.laterN 3 rfl
          have p4 := Z1.laterN 4 rfl
          have q0 := Z2.laterN 0 rfl
          have q1 := Z2.laterN 1 rfl
          have q2 := Z2.laterN 2 rfl
          have q3 := Z2.laterN 3 rfl
          have q4 := Z2.laterN 4 rfl
          go_wp2_with fail
          refine wp_region_grow (by kernel_rfl) (by kernel_rfl) ?_
          repeat' (first
              | go_big_quiet_skip
              | (go_big_quiet_want; first
                  | (go_big_quiet_op; go_big_quiet_on)
                  | (refine quiet_det ?_; apply Exists.intro; refine ⟨fun w' hC => ?_, ?_⟩; (go_simp <;> (first | rfl | exact ⟨rfl, rfl⟩)); apply Exists.intro; refine ⟨?_, ?_⟩; (go_simp <;> (first | rfl | exact ⟨rfl, rfl⟩)); go_big_quiet_on)
                  | (show Oper.quiet _ { dst := _, op := .call { callee := .value _, args := _, argTypes := _ }, type := _, pos := _, after := _, guard := _ } _ _ _; refine quiet_call ?_; apply Exists.intro; apply Exists.intro; refine ⟨fun w' hC => ?_, ?_⟩; (go_simp <;> (first | rfl | exact ⟨rfl, rfl⟩)); apply Exists.intro; refine ⟨fun w' hC => ?_, ?_⟩; (first

                      | fail); apply Exists.intro; refine ⟨?_, ?_⟩; (go_simp <;> (first | rfl | exact ⟨rfl, rfl⟩)); go_big_quiet_on)))
          all_goals refine wpQuiet_nil ?_
          intro w4 hw4
          clear p0 p1 p2 p3 p4 q0 q1 q2 q3 q4
          go_wp2
          go_ret
          refine ⟨ret_b ?_, bF.trans ((hbr.trans ((hw3.trans (hw4.mono hw3.size)).mono hbr.size)).mono bF.size)⟩
          rw [HLEX.out]
          obtain ⟨e0, e1, e2, e3, e4⟩ := HE.out
          have hh := HH.out
          clear z
          simp [lexB, *]

      · go_wp2
        go_ret
        refine ⟨ret_b ?_, bF.trans (hbr.mono bF.size)⟩
        rw [HLEX.out]
        obtain ⟨e0, e1, e2, e3, e4⟩ := HE.out
        simp [lexB, *]
end Go.Proofs.Ytikffoepndpfjaa
