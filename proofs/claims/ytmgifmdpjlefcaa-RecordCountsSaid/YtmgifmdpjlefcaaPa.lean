/-
  The bytes that the sanity check of the laws reads are none of a view. Conditions: none.
-/
import Derived.Test.YtmgifmdpjlefcaaBy
import Derived.RegionTactic
namespace Go.Proofs.Ytmgifmdpjlefcaa
open Go.ChangeShapes Go.WideShapes Go.ChangeAt Go.RowKit
set_option linter.unusedVariables false

theorem results_cell_tmp1 {P : Program} {w : World} {fn : Func} {t : TypeId} {a u : Tmp} {A : Addr} {V : Value} {tmps : Array Value} (h : fn.results = #[.cell a t, .tmp u]) (ha : tmps.getD a undef = .pointer (some A)) (hl : (loadVar t A).run P w = .ok V w) :
    (results fn tmps).run P w = .ok (.tuple #[V, tmps.getD u undef]) w := by
  rw [Array.getD_eq_getD_getElem?] at ha
  simp [results, h, ha, asAddr, hl]
theorem step_store_sl {ops : Array Oper} {o : Oper} {a : Act} {w : World} {rest : List Oper} {Q : Exit → Act → World → Prop} (hgd : o.guard = none) {p v : Operand} (ho : o.op = .store 22 p v) (hd : o.dst = none) {b i : Nat} {A : Option Addr} {n m : Nat} {T : TypeId} {cs : Array Value} {u : Value} (hp : a.eval p = .pointer (some ⟨b, i, none⟩)) (hv : a.eval v = .slice A n m) (hB : Blk w b T cs) (hi : cs[i]? = some u)
    (h : ∀ w' : World, Blk w' b T (cs.setIfInBounds i (.slice A n m)) → w.grownBy w' (some b) → wpList Try.prog ops Q rest a w') :
    wpList Try.prog ops Q (o :: rest) a w := by
  unfold wpList
  have hw : Region.wanted o (yielded ops a.tmps) = true := by unfold Region.wanted; rw [hgd]
  rw [if_pos hw]
  refine .inl ?_
  have c0 := hB.at i hi
  have f0 := hB.frozen i
  have hk := h _ (hB.set_ i (.slice A n m)) (grownBy_set w b i _)
  unfold Oper.wp
  simp only [execOp, ho, hp, hv]
  go_simp
  all_goals (first | exact hk | (simp [Act.put, hd]; exact hk))
set_option maxRecDepth 20000 in
set_option maxHeartbeats 2000000 in
theorem parse_bad (g c : Nat) (w : World) (B : Blk w g 5 #[.int .u8 4, .int .u8 0, .int .u8 0, .int .u8 0]) (hc : 4 ≤ c) (hcm : c ≤ 9223372036854775807) :
    Calls Try.prog 36 #[.slice (some ⟨g, 0, none⟩) 4 c] w fun e w' => Below w.heap.size w w' ∧ ∃ (f1 f2 : Bool) (A1 A2 : Option Addr) (n1 m1 n2 m2 : Nat), e = .returned (.tuple #[.agg #[.bool f1, .bool f2, .slice A1 n1 m1, .slice A2 n2 m2], .bool false]) := by
  have bW := lat_alloc (Below.refl w.heap.size w) (.cells #[.bool false, .bool false, .slice none 0 0, .slice none 0 0] 40)
  have B1 := B.below bW
  have BR := Blk.new (w := w) (t := 40) (cs := #[.bool false, .bool false, .slice none 0 0, .slice none 0 0])
  go_enter Try.func36, Try.ntmps36
  go_wp2_with fail
  generalize w.alloc (.cells #[.bool false, .bool false, .slice none 0 0, .slice none 0 0] 40) = W at *
  refine wp_region_pre (R := Bl) 12 66 [fun v _ => v = .slice (some ⟨g, 0, none⟩) 4 c, fun v _ => v = .pointer (some ⟨g, 0, none⟩), fun v _ => v = .int .u8 4, fun v _ => v = .int .u8 0, fun v _ => v = .bool false, fun v _ => v = .slice (some ⟨g, 0, none⟩) 4 c, fun v _ => v = .pointer (some ⟨g, 0, none⟩), fun v _ => v = .int .u8 4, fun v _ => v = .int .u8 0, fun v _ => v = .bool false, fun v _ => v = .agg #[.bool false, .bool false, .slice none 0 0, .slice none 0 0], fun v w => ∃ b : Nat, v = .pointer (some ⟨b, 0, none⟩) ∧ Blk w b 40 #[.bool false, .bool false, .slice none 0 0, .slice none 0 0] ∧ W.heap.size ≤ b] (Bl.trans) (Bl.drew) (by kernel_rfl) (fun _ _ d _ _ h => by cases d <;> exact h) rfl (by kernel_rfl) (stay_cons (stays_v _) (stay_cons (stays_v _) (stay_cons (stays_v _) (stay_cons (stays_v _) (stay_cons (stays_v _) (stay_cons (stays_v _) (stay_cons (stays_v _) (stay_cons (stays_v _) (stay_cons (stays_v _) (stay_cons (stays_v _) (stay_cons (stays_v _) (stay_cons (fun v w w1 h hb => by obtain ⟨g, h1, h2, h3⟩ := h; exact ⟨g, h1, h2.below hb, h3⟩) (stay_nil))))))))))))) ?_ ?_
  · simp only [List.take_succ_cons, List.take_zero]
    refine steps_cons (Bl.refl) (fun ev xw hb hc hf hfr hd hr => ?_) ?_
    · have e0 : ev (.tmp 0) = .slice (some ⟨g, 0, none⟩) 4 c := hfr 0 (by kernel_rfl)
      clear hfr hd
      show OpOk _ _ ev xw fun v w' => Bl xw w' ∧ (v = .slice (some ⟨g, 0, none⟩) 4 c)
      refine opOk_hid (fun Rp HR => ?_)
      unfold OpOk
      go_simp
      rw [HR.out]
      exact ⟨hr, rfl⟩
    refine steps_cons (Bl.refl) (fun ev xw hb hc hf hfr hd hr => ?_) ?_
    · have e8 : ev (.tmp 8) = .slice (some ⟨g, 0, none⟩) 4 c := hd 0 8 (by kernel_rfl)
      clear hfr hd
      show OpOk _ _ ev xw fun v w' => Bl xw w' ∧ (v = .pointer (some ⟨g, 0, none⟩))
      refine opOk_hid (fun Rp HR => ?_)
      unfold OpOk
      go_simp
      rw [HR.out]
      exact ⟨hr, rfl⟩
    refine steps_cons (Bl.refl) (fun ev xw hb hc hf hfr hd hr => ?_) ?_
    · have e9 : ev (.tmp 9) = .pointer (some ⟨g, 0, none⟩) := hd 1 9 (by kernel_rfl)
      clear hfr hd
      have k0 := (B1.below hb).at 0 rfl
      show OpOk _ _ ev xw fun v w' => Bl xw w' ∧ (v = .int .u8 4)
      refine opOk_hid (fun Rp HR => ?_)
      unfold OpOk
      go_simp
      rw [HR.out]
      exact ⟨hr, rfl⟩
    refine steps_cons (Bl.refl) (fun ev xw hb hc hf hfr hd hr => ?_) ?_
    · have e10 : ev (.tmp 10) = .int .u8 4 := hd 2 10 (by kernel_rfl)
      clear hfr hd
      show OpOk _ _ ev xw fun v w' => Bl xw w' ∧ (v = .int .u8 0)
      refine opOk_hid (fun Rp HR => ?_)
      unfold OpOk
      go_simp
      rw [HR.out]
      exact ⟨hr, rfl⟩
    refine steps_cons (Bl.refl) (fun ev xw hb hc hf hfr hd hr => ?_) ?_
    · have e11 : ev (.tmp 11) = .int .u8 0 := hd 3 11 (by kernel_rfl)
      clear hfr hd
      show OpOk _ _ ev xw fun v w' => Bl xw w' ∧ (v = .bool false)
      refine opOk_hid (fun Rp HR => ?_)
      unfold OpOk
      go_simp
      rw [HR.out]
      exact ⟨hr, rfl⟩
    refine steps_cons (Bl.refl) (fun ev xw hb hc hf hfr hd hr => ?_) ?_
    · have e0 : ev (.tmp 0) = .slice (some ⟨g, 0, none⟩) 4 c := hfr 0 (by kernel_rfl)
      clear hfr hd
      show OpOk _ _ ev xw fun v w' => Bl xw w' ∧ (v = .slice (some ⟨g, 0, none⟩) 4 c)
      refine opOk_hid (fun Rp HR => ?_)
      unfold OpOk
      go_simp
      rw [HR.out]
      exact ⟨hr, rfl⟩
    refine steps_cons (Bl.refl) (fun ev xw hb hc hf hfr hd hr => ?_) ?_
    · have e13 : ev (.tmp 13) = .slice (some ⟨g, 0, none⟩) 4 c := hd 5 13 (by kernel_rfl)
      clear hfr hd
      show OpOk _ _ ev xw fun v w' => Bl xw w' ∧ (v = .pointer (some ⟨g, 0, none⟩))
      refine opOk_hid (fun Rp HR => ?_)
      unfold OpOk
      go_simp
      rw [HR.out]
      exact ⟨hr, rfl⟩
    refine steps_cons (Bl.refl) (fun ev xw hb hc hf hfr hd hr => ?_) ?_
    · have e14 : ev (.tmp 14) = .pointer (some ⟨g, 0, none⟩) := hd 6 14 (by kernel_rfl)
      clear hfr hd
      have k0 := (B1.below hb).at 0 rfl
      show OpOk _ _ ev xw fun v w' => Bl xw w' ∧ (v = .int .u8 4)
      refine opOk_hid (fun Rp HR => ?_)
      unfold OpOk
      go_simp
      rw [HR.out]
      exact ⟨hr, rfl⟩
    refine steps_cons (Bl.refl) (fun ev xw hb hc hf hfr hd hr => ?_) ?_
    · have e15 : ev (.tmp 15) = .int .u8 4 := hd 7 15 (by kernel_rfl)
      clear hfr hd
      show OpOk _ _ ev xw fun v w' => Bl xw w' ∧ (v = .int .u8 0)
      refine opOk_hid (fun Rp HR => ?_)
      unfold OpOk
      go_simp
      rw [HR.out]
      exact ⟨hr, rfl⟩
    refine steps_cons (Bl.refl) (fun ev xw hb hc hf hfr hd hr => ?_) ?_
    · have e16 : ev (.tmp 16) = .int .u8 0 := hd 8 16 (by kernel_rfl)
      clear hfr hd
      show OpOk _ _ ev xw fun v w' => Bl xw w' ∧ (v = .bool false)
      refine opOk_hid (fun Rp HR => ?_)
      unfold OpOk
      go_simp
      rw [HR.out]
      exact ⟨hr, rfl⟩
    refine steps_cons (Bl.refl) (fun ev xw hb hc hf hfr hd hr => ?_) ?_
    · have e12 : ev (.tmp 12) = .bool false := hd 4 12 (by kernel_rfl)
      have e17 : ev (.tmp 17) = .bool false := hd 9 17 (by kernel_rfl)
      clear hfr hd
      show OpOk _ _ ev xw fun v w' => Bl xw w' ∧ (v = .agg #[.bool false, .bool false, .slice none 0 0, .slice none 0 0])
      refine opOk_hid (fun Rp HR => ?_)
      unfold OpOk
      go_simp
      rw [HR.out]
      exact ⟨hr, rfl⟩
    refine steps_cons (Bl.refl) (fun ev xw hb hc hf hfr hd hr => ?_) ?_
    · clear hfr hd
      show OpOk _ _ ev xw fun v w' => Bl xw w' ∧ (∃ b : Nat, v = .pointer (some ⟨b, 0, none⟩) ∧ Blk w' b 40 #[.bool false, .bool false, .slice none 0 0, .slice none 0 0] ∧ W.heap.size ≤ b)
      refine opOk_hid (fun Rp HR => ?_)
      unfold OpOk
      go_simp
      rw [HR.out]
      exact ⟨lat_alloc (Below.refl _ _) _, _, rfl, Blk.new, Below.size hb⟩
    exact steps_nil
  · intro vs W5 hb5 hk
    obtain ⟨gb, m1, X5, l5⟩ : ∃ b : Nat, vs 11 = .pointer (some ⟨b, 0, none⟩) ∧ Blk W5 b 40 #[.bool false, .bool false, .slice none 0 0, .slice none 0 0] ∧ W.heap.size ≤ b := hk 11 (by omega)
    have m2 := hk 10 (by omega)
    change vs 10 = .agg #[.bool false, .bool false, .slice none 0 0, .slice none 0 0] at m2
    clear hk
    simp only [List.take_succ_cons, List.take_zero, List.drop_succ_cons, List.drop_zero, putAll, Act.put, List.setIfInBounds_toArray, List.set_cons_zero, List.set_cons_succ, m1, m2, Nat.reduceAdd, Nat.reduceSub]
    clear m1 m2
    refine step_store_v (by rfl) (by rfl) (by rfl) (b := gb) (by rfl) (by rfl) X5 ?_
    intro W6 X6 hg6
    have hgr := BR.lt
    have R6 := (BR.below hb5).grown hg6 (by intro e; injection e with e; omega)
    have B6 := (B1.below hb5).grown hg6 (by intro e; injection e with e; have := B1.lt; omega)
    have hF6 : Below w.heap.size w W6 := Below.grown (bW.trans (hb5.mono bW.size)) hg6 (Below.size (bW.trans (hb5.mono bW.size))) (fun k e => by injection e with e; omega)
    have hrb : w.heap.size < gb := by omega
    clear X5 hg6 hb5 BR B1 bW
    unfold wpList
    go_wp2_with fail
    refine wp_region_pre (R := Bl) 11 66 [fun v _ => v = .slice (some ⟨g, 0, none⟩) 4 c, fun v _ => v = .pointer (some ⟨g, 1, none⟩), fun v _ => v = .int .u8 0, fun v _ => v = .int .i64 0, fun v _ => v = .int .i64 0, fun v _ => v = .slice (some ⟨g, 0, none⟩) 4 c, fun v _ => v = .pointer (some ⟨g, 2, none⟩), fun v _ => v = .int .u8 0, fun v _ => v = .int .i64 0, fun v _ => v = .int .i64 0, fun v _ => v = .int .i64 0] (Bl.trans) (Bl.drew) (by kernel_rfl) (fun _ _ d _ _ h => by cases d <;> exact h) rfl (by kernel_rfl) (stay_cons (stays_v _) (stay_cons (stays_v _) (stay_cons (stays_v _) (stay_cons (stays_v _) (stay_cons (stays_v _) (stay_cons (stays_v _) (stay_cons (stays_v _) (stay_cons (stays_v _) (stay_cons (stays_v _) (stay_cons (stays_v _) (stay_cons (stays_v _) (stay_nil)))))))))))) ?_ ?_
    · simp only [List.take_succ_cons, List.take_zero]
      refine steps_cons (Bl.refl) (fun ev xw hb hc hf hfr hd hr => ?_) ?_
      · have e0 : ev (.tmp 0) = .slice (some ⟨g, 0, none⟩) 4 c := hfr 0 (by kernel_rfl)
        clear hfr hd
        show OpOk _ _ ev xw fun v w' => Bl xw w' ∧ (v = .slice (some ⟨g, 0, none⟩) 4 c)
        refine opOk_hid (fun Rp HR => ?_)
        unfold OpOk
        go_simp
        rw [HR.out]
        exact ⟨hr, rfl⟩
      refine steps_cons (Bl.refl) (fun ev xw hb hc hf hfr hd hr => ?_) ?_
      · have e19 : ev (.tmp 19) = .slice (some ⟨g, 0, none⟩) 4 c := hd 0 19 (by kernel_rfl)
        clear hfr hd
        show OpOk _ _ ev xw fun v w' => Bl xw w' ∧ (v = .pointer (some ⟨g, 1, none⟩))
        refine opOk_hid (fun Rp HR => ?_)
        unfold OpOk
        go_simp
        rw [HR.out]
        exact ⟨hr, rfl⟩
      refine steps_cons (Bl.refl) (fun ev xw hb hc hf hfr hd hr => ?_) ?_
      · have e20 : ev (.tmp 20) = .pointer (some ⟨g, 1, none⟩) := hd 1 20 (by kernel_rfl)
        clear hfr hd
        have k1 := (B6.below hb).at 1 rfl
        show OpOk _ _ ev xw fun v w' => Bl xw w' ∧ (v = .int .u8 0)
        refine opOk_hid (fun Rp HR => ?_)
        unfold OpOk
        go_simp
        rw [HR.out]
        exact ⟨hr, rfl⟩
      refine steps_cons (Bl.refl) (fun ev xw hb hc hf hfr hd hr => ?_) ?_
      · have e21 : ev (.tmp 21) = .int .u8 0 := hd 2 21 (by kernel_rfl)
        clear hfr hd
        show OpOk _ _ ev xw fun v w' => Bl xw w' ∧ (v = .int .i64 0)
        refine opOk_hid (fun Rp HR => ?_)
        unfold OpOk
        go_simp
        rw [HR.out]
        exact ⟨hr, rfl⟩
      refine steps_cons (Bl.refl) (fun ev xw hb hc hf hfr hd hr => ?_) ?_
      · have e22 : ev (.tmp 22) = .int .i64 0 := hd 3 22 (by kernel_rfl)
        clear hfr hd
        show OpOk _ _ ev xw fun v w' => Bl xw w' ∧ (v = .int .i64 0)
        refine opOk_hid (fun Rp HR => ?_)
        unfold OpOk
        go_simp
        rw [HR.out]
        exact ⟨hr, rfl⟩
      refine steps_cons (Bl.refl) (fun ev xw hb hc hf hfr hd hr => ?_) ?_
      · have e0 : ev (.tmp 0) = .slice (some ⟨g, 0, none⟩) 4 c := hfr 0 (by kernel_rfl)
        clear hfr hd
        show OpOk _ _ ev xw fun v w' => Bl xw w' ∧ (v = .slice (some ⟨g, 0, none⟩) 4 c)
        refine opOk_hid (fun Rp HR => ?_)
        unfold OpOk
        go_simp
        rw [HR.out]
        exact ⟨hr, rfl⟩
      refine steps_cons (Bl.refl) (fun ev xw hb hc hf hfr hd hr => ?_) ?_
      · have e24 : ev (.tmp 24) = .slice (some ⟨g, 0, none⟩) 4 c := hd 5 24 (by kernel_rfl)
        clear hfr hd
        show OpOk _ _ ev xw fun v w' => Bl xw w' ∧ (v = .pointer (some ⟨g, 2, none⟩))
        refine opOk_hid (fun Rp HR => ?_)
        unfold OpOk
        go_simp
        rw [HR.out]
        exact ⟨hr, rfl⟩
      refine steps_cons (Bl.refl) (fun ev xw hb hc hf hfr hd hr => ?_) ?_
      · have e25 : ev (.tmp 25) = .pointer (some ⟨g, 2, none⟩) := hd 6 25 (by kernel_rfl)
        clear hfr hd
        have k2 := (B6.below hb).at 2 rfl
        show OpOk _ _ ev xw fun v w' => Bl xw w' ∧ (v = .int .u8 0)
        refine opOk_hid (fun Rp HR => ?_)
        unfold OpOk
        go_simp
        rw [HR.out]
        exact ⟨hr, rfl⟩
      refine steps_cons (Bl.refl) (fun ev xw hb hc hf hfr hd hr => ?_) ?_
      · have e26 : ev (.tmp 26) = .int .u8 0 := hd 7 26 (by kernel_rfl)
        clear hfr hd
        show OpOk _ _ ev xw fun v w' => Bl xw w' ∧ (v = .int .i64 0)
        refine opOk_hid (fun Rp HR => ?_)
        unfold OpOk
        go_simp
        rw [HR.out]
        exact ⟨hr, rfl⟩
      refine steps_cons (Bl.refl) (fun ev xw hb hc hf hfr hd hr => ?_) ?_
      · have e23 : ev (.tmp 23) = .int .i64 0 := hd 4 23 (by kernel_rfl)
        have e27 : ev (.tmp 27) = .int .i64 0 := hd 8 27 (by kernel_rfl)
        clear hfr hd
        show OpOk _ _ ev xw fun v w' => Bl xw w' ∧ (v = .int .i64 0)
        refine opOk_hid (fun Rp HR => ?_)
        unfold OpOk
        go_simp
        rw [HR.out]
        exact ⟨hr, rfl⟩
      refine steps_cons (Bl.refl) (fun ev xw hb hc hf hfr hd hr => ?_) ?_
      · have e28 : ev (.tmp 28) = .int .i64 0 := hd 9 28 (by kernel_rfl)
        clear hfr hd
        show OpOk _ _ ev xw fun v w' => Bl xw w' ∧ (v = .int .i64 0)
        refine opOk_hid (fun Rp HR => ?_)
        unfold OpOk
        go_simp
        rw [HR.out]
        exact ⟨hr, rfl⟩
      exact steps_nil
    · intro vs W7 hb7 hk
      have m5 := hk 10 (by omega)
      change vs 10 = .int .i64 0 at m5
      clear hk
      simp only [List.take_succ_cons, List.take_zero, List.drop_succ_cons, List.drop_zero, putAll, Act.put, List.setIfInBounds_toArray, List.set_cons_zero, List.set_cons_succ, m5, Nat.reduceAdd, Nat.reduceSub]
      clear m5
      unfold wpList
      have X7 := X6.below hb7
      have R7 := R6.below hb7
      have B7 := B6.below hb7
      have hF7 := hF6.trans (hb7.mono hF6.size)
      clear X6 R6 B6 hF6 hb7
      go_wp2_with fail
      clear l5 hgr
      go_loopw [5, 32] (fun s5 v wr => ∃ (j : Nat) (A1 A2 : Option Addr) (n1 m1 n2 m2 : Nat), j ≤ 1 ∧ s5 = .int .i64 0 ∧ v = .int .i64 j ∧ Below w.heap.size w wr ∧ Blk wr gb 40 #[.bool false, .bool false, .slice A1 n1 m1, .slice A2 n2 m2] ∧ Blk wr w.heap.size 40 #[.bool false, .bool false, .slice none 0 0, .slice none 0 0] ∧ (j = 0 → A1 = none ∧ n1 = 0 ∧ m1 = 0 ∧ A2 = none ∧ n2 = 0 ∧ m2 = 0)) (fun _ v _ => 1 - (intOf v).toNat)
      case atStart => exact ⟨0, none, none, 0, 0, 0, 0, by omega, rfl, rfl, hF7, X7, R7, fun _ => ⟨rfl, rfl, rfl, rfl, rfl, rfl⟩⟩
      case round =>
        obtain ⟨j, A1, A2, n1, m1, n2, m2, hj, rfl, rfl, hbr, XR, RR, hz⟩ := hrel
        by_cases hlj : j = 0
        · subst hlj
          obtain ⟨rfl, rfl, rfl, rfl, rfl, rfl⟩ := hz rfl
          have q3 := (B.below hbr).at 3 rfl
          have x2 := XR.at 2 rfl
          have hsr := hbr.size
          go_wp2_with (first
            | (at_builtin; refine wpList_append_ints rfl (.tmp 37) (.tmp 40) _ rfl w.heap.size 3 .i64 8 Try.underlying22 int_info _ [] rfl (Own.nil_ _ _ _ _) _ 1 [(0 : Int)] 1 rfl rfl (ints_at' rfl) (by decide) (by omega) (by rw [heap_size]; omega) ?_; intro v3 w3 hown3 hg3 hat3; have X3 := (XR.alloc (.cells #[.int .i64 0] 3)).grown hg3 (fun e => (by have e : (none : Option Nat) = some gb := e; cases e)); have R3 := (RR.alloc (.cells #[.int .i64 0] 3)).grown hg3 (fun e => (by have e : (none : Option Nat) = some w.heap.size := e; cases e)); have b3 : Below w.heap.size w w3 := (hbr.alloc hbr.size _).grown hg3 (hbr.alloc hbr.size _).size (fun k hk => (by have hk : (none : Option Nat) = some k := hk; cases hk)); clear hg3 hat3; obtain ⟨A3, c3, hv3, _, _, _⟩ := hown3.ints; subst hv3; clear hown3)
            | (refine step_store_sl (by rfl) (by rfl) (by rfl) (b := gb) (i := 2) (by rfl) (by rfl) X3 rfl ?_; intro w4 X4 hg4; have R4 := R3.grown hg4 (fun e => (by injection e with e; omega)); have b4 : Below w.heap.size w w4 := b3.grown hg4 b3.size (fun k hk => (by injection hk with hk; omega)); have X4 : Blk w4 gb 40 #[.bool false, .bool false, .slice A3 1 c3, .slice none 0 0] := X4; have x3 := X4.at 3 rfl; have hs4 := b4.size; clear X3 R3 hg4)
            | (at_builtin; refine wpList_append_ints rfl (.tmp 44) (.tmp 47) _ rfl w.heap.size 3 .i64 8 Try.underlying22 int_info _ [] rfl (Own.nil_ _ _ _ _) _ 1 [(0 : Int)] 1 rfl rfl (ints_at' rfl) (by decide) (by omega) (by rw [heap_size]; omega) ?_; intro v5 w5 hown5 hg5 hat5; have X5 := (X4.alloc (.cells #[.int .i64 0] 3)).grown hg5 (fun e => (by have e : (none : Option Nat) = some gb := e; cases e)); have R5 := (R4.alloc (.cells #[.int .i64 0] 3)).grown hg5 (fun e => (by have e : (none : Option Nat) = some w.heap.size := e; cases e)); have b5 : Below w.heap.size w w5 := (b4.alloc b4.size _).grown hg5 (b4.alloc b4.size _).size (fun k hk => (by have hk : (none : Option Nat) = some k := hk; cases hk)); clear hg5 hat5; obtain ⟨A5, c5, hv5, _, _, _⟩ := hown5.ints; subst hv5; clear hown5)
            | (refine step_store_sl (by rfl) (by rfl) (by rfl) (b := gb) (i := 3) (by rfl) (by rfl) X5 rfl ?_; intro w6 X6 hg6; have R6 := R5.grown hg6 (fun e => (by injection e with e; omega)); have b6 : Below w.heap.size w w6 := b5.grown hg6 b5.size (fun k hk => (by injection hk with hk; omega)); have X6 : Blk w6 gb 40 #[.bool false, .bool false, .slice A3 1 c3, .slice A5 1 c5] := X6; clear X5 R5 hg6))
          go_roundw
          case rel => exact ⟨1, _, _, _, _, _, _, by omega, rfl, by go_num, b6, X6, R6, fun h => absurd h (by decide)⟩
          case measure => simp [intOf]
        · obtain rfl : j = 1 := by omega
          clear hz
          have q0 := (B.below hbr).at 0 rfl
          have x0 := XR.at 0 rfl
          have x1 := XR.at 1 rfl
          have x2 := XR.at 2 rfl
          have x3 := XR.at 3 rfl
          go_wp2_with fail
          have r0 := RR.at 0 rfl
          have r1 := RR.at 1 rfl
          have r2 := RR.at 2 rfl
          have r3 := RR.at 3 rfl
          have f0 := RR.frozen 0
          have f1 := RR.frozen 1
          have f2 := RR.frozen 2
          have f3 := RR.frozen 3
          go_region
          go_wp2
          (try simp only [Exit.inBlock, Exit.then])
          have R8 := RR.set4 (.bool false) (.bool false) (.slice A1 n1 m1) (.slice A2 n2 m2)
          have hg4 := grownBy_setAt (grownBy_setAt (grownBy_setAt (grownBy_set wr w.heap.size 0 (.bool false)) w.heap.size 1 (.bool false) rfl) w.heap.size 2 (.slice A1 n1 m1) rfl) w.heap.size 3 (.slice A2 n2 m2) rfl
          have bF := Below.grown hbr hg4 hbr.size (fun k e => by injection e with e; omega)
          refine bodyPost_ret (results_cell_tmp1 rfl rfl (load_view (w := ((((wr.setCell ⟨w.heap.size, 0, none⟩ (.bool false)).setCell ⟨w.heap.size, 1, none⟩ (.bool false)).setCell ⟨w.heap.size, 2, none⟩ (.slice A1 n1 m1)).setCell ⟨w.heap.size, 3, none⟩ (.slice A2 n2 m2)).drew) R8)) rfl ?_
          exact ⟨⟨bF.os, bF.tape, bF.output, bF.size, bF.block⟩, false, false, A1, A2, n1, m1, n2, m2, rfl⟩
end Go.Proofs.Ytmgifmdpjlefcaa
