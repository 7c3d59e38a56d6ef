/-
  Signals: the first one, and a step of one that is not latched. Conditions: a valid junction, a valid control.
-/
import Derived.Test.YtncmikkobngfeaaLc
import Derived.Test.YtncmikkobngfeaaSn
import Derived.Test.YtncmikkobngfeaaTs
import Derived.Test.YtncmikkobngfeaaPi
namespace Go.Proofs.Ytncmikkobngfeaa
open Go.ChangeShapes Go.WideShapes Go.ChangeAt Go.RowKit
set_option linter.unusedVariables false

theorem load_signal {w : World} {g : Nat} {a b c d e : Value} (h : Blk w g 27 #[a, b, c, d, e]) : (loadVar 27 ⟨g, 0, none⟩).run Try.prog w = .ok (.agg #[a, b, c, d, e]) w := by
  have c0 := Blk.cell h 0
  have c1 := Blk.cell h 1
  have c2 := Blk.cell h 2
  have c3 := Blk.cell h 3
  have c4 := Blk.cell h 4
  go_simp
theorem Blk.set5 {w : World} {g : Nat} {t : TypeId} {a b c d e : Value} (h : Blk w g t #[a, b, c, d, e]) (a' b' c' d' e' : Value) :
    Blk (((((w.setCell ⟨g, 0, none⟩ a').setCell ⟨g, 1, none⟩ b').setCell ⟨g, 2, none⟩ c').setCell ⟨g, 3, none⟩ d').setCell ⟨g, 4, none⟩ e') g t #[a', b', c', d', e'] := ((((h.set_ 0 a').set_ 1 b').set_ 2 c').set_ 3 d').set_ 4 e'
theorem grown5 (w : World) (b : Nat) (v0 v1 v2 v3 v4 : Value) : w.grownBy (((((w.setCell ⟨b, 0, none⟩ v0).setCell ⟨b, 1, none⟩ v1).setCell ⟨b, 2, none⟩ v2).setCell ⟨b, 3, none⟩ v3).setCell ⟨b, 4, none⟩ v4) (some b) :=
  grownBy_setAt (grownBy_setAt (grownBy_setAt (grownBy_setAt (grownBy_set w b 0 _) b 1 _ rfl) b 2 _ rfl) b 3 _ rfl) b 4 _ rfl
theorem step_store_sg {ops : Array Oper} {o : Oper} {a : Act} {w : World} {rest : List Oper} {Q : Exit → Act → World → Prop} (hgd : o.guard = none) {p v : Operand} (ho : o.op = .store 27 p v) (hd : o.dst = none) {b : Nat} {A1 A2 : Option Addr} {n1 m1 n2 m2 : Nat} {gr wt : Int} {lt : Bool} {x0 y0 z0 u0 v0 : Value} (hp : a.eval p = .pointer (some ⟨b, 0, none⟩)) (hv : a.eval v = .agg #[.slice A1 n1 m1, .int .i64 gr, .slice A2 n2 m2, .int .i64 wt, .bool lt]) (hB : Blk w b 27 #[x0, y0, z0, u0, v0])
    (h : ∀ w' : World, Blk w' b 27 #[.slice A1 n1 m1, .int .i64 gr, .slice A2 n2 m2, .int .i64 wt, .bool lt] → w.grownBy w' (some b) → wpList Try.prog ops Q rest a w') :
    wpList Try.prog ops Q (o :: rest) a w := by
  unfold wpList
  have hw : Region.wanted o (yielded ops a.tmps) = true := by unfold Region.wanted; rw [hgd]
  rw [if_pos hw]
  refine .inl ?_
  have f0 := hB.frozen 0
  have f1 := hB.frozen 1
  have f2 := hB.frozen 2
  have f3 := hB.frozen 3
  have f4 := hB.frozen 4
  have c0 := hB.at 0 rfl
  have c1 := hB.at 1 rfl
  have c2 := hB.at 2 rfl
  have c3 := hB.at 3 rfl
  have c4 := hB.at 4 rfl
  have hk := h _ (hB.set5 (.slice A1 n1 m1) (.int .i64 gr) (.slice A2 n2 m2) (.int .i64 wt) (.bool lt)) (grown5 w b _ _ _ _ _)
  unfold Oper.wp
  simp only [execOp, ho, hp, hv]
  go_simp
  all_goals (first | exact hk | (simp [Act.put, hd]; exact hk))
theorem opS_store_sg {o : Oper} {ev : Operand → Value} {w : World} {R : Value → World → Prop} {p v : Operand} (ho : o.op = .store 27 p v) {b : Nat} {y0 y1 y2 y3 y4 : Value} {A1 A2 : Option Addr} {n1 m1 n2 m2 : Nat} {g1 t1 : Int} {lt : Bool} (hp : ev p = .pointer (some ⟨b, 0, none⟩)) (hv : ev v = .agg #[.slice A1 n1 m1, .int .i64 g1, .slice A2 n2 m2, .int .i64 t1, .bool lt]) (hB : Blk w b 27 #[y0, y1, y2, y3, y4])
    (h : ∀ w' : World, Blk w' b 27 #[.slice A1 n1 m1, .int .i64 g1, .slice A2 n2 m2, .int .i64 t1, .bool lt] → w.grownBy w' (some b) → R undef w') : OpS Try.prog o ev w R := by
  have f0 := hB.frozen 0
  have c0 := hB.at 0 rfl
  have f1 := hB.frozen 1
  have c1 := hB.at 1 rfl
  have f2 := hB.frozen 2
  have c2 := hB.at 2 rfl
  have f3 := hB.frozen 3
  have c3 := hB.at 3 rfl
  have f4 := hB.frozen 4
  have c4 := hB.at 4 rfl
  have hk := h _ (hB.set5 (.slice A1 n1 m1) (.int .i64 g1) (.slice A2 n2 m2) (.int .i64 t1) (.bool lt)) (grown5 w b _ _ _ _ _)
  unfold OpS
  simp only [execOp, ho, hp, hv]
  go_simp
  all_goals exact hk
/-- A value is a signal with the control c, whose parts lie from block B on. -/
def SgH (w : World) (B n : Nat) (v : Value) (c : Ct) (b : Bool) : Prop := ∃ gl cl gx cx : Nat, v = .agg #[.slice (some ⟨gl, 0, none⟩) n cl, .int .i64 (c).gr, .slice (some ⟨gx, 0, none⟩) 2 cx, .int .i64 (c).wt, .bool b] ∧ (B ≤ gl ∧ n ≤ cl) ∧ B ≤ gx ∧ LiB w gl c.li ∧ NxB w gx c.nx
theorem SgH.below {w w' : World} {B n : Nat} {v : Value} {c : Ct} {b : Bool} (h : SgH w B n v c b) (hb : Below w.heap.size w w') : SgH w' B n v c b := by
  obtain ⟨gl, cl, gx, cx, h1, h2, h3, h4, h5⟩ := h
  exact ⟨gl, cl, gx, cx, h1, h2, h3, h4.below hb, h5.below hb⟩
theorem SgH.lower {w : World} {B B' n : Nat} {v : Value} {c : Ct} {b : Bool} (h : SgH w B n v c b) (hb : B' ≤ B) : SgH w B' n v c b := by
  obtain ⟨gl, cl, gx, cx, h1, h2, h3, h4, h5⟩ := h
  exact ⟨gl, cl, gx, cx, h1, ⟨Nat.le_trans hb h2.1, h2.2⟩, Nat.le_trans hb h3, h4, h5⟩
set_option maxRecDepth 20000 in
set_option maxHeartbeats 2000000 in
theorem jnew_any (A Bc : Option Addr) (cP d n : Nat) (P : List Ph) (st : Int) (w : World) (hn : P.length = n) (hP : Phs w w.heap.size A P) (h1 : 0 < n) (h8 : n ≤ 60) :
    Calls Try.prog 17 #[.agg #[.slice A n cP, .slice Bc n d, .int .i64 st]] w fun e w' => ∃ v, e = .returned v ∧ Below w.heap.size w w' ∧ SgH w' w.heap.size n v (initC P n st) false := by
  have HN := Lib.hid hn
  clear hn
  have bW := lat_alloc (lat_alloc (Below.refl w.heap.size w) (.cells #[.slice A n cP, .slice Bc n d, .int .i64 st] 31)) (.cells #[.slice none 0 0, .int .i64 0, .slice none 0 0, .int .i64 0, .bool false] 27)
  have BJ := (Blk.new (w := w) (t := 31) (cs := #[.slice A n cP, .slice Bc n d, .int .i64 st])).alloc (.cells #[.slice none 0 0, .int .i64 0, .slice none 0 0, .int .i64 0, .bool false] 27)
  have BR := Blk.new (w := w.alloc (.cells #[.slice A n cP, .slice Bc n d, .int .i64 st] 31)) (t := 27) (cs := #[.slice none 0 0, .int .i64 0, .slice none 0 0, .int .i64 0, .bool false])
  have j0 := BJ.at 0 rfl
  have j1 := BJ.at 1 rfl
  have j2 := BJ.at 2 rfl
  go_enter Try.func17, Try.ntmps17
  go_wp2_with fail
  have hP1 := hP.grow bW
  rw [heap_size] at BR
  generalize (w.alloc (.cells #[.slice A n cP, .slice Bc n d, .int .i64 st] 31)).alloc (.cells #[.slice none 0 0, .int .i64 0, .slice none 0 0, .int .i64 0, .bool false] 27) = W at *
  refine (pinit_any A Bc cP d n n P st W HN.out hP1 h1 h8).mono ?_
  rintro e w3 ⟨v, rfl, b3, gl, cl, gx, cx, rfl, ⟨hgl, hcl⟩, hgx, L3, N3⟩
  have R3 := BR.below b3
  have hRl := BR.lt
  have hsW := bW.size
  clear j0 j1 j2 BJ
  go_wp2_with (refine step_store_sg (by rfl) (by rfl) (by rfl) (b := w.heap.size + 1) (by rfl) (by rfl) R3 ?_; intro w4 R4 hg4)
  refine bodyPost_ret (results_cell rfl rfl (load_signal R4)) rfl ?_
  have hF := bW.trans (b3.mono hsW)
  exact ⟨_, rfl, Below.grown hF hg4 hF.size (fun k e => by injection e with e; omega), gl, cl, gx, cx, rfl, ⟨by omega, hcl⟩, by omega, L3.grown hg4 (by intro e; injection e with e; omega), N3.grown hg4 (by intro e; injection e with e; omega)⟩
set_option maxRecDepth 20000 in
set_option maxHeartbeats 4000000 in
theorem jstep_any (A Bc D E : Option Addr) (cP d cL cX n : Nat) (P : List Ph) (C : List Int) (c : Ct) (st t k : Int) (b : Bool) (w : World) (hj : JunC P C n st) (hjv : JunV P C st) (hv : CtV P C n st c) (hP : Phs w w.heap.size A P) (hC : Ints .i64 w w.heap.size Bc C) (hcP : n ≤ cP) (hL : Prs w w.heap.size D c.li) (hX : Ints .i64 w w.heap.size E c.nx) (hb : b = true ↔ Fb C (seenV (stepC P C n c t).li n k)) :
    Calls Try.prog 20 #[.agg #[.slice A n cP, .slice Bc n d, .int .i64 st], .agg #[.slice D n cL, .int .i64 c.gr, .slice E 2 cX, .int .i64 c.wt, .bool false], .int .i64 t, .int .i64 k] w fun e w' => ∃ v, e = .returned v ∧ Below w.heap.size w w' ∧ SgH w' w.heap.size n v (stepC P C n c t) b := by
  have h1 := hj.h1
  have h8 := hj.h8
  have HCN := Lib.hid hj.rows.len
  have HLI := Lib.hid (step_v hj.rows hv h1 hj.pok hj.ri hj.gr t).li
  have bW := lat_alloc (lat_alloc (lat_alloc (Below.refl w.heap.size w) (.cells #[.slice A n cP, .slice Bc n d, .int .i64 st] 31)) (.cells #[.slice D n cL, .int .i64 c.gr, .slice E 2 cX, .int .i64 c.wt, .bool false] 27)) (.cells #[.slice none 0 0, .int .i64 0, .slice none 0 0, .int .i64 0, .bool false] 27)
  have BJ := ((Blk.new (w := w) (t := 31) (cs := #[.slice A n cP, .slice Bc n d, .int .i64 st])).alloc (.cells #[.slice D n cL, .int .i64 c.gr, .slice E 2 cX, .int .i64 c.wt, .bool false] 27)).alloc (.cells #[.slice none 0 0, .int .i64 0, .slice none 0 0, .int .i64 0, .bool false] 27)
  have BS := (Blk.new (w := w.alloc (.cells #[.slice A n cP, .slice Bc n d, .int .i64 st] 31)) (t := 27) (cs := #[.slice D n cL, .int .i64 c.gr, .slice E 2 cX, .int .i64 c.wt, .bool false])).alloc (.cells #[.slice none 0 0, .int .i64 0, .slice none 0 0, .int .i64 0, .bool false] 27)
  have BR := Blk.new (w := (w.alloc (.cells #[.slice A n cP, .slice Bc n d, .int .i64 st] 31)).alloc (.cells #[.slice D n cL, .int .i64 c.gr, .slice E 2 cX, .int .i64 c.wt, .bool false] 27)) (t := 27) (cs := #[.slice none 0 0, .int .i64 0, .slice none 0 0, .int .i64 0, .bool false])
  rw [heap_size] at BS
  rw [heap_size, heap_size] at BR
  have j0 := BJ.at 0 rfl; have j1 := BJ.at 1 rfl; have j2 := BJ.at 2 rfl
  have s0 := BS.at 0 rfl; have s1 := BS.at 1 rfl; have s2 := BS.at 2 rfl; have s3 := BS.at 3 rfl; have s4 := BS.at 4 rfl
  go_enter Try.func20, Try.ntmps20
  go_wp2_with fail
  have hP1 := hP.grow bW
  have hC1 := hC.grow bW
  have hL1 := hL.grow bW
  have hX1 := hX.grow bW
  generalize ((w.alloc (.cells #[.slice A n cP, .slice Bc n d, .int .i64 st] 31)).alloc (.cells #[.slice D n cL, .int .i64 c.gr, .slice E 2 cX, .int .i64 c.wt, .bool false] 27)).alloc (.cells #[.slice none 0 0, .int .i64 0, .slice none 0 0, .int .i64 0, .bool false] 27) = W at *
  refine (pstep_any A Bc D E cP d cL cX n P C c st t W hj hjv hv hP1 hC1 hcP hL1 hX1).mono ?_
  obtain ⟨s, hs⟩ : ∃ s, stepC P C n c t = s := ⟨_, rfl⟩
  rw [hs] at hb HLI ⊢
  have HB := Lib.hid hb
  have HS := Lib.hid hs
  clear hb hs hP1 hL1 hX1 hP hC hL hX
  rintro e w3 ⟨v, rfl, b3, gl, cl, gx, cx, rfl, ⟨hgl, hcl⟩, hgx, L3, N3⟩
  have HCL := Lib.hid hcl
  have R3 := BR.below b3
  have J3 := BJ.below b3
  have hC3 := hC1.grow b3
  have hRl := BR.lt
  have hsz0 : w.heap.size ≤ W.heap.size := bW.size
  clear j0 j1 j2 s0 s1 s2 s3 s4 BJ BS BR hcl hC1
  go_wp2_with fail
  have bX := lat_alloc (Below.refl w3.heap.size w3) (.cells #[.slice (some ⟨gl, 0, none⟩) n cl, .int .i64 s.gr, .slice (some ⟨gx, 0, none⟩) 2 cx, .int .i64 s.wt] 25)
  have C4 := Blk.new (w := w3) (t := 25) (cs := #[.slice (some ⟨gl, 0, none⟩) n cl, .int .i64 s.gr, .slice (some ⟨gx, 0, none⟩) 2 cx, .int .i64 s.wt])
  have R4 := R3.below bX
  have J4 := J3.below bX
  have hC4 := hC3.grow bX
  have L4 := L3.below bX
  have N4 := N3.below bX
  have b4 := bW.trans ((b3.trans (bX.mono b3.size)).mono hsz0)
  have hsz := hsz0
  generalize w3.alloc (.cells #[.slice (some ⟨gl, 0, none⟩) n cl, .int .i64 s.gr, .slice (some ⟨gx, 0, none⟩) 2 cx, .int .i64 s.wt] 25) = W4 at *
  obtain ⟨gC, hgC⟩ : ∃ gC, w3.heap.size = gC := ⟨_, rfl⟩
  obtain ⟨gR, hgR⟩ : ∃ gR, w.heap.size + 1 + 1 = gR := ⟨_, rfl⟩
  rw [hgC] at C4 ⊢
  rw [hgR] at R4 hRl ⊢
  have hgR2 : w.heap.size ≤ gR := by omega
  clear hgC hgR R3 J3 hC3 L3 N3 b3 bX
  refine wp_region_pre (R := Bl) 9 28 [fun v _ => v = .agg #[.slice (some ⟨gl, 0, none⟩) n cl, .int .i64 s.gr, .slice (some ⟨gx, 0, none⟩) 2 cx, .int .i64 s.wt], fun v _ => v = .pointer (some ⟨w.heap.size, 1, none⟩), fun v _ => v = .slice Bc n d, fun v _ => v = .pointer (some ⟨gC, 0, none⟩), fun v _ => v = .slice (some ⟨gl, 0, none⟩) n cl, fun v _ => v = .int .i64 k, fun v w => ∃ (A : Option Addr) (c : Nat), v = .slice A n c ∧ Ints .i64 w (w).heap.size A (seenV s.li n k), fun v _ => v = .bool b, fun v _ => v = .agg #[.slice (some ⟨gl, 0, none⟩) n cl, .int .i64 (s).gr, .slice (some ⟨gx, 0, none⟩) 2 cx, .int .i64 (s).wt, .bool b]] (Bl.trans) (Bl.drew) (by kernel_rfl) (fun _ _ d _ _ h => by cases d <;> exact h) rfl (by kernel_rfl) (stay_cons (stays_v _) (stay_cons (stays_v _) (stay_cons (stays_v _) (stay_cons (stays_v _) (stay_cons (stays_v _) (stay_cons (stays_v _) (stay_cons (fun v w w1 h hb => by obtain ⟨A, c, h1, h2⟩ := h; exact ⟨A, c, h1, h2.grow hb⟩) (stay_cons (stays_v _) (stay_cons (stays_v _) (stay_nil)))))))))) ?_ ?_
  · simp only [List.take_succ_cons, List.take_zero]
    refine steps_cons (Bl.refl) (fun ev xw hb hc hf hfr hd hr => ?_) ?_
    · have e9 : ev (.tmp 9) = .pointer (some ⟨gC, 0, none⟩) := hfr 9 (by kernel_rfl)
      clear hfr hd
      have k0 := (C4.below hb).at 0 rfl
      have k1 := (C4.below hb).at 1 rfl
      have k2 := (C4.below hb).at 2 rfl
      have k3 := (C4.below hb).at 3 rfl
      show OpOk _ _ ev xw fun v w' => Bl xw w' ∧ (v = .agg #[.slice (some ⟨gl, 0, none⟩) n cl, .int .i64 s.gr, .slice (some ⟨gx, 0, none⟩) 2 cx, .int .i64 s.wt])
      refine opOk_hid (fun Rp HR => ?_)
      unfold OpOk
      go_simp
      rw [HR.out]
      exact ⟨hr, rfl⟩
    refine steps_cons (Bl.refl) (fun ev xw hb hc hf hfr hd hr => ?_) ?_
    · have e4 : ev (.tmp 4) = .pointer (some ⟨w.heap.size, 0, none⟩) := hfr 4 (by kernel_rfl)
      clear hfr hd
      show OpOk _ _ ev xw fun v w' => Bl xw w' ∧ (v = .pointer (some ⟨w.heap.size, 1, none⟩))
      refine opOk_hid (fun Rp HR => ?_)
      unfold OpOk
      go_simp
      rw [HR.out]
      exact ⟨hr, rfl⟩
    refine steps_cons (Bl.refl) (fun ev xw hb hc hf hfr hd hr => ?_) ?_
    · have e20 : ev (.tmp 20) = .pointer (some ⟨w.heap.size, 1, none⟩) := hd 1 20 (by kernel_rfl)
      clear hfr hd
      have k0 := (J4.below hb).at 1 rfl
      show OpOk _ _ ev xw fun v w' => Bl xw w' ∧ (v = .slice Bc n d)
      refine opOk_hid (fun Rp HR => ?_)
      unfold OpOk
      go_simp
      rw [HR.out]
      exact ⟨hr, rfl⟩
    refine steps_cons (Bl.refl) (fun ev xw hb hc hf hfr hd hr => ?_) ?_
    · have e9 : ev (.tmp 9) = .pointer (some ⟨gC, 0, none⟩) := hfr 9 (by kernel_rfl)
      clear hfr hd
      show OpOk _ _ ev xw fun v w' => Bl xw w' ∧ (v = .pointer (some ⟨gC, 0, none⟩))
      refine opOk_hid (fun Rp HR => ?_)
      unfold OpOk
      go_simp
      rw [HR.out]
      exact ⟨hr, rfl⟩
    refine steps_cons (Bl.refl) (fun ev xw hb hc hf hfr hd hr => ?_) ?_
    · have e22 : ev (.tmp 22) = .pointer (some ⟨gC, 0, none⟩) := hd 3 22 (by kernel_rfl)
      clear hfr hd
      have k0 := (C4.below hb).at 0 rfl
      show OpOk _ _ ev xw fun v w' => Bl xw w' ∧ (v = .slice (some ⟨gl, 0, none⟩) n cl)
      refine opOk_hid (fun Rp HR => ?_)
      unfold OpOk
      go_simp
      rw [HR.out]
      exact ⟨hr, rfl⟩
    refine steps_cons (Bl.refl) (fun ev xw hb hc hf hfr hd hr => ?_) ?_
    · have e3 : ev (.tmp 3) = .int .i64 k := hfr 3 (by kernel_rfl)
      clear hfr hd
      show OpOk _ _ ev xw fun v w' => Bl xw w' ∧ (v = .int .i64 k)
      refine opOk_hid (fun Rp HR => ?_)
      unfold OpOk
      go_simp
      rw [HR.out]
      exact ⟨hr, rfl⟩
    refine steps_cons (Bl.refl) (fun ev xw hb hc hf hfr hd hr => ?_) ?_
    · have e23 : ev (.tmp 23) = .slice (some ⟨gl, 0, none⟩) n cl := hd 4 23 (by kernel_rfl)
      have e24 : ev (.tmp 24) = .int .i64 k := hd 5 24 (by kernel_rfl)
      clear hfr hd
      show OpOk _ _ ev xw fun v w' => Bl xw w' ∧ (∃ (A : Option Addr) (c : Nat), v = .slice A n c ∧ Ints .i64 w' (w').heap.size A (seenV s.li n k))
      refine opOk_hid (fun Rp HR => ?_)
      unfold OpOk
      go_simp
      refine (seen_any (some ⟨gl, 0, none⟩) cl n s.li k xw HLI.out (L4.below hb).prs (by omega)).mono ?_
      rintro e w'' ⟨A, cc, rfl, hw, hi⟩
      refine ⟨_, rfl, ?_⟩
      rw [HR.out]
      exact ⟨hw, A, cc, rfl, hi⟩
    refine steps_cons (Bl.refl) (fun ev xw hb hc hf hfr hd hr => ?_) ?_
    · have e21 : ev (.tmp 21) = .slice Bc n d := hd 2 21 (by kernel_rfl)
      obtain ⟨A25, c25, e25, I25⟩ : ∃ (A : Option Addr) (c : Nat), ev (.tmp 25) = .slice A n c ∧ Ints .i64 xw (xw).heap.size A (seenV s.li n k) := hd 6 25 (by kernel_rfl)
      clear hfr hd
      show OpOk _ _ ev xw fun v w' => Bl xw w' ∧ (v = .bool b)
      refine opOk_hid (fun Rp HR => ?_)
      unfold OpOk
      go_simp
      refine (forb_any Bc A25 d c25 n n C (seenV s.li n k) xw HCN.out (seen_len _ _ _) (hC4.grow hb) I25 (by omega) (by omega)).mono ?_
      rintro e w'' ⟨rfl, r, rfl, hr⟩
      have hrb : r = b := by rw [Bool.eq_iff_iff, hr]; exact HB.out.symm
      subst hrb
      refine ⟨_, rfl, ?_⟩
      rw [HR.out]
      exact ⟨Bl.refl _, rfl⟩
    refine steps_cons (Bl.refl) (fun ev xw hb hc hf hfr hd hr => ?_) ?_
    · have e19 : ev (.tmp 19) = .agg #[.slice (some ⟨gl, 0, none⟩) n cl, .int .i64 s.gr, .slice (some ⟨gx, 0, none⟩) 2 cx, .int .i64 s.wt] := hd 0 19 (by kernel_rfl)
      have e26 : ev (.tmp 26) = .bool b := hd 7 26 (by kernel_rfl)
      clear hfr hd
      show OpOk _ _ ev xw fun v w' => Bl xw w' ∧ (v = .agg #[.slice (some ⟨gl, 0, none⟩) n cl, .int .i64 (s).gr, .slice (some ⟨gx, 0, none⟩) 2 cx, .int .i64 (s).wt, .bool b])
      refine opOk_hid (fun Rp HR => ?_)
      unfold OpOk
      go_simp
      rw [HR.out]
      exact ⟨hr, rfl⟩
    exact steps_nil
  · intro vs W5 hb5 hk
    have k8 : vs 8 = .agg #[.slice (some ⟨gl, 0, none⟩) n cl, .int .i64 (s).gr, .slice (some ⟨gx, 0, none⟩) 2 cx, .int .i64 (s).wt, .bool b] := hk 8 (by omega)
    clear hk
    simp only [List.take_succ_cons, List.take_zero, List.drop_succ_cons, List.drop_zero, putAll, Act.put, List.setIfInBounds_toArray, List.set_cons_zero, List.set_cons_succ, k8, Nat.reduceAdd]
    have R5 := R4.below hb5
    unfold wpList
    go_wp2_with (refine step_store_sg (by rfl) (by rfl) (by rfl) (b := gR) (by rfl) (by rfl) R5 ?_; intro w6 R6 hg6)
    refine bodyPost_ret (results_cell rfl rfl (load_signal R6)) rfl ?_
    have hF : Below w.heap.size w W5 := b4.trans (Below.mono hb5 b4.size)
    rw [HS.out]
    exact ⟨_, rfl, Below.grown hF hg6 hF.size (fun q e => by injection e with e; omega), gl, cl, gx, cx, rfl, ⟨by omega, HCL.out⟩, by omega, (L4.below hb5).grown hg6 (by intro e; injection e with e; omega), (N4.below hb5).grown hg6 (by intro e; injection e with e; omega)⟩

theorem jstep_s (A Bc D E : Option Addr) (cP d cL cX n : Nat) (P : List Ph) (C : List Int) (c s : Ct) (st t k : Int) (b : Bool) (w : World) (hs : stepC P C n c t = s) (hj : JunC P C n st) (hjv : JunV P C st) (hv : CtV P C n st c) (hP : Phs w w.heap.size A P) (hC : Ints .i64 w w.heap.size Bc C) (hcP : n ≤ cP) (hL : Prs w w.heap.size D c.li) (hX : Ints .i64 w w.heap.size E c.nx) (hb : b = true ↔ Fb C (seenV s.li n k)) :
    Calls Try.prog 20 #[.agg #[.slice A n cP, .slice Bc n d, .int .i64 st], .agg #[.slice D n cL, .int .i64 c.gr, .slice E 2 cX, .int .i64 c.wt, .bool false], .int .i64 t, .int .i64 k] w fun e w' => ∃ v, e = .returned v ∧ Below w.heap.size w w' ∧ SgH w' w.heap.size n v s b := by
  subst hs
  exact jstep_any A Bc D E cP d cL cX n P C c st t k b w hj hjv hv hP hC hcP hL hX hb
end Go.Proofs.Ytncmikkobngfeaa
namespace Go.Proofs.Ytncmikkobngfeaa
open Go.ChangeShapes Go.WideShapes Go.ChangeAt Go.RowKit
set_option linter.unusedVariables false

/-- The lamps when the first k phases have been looked at. -/
def lampsV (L : List (Int × Int)) (b : Bool) (n : Nat) : Nat → List Int
  | 0 => List.replicate n 0
  | k + 1 => (lampsV L b n k).set k (cond b 4 (lmp L k))
theorem lampsV_len (L : List (Int × Int)) (b : Bool) (n : Nat) : ∀ k, (lampsV L b n k).length = n
  | 0 => List.length_replicate
  | k + 1 => by rw [lampsV, List.length_set, lampsV_len L b n k]
theorem lampsV_at (L : List (Int × Int)) (b : Bool) (n : Nat) : ∀ k, k ≤ n → ∀ p, p < k → at_ (lampsV L b n k) p = cond b 4 (lmp L p)
  | 0, _, p, hp => absurd hp (by omega)
  | k + 1, hk, p, hp => by
    rw [lampsV, at_set (by rw [lampsV_len]; omega)]
    by_cases e : p = k
    · subst e; rw [if_pos rfl]
    · rw [if_neg e]; exact lampsV_at L b n k (by omega) p (by omega)
set_option maxRecDepth 20000 in
set_option maxHeartbeats 2000000 in
theorem jlamps_any (D E : Option Addr) (cL cX n : Nat) (L : List (Int × Int)) (gr wt : Int) (b : Bool) (w : World) (hLn : L.length = n) (hL : Prs w w.heap.size D L) (h8 : n ≤ 60) :
    Calls Try.prog 14 #[.agg #[.slice D n cL, .int .i64 gr, .slice E 2 cX, .int .i64 wt, .bool b]] w fun e w' => ∃ (A : Option Addr) (c : Nat), e = .returned (.slice A n c) ∧ Below w.heap.size w w' ∧ Ints .i64 w' w'.heap.size A (lampsV L b n n) := by
  have HL := Lib.hid hLn
  clear hLn
  have bS := lat_alloc (Below.refl w.heap.size w) (.cells #[.slice D n cL, .int .i64 gr, .slice E 2 cX, .int .i64 wt, .bool b] 27)
  have BS := Blk.new (w := w) (t := 27) (cs := #[.slice D n cL, .int .i64 gr, .slice E 2 cX, .int .i64 wt, .bool b])
  have hL0 := hL.grow bS
  have s0 := BS.at 0 rfl
  go_enter Try.func14, Try.ntmps14
  have s0a := (BS.alloc (.cells (madeCells #[.int .i64 0] n) 3)).at 0 rfl
  go_wp2_with (obtain ⟨ii, hi0, hi1, hi2, hi3⟩ := info_parts int_info; refine wpList_make_row _ rfl _ _ 23 rfl 3 ii (.int .i64 0) Try.underlying23 hi0 hi1 hi2 rfl .i64 .i64 n rfl rfl (by rw [hi3]; omega) (by omega) ?_)
  clear s0 s0a hL
  have hgS : w.heap.size < (w.alloc (.cells #[.slice D n cL, .int .i64 gr, .slice E 2 cX, .int .i64 wt, .bool b] 27)).heap.size := BS.lt
  have hsz := heap_size w (.cells #[.slice D n cL, .int .i64 gr, .slice E 2 cX, .int .i64 wt, .bool b] 27)
  generalize w.alloc (.cells #[.slice D n cL, .int .i64 gr, .slice E 2 cX, .int .i64 wt, .bool b] 27) = w0 at *
  have bM := lat_alloc (Below.refl w0.heap.size w0) (.cells (madeCells #[.int .i64 0] n) 3)
  have N0 := zeros_nxb (w := w0) n (by omega)
  have hgb := N0.lt
  have hL1 := hL0.grow bM
  have hne0 : ∀ a, D = some a → 0 < n → a.block < w0.heap.size := fun a ha h0 => by
    obtain ⟨b, off, hA, hB, _⟩ := hL0 (by have := HL.out; omega)
    rw [ha] at hA; injection hA with hA; subst hA; exact hB
  generalize w0.alloc (.cells (madeCells #[.int .i64 0] n) 3) = W at *
  obtain ⟨gb, hgbe⟩ : ∃ gb, w0.heap.size = gb := ⟨_, rfl⟩
  have HGB := Lib.hid hgbe
  obtain ⟨gS, hgSe⟩ : ∃ gS, w.heap.size = gS := ⟨_, rfl⟩
  have HGS := Lib.hid hgSe
  rw [hgbe] at N0 hgb bM hne0 hgS
  rw [hgSe] at BS hgS bS hsz
  have hsz2 : gS + 1 = gb := by omega
  have BS0 : Blk w0 gS 27 #[.slice D n cL, .int .i64 gr, .slice E 2 cX, .int .i64 wt, .bool b] := BS
  rw [hgSe, hsz2]
  clear hgbe hgSe hL0 BS hsz hsz2
  go_loopw [15] (fun v wr => ∃ i : Nat, i ≤ n ∧ v = .int .i64 i ∧ Below gb w0 wr ∧ W.heap.size ≤ wr.heap.size ∧ NxB wr gb (lampsV L b n i) ∧ Prs wr wr.heap.size D L) (fun v _ => n - (intOf v).toNat)
  case atStart => exact ⟨0, by omega, rfl, bM, Nat.le_refl _, N0, hL1⟩
  case round =>
    obtain ⟨i, hi, rfl, hbr, hsr, Nr, Lr⟩ := hrel
    have S4 := BS0.low hbr hgS
    by_cases hlt : i < n
    · have hltZ : (i : Int) < n := by omega
      have LrH := Lib.hid Lr
      obtain ⟨b2, off2, rfl, hbB2, l0, l1⟩ := Lr.at (i := i) (by have := HL.out; omega)
      have B7 := Blk.new (w := wr) (t := 53) (cs := #[.int .i64 (prAt L i).1, .int .i64 (prAt L i).2])
      have bX := lat_alloc (Below.refl wr.heap.size wr) (.cells #[.int .i64 (prAt L i).1, .int .i64 (prAt L i).2] 53)
      have k0 := B7.at 0 rfl
      have Nx := Nr.below bX
      have S5 := S4.below bX
      have HLT := Lib.hid (show lampsV L b n (i + 1) = (lampsV L b n i).set i (cond b 4 (lmp L i)) by rw [lampsV])
      have hgl := Nr.lt
      have hneD := Lib.hid (hne0 _ rfl (by omega))
      cases b with
      | false =>
        go_wp2_with (refine step_store_nx (by rfl) (by rfl) (by rfl) (g := gb) (i := i) (by rfl) (by rfl) Nx (by rw [lampsV_len]; exact hlt) ?_; intro w5 N5 hg5; have s4 := (S5.grown hg5 (by intro e; injection e with e; omega)).at 4 rfl)
        go_roundw
        case rel => exact ⟨i + 1, hlt, by go_num, Below.grown (hbr.trans (bX.mono (Nat.le_of_lt hgl))) hg5 (Nat.le_trans (Nat.le_of_lt hgl) bX.size) (fun k e => by injection e with e; omega), Nat.le_trans hsr (Nat.le_trans bX.size hg5.size), by rw [HLT.out]; exact N5, (LrH.out.grow bX).keep hg5.size (fun a ha hB => hg5.block _ hB (fun e => by injection ha with ha; subst ha; injection e with e; have := hneD.out; simp at e this; omega))⟩
        case measure => simp [intOf]; omega
      | true =>
        go_wp2_with (first | (refine step_store_nx (by rfl) (by rfl) (by rfl) (g := gb) (i := i) (by rfl) (by rfl) Nx (by rw [lampsV_len]; exact hlt) ?_; intro w5 N5 hg5; have s4 := (S5.grown hg5 (by intro e; injection e with e; omega)).at 4 rfl) | (refine step_store_nx (by rfl) (by rfl) (by rfl) (g := gb) (i := i) (by rfl) (by rfl) N5 (by rw [List.length_set, lampsV_len]; exact hlt) ?_; intro w6 N6 hg6))
        have hb5 : Below gb w0 w5 := Below.grown (hbr.trans (bX.mono (Nat.le_of_lt hgl))) hg5 (Nat.le_trans (Nat.le_of_lt hgl) bX.size) (fun k e => by injection e with e; omega)
        have hs5 : gb ≤ w5.heap.size := Nat.le_trans (Nat.le_of_lt hgl) (Nat.le_trans bX.size hg5.size)
        go_roundw
        case rel => exact ⟨i + 1, hlt, by go_num, Below.grown hb5 hg6 hs5 (fun k e => by injection e with e; omega), Nat.le_trans hsr (Nat.le_trans bX.size (Nat.le_trans hg5.size hg6.size)), by rw [HLT.out]; rw [List.set_set] at N6; exact N6, (((LrH.out.grow bX).keep hg5.size (fun a ha hB => hg5.block _ hB (fun e => by injection ha with ha; subst ha; injection e with e; have := hneD.out; simp at e this; omega)))).keep hg6.size (fun a ha hB => hg6.block _ hB (fun e => by injection ha with ha; subst ha; injection e with e; have := hneD.out; simp at e this; omega))⟩
        case measure => simp [intOf]; omega
    · have hltZ : ¬ (i : Int) < n := by omega
      obtain rfl : n = i := by omega
      have bF : Below w.heap.size w wr := by rw [HGS.out]; exact bS.trans (Below.mono hbr (Nat.le_of_lt hgS))
      go_wp2
      go_ret
      exact ⟨_, ⟨_, rfl⟩, bF, Nr.ints⟩
end Go.Proofs.Ytncmikkobngfeaa
namespace Go.Proofs.Ytncmikkobngfeaa
open Go.ChangeShapes Go.WideShapes Go.RowKit
set_option linter.unusedVariables false

theorem LiB.ne_sg {w : World} {g b : Nat} {L : List (Int × Int)} {cs : Array Value} (h : LiB w g L) (hB : Blk w b 27 cs) : g ≠ b := fun e => by
  obtain ⟨ds, hd, _⟩ := h
  rw [e] at hd
  have := hd.symm.trans hB
  injection this with this; injection this with _ this; exact absurd this (by decide)
theorem NxB.ne_sg {w : World} {g b : Nat} {L : List Int} {cs : Array Value} (h : NxB w g L) (hB : Blk w b 27 cs) : g ≠ b := fun e => by
  obtain ⟨ds, hd, _⟩ := h
  rw [e] at hd
  have := hd.symm.trans hB
  injection this with this; injection this with _ this; exact absurd this (by decide)
def jwP : List Ph := [⟨0, 0, 2, 3, 1, 0, 0, 0⟩, ⟨0, 0, 2, 3, 1, 0, 0, 0⟩]
def jwC : List Int := [2, 1]
theorem jw_lt {p : Nat} {Q : Nat → Prop} (h0 : Q 0) (h1 : Q 1) (h : p < 2) : Q p := by
  rcases (by omega : p = 0 ∨ p = 1) with rfl | rfl
  · exact h0
  · exact h1
theorem jw_rows : RowsC jwC 2 := ⟨rfl, fun p q hp hq => by
  refine jw_lt (Q := fun p => hasB (at_ jwC p) q = hasB (at_ jwC q) p) ?_ ?_ hp
  · exact jw_lt (Q := fun q => hasB (at_ jwC 0) q = hasB (at_ jwC q) 0) rfl (by decide) hq
  · exact jw_lt (Q := fun q => hasB (at_ jwC 1) q = hasB (at_ jwC q) 1) (by decide) rfl hq, fun p hp => jw_lt (Q := fun p => hasB (at_ jwC p) p = false) (by decide) (by decide) hp⟩
theorem jw_ok : PhOk ⟨0, 0, 2, 3, 1, 0, 0, 0⟩ := ⟨by decide, by decide, by decide, by decide, by decide⟩
theorem jw_c : JunC jwP jwC 2 0 := ⟨rfl, by omega, by omega, by omega, fun p hp => jw_lt (Q := fun p => PhOk (phAt jwP p)) jw_ok jw_ok hp, fun p hp => jw_lt (Q := fun p => 0 ≤ (phAt jwP p).ri ∧ (phAt jwP p).ri ≤ 1) (by decide) (by decide) hp, fun p hp => jw_lt (Q := fun p => 0 ≤ (phAt jwP p).gr ∧ (phAt jwP p).gr ≤ 3) (by decide) (by decide) hp, jw_rows⟩
theorem jw_v : JunV jwP jwC 0 := ⟨by decide, rfl, by unfold Valid6; decide, by decide, fun i hi => jw_lt (Q := fun i => placeB (phAt jwP i) = true ∧ timB (phAt jwP i) = true) (by decide) (by decide) hi, fun p hp q hq h => by
  have : p < 2 := hp
  obtain rfl : p = 1 := by omega
  obtain rfl : q = 0 := by omega
  decide, fun g hg => ⟨0, by decide, by
    have : groupsI jwP jwP.length = 1 := by decide
    rw [this] at hg
    have : g = 0 := by omega
    subst this; rfl⟩⟩
def jw0 : Ct := initC jwP 2 0
def jw1 : Ct := stepC jwP jwC 2 jw0 0
def jw2 : Ct := stepC jwP jwC 2 jw1 0
theorem jw0_v : CtV jwP jwC 2 0 jw0 := init_v (by omega) (by omega) jw_c.gr
theorem jw1_v : CtV jwP jwC 2 0 jw1 := step_v jw_rows jw0_v (by omega) jw_c.pok jw_c.ri jw_c.gr 0
theorem jw2_v : CtV jwP jwC 2 0 jw2 := step_v jw_rows jw1_v (by omega) jw_c.pok jw_c.ri jw_c.gr 0
theorem jw2_len : jw2.li.length = 2 := jw2_v.li
theorem jw_f1 : false = true ↔ Fb jwC (seenV jw1.li 2 (-1)) := ⟨(fun h => absurd h (by decide)), fun h => absurd h (quiet_none jw_rows jw1_v)⟩
theorem jw_f2 : true = true ↔ Fb jwC (seenV jw2.li 2 1) := ⟨fun _ => (quiet_stuck (s := 1) jw_rows jw2_v (by omega)).2 ⟨0, by omega, by omega, by decide, by decide⟩, fun _ => rfl⟩
set_option maxRecDepth 40000 in
set_option maxHeartbeats 4000000 in
theorem awake_any (w : World) : Calls Try.prog 7 #[] w fun e w' => e = .returned (.bool true) ∧ Below w.heap.size w w' := by
  go_enter Try.func7, Try.ntmps7
  go_wp2_with fail
  obtain ⟨W0, hW0⟩ : ∃ W0, W0 = (((w.alloc (.cells #[.int .i64 0, .int .i64 0, .int .i64 2, .int .i64 3, .int .i64 1, .int .i64 0, .int .i64 0, .int .i64 0] 56)).alloc (.cells #[.int .i64 0, .int .i64 0, .int .i64 2, .int .i64 3, .int .i64 1, .int .i64 0, .int .i64 0, .int .i64 0, .int .i64 0, .int .i64 0, .int .i64 2, .int .i64 3, .int .i64 1, .int .i64 0, .int .i64 0, .int .i64 0] 56)).alloc (.cells #[.int .i64 2, .int .i64 1] 3)).alloc (.cells #[.slice (some ⟨w.heap.size + 1, 0, none⟩) 2 2, .slice (some ⟨w.heap.size + 1 + 1, 0, none⟩) 2 2, .int .i64 0] 31) := ⟨_, rfl⟩
  have hsz : W0.heap.size = w.heap.size + 1 + 1 + 1 + 1 := by rw [hW0]; simp only [World.size_alloc]
  have hB0 : Below w.heap.size w W0 := by
    rw [hW0]
    exact lat_alloc (lat_alloc (lat_alloc (lat_alloc (Below.refl w.heap.size w) _) _) _) _
  have bS : Blk W0 w.heap.size 56 #[.int .i64 0, .int .i64 0, .int .i64 2, .int .i64 3, .int .i64 1, .int .i64 0, .int .i64 0, .int .i64 0] := by
    have := (((Blk.new (w := w) (t := 56) (cs := #[.int .i64 0, .int .i64 0, .int .i64 2, .int .i64 3, .int .i64 1, .int .i64 0, .int .i64 0, .int .i64 0])).alloc (.cells #[.int .i64 0, .int .i64 0, .int .i64 2, .int .i64 3, .int .i64 1, .int .i64 0, .int .i64 0, .int .i64 0, .int .i64 0, .int .i64 0, .int .i64 2, .int .i64 3, .int .i64 1, .int .i64 0, .int .i64 0, .int .i64 0] 56)).alloc (.cells #[.int .i64 2, .int .i64 1] 3)).alloc (.cells #[.slice (some ⟨w.heap.size + 1, 0, none⟩) 2 2, .slice (some ⟨w.heap.size + 1 + 1, 0, none⟩) 2 2, .int .i64 0] 31)
    rw [← hW0] at this; simpa only [World.size_alloc] using this
  have bP : Blk W0 (w.heap.size + 1) 56 #[.int .i64 0, .int .i64 0, .int .i64 2, .int .i64 3, .int .i64 1, .int .i64 0, .int .i64 0, .int .i64 0, .int .i64 0, .int .i64 0, .int .i64 2, .int .i64 3, .int .i64 1, .int .i64 0, .int .i64 0, .int .i64 0] := by
    have := ((Blk.new (w := w.alloc (.cells #[.int .i64 0, .int .i64 0, .int .i64 2, .int .i64 3, .int .i64 1, .int .i64 0, .int .i64 0, .int .i64 0] 56)) (t := 56) (cs := #[.int .i64 0, .int .i64 0, .int .i64 2, .int .i64 3, .int .i64 1, .int .i64 0, .int .i64 0, .int .i64 0, .int .i64 0, .int .i64 0, .int .i64 2, .int .i64 3, .int .i64 1, .int .i64 0, .int .i64 0, .int .i64 0])).alloc (.cells #[.int .i64 2, .int .i64 1] 3)).alloc (.cells #[.slice (some ⟨w.heap.size + 1, 0, none⟩) 2 2, .slice (some ⟨w.heap.size + 1 + 1, 0, none⟩) 2 2, .int .i64 0] 31)
    rw [← hW0] at this; simpa only [World.size_alloc] using this
  have bC : Blk W0 (w.heap.size + 1 + 1) 3 #[.int .i64 2, .int .i64 1] := by
    have := (Blk.new (w := (w.alloc (.cells #[.int .i64 0, .int .i64 0, .int .i64 2, .int .i64 3, .int .i64 1, .int .i64 0, .int .i64 0, .int .i64 0] 56)).alloc (.cells #[.int .i64 0, .int .i64 0, .int .i64 2, .int .i64 3, .int .i64 1, .int .i64 0, .int .i64 0, .int .i64 0, .int .i64 0, .int .i64 0, .int .i64 2, .int .i64 3, .int .i64 1, .int .i64 0, .int .i64 0, .int .i64 0] 56)) (t := 3) (cs := #[.int .i64 2, .int .i64 1])).alloc (.cells #[.slice (some ⟨w.heap.size + 1, 0, none⟩) 2 2, .slice (some ⟨w.heap.size + 1 + 1, 0, none⟩) 2 2, .int .i64 0] 31)
    rw [← hW0] at this; simpa only [World.size_alloc] using this
  have bJ : Blk W0 (w.heap.size + 1 + 1 + 1) 31 #[.slice (some ⟨w.heap.size + 1, 0, none⟩) 2 2, .slice (some ⟨w.heap.size + 1 + 1, 0, none⟩) 2 2, .int .i64 0] := by
    have := Blk.new (w := ((w.alloc (.cells #[.int .i64 0, .int .i64 0, .int .i64 2, .int .i64 3, .int .i64 1, .int .i64 0, .int .i64 0, .int .i64 0] 56)).alloc (.cells #[.int .i64 0, .int .i64 0, .int .i64 2, .int .i64 3, .int .i64 1, .int .i64 0, .int .i64 0, .int .i64 0, .int .i64 0, .int .i64 0, .int .i64 2, .int .i64 3, .int .i64 1, .int .i64 0, .int .i64 0, .int .i64 0] 56)).alloc (.cells #[.int .i64 2, .int .i64 1] 3)) (t := 31) (cs := #[.slice (some ⟨w.heap.size + 1, 0, none⟩) 2 2, .slice (some ⟨w.heap.size + 1 + 1, 0, none⟩) 2 2, .int .i64 0])
    rw [← hW0] at this; simpa only [World.size_alloc] using this
  rw [← hW0]
  have hP0 : Phs W0 W0.heap.size (some ⟨w.heap.size + 1, 0, none⟩) jwP := fun _ => ⟨_, 0, rfl, by omega, fun i hi => by
    rcases (by have : i < 2 := hi; omega : i = 0 ∨ i = 1) with rfl | rfl
    · exact ⟨bP.at 0 rfl, bP.at 1 rfl, bP.at 2 rfl, bP.at 3 rfl, bP.at 4 rfl, bP.at 5 rfl, bP.at 6 rfl, bP.at 7 rfl⟩
    · exact ⟨bP.at 8 rfl, bP.at 9 rfl, bP.at 10 rfl, bP.at 11 rfl, bP.at 12 rfl, bP.at 13 rfl, bP.at 14 rfl, bP.at 15 rfl⟩⟩
  have hC0 : Ints .i64 W0 W0.heap.size (some ⟨w.heap.size + 1 + 1, 0, none⟩) jwC := fun _ => ⟨_, 0, rfl, by omega, fun i hi => by
    rcases (by have : i < 2 := hi; omega : i = 0 ∨ i = 1) with rfl | rfl
    · exact bC.at 0 rfl
    · exact bC.at 1 rfl⟩
  clear hW0 bS bP bC
  refine wp_region_pre (R := Bl) 5 39 [fun v _ => v = .agg #[.slice (some ⟨w.heap.size + 1, 0, none⟩) 2 2, .slice (some ⟨w.heap.size + 1 + 1, 0, none⟩) 2 2, .int .i64 0], fun v _ => v = .agg #[.slice (some ⟨w.heap.size + 1, 0, none⟩) 2 2, .slice (some ⟨w.heap.size + 1 + 1, 0, none⟩) 2 2, .int .i64 0], fun v w => SgH w W0.heap.size 2 (v) jw0 false, fun v w => SgH w W0.heap.size 2 (v) jw1 false, fun v w => ∃ b, v = .pointer (some ⟨b, 0, none⟩) ∧ Blk w b 27 #[.slice none 0 0, .int .i64 0, .slice none 0 0, .int .i64 0, .bool false] ∧ W0.heap.size ≤ b] (Bl.trans) (Bl.drew) (by kernel_rfl) (fun _ _ d _ _ h => by cases d <;> exact h) rfl (by kernel_rfl) (stay_cons (stays_v _) (stay_cons (stays_v _) (stay_cons (fun v w w1 h hb => h.below hb) (stay_cons (fun v w w1 h hb => h.below hb) (stay_cons (fun v w w1 h hb => by obtain ⟨b, h1, h2, h3⟩ := h; exact ⟨b, h1, h2.below hb, h3⟩) (stay_nil)))))) ?_ ?_
  · simp only [List.take_succ_cons, List.take_zero]
    refine steps_cons (Bl.refl) (fun ev xw hb hc hf hfr hd hr => ?_) ?_
    · have e2 : ev (.tmp 2) = .pointer (some ⟨w.heap.size + 1 + 1 + 1, 0, none⟩) := hfr 2 (by kernel_rfl)
      clear hfr hd
      have k0 := (bJ.below hb).at 0 rfl
      have k1 := (bJ.below hb).at 1 rfl
      have k2 := (bJ.below hb).at 2 rfl
      show OpOk _ _ ev xw fun v w' => Bl xw w' ∧ (v = .agg #[.slice (some ⟨w.heap.size + 1, 0, none⟩) 2 2, .slice (some ⟨w.heap.size + 1 + 1, 0, none⟩) 2 2, .int .i64 0])
      refine opOk_hid (fun Rp HR => ?_)
      unfold OpOk
      go_simp
      rw [HR.out]
      exact ⟨hr, rfl⟩
    refine steps_cons (Bl.refl) (fun ev xw hb hc hf hfr hd hr => ?_) ?_
    · have e2 : ev (.tmp 2) = .pointer (some ⟨w.heap.size + 1 + 1 + 1, 0, none⟩) := hfr 2 (by kernel_rfl)
      clear hfr hd
      have k0 := (bJ.below hb).at 0 rfl
      have k1 := (bJ.below hb).at 1 rfl
      have k2 := (bJ.below hb).at 2 rfl
      show OpOk _ _ ev xw fun v w' => Bl xw w' ∧ (v = .agg #[.slice (some ⟨w.heap.size + 1, 0, none⟩) 2 2, .slice (some ⟨w.heap.size + 1 + 1, 0, none⟩) 2 2, .int .i64 0])
      refine opOk_hid (fun Rp HR => ?_)
      unfold OpOk
      go_simp
      rw [HR.out]
      exact ⟨hr, rfl⟩
    refine steps_cons (Bl.refl) (fun ev xw hb hc hf hfr hd hr => ?_) ?_
    · have e13 : ev (.tmp 13) = .agg #[.slice (some ⟨w.heap.size + 1, 0, none⟩) 2 2, .slice (some ⟨w.heap.size + 1 + 1, 0, none⟩) 2 2, .int .i64 0] := hd 1 13 (by kernel_rfl)
      clear hfr hd
      show OpOk _ _ ev xw fun v w' => Bl xw w' ∧ (SgH w' W0.heap.size 2 (v) jw0 false)
      refine opOk_hid (fun Rp HR => ?_)
      unfold OpOk
      go_simp
      refine (jnew_any (some ⟨w.heap.size + 1, 0, none⟩) (some ⟨w.heap.size + 1 + 1, 0, none⟩) 2 2 2 jwP 0 xw rfl (hP0.grow hb) (by omega) (by omega)).mono ?_
      rintro e w'' ⟨v, rfl, hw, hs⟩
      refine ⟨_, rfl, ?_⟩
      rw [HR.out]
      exact ⟨hw, hs.lower (Below.size hb)⟩
    refine steps_cons (Bl.refl) (fun ev xw hb hc hf hfr hd hr => ?_) ?_
    · have e12 : ev (.tmp 12) = .agg #[.slice (some ⟨w.heap.size + 1, 0, none⟩) 2 2, .slice (some ⟨w.heap.size + 1 + 1, 0, none⟩) 2 2, .int .i64 0] := hd 0 12 (by kernel_rfl)
      obtain ⟨gl14, cl14, gx14, cx14, e14, G14, X14, L14, N14⟩ : SgH xw W0.heap.size 2 (ev (.tmp 14)) jw0 false := hd 2 14 (by kernel_rfl)
      clear hfr hd
      show OpOk _ _ ev xw fun v w' => Bl xw w' ∧ (SgH w' W0.heap.size 2 (v) jw1 false)
      refine opOk_hid (fun Rp HR => ?_)
      unfold OpOk
      go_simp
      refine (jstep_s (some ⟨w.heap.size + 1, 0, none⟩) (some ⟨w.heap.size + 1 + 1, 0, none⟩) (some ⟨gl14, 0, none⟩) (some ⟨gx14, 0, none⟩) 2 2 cl14 cx14 2 jwP jwC jw0 jw1 0 0 (-1) false xw rfl jw_c jw_v jw0_v (hP0.grow hb) (hC0.grow hb) (by omega) L14.prs N14.ints jw_f1).mono ?_
      rintro e w'' ⟨v, rfl, hw, hs⟩
      refine ⟨_, rfl, ?_⟩
      rw [HR.out]
      exact ⟨hw, hs.lower (Below.size hb)⟩
    refine steps_cons (Bl.refl) (fun ev xw hb hc hf hfr hd hr => ?_) ?_
    · clear hfr hd
      show OpOk _ _ ev xw fun v w' => Bl xw w' ∧ (∃ b, v = .pointer (some ⟨b, 0, none⟩) ∧ Blk w' b 27 #[.slice none 0 0, .int .i64 0, .slice none 0 0, .int .i64 0, .bool false] ∧ W0.heap.size ≤ b)
      refine opOk_hid (fun Rp HR => ?_)
      unfold OpOk
      go_simp
      rw [HR.out]
      exact ⟨lat_alloc (Below.refl _ _) _, _, rfl, Blk.new, Below.size hb⟩
    exact steps_nil
  · intro vs W1 hb1 hk
    obtain ⟨gl, cl, gx, cx, k3, ⟨hgl, hcl⟩, hgx, L1, N1⟩ : SgH W1 W0.heap.size 2 (vs 3) jw1 false := hk 3 (by omega)
    obtain ⟨g3, k4, X1, hg3⟩ : ∃ b, vs 4 = .pointer (some ⟨b, 0, none⟩) ∧ Blk W1 b 27 #[.slice none 0 0, .int .i64 0, .slice none 0 0, .int .i64 0, .bool false] ∧ W0.heap.size ≤ b := hk 4 (by omega)
    clear hk
    simp only [List.take_succ_cons, List.take_zero, List.drop_succ_cons, List.drop_zero, putAll, Act.put, List.setIfInBounds_toArray, List.set_cons_zero, List.set_cons_succ, k3, k4, Nat.reduceAdd]
    unfold wpList
    have hlg : gl ≠ g3 := L1.ne_sg X1
    have hxg : gx ≠ g3 := N1.ne_sg X1
    refine step_store_sg (by rfl) (by rfl) (by rfl) (by rfl) (by rfl) X1 ?_
    intro W2 X2 hg2
    have L2 := L1.grown hg2 (by intro e; injection e with e; exact hlg e.symm)
    have N2 := N1.grown hg2 (by intro e; injection e with e; exact hxg e.symm)
    have B2 : Below W0.heap.size W0 W2 := Below.grown hb1 hg2 hb1.size (fun k e => by injection e with e; omega)
    have J2 := bJ.low B2 (by omega)
    have hs2 := B2.size
    clear hb1 X1 L1 N1 hg2 k3 k4
    have j0 := J2.at 0 rfl; have j1 := J2.at 1 rfl; have j2 := J2.at 2 rfl
    have x0 := X2.at 0 rfl; have x1 := X2.at 1 rfl; have x2 := X2.at 2 rfl; have x3 := X2.at 3 rfl; have x4 := X2.at 4 rfl
    unfold wpList
    go_wp2_with fail
    refine (jstep_s (some ⟨w.heap.size + 1, 0, none⟩) (some ⟨w.heap.size + 1 + 1, 0, none⟩) (some ⟨gl, 0, none⟩) (some ⟨gx, 0, none⟩) 2 2 cl cx 2 jwP jwC jw1 jw2 0 0 1 true W2 rfl jw_c jw_v jw1_v (hP0.grow B2) (hC0.grow B2) (by omega) L2.prs N2.ints jw_f2).mono ?_
    rintro e w3 ⟨v, rfl, b3, gl2, cl2, gx2, cx2, rfl, ⟨hgl2, hcl2⟩, hgx2, L3, N3⟩
    have X3 := X2.below b3
    have hg3l := X2.lt
    have SV2 := Lib.hid jw1_v
    clear j0 j1 j2 x0 x1 x2 x3 x4
    have bT := lat_alloc (Below.refl w3.heap.size w3) (.cells #[.slice (some ⟨gl2, 0, none⟩) 2 cl2, .int .i64 jw2.gr, .slice (some ⟨gx2, 0, none⟩) 2 cx2, .int .i64 jw2.wt, .bool true] 27)
    have T4 := Blk.new (w := w3) (t := 27) (cs := #[.slice (some ⟨gl2, 0, none⟩) 2 cl2, .int .i64 jw2.gr, .slice (some ⟨gx2, 0, none⟩) 2 cx2, .int .i64 jw2.wt, .bool true])
    have L4 := L3.below bT
    have X4 := X3.below bT
    have B4 := B2.trans ((b3.trans (bT.mono b3.size)).mono hs2)
    have t0 := T4.at 0 rfl; have t1 := T4.at 1 rfl; have t2 := T4.at 2 rfl; have t3 := T4.at 3 rfl; have t4 := T4.at 4 rfl
    go_wp2_with fail
    generalize w3.alloc (.cells #[.slice (some ⟨gl2, 0, none⟩) 2 cl2, .int .i64 jw2.gr, .slice (some ⟨gx2, 0, none⟩) 2 cx2, .int .i64 jw2.wt, .bool true] 27) = W4 at *
    generalize w3.heap.size = g4 at *
    refine (jlamps_any (some ⟨gl2, 0, none⟩) (some ⟨gx2, 0, none⟩) cl2 cx2 2 jw2.li jw2.gr jw2.wt true W4 jw2_len L4.prs (by omega)).mono ?_
    rintro e w5 ⟨A, cA, rfl, b5, I5⟩
    obtain ⟨bI, oI, rfl, hbI, hI⟩ := I5 (by rw [lampsV_len]; omega)
    have i0 := hI 0 (by rw [lampsV_len]; omega)
    rw [lampsV_at jw2.li true 2 2 (Nat.le_refl 2) 0 (by omega)] at i0
    have i0 : w5.cell? ⟨bI, oI, none⟩ = some (.int .i64 4) := i0
    have x4 := (X4.below b5).at 4 rfl
    have y4 := (T4.below b5).at 4 rfl
    clear t0 t1 t2 t3 t4
    go_wp2
    go_ret
    exact ⟨rfl, hB0.trans ((B4.trans (b5.mono B4.size)).mono (by omega))⟩
end Go.Proofs.Ytncmikkobngfeaa
