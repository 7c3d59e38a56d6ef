/-
  Copies of signals; a step of a latched signal; Reset. Conditions: none.
-/
import Derived.Test.YtncmikkobngfeaaJs
import Derived.Test.YtncmikkobngfeaaCl
namespace Go.Proofs.Ytncmikkobngfeaa
open Go.ChangeShapes Go.WideShapes Go.ChangeAt Go.RowKit
set_option linter.unusedVariables false

theorem step_store_ctsg {ops : Array Oper} {o : Oper} {a : Act} {w : World} {rest : List Oper} {Q : Exit → Act → World → Prop} (hgd : o.guard = none) {p v : Operand} (ho : o.op = .store 25 p v) (hd : o.dst = none) {b : Nat} {A1 A2 : Option Addr} {n1 m1 n2 m2 : Nat} {gr wt : Int} {x0 y0 z0 u0 v0 : Value} (hp : a.eval p = .pointer (some ⟨b, 0, none⟩)) (hv : a.eval v = .agg #[.slice A1 n1 m1, .int .i64 gr, .slice A2 n2 m2, .int .i64 wt]) (hB : Blk w b 27 #[x0, y0, z0, u0, v0])
    (h : ∀ w' : World, Blk w' b 27 #[.slice A1 n1 m1, .int .i64 gr, .slice A2 n2 m2, .int .i64 wt, v0] → w.grownBy w' (some b) → wpList Try.prog ops Q rest a w') :
    wpList Try.prog ops Q (o :: rest) a w := by
  unfold wpList
  have hw : Region.wanted o (yielded ops a.tmps) = true := by unfold Region.wanted; rw [hgd]
  rw [if_pos hw]
  refine .inl ?_
  have f0 := hB.frozen 0
  have f1 := hB.frozen 1
  have f2 := hB.frozen 2
  have f3 := hB.frozen 3
  have c0 := hB.at 0 rfl
  have c1 := hB.at 1 rfl
  have c2 := hB.at 2 rfl
  have c3 := hB.at 3 rfl
  have hk := h _ ((((hB.set_ 0 (.slice A1 n1 m1)).set_ 1 (.int .i64 gr)).set_ 2 (.slice A2 n2 m2)).set_ 3 (.int .i64 wt)) (grownBy_setAt (grownBy_setAt (grownBy_setAt (grownBy_set w b 0 _) b 1 _ rfl) b 2 _ rfl) b 3 _ rfl)
  unfold Oper.wp
  simp only [execOp, ho, hp, hv]
  go_simp
  all_goals (first | exact hk | (simp [Act.put, hd]; exact hk))
set_option maxRecDepth 20000 in
set_option maxHeartbeats 2000000 in
theorem clsig_any (D E : Option Addr) (cL cX n : Nat) (c : Ct) (b : Bool) (w : World) (hLn : c.li.length = n) (hXn : c.nx.length = 2) (hL : Prs w w.heap.size D c.li) (hX : Ints .i64 w w.heap.size E c.nx) (h1 : 0 < n) (h8 : n ≤ 60) :
    Calls Try.prog 35 #[.agg #[.slice D n cL, .int .i64 c.gr, .slice E 2 cX, .int .i64 c.wt, .bool b]] w fun e w' => ∃ v, e = .returned v ∧ Below w.heap.size w w' ∧ SgH w' w.heap.size n v c b := by
  have HL := Lib.hid hLn
  have HX := Lib.hid hXn
  clear hLn hXn
  have bW := lat_alloc (lat_alloc (Below.refl w.heap.size w) (.cells #[.slice D n cL, .int .i64 c.gr, .slice E 2 cX, .int .i64 c.wt, .bool b] 27)) (.cells #[.slice none 0 0, .int .i64 0, .slice none 0 0, .int .i64 0, .bool false] 27)
  have BS := (Blk.new (w := w) (t := 27) (cs := #[.slice D n cL, .int .i64 c.gr, .slice E 2 cX, .int .i64 c.wt, .bool b])).alloc (.cells #[.slice none 0 0, .int .i64 0, .slice none 0 0, .int .i64 0, .bool false] 27)
  have BR := Blk.new (w := w.alloc (.cells #[.slice D n cL, .int .i64 c.gr, .slice E 2 cX, .int .i64 c.wt, .bool b] 27)) (t := 27) (cs := #[.slice none 0 0, .int .i64 0, .slice none 0 0, .int .i64 0, .bool false])
  rw [heap_size] at BR
  have s0 := BS.at 0 rfl; have s1 := BS.at 1 rfl; have s2 := BS.at 2 rfl; have s3 := BS.at 3 rfl; have s4 := BS.at 4 rfl
  go_enter Try.func35, Try.ntmps35
  go_wp2_with fail
  have hL1 := hL.grow bW
  have hX1 := hX.grow bW
  generalize (w.alloc (.cells #[.slice D n cL, .int .i64 c.gr, .slice E 2 cX, .int .i64 c.wt, .bool b] 27)).alloc (.cells #[.slice none 0 0, .int .i64 0, .slice none 0 0, .int .i64 0, .bool false] 27) = W at *
  refine (clone_ct D E cL cX n c W HL.out HX.out hL1 hX1 h1 h8).mono ?_
  rintro e w3 ⟨gl, cl, gx, cx, rfl, b3, hgl, hcl, hgx, _, L3, N3⟩
  have S3 := BS.below b3
  have R3 := BR.below b3
  have hsW := bW.size
  have hRl := BR.lt
  clear s0 s1 s2 s3 s4 BS BR hL hX hL1 hX1
  go_wp2_with (first | (refine step_store_ctsg (by rfl) (by rfl) (by rfl) (b := w.heap.size) (by rfl) (by rfl) S3 ?_; intro w4 S4 hg4; have t0 := S4.at 0 rfl; have t1 := S4.at 1 rfl; have t2 := S4.at 2 rfl; have t3 := S4.at 3 rfl; have t4 := S4.at 4 rfl; have R4 := R3.grown hg4 (by intro e; injection e with e; omega)) | (refine step_store_sg (by rfl) (by rfl) (by rfl) (b := w.heap.size + 1) (by rfl) (by rfl) R4 ?_; intro w5 R5 hg5))
  have L4 := L3.grown hg4 (by intro e; injection e with e; omega)
  have N4 := N3.grown hg4 (by intro e; injection e with e; omega)
  refine bodyPost_ret (results_cell rfl rfl (load_signal R5)) rfl ?_
  have hF := bW.trans (b3.mono hsW)
  have hF4 : Below w.heap.size w w4 := Below.grown hF hg4 hF.size (fun k e => by injection e with e; omega)
  have hF5 : Below w.heap.size w w5 := Below.grown hF4 hg5 hF4.size (fun k e => by injection e with e; omega)
  exact ⟨_, rfl, hF5, gl, cl, gx, cx, rfl, ⟨by omega, hcl⟩, by omega, L4.grown hg5 (by intro e; injection e with e; omega), N4.grown hg5 (by intro e; injection e with e; omega)⟩
set_option maxRecDepth 20000 in
set_option maxHeartbeats 2000000 in
theorem jstep_l (A Bc D E : Option Addr) (cP d cL cX n : Nat) (c : Ct) (st t k : Int) (w : World) (h1 : 0 < n) (h8 : n ≤ 60) (hLn : c.li.length = n) (hXn : c.nx.length = 2) (hL : Prs w w.heap.size D c.li) (hX : Ints .i64 w w.heap.size E c.nx) :
    Calls Try.prog 20 #[.agg #[.slice A n cP, .slice Bc n d, .int .i64 st], .agg #[.slice D n cL, .int .i64 c.gr, .slice E 2 cX, .int .i64 c.wt, .bool true], .int .i64 t, .int .i64 k] w fun e w' => ∃ v, e = .returned v ∧ Below w.heap.size w w' ∧ SgH w' w.heap.size n v c true := by
  have bW := lat_alloc (lat_alloc (lat_alloc (Below.refl w.heap.size w) (.cells #[.slice A n cP, .slice Bc n d, .int .i64 st] 31)) (.cells #[.slice D n cL, .int .i64 c.gr, .slice E 2 cX, .int .i64 c.wt, .bool true] 27)) (.cells #[.slice none 0 0, .int .i64 0, .slice none 0 0, .int .i64 0, .bool false] 27)
  have BJ := ((Blk.new (w := w) (t := 31) (cs := #[.slice A n cP, .slice Bc n d, .int .i64 st])).alloc (.cells #[.slice D n cL, .int .i64 c.gr, .slice E 2 cX, .int .i64 c.wt, .bool true] 27)).alloc (.cells #[.slice none 0 0, .int .i64 0, .slice none 0 0, .int .i64 0, .bool false] 27)
  have BS := (Blk.new (w := w.alloc (.cells #[.slice A n cP, .slice Bc n d, .int .i64 st] 31)) (t := 27) (cs := #[.slice D n cL, .int .i64 c.gr, .slice E 2 cX, .int .i64 c.wt, .bool true])).alloc (.cells #[.slice none 0 0, .int .i64 0, .slice none 0 0, .int .i64 0, .bool false] 27)
  have BR := Blk.new (w := (w.alloc (.cells #[.slice A n cP, .slice Bc n d, .int .i64 st] 31)).alloc (.cells #[.slice D n cL, .int .i64 c.gr, .slice E 2 cX, .int .i64 c.wt, .bool true] 27)) (t := 27) (cs := #[.slice none 0 0, .int .i64 0, .slice none 0 0, .int .i64 0, .bool false])
  rw [heap_size] at BS
  rw [heap_size, heap_size] at BR
  have j0 := BJ.at 0 rfl; have j1 := BJ.at 1 rfl; have j2 := BJ.at 2 rfl
  have s0 := BS.at 0 rfl; have s1 := BS.at 1 rfl; have s2 := BS.at 2 rfl; have s3 := BS.at 3 rfl; have s4 := BS.at 4 rfl
  go_enter Try.func20, Try.ntmps20
  go_wp2_with fail
  have hL1 := hL.grow bW
  have hX1 := hX.grow bW
  generalize ((w.alloc (.cells #[.slice A n cP, .slice Bc n d, .int .i64 st] 31)).alloc (.cells #[.slice D n cL, .int .i64 c.gr, .slice E 2 cX, .int .i64 c.wt, .bool true] 27)).alloc (.cells #[.slice none 0 0, .int .i64 0, .slice none 0 0, .int .i64 0, .bool false] 27) = W at *
  refine (clsig_any D E cL cX n c true W hLn hXn hL1 hX1 h1 h8).mono ?_
  rintro e w3 ⟨v, rfl, b3, gl, cl, gx, cx, rfl, ⟨hgl, hcl⟩, hgx, L3, N3⟩
  have R3 := BR.below b3
  have hRl := BR.lt
  have hsW := bW.size
  clear j0 j1 j2 s0 s1 s2 s3 s4 BJ BS BR
  go_wp2_with (refine step_store_sg (by rfl) (by rfl) (by rfl) (b := w.heap.size + 1 + 1) (by rfl) (by rfl) R3 ?_; intro w4 R4 hg4)
  refine bodyPost_ret (results_cell rfl rfl (load_signal R4)) rfl ?_
  have hF := bW.trans (b3.mono hsW)
  exact ⟨_, rfl, Below.grown hF hg4 hF.size (fun k e => by injection e with e; omega), gl, cl, gx, cx, rfl, ⟨by omega, hcl⟩, by omega, L3.grown hg4 (by intro e; injection e with e; omega), N3.grown hg4 (by intro e; injection e with e; omega)⟩
theorem results_cell_tmp {P : Program} {w : World} {fn : Func} {t : TypeId} {a u : Tmp} {A : Addr} {V : Value} {tmps : Array Value} (h : fn.results = #[.cell a t, .tmp u]) (ha : tmps.getD a undef = .pointer (some A)) (hl : (loadVar t A).run P w = .ok V w) :
    (results fn tmps).run P w = .ok (.tuple #[V, tmps.getD u undef]) w := by
  rw [Array.getD_eq_getD_getElem?] at ha
  simp [results, h, ha, asAddr, hl]
set_option maxRecDepth 20000 in
set_option maxHeartbeats 2000000 in
theorem jreset_any (A Bc D E : Option Addr) (cP d cL cX n : Nat) (P : List Ph) (c : Ct) (st : Int) (b : Bool) (w : World) (hn : P.length = n) (hP : Phs w w.heap.size A P) (h1 : 0 < n) (h8 : n ≤ 60) (hLn : c.li.length = n) (hXn : c.nx.length = 2) (hL : Prs w w.heap.size D c.li) (hX : Ints .i64 w w.heap.size E c.nx) :
    Calls Try.prog 22 #[.agg #[.slice A n cP, .slice Bc n d, .int .i64 st], .agg #[.slice D n cL, .int .i64 c.gr, .slice E 2 cX, .int .i64 c.wt, .bool b]] w fun e w' => ∃ v, e = .returned (.tuple #[v, .bool b]) ∧ Below w.heap.size w w' ∧ SgH w' w.heap.size n v (cond b (initC P n st) c) false := by
  have bW := lat_alloc (lat_alloc (lat_alloc (Below.refl w.heap.size w) (.cells #[.slice A n cP, .slice Bc n d, .int .i64 st] 31)) (.cells #[.slice D n cL, .int .i64 c.gr, .slice E 2 cX, .int .i64 c.wt, .bool b] 27)) (.cells #[.slice none 0 0, .int .i64 0, .slice none 0 0, .int .i64 0, .bool false] 27)
  have BJ := ((Blk.new (w := w) (t := 31) (cs := #[.slice A n cP, .slice Bc n d, .int .i64 st])).alloc (.cells #[.slice D n cL, .int .i64 c.gr, .slice E 2 cX, .int .i64 c.wt, .bool b] 27)).alloc (.cells #[.slice none 0 0, .int .i64 0, .slice none 0 0, .int .i64 0, .bool false] 27)
  have BS := (Blk.new (w := w.alloc (.cells #[.slice A n cP, .slice Bc n d, .int .i64 st] 31)) (t := 27) (cs := #[.slice D n cL, .int .i64 c.gr, .slice E 2 cX, .int .i64 c.wt, .bool b])).alloc (.cells #[.slice none 0 0, .int .i64 0, .slice none 0 0, .int .i64 0, .bool false] 27)
  have BR := Blk.new (w := (w.alloc (.cells #[.slice A n cP, .slice Bc n d, .int .i64 st] 31)).alloc (.cells #[.slice D n cL, .int .i64 c.gr, .slice E 2 cX, .int .i64 c.wt, .bool b] 27)) (t := 27) (cs := #[.slice none 0 0, .int .i64 0, .slice none 0 0, .int .i64 0, .bool false])
  rw [heap_size] at BS
  rw [heap_size, heap_size] at BR
  have j0 := BJ.at 0 rfl; have j1 := BJ.at 1 rfl; have j2 := BJ.at 2 rfl
  have s0 := BS.at 0 rfl; have s1 := BS.at 1 rfl; have s2 := BS.at 2 rfl; have s3 := BS.at 3 rfl; have s4 := BS.at 4 rfl
  go_enter Try.func22, Try.ntmps22
  have HN := Lib.hid hn
  have HL := Lib.hid hLn
  have HX := Lib.hid hXn
  clear hn hLn hXn
  have hP1 := hP.grow bW
  have hL1 := hL.grow bW
  have hX1 := hX.grow bW
  clear hP hL hX
  have hsW := bW.size
  cases b with
  | true =>
    go_wp2_with fail
    generalize ((w.alloc (.cells #[.slice A n cP, .slice Bc n d, .int .i64 st] 31)).alloc (.cells #[.slice D n cL, .int .i64 c.gr, .slice E 2 cX, .int .i64 c.wt, .bool true] 27)).alloc (.cells #[.slice none 0 0, .int .i64 0, .slice none 0 0, .int .i64 0, .bool false] 27) = W at *
    refine (jnew_any A Bc cP d n P st W HN.out hP1 h1 h8).mono ?_
    rintro e w3 ⟨v, rfl, b3, gl, cl, gx, cx, rfl, ⟨hgl, hcl⟩, hgx, L3, N3⟩
    have R3 := BR.below b3
    have hRl := BR.lt
    clear j0 j1 j2 s0 s1 s2 s3 s4 BJ BS BR hP1 hL1 hX1
    go_wp2_with (refine step_store_sg (by rfl) (by rfl) (by rfl) (b := w.heap.size + 1 + 1) (by rfl) (by rfl) R3 ?_; intro w4 R4 hg4)
    refine bodyPost_ret (results_cell_tmp rfl rfl (load_signal R4)) rfl ?_
    have hF := bW.trans (b3.mono hsW)
    exact ⟨_, rfl, Below.grown hF hg4 hF.size (fun k e => by injection e with e; omega), gl, cl, gx, cx, rfl, ⟨by omega, hcl⟩, by omega, L3.grown hg4 (by intro e; injection e with e; omega), N3.grown hg4 (by intro e; injection e with e; omega)⟩
  | false =>
    go_wp2_with fail
    generalize ((w.alloc (.cells #[.slice A n cP, .slice Bc n d, .int .i64 st] 31)).alloc (.cells #[.slice D n cL, .int .i64 c.gr, .slice E 2 cX, .int .i64 c.wt, .bool false] 27)).alloc (.cells #[.slice none 0 0, .int .i64 0, .slice none 0 0, .int .i64 0, .bool false] 27) = W at *
    refine (clsig_any D E cL cX n c false W HL.out HX.out hL1 hX1 h1 h8).mono ?_
    rintro e w3 ⟨v, rfl, b3, gl, cl, gx, cx, rfl, ⟨hgl, hcl⟩, hgx, L3, N3⟩
    have R3 := BR.below b3
    have hRl := BR.lt
    clear j0 j1 j2 s0 s1 s2 s3 s4 BJ BS BR hP1 hL1 hX1
    go_wp2_with (refine step_store_sg (by rfl) (by rfl) (by rfl) (b := w.heap.size + 1 + 1) (by rfl) (by rfl) R3 ?_; intro w4 R4 hg4)
    refine bodyPost_ret (results_cell_tmp rfl rfl (load_signal R4)) rfl ?_
    have hF := bW.trans (b3.mono hsW)
    exact ⟨_, rfl, Below.grown hF hg4 hF.size (fun k e => by injection e with e; omega), gl, cl, gx, cx, rfl, ⟨by omega, hcl⟩, by omega, L3.grown hg4 (by intro e; injection e with e; omega), N3.grown hg4 (by intro e; injection e with e; omega)⟩
end Go.Proofs.Ytncmikkobngfeaa
