/-
  A step of a control, as the reference makes it. Conditions: a valid control of a small junction.
-/
import Derived.Test.YtkpbkahmbbkcdaaMu
namespace Go.Proofs.Ytkpbkahmbbkcdaa
open Go.ChangeShapes Go.WideShapes Go.RowKit
set_option linter.unusedVariables false

theorem step_store_f {ops : Array Oper} {o : Oper} {a : Act} {w : World} {rest : List Oper} {Q : Exit → Act → World → Prop} (hgd : o.guard = none) {p v : Operand} (ho : o.op = .store 3 p v) (hd : o.dst = none) {b i : Nat} {x : Int} {T : TypeId} {cs : Array Value} {u : Value} (hp : a.eval p = .pointer (some ⟨b, i, none⟩)) (hv : a.eval v = .int .i64 x) (hB : Blk w b T cs) (hi : cs[i]? = some u)
    (h : ∀ w' : World, Blk w' b T (cs.setIfInBounds i (.int .i64 x)) → w.grownBy w' (some b) → wpList Try.prog ops Q rest a w') :
    wpList Try.prog ops Q (o :: rest) a w := by
  unfold wpList
  have hw : Region.wanted o (yielded ops a.tmps) = true := by unfold Region.wanted; rw [hgd]
  rw [if_pos hw]
  refine .inl ?_
  have c0 := hB.at i hi
  have f0 := hB.frozen i
  have hk := h _ (hB.set_ i (.int .i64 x)) (grownBy_set w b i _)
  unfold Oper.wp
  simp only [execOp, ho, hp, hv]
  go_simp
  all_goals (first | exact hk | (simp [Act.put, hd]; exact hk))
set_option maxRecDepth 40000 in
set_option maxHeartbeats 8000000 in
theorem step_wait (bA oA bD oD bE oE : Nat) (Bc : Option Addr) (cP d cL cX n : Nat) (P : List Ph) (C : List Int) (c : Ct) (st t : Int) (w : World) (hn : P.length = n) (hP : Phs w w.heap.size (some ⟨bA, oA, none⟩) P) (hCn : C.length = n) (hC : Ints .i64 w w.heap.size Bc C) (hLn : c.li.length = n) (hL : Prs w w.heap.size (some ⟨bD, oD, none⟩) c.li) (hXn : c.nx.length = 2) (hX : Ints .i64 w w.heap.size (some ⟨bE, oE, none⟩) c.nx) (h1 : 0 < n) (h8 : n ≤ 8) (hpok : ∀ p, p < n → PhOk (phAt P p)) (hlok : ∀ p, p < n → LiOk (phAt P p) (lmp c.li p) (tck c.li p)) (hri : ∀ p, p < n → 0 ≤ (phAt P p).ri ∧ (phAt P p).ri ≤ 1) (hgr : ∀ p, p < n → 0 ≤ (phAt P p).gr ∧ (phAt P p).gr ≤ 3) (hin : NxIn n c.nx) (hwt : 0 ≤ c.wt ∧ c.wt ≤ 1000) (hcg : 0 ≤ c.gr ∧ c.gr ≤ 3) (hw0 : 0 < c.wt) :
    Calls Try.prog 26 #[.agg #[.slice (some ⟨bA, oA, none⟩) n cP, .slice Bc n d, .int .i64 st], .agg #[.slice (some ⟨bD, oD, none⟩) n cL, .int .i64 c.gr, .slice (some ⟨bE, oE, none⟩) 2 cX, .int .i64 c.wt], .int .i64 t] w fun e w' => ∃ v, e = .returned v ∧ Below w.heap.size w w' ∧ CtH w' w.heap.size n v (stepC P C n c t) := by
  have HN := Lib.hid hn
  have HC := Lib.hid hCn
  have HL := Lib.hid hLn
  have HX := Lib.hid hXn
  clear hn hCn hLn hXn
  have bW := lat_alloc (lat_alloc (lat_alloc (Below.refl w.heap.size w) (.cells #[.slice (some ⟨bA, oA, none⟩) n cP, .slice Bc n d, .int .i64 st] 30)) (.cells #[.slice (some ⟨bD, oD, none⟩) n cL, .int .i64 c.gr, .slice (some ⟨bE, oE, none⟩) 2 cX, .int .i64 c.wt] 25)) (.cells #[.slice none 0 0, .int .i64 0, .slice none 0 0, .int .i64 0] 25)
  have BJ := ((Blk.new (w := w) (t := 30) (cs := #[.slice (some ⟨bA, oA, none⟩) n cP, .slice Bc n d, .int .i64 st])).alloc (.cells #[.slice (some ⟨bD, oD, none⟩) n cL, .int .i64 c.gr, .slice (some ⟨bE, oE, none⟩) 2 cX, .int .i64 c.wt] 25)).alloc (.cells #[.slice none 0 0, .int .i64 0, .slice none 0 0, .int .i64 0] 25)
  have BC := (Blk.new (w := w.alloc (.cells #[.slice (some ⟨bA, oA, none⟩) n cP, .slice Bc n d, .int .i64 st] 30)) (t := 25) (cs := #[.slice (some ⟨bD, oD, none⟩) n cL, .int .i64 c.gr, .slice (some ⟨bE, oE, none⟩) 2 cX, .int .i64 c.wt])).alloc (.cells #[.slice none 0 0, .int .i64 0, .slice none 0 0, .int .i64 0] 25)
  have BR := Blk.new (w := (w.alloc (.cells #[.slice (some ⟨bA, oA, none⟩) n cP, .slice Bc n d, .int .i64 st] 30)).alloc (.cells #[.slice (some ⟨bD, oD, none⟩) n cL, .int .i64 c.gr, .slice (some ⟨bE, oE, none⟩) 2 cX, .int .i64 c.wt] 25)) (t := 25) (cs := #[.slice none 0 0, .int .i64 0, .slice none 0 0, .int .i64 0])
  rw [heap_size] at BC
  rw [heap_size, heap_size] at BR
  have hP1 := hP.grow bW
  have hC1 := hC.grow bW
  have hL1 := hL.grow bW
  have hX1 := hX.grow bW
  go_enter Try.func26, Try.ntmps26
  have c0 := BC.at 0 rfl
  have c1 := BC.at 1 rfl
  have c2 := BC.at 2 rfl
  have c3 := BC.at 3 rfl
  go_wp2_with fail
  generalize ((w.alloc (.cells #[.slice (some ⟨bA, oA, none⟩) n cP, .slice Bc n d, .int .i64 st] 30)).alloc (.cells #[.slice (some ⟨bD, oD, none⟩) n cL, .int .i64 c.gr, .slice (some ⟨bE, oE, none⟩) 2 cX, .int .i64 c.wt] 25)).alloc (.cells #[.slice none 0 0, .int .i64 0, .slice none 0 0, .int .i64 0] 25) = W at *
  have hWs : w.heap.size + 1 + 1 < W.heap.size := BR.lt
  obtain ⟨B, hBB⟩ : ∃ B, W.heap.size = B := ⟨_, rfl⟩
  refine (copy_any (some ⟨bD, oD, none⟩) (some ⟨bE, oE, none⟩) cL cX n c W HL.out HX.out hL1 hX1 h1 (by omega)).mono ?_
  rintro e W2 ⟨v, rfl, hb2, gl, cl, gx, cx, rfl, hgl, hgx, LI2, NX2⟩
  have b3 := lat_alloc (Below.refl W2.heap.size W2) (.cells #[.slice (some ⟨gl, 0, none⟩) n cl, .int .i64 c.gr, .slice (some ⟨gx, 0, none⟩) 2 cx, .int .i64 c.wt] 25)
  have hs2 := hb2.size
  have O3 : Out (W2.alloc (.cells #[.slice (some ⟨gl, 0, none⟩) n cl, .int .i64 c.gr, .slice (some ⟨gx, 0, none⟩) 2 cx, .int .i64 c.wt] 25)) W2.heap.size B n gl cl gx cx c := ⟨Blk.new, LI2.below b3, NX2.below b3, by omega, by omega, by have := LI2.lt; omega, by have := NX2.lt; omega⟩
  have bB3 : Below B W (W2.alloc (.cells #[.slice (some ⟨gl, 0, none⟩) n cl, .int .i64 c.gr, .slice (some ⟨gx, 0, none⟩) 2 cx, .int .i64 c.wt] 25)) := hBB ▸ (hb2.trans (b3.mono hb2.size))
  have hgO : B ≤ W2.heap.size := by omega
  have C3 := (BC.below hb2).below b3
  have c3 := C3.at 3 rfl
  rw [hBB] at hP1 hC1 hL1 hX1 hWs
  have hBW : B ≤ W.heap.size := by omega
  have HBB := Lib.hid hBB
  clear hBB hb2 hs2 hgl hgx LI2 NX2 hP hC hL hX
  have HST := Lib.hid (show stepC P C n c t = ⟨c.li, c.gr, c.nx, c.wt - 1⟩ by unfold stepC; rw [if_pos hw0])
  have o3 := O3.blk.at 3 rfl
  go_wp2_with (first | (refine step_store_f (by rfl) (by rfl) (by rfl) (b := W2.heap.size) (i := 3) (by rfl) (by rfl) O3.blk rfl ?_; intro W4 B4 hg4; have y0 := B4.at 0 rfl; have y1 := B4.at 1 rfl; have y2 := B4.at 2 rfl; have y3 := B4.at 3 rfl; have bB9 : Below B W W4 := Below.grown bB3 hg4 (Nat.le_trans hBW bB3.size) (fun k e => (by injection e with e; omega)); have R9 := BR.low bB9 hWs; have O9 : Out W4 W2.heap.size B n gl cl gx cx ⟨c.li, c.gr, c.nx, c.wt - 1⟩ := ⟨B4, O3.li.grown hg4 (by intro e; injection e with e; exact O3.nl e.symm), O3.nx.grown hg4 (by intro e; injection e with e; exact O3.nn e.symm), O3.bl, O3.bx, O3.nl, O3.nn⟩; clear c3) | (refine step_store_ct (by rfl) (by rfl) (by rfl) (b := w.heap.size + 1 + 1) (by rfl) (by rfl) R9 ?_; intro w9 Z9 hg9))
  refine bodyPost_ret (results_cell rfl rfl (load_control Z9)) rfl ?_
  have hF9 : Below w.heap.size w w9 := Below.grown (bW.trans (Below.mono bB9 (Nat.le_trans bW.size (Nat.le_of_eq HBB.out)))) hg9 (Below.size (bW.trans (Below.mono bB9 (Nat.le_trans bW.size (Nat.le_of_eq HBB.out))))) (fun k e => by injection e with e; omega)
  have hWw := bW.size
  have hBBx := HBB.out
  have hO9l := O9.bl
  have hO9x := O9.bx
  rw [HST.out]
  exact ⟨_, rfl, hF9, gl, _, _, _, rfl, by omega, by omega, O9.li.grown hg9 (by intro e; injection e with e; omega), O9.nx.grown hg9 (by intro e; injection e with e; omega)⟩
end Go.Proofs.Ytkpbkahmbbkcdaa
