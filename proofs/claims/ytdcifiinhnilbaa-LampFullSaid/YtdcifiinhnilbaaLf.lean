/-
  The law LampFull answers true: its walk. Conditions: none.
-/
import Derived.Test.YtdcifiinhnilbaaLs
import Derived.Maps.OwnOps
import Derived.Maps.Views
import Derived.Carry
namespace Go.Proofs.Ytdcifiinhnilbaa
open Go.ChangeShapes Go.WideShapes Go.RowKit
set_option linter.unusedVariables false

theorem lawI : Maps.Keyed Try.prog 3 := Maps.int_keyed Try.underlying3
theorem zeroI (w : World) : (zeroValue 3).run Try.prog w = .ok (.int .i64 0) w := by kernel_rfl
theorem wf64 {x : Int} (h0 : -9223372036854775808 ≤ x) (h1 : x ≤ 9223372036854775807) : (Lit.int .i64 x).wf = true := by
  simp only [Lit.wf, IntKind.min, IntKind.max, IntKind.signed, IntKind.bits, Bool.and_eq_true, decide_eq_true_eq, if_true]
  omega
/-- A map of counts: at each key, f's number. -/
def Mp (w : World) (b n : Nat) (f : Int → Int) : Prop := ∃ D : DataW Unit, w.ownsMap Try.prog 3 (plainElem Try.prog 3) b n D ∧ Maps.IsMap D ∧ ∀ k : Int, D.atKey (.int .i64 k) (.lit (.int .i64 0)) = .lit (.int .i64 (f k))
theorem Mp.new (w : World) : Mp (w.alloc (.map #[] 0)) w.heap.size 0 (fun _ => 0) := ⟨.map [], World.ownsMap_made _ _ _ _, Maps.isMap_empty, fun _ => rfl⟩
theorem Mp.grown {w w' : World} {b n : Nat} {f : Int → Int} {row : Option Nat} (h : Mp w b n f) (hg : w.grownBy w' row) (hne : some b ≠ row) : Mp w' b n f := by
  obtain ⟨D, h1, h2, h3⟩ := h
  exact ⟨D, h1.kept hg hne, h2, h3⟩
theorem Mp.below {w w' : World} {b n : Nat} {f : Int → Int} (h : Mp w b n f) (hb : Below w.heap.size w w') : Mp w' b n f := h.grown (row := none) (grown_of_below hb) (by simp)
theorem Mp.set_ {w : World} {b n : Nat} {f : Int → Int} (h : Mp w b n f) (g i : Nat) (hne : b ≠ g) (u : Value) : Mp (w.setCell ⟨g, i, none⟩ u) b n f := h.grown (grownBy_set w g i u) (fun e => hne (Option.some.inj e))
theorem Mp.lt {w : World} {b n : Nat} {f : Int → Int} (h : Mp w b n f) : b < w.heap.size := by
  obtain ⟨D, h1, h2, h3⟩ := h
  exact h1.lt
theorem Mp.look {w : World} {b n : Nat} {f : Int → Int} (h : Mp w b n f) (k : Int) (hk : (Lit.int .i64 k).wf = true) : (Instr.lookup 38 (.map (some b)) (.int .i64 k) false).run Try.prog w = .ok (.int .i64 (f k)) w := by
  obtain ⟨D, h1, h2, h3⟩ := h
  obtain ⟨c, hrun, hat, _⟩ := h1.lookup_int lawI Try.underlying38 Try.underlying3 (zeroI w) (Maps.keyOf_int_mk Try.underlying3 hk)
  rw [h3] at hat
  injection hat with hat
  injection hat with _ hat
  rw [hrun, hat]
theorem Mp.put {w : World} {b n : Nat} {f : Int → Int} (h : Mp w b n f) (hn : n < maxLen) (k v : Int) (hk : (Lit.int .i64 k).wf = true) (hv : (Lit.int .i64 v).wf = true) :
    ∃ w', (Instr.mapUpdate 38 (.map (some b)) (.int .i64 k) (.int .i64 v)).run Try.prog w = .ok () w' ∧ Mp w' b (n + 1) (fun j => if j = k then v else f j) ∧ w.grownBy w' (some b) := by
  obtain ⟨D, h1, h2, h3⟩ := h
  obtain ⟨w', hrun, r1, r2⟩ := h1.update lawI Try.underlying38 hn (Maps.keyOf_int_mk Try.underlying3 hk) (plainElem_int Try.underlying3 hv)
  refine ⟨w', hrun, ⟨_, r1, h2.put _ _, fun j => ?_⟩, r2⟩
  show _ = DataW.lit (.int .i64 (if j = k then v else f j))
  by_cases hj : j = k
  · subst hj
    rw [if_pos rfl, Maps.atKey_put_same h2 (k := .int .i64 j) trivial]
  · rw [if_neg hj, Maps.atKey_put_other (fun e => hj (by injection e)), h3]
theorem wp_put {w : World} {ops : Array Oper} {rest : List Oper} {o : Oper} {a : Act} {Q : Exit → Act → World → Prop} (hg : o.guard = none) (m x v : Operand)
    (hop : o.op = Op.mapUpdate 38 m x v ∨ o.op = Op.insert 38 m x v) (b n : Nat) (f : Int → Int) (hm : a.eval m = .map (some b)) (hown : Mp w b n f) (hn : n < maxLen) (key val : Int) (hx : a.eval x = .int .i64 key) (hv : a.eval v = .int .i64 val)
    (hk : (Lit.int .i64 key).wf = true) (hw : (Lit.int .i64 val).wf = true)
    (hK : ∀ w', Mp w' b (n + 1) (fun j => if j = key then val else f j) → w.grownBy w' (some b) → wpList Try.prog ops Q rest (a.put o.dst undef) w') :
    wpList Try.prog ops Q (o :: rest) a w := by
  refine wpList_plain hg fun K' hK' => ?_
  obtain ⟨w', hrun, r1, r2⟩ := hown.put hn key val hk hw
  unfold Oper.wp
  rcases hop with hop | hop
  · simp [execOp, hop, hm, hx, hv, hrun, Result.andThen]
    exact hK' _ _ (hK w' r1 r2)
  · simp [execOp, hop, hm, hx, hv, hrun, Result.andThen]
    exact hK' _ _ (hK w' r1 r2)
def fn4 (z a y c : Int) (k : Int) : Int := if k = 0 then z else if k = 1 then a else if k = 2 then y else if k = 3 then c else 0
theorem fn_new : (fun j : Int => if j = 1 then (1 : Int) else 0) = fn4 0 1 0 0 := by
  funext j
  unfold fn4
  split <;> split <;> (try split) <;> (try split) <;> omega
theorem fn_put1 (z a y c v : Int) : (fun j : Int => if j = 1 then v else fn4 z a y c j) = fn4 z v y c := by
  funext j
  unfold fn4
  split <;> split <;> (try split) <;> (try split) <;> first | rfl | omega
theorem fn_put2 (z a y c v : Int) : (fun j : Int => if j = 2 then v else fn4 z a y c j) = fn4 z a v c := by
  funext j
  unfold fn4
  split <;> split <;> (try split) <;> (try split) <;> first | rfl | omega
theorem fn_put3 (z a y c v : Int) : (fun j : Int => if j = 3 then v else fn4 z a y c j) = fn4 z a y v := by
  funext j
  unfold fn4
  split <;> split <;> (try split) <;> (try split) <;> first | rfl | omega
theorem fn_put0 (z a y c v : Int) : (fun j : Int => if j = 0 then v else fn4 z a y c j) = fn4 v a y c := by
  funext j
  unfold fn4
  split <;> (try split) <;> (try split) <;> (try split) <;> first | rfl | omega
/-- Where the light is, and what was counted. -/
def St (p : Ph) (k : Int) (lm tk z a y c : Int) : Prop := 0 ≤ a ∧ a ≤ 62 ∧ 0 ≤ z ∧ z ≤ 1 ∧ 0 ≤ y ∧ y ≤ 2 ∧ 0 ≤ c ∧ c ≤ 2 ∧
  ((lm = 1 ∧ tk = k ∧ a = k + 1 ∧ z = 0 ∧ y = 0 ∧ c = 0 ∧ 0 ≤ k ∧ k ≤ 60) ∨ (lm = 2 ∧ 0 ≤ tk ∧ tk < p.yl ∧ needV p ≤ a ∧ z = 0 ∧ y = tk + 1 ∧ c = 0 ∧ k ≤ 61 + tk) ∨
   (lm = 3 ∧ 0 ≤ tk ∧ tk < p.rd ∧ needV p ≤ a ∧ z = 0 ∧ y = p.yl ∧ c = tk + 1 ∧ k ≤ 63 + tk) ∨ (lm = 0 ∧ tk = 0 ∧ needV p ≤ a ∧ y = p.yl ∧ c = p.rd ∧ k ≤ 70))

set_option maxRecDepth 100000 in
set_option maxHeartbeats 40000000 in
theorem full_any (A : Option Addr) (cA : Nat) (l : List Int) (B : Option Addr) (cB : Nat) (ls : List Int) (n : Int) (w : World) (hs : Ints .i64 w w.heap.size A l) (hn : Nums l) (hl : l.length ≤ 9223372036854775807) (hs2 : Ints .i64 w w.heap.size B ls) (hn2 : Nums ls) (hl2 : ls.length ≤ 9223372036854775807) (n0 : -9223372036854775808 ≤ n) (n1 : n ≤ 9223372036854775807) :
    Calls Try.prog 4 #[.slice A l.length cA, .slice B ls.length cB, .int .i64 n] w fun e w' => e = .returned (.bool true) ∧ Below w.heap.size w w' := by
  have hmm := @run_makeMap Try.prog
  by_cases hlen : 60 < ls.length
  · have hz : decide (60 < (ls.length : Int)) = true := by simp; omega
    go_enter Try.func4, Try.ntmps4
    go_wp2_with fail
    refine (awake_any _).mono ?_
    rintro e w1 ⟨rfl, hb1⟩
    go_wp2
    go_ret
    exact ⟨rfl, hb1⟩
  have hlen60 : ls.length ≤ 60 := by omega
  have hz : decide (60 < (ls.length : Int)) = false := by simp; omega
  clear hlen
  go_enter Try.func4, Try.ntmps4
  go_wp2_with fail
  refine (phase_any A cA l n w hs hn hl n0 n1).mono ?_
  rintro e w1 ⟨hb1, p, hp, rfl⟩
  clear hz
  have hy := hp.yl
  have hr := hp.rd
  have hnv := needV_bd hp
  have hmn := hp.mn
  have hwk := hp.wk
  have hM0 := Mp.new ((w1.alloc (.cells #[.int .i64 p.ri, .int .i64 p.gr, .int .i64 p.mn, .int .i64 p.mx, .int .i64 p.yl, .int .i64 p.rd, .int .i64 p.wk, .int .i64 p.cl] 26)).alloc (.cells #[.int .i64 1, .int .i64 0] 23))
  have Bp := ((Blk.new (w := w1) (t := 26) (cs := #[.int .i64 p.ri, .int .i64 p.gr, .int .i64 p.mn, .int .i64 p.mx, .int .i64 p.yl, .int .i64 p.rd, .int .i64 p.wk, .int .i64 p.cl])).alloc (.cells #[.int .i64 1, .int .i64 0] 23)).alloc (.map #[] 0)
  have Bx := (Blk.new (w := w1.alloc (.cells #[.int .i64 p.ri, .int .i64 p.gr, .int .i64 p.mn, .int .i64 p.mx, .int .i64 p.yl, .int .i64 p.rd, .int .i64 p.wk, .int .i64 p.cl] 26)) (t := 23) (cs := #[.int .i64 1, .int .i64 0])).alloc (.map #[] 0)
  rw [heap_size, heap_size] at hM0
  rw [heap_size] at Bx
  have bW := hb1.trans ((lat_alloc (lat_alloc (lat_alloc (Below.refl w1.heap.size w1) (.cells #[.int .i64 p.ri, .int .i64 p.gr, .int .i64 p.mn, .int .i64 p.mx, .int .i64 p.yl, .int .i64 p.rd, .int .i64 p.wk, .int .i64 p.cl] 26)) (.cells #[.int .i64 1, .int .i64 0] 23)) (.map #[] 0)).mono hb1.size)
  have hgp := hb1.size
  go_wp2_with (show wpList _ _ _ (Oper.mk _ (Op.insert _ _ _ _) _ _ _ _ :: _) _ _; refine wp_put rfl _ _ _ (.inr rfl) (w1.heap.size + 1 + 1) 0 _ rfl hM0 (by unfold maxLen; omega) 1 1 rfl rfl (by decide) (by decide) ?_; intro w2 hM2 hg2)
  rw [fn_new] at hM2
  have Bp := Bp.grown hg2 (fun e => by injection e with e; omega)
  have Bx := Bx.grown hg2 (fun e => by injection e with e; omega)
  have bW := bW.grown hg2 bW.size (fun j hj => by injection hj with hj; omega)
  clear hM0 hg2
  generalize w1.heap.size = gp at *
  go_loopw [10] (fun i wr => ∃ (k : Nat) (lm tk z a y c : Int) (nn : Nat), i = .int .i64 k ∧ St p k lm tk z a y c ∧ nn ≤ k + 1 ∧ Below w.heap.size w wr ∧ Blk wr gp 26 #[.int .i64 p.ri, .int .i64 p.gr, .int .i64 p.mn, .int .i64 p.mx, .int .i64 p.yl, .int .i64 p.rd, .int .i64 p.wk, .int .i64 p.cl] ∧ Blk wr (gp + 1) 23 #[.int .i64 lm, .int .i64 tk] ∧ Mp wr (gp + 1 + 1) nn (fn4 z a y c)) (fun i _ => 90 - (intOf i).toNat)
  case atStart => exact ⟨0, 1, 0, 0, 1, 0, 0, 0 + 1, rfl, by unfold St; omega, by omega, bW, Bp, Bx, hM2⟩
  case round =>
    obtain ⟨k, lm, tk, z, a, y, c, nn, rfl, hst, hnn, hW, Rp, Rx, RM⟩ := hrel
    have o0 := Rp.at 0 rfl
    have o1 := Rp.at 1 rfl
    have o2 := Rp.at 2 rfl
    have o3 := Rp.at 3 rfl
    have o4 := Rp.at 4 rfl
    have o5 := Rp.at 5 rfl
    have o6 := Rp.at 6 rfl
    have o7 := Rp.at 7 rfl
    unfold St at hst
    obtain ⟨a0, a1, z0, z1, y0, y1, c0, c1, hst⟩ := hst
    rcases hst with ⟨rfl, htk, ha, hz, hyy, hc, hk0, hk1⟩ | ⟨rfl, t0, t1, ha, hz, hyy, hc, hk1⟩ | ⟨rfl, t0, t1, ha, hz, hyy, hc, hk1⟩ | ⟨rfl, htk, ha, hyy, hc, hk1⟩
    · subst htk
      have q0 := Rx.at 0 rfl
      have q1 := Rx.at 1 rfl
      have zk9 : decide ((k : Int) < 90) = true := by simp; omega
      have ha0 : (k : Int) + 1 ≤ a ∧ a ≤ k + 1 := by omega
      have hz0 : 0 ≤ z ∧ z ≤ 0 ∧ 0 ≤ y ∧ y ≤ 0 ∧ 0 ≤ c ∧ c ≤ 0 := by omega
      clear ha hz hyy hc
      by_cases hkl : (ls.length : Int) ≤ k
      · have zk : decide ((ls.length : Int) ≤ k) = true := by simp; omega
        go_wp2_with fail
        by_cases hnd : needV p ≤ (k : Int) + 1
        · have hw1 : ¬ (k : Int) < p.wk := by unfold needV at hnd; omega
          by_cases hw2 : (k : Int) < p.wk + p.cl
          · have HS := Lib.hid (show stepV p 1 (k : Int) true = (2, 0) by rw [stepV, if_pos rfl, if_pos ⟨rfl, hnd⟩])
            have HW := Lib.hid (show walkV p 1 (k : Int) = 2 by simp [walkV, hw1, hw2])
            have HL : LiOk p 2 0 := by exact .inr (.inl ⟨rfl, by omega, by omega⟩)
            refine (walk_c p 1 (k : Int) 2 _ hp (by omega) HW.out).mono ?_
            rintro e w5 ⟨rfl, hb5⟩
            clear o0 o1 o2 o3 o4 o5 o6 o7 q0 q1
            have Sp := Rp.below hb5
            have Sx := Rx.below hb5
            have SM := RM.below hb5
            have hW5 := hW.trans (hb5.mono hW.size)
            have o0 := Sp.at 0 rfl
            have o1 := Sp.at 1 rfl
            have o2 := Sp.at 2 rfl
            have o3 := Sp.at 3 rfl
            have o4 := Sp.at 4 rfl
            have o5 := Sp.at 5 rfl
            have o6 := Sp.at 6 rfl
            have o7 := Sp.at 7 rfl
            have q0 := Sx.at 0 rfl
            have q1 := Sx.at 1 rfl
            go_wp2_with fail
            refine (step_c p 1 (k : Int) true 2 0 _ hp (by omega) HS.out).mono ?_
            rintro e w6 ⟨rfl, hb6⟩
            clear o0 o1 o2 o3 o4 o5 o6 o7 q0 q1
            have bY := lat_alloc (Below.refl w6.heap.size w6) (.cells #[.int .i64 2, .int .i64 0] 23)
            have Sp := (Sp.below hb6).below bY
            have Sx := (Sx.below hb6).below bY
            have SM := (SM.below hb6).below bY
            have hW6 := hW5.trans (hb6.mono hW5.size)
            have hgy : (gp + 1 + 1) < w6.heap.size := by have := hb6.size; have := hb5.size; have := RM.lt; omega
            have Sy := Blk.new (w := w6) (t := 23) (cs := #[.int .i64 2, .int .i64 0])
            have hW6 := hW6.trans (bY.mono hW6.size)
            have o0 := Sp.at 0 rfl
            have o1 := Sp.at 1 rfl
            have o2 := Sp.at 2 rfl
            have o3 := Sp.at 3 rfl
            have o4 := Sp.at 4 rfl
            have o5 := Sp.at 5 rfl
            have o6 := Sp.at 6 rfl
            have o7 := Sp.at 7 rfl
            have r0 := Sy.at 0 rfl
            have r1 := Sy.at 1 rfl
            go_wp2_with fail
            clear o0 o1 o2 o3 o4 o5 o6 o7 r0 r1
            generalize w6.alloc (.cells #[.int .i64 2, .int .i64 0] 23) = W6 at *
            generalize w6.heap.size = gy at *
            refine (valid_c p 2 0 _ hp HL (by have := HL.bd hp; omega)).mono ?_
            rintro e w7 ⟨rfl, hb7⟩
            have Sp := Sp.below hb7
            have Sx := Sx.below hb7
            have Sy := Sy.below hb7
            have SM := SM.below hb7
            have hW7 := hW6.trans (hb7.mono hW6.size)
            have f0 := Sx.frozen 0
            have f1 := Sx.frozen 1
            have q0 := Sx.at 0 rfl
            have q1 := Sx.at 1 rfl
            have r0 := Sy.at 0 rfl
            have r1 := Sy.at 1 rfl
            have hne : (gp + 1) ≠ gy := by omega
            have SM2 := (SM.set_ (gp + 1) 0 (by omega) (.int .i64 2)).set_ (gp + 1) 1 (by omega) (.int .i64 (0))
            have Sp2 := (Sp.far (p := ⟨gp + 1, 0, none⟩) (by simp <;> omega) (.int .i64 2)).far (p := ⟨gp + 1, 1, none⟩) (by simp <;> omega) (.int .i64 (0))
            have Sx2 := (Sx.set_ 0 (.int .i64 2)).set_ 1 (.int .i64 (0))
            have hW8 := (hW7.setCell (p := ⟨gp + 1, 0, none⟩) (by simp; omega) (.int .i64 2)).setCell (p := ⟨gp + 1, 1, none⟩) (by simp; omega) (.int .i64 (0))
            have hlk := SM2.look 2 (by decide)
            rw [show fn4 z a y c 2 = y from rfl] at hlk
            have hwr : IntKind.i64.wrap (y + 1) = y + 1 := by rw [IntKind.wrap_i64]; omega
            go_wp2_with (at_mapUpdate; refine wp_put rfl _ _ _ (.inl rfl) (gp + 1 + 1) nn _ rfl SM2 (by unfold maxLen; omega) 2 (y + 1) rfl rfl (by decide) (wf64 (by omega) (by omega)) ?_; intro w9 hM9 hg9)
            rw [fn_put2] at hM9
            go_roundw
            case rel => exact ⟨k + 1, 2, 0, z, a, y + 1, c, nn + 1, by go_num, by unfold St; omega, by omega, hW8.grown hg9 hW8.size (fun j hj => by injection hj with hj; omega), Sp2.grown hg9 (fun e => by injection e with e; omega), Sx2.grown hg9 (fun e => by injection e with e; omega), hM9⟩
            case measure => simp [intOf]; omega

          · have HS := Lib.hid (show stepV p 1 (k : Int) true = (2, 0) by rw [stepV, if_pos rfl, if_pos ⟨rfl, hnd⟩])
            have HW := Lib.hid (show walkV p 1 (k : Int) = 0 by simp [walkV, hw1, hw2])
            have HL : LiOk p 2 0 := by exact .inr (.inl ⟨rfl, by omega, by omega⟩)
            refine (walk_c p 1 (k : Int) 0 _ hp (by omega) HW.out).mono ?_
            rintro e w5 ⟨rfl, hb5⟩
            clear o0 o1 o2 o3 o4 o5 o6 o7 q0 q1
            have Sp := Rp.below hb5
            have Sx := Rx.below hb5
            have SM := RM.below hb5
            have hW5 := hW.trans (hb5.mono hW.size)
            have o0 := Sp.at 0 rfl
            have o1 := Sp.at 1 rfl
            have o2 := Sp.at 2 rfl
            have o3 := Sp.at 3 rfl
            have o4 := Sp.at 4 rfl
            have o5 := Sp.at 5 rfl
            have o6 := Sp.at 6 rfl
            have o7 := Sp.at 7 rfl
            have q0 := Sx.at 0 rfl
            have q1 := Sx.at 1 rfl
            go_wp2_with fail
            refine (step_c p 1 (k : Int) true 2 0 _ hp (by omega) HS.out).mono ?_
            rintro e w6 ⟨rfl, hb6⟩
            clear o0 o1 o2 o3 o4 o5 o6 o7 q0 q1
            have bY := lat_alloc (Below.refl w6.heap.size w6) (.cells #[.int .i64 2, .int .i64 0] 23)
            have Sp := (Sp.below hb6).below bY
            have Sx := (Sx.below hb6).below bY
            have SM := (SM.below hb6).below bY
            have hW6 := hW5.trans (hb6.mono hW5.size)
            have hgy : (gp + 1 + 1) < w6.heap.size := by have := hb6.size; have := hb5.size; have := RM.lt; omega
            have Sy := Blk.new (w := w6) (t := 23) (cs := #[.int .i64 2, .int .i64 0])
            have hW6 := hW6.trans (bY.mono hW6.size)
            have o0 := Sp.at 0 rfl
            have o1 := Sp.at 1 rfl
            have o2 := Sp.at 2 rfl
            have o3 := Sp.at 3 rfl
            have o4 := Sp.at 4 rfl
            have o5 := Sp.at 5 rfl
            have o6 := Sp.at 6 rfl
            have o7 := Sp.at 7 rfl
            have r0 := Sy.at 0 rfl
            have r1 := Sy.at 1 rfl
            go_wp2_with fail
            clear o0 o1 o2 o3 o4 o5 o6 o7 r0 r1
            generalize w6.alloc (.cells #[.int .i64 2, .int .i64 0] 23) = W6 at *
            generalize w6.heap.size = gy at *
            refine (valid_c p 2 0 _ hp HL (by have := HL.bd hp; omega)).mono ?_
            rintro e w7 ⟨rfl, hb7⟩
            have Sp := Sp.below hb7
            have Sx := Sx.below hb7
            have Sy := Sy.below hb7
            have SM := SM.below hb7
            have hW7 := hW6.trans (hb7.mono hW6.size)
            have f0 := Sx.frozen 0
            have f1 := Sx.frozen 1
            have q0 := Sx.at 0 rfl
            have q1 := Sx.at 1 rfl
            have r0 := Sy.at 0 rfl
            have r1 := Sy.at 1 rfl
            have hne : (gp + 1) ≠ gy := by omega
            have SM2 := (SM.set_ (gp + 1) 0 (by omega) (.int .i64 2)).set_ (gp + 1) 1 (by omega) (.int .i64 (0))
            have Sp2 := (Sp.far (p := ⟨gp + 1, 0, none⟩) (by simp <;> omega) (.int .i64 2)).far (p := ⟨gp + 1, 1, none⟩) (by simp <;> omega) (.int .i64 (0))
            have Sx2 := (Sx.set_ 0 (.int .i64 2)).set_ 1 (.int .i64 (0))
            have hW8 := (hW7.setCell (p := ⟨gp + 1, 0, none⟩) (by simp; omega) (.int .i64 2)).setCell (p := ⟨gp + 1, 1, none⟩) (by simp; omega) (.int .i64 (0))
            have hlk := SM2.look 2 (by decide)
            rw [show fn4 z a y c 2 = y from rfl] at hlk
            have hwr : IntKind.i64.wrap (y + 1) = y + 1 := by rw [IntKind.wrap_i64]; omega
            go_wp2_with (at_mapUpdate; refine wp_put rfl _ _ _ (.inl rfl) (gp + 1 + 1) nn _ rfl SM2 (by unfold maxLen; omega) 2 (y + 1) rfl rfl (by decide) (wf64 (by omega) (by omega)) ?_; intro w9 hM9 hg9)
            rw [fn_put2] at hM9
            go_roundw
            case rel => exact ⟨k + 1, 2, 0, z, a, y + 1, c, nn + 1, by go_num, by unfold St; omega, by omega, hW8.grown hg9 hW8.size (fun j hj => by injection hj with hj; omega), Sp2.grown hg9 (fun e => by injection e with e; omega), Sx2.grown hg9 (fun e => by injection e with e; omega), hM9⟩
            case measure => simp [intOf]; omega

        · by_cases hw1 : (k : Int) < p.wk
          · have HS := Lib.hid (show stepV p 1 (k : Int) true = (1, ((k : Int) + 1)) by rw [stepV, if_pos rfl, if_neg (fun h => hnd h.2), Int.min_eq_left (by omega)])
            have HW := Lib.hid (show walkV p 1 (k : Int) = 1 by simp [walkV, hw1])
            have HL : LiOk p 1 ((k : Int) + 1) := by exact .inl ⟨rfl, by omega, by omega⟩
            refine (walk_c p 1 (k : Int) 1 _ hp (by omega) HW.out).mono ?_
            rintro e w5 ⟨rfl, hb5⟩
            clear o0 o1 o2 o3 o4 o5 o6 o7 q0 q1
            have Sp := Rp.below hb5
            have Sx := Rx.below hb5
            have SM := RM.below hb5
            have hW5 := hW.trans (hb5.mono hW.size)
            have o0 := Sp.at 0 rfl
            have o1 := Sp.at 1 rfl
            have o2 := Sp.at 2 rfl
            have o3 := Sp.at 3 rfl
            have o4 := Sp.at 4 rfl
            have o5 := Sp.at 5 rfl
            have o6 := Sp.at 6 rfl
            have o7 := Sp.at 7 rfl
            have q0 := Sx.at 0 rfl
            have q1 := Sx.at 1 rfl
            go_wp2_with fail
            refine (step_c p 1 (k : Int) true 1 ((k : Int) + 1) _ hp (by omega) HS.out).mono ?_
            rintro e w6 ⟨rfl, hb6⟩
            clear o0 o1 o2 o3 o4 o5 o6 o7 q0 q1
            have bY := lat_alloc (Below.refl w6.heap.size w6) (.cells #[.int .i64 1, .int .i64 ((k : Int) + 1)] 23)
            have Sp := (Sp.below hb6).below bY
            have Sx := (Sx.below hb6).below bY
            have SM := (SM.below hb6).below bY
            have hW6 := hW5.trans (hb6.mono hW5.size)
            have hgy : (gp + 1 + 1) < w6.heap.size := by have := hb6.size; have := hb5.size; have := RM.lt; omega
            have Sy := Blk.new (w := w6) (t := 23) (cs := #[.int .i64 1, .int .i64 ((k : Int) + 1)])
            have hW6 := hW6.trans (bY.mono hW6.size)
            have o0 := Sp.at 0 rfl
            have o1 := Sp.at 1 rfl
            have o2 := Sp.at 2 rfl
            have o3 := Sp.at 3 rfl
            have o4 := Sp.at 4 rfl
            have o5 := Sp.at 5 rfl
            have o6 := Sp.at 6 rfl
            have o7 := Sp.at 7 rfl
            have r0 := Sy.at 0 rfl
            have r1 := Sy.at 1 rfl
            go_wp2_with fail
            clear o0 o1 o2 o3 o4 o5 o6 o7 r0 r1
            generalize w6.alloc (.cells #[.int .i64 1, .int .i64 ((k : Int) + 1)] 23) = W6 at *
            generalize w6.heap.size = gy at *
            refine (valid_c p 1 ((k : Int) + 1) _ hp HL (by have := HL.bd hp; omega)).mono ?_
            rintro e w7 ⟨rfl, hb7⟩
            have Sp := Sp.below hb7
            have Sx := Sx.below hb7
            have Sy := Sy.below hb7
            have SM := SM.below hb7
            have hW7 := hW6.trans (hb7.mono hW6.size)
            have f0 := Sx.frozen 0
            have f1 := Sx.frozen 1
            have q0 := Sx.at 0 rfl
            have q1 := Sx.at 1 rfl
            have r0 := Sy.at 0 rfl
            have r1 := Sy.at 1 rfl
            have hne : (gp + 1) ≠ gy := by omega
            have SM2 := (SM.set_ (gp + 1) 0 (by omega) (.int .i64 1)).set_ (gp + 1) 1 (by omega) (.int .i64 (((k : Int) + 1)))
            have Sp2 := (Sp.far (p := ⟨gp + 1, 0, none⟩) (by simp <;> omega) (.int .i64 1)).far (p := ⟨gp + 1, 1, none⟩) (by simp <;> omega) (.int .i64 (((k : Int) + 1)))
            have Sx2 := (Sx.set_ 0 (.int .i64 1)).set_ 1 (.int .i64 (((k : Int) + 1)))
            have hW8 := (hW7.setCell (p := ⟨gp + 1, 0, none⟩) (by simp; omega) (.int .i64 1)).setCell (p := ⟨gp + 1, 1, none⟩) (by simp; omega) (.int .i64 (((k : Int) + 1)))
            have hlk := SM2.look 1 (by decide)
            rw [show fn4 z a y c 1 = a from rfl] at hlk
            have hwr : IntKind.i64.wrap (a + 1) = a + 1 := by rw [IntKind.wrap_i64]; omega
            go_wp2_with (at_mapUpdate; refine wp_put rfl _ _ _ (.inl rfl) (gp + 1 + 1) nn _ rfl SM2 (by unfold maxLen; omega) 1 (a + 1) rfl rfl (by decide) (wf64 (by omega) (by omega)) ?_; intro w9 hM9 hg9)
            rw [fn_put1] at hM9
            go_roundw
            case rel => exact ⟨k + 1, 1, ((k : Int) + 1), z, a + 1, y, c, nn + 1, by go_num, by unfold St; omega, by omega, hW8.grown hg9 hW8.size (fun j hj => by injection hj with hj; omega), Sp2.grown hg9 (fun e => by injection e with e; omega), Sx2.grown hg9 (fun e => by injection e with e; omega), hM9⟩
            case measure => simp [intOf]; omega

          · by_cases hw2 : (k : Int) < p.wk + p.cl
            · by_cases hw3 : (k : Int) + 1 < p.wk + p.cl
              · have HS := Lib.hid (show stepV p 1 (k : Int) true = (1, ((k : Int) + 1)) by rw [stepV, if_pos rfl, if_neg (fun h => hnd h.2), Int.min_eq_left (by omega)])
                have HW := Lib.hid (show walkV p 1 (k : Int) = 2 by simp [walkV, hw1, hw2])
                have HL : LiOk p 1 ((k : Int) + 1) := by exact .inl ⟨rfl, by omega, by omega⟩
                refine (walk_c p 1 (k : Int) 2 _ hp (by omega) HW.out).mono ?_
                rintro e w5 ⟨rfl, hb5⟩
                clear o0 o1 o2 o3 o4 o5 o6 o7 q0 q1
                have Sp := Rp.below hb5
                have Sx := Rx.below hb5
                have SM := RM.below hb5
                have hW5 := hW.trans (hb5.mono hW.size)
                have o0 := Sp.at 0 rfl
                have o1 := Sp.at 1 rfl
                have o2 := Sp.at 2 rfl
                have o3 := Sp.at 3 rfl
                have o4 := Sp.at 4 rfl
                have o5 := Sp.at 5 rfl
                have o6 := Sp.at 6 rfl
                have o7 := Sp.at 7 rfl
                have q0 := Sx.at 0 rfl
                have q1 := Sx.at 1 rfl
                go_wp2_with fail
                refine (step_c p 1 (k : Int) true 1 ((k : Int) + 1) _ hp (by omega) HS.out).mono ?_
                rintro e w6 ⟨rfl, hb6⟩
                clear o0 o1 o2 o3 o4 o5 o6 o7 q0 q1
                have bY := lat_alloc (Below.refl w6.heap.size w6) (.cells #[.int .i64 1, .int .i64 ((k : Int) + 1)] 23)
                have Sp := (Sp.below hb6).below bY
                have Sx := (Sx.below hb6).below bY
                have SM := (SM.below hb6).below bY
                have hW6 := hW5.trans (hb6.mono hW5.size)
                have hgy : (gp + 1 + 1) < w6.heap.size := by have := hb6.size; have := hb5.size; have := RM.lt; omega
                have Sy := Blk.new (w := w6) (t := 23) (cs := #[.int .i64 1, .int .i64 ((k : Int) + 1)])
                have hW6 := hW6.trans (bY.mono hW6.size)
                have o0 := Sp.at 0 rfl
                have o1 := Sp.at 1 rfl
                have o2 := Sp.at 2 rfl
                have o3 := Sp.at 3 rfl
                have o4 := Sp.at 4 rfl
                have o5 := Sp.at 5 rfl
                have o6 := Sp.at 6 rfl
                have o7 := Sp.at 7 rfl
                have r0 := Sy.at 0 rfl
                have r1 := Sy.at 1 rfl
                go_wp2_with fail
                clear o0 o1 o2 o3 o4 o5 o6 o7 r0 r1
                generalize w6.alloc (.cells #[.int .i64 1, .int .i64 ((k : Int) + 1)] 23) = W6 at *
                generalize w6.heap.size = gy at *
                refine (valid_c p 1 ((k : Int) + 1) _ hp HL (by have := HL.bd hp; omega)).mono ?_
                rintro e w7 ⟨rfl, hb7⟩
                have Sp := Sp.below hb7
                have Sx := Sx.below hb7
                have Sy := Sy.below hb7
                have SM := SM.below hb7
                have hW7 := hW6.trans (hb7.mono hW6.size)
                have HW2 := Lib.hid (show walkV p 1 ((k : Int) + 1) = 2 by have h9 : ¬ (k : Int) + 1 < p.wk := (by omega); simp [walkV, h9, hw3])
                have o0 := Sp.at 0 rfl
                have o1 := Sp.at 1 rfl
                have o2 := Sp.at 2 rfl
                have o3 := Sp.at 3 rfl
                have o4 := Sp.at 4 rfl
                have o5 := Sp.at 5 rfl
                have o6 := Sp.at 6 rfl
                have o7 := Sp.at 7 rfl
                have r0 := Sy.at 0 rfl
                have r1 := Sy.at 1 rfl
                go_wp2_with fail
                clear o0 o1 o2 o3 o4 o5 o6 o7 r0 r1
                refine (walk_c p 1 ((k : Int) + 1) 2 _ hp (by omega) HW2.out).mono ?_
                rintro e w7' ⟨rfl, hb8⟩
                obtain ⟨w7, hw7⟩ : ∃ v : World, v = w7' := ⟨_, rfl⟩
                subst hw7
                have Sp := Sp.below hb8
                have Sx := Sx.below hb8
                have Sy := Sy.below hb8
                have SM := SM.below hb8
                have hW7 := hW7.trans (hb8.mono hW7.size)
                have f0 := Sx.frozen 0
                have f1 := Sx.frozen 1
                have q0 := Sx.at 0 rfl
                have q1 := Sx.at 1 rfl
                have r0 := Sy.at 0 rfl
                have r1 := Sy.at 1 rfl
                have hne : (gp + 1) ≠ gy := by omega
                have SM2 := (SM.set_ (gp + 1) 0 (by omega) (.int .i64 1)).set_ (gp + 1) 1 (by omega) (.int .i64 (((k : Int) + 1)))
                have Sp2 := (Sp.far (p := ⟨gp + 1, 0, none⟩) (by simp <;> omega) (.int .i64 1)).far (p := ⟨gp + 1, 1, none⟩) (by simp <;> omega) (.int .i64 (((k : Int) + 1)))
                have Sx2 := (Sx.set_ 0 (.int .i64 1)).set_ 1 (.int .i64 (((k : Int) + 1)))
                have hW8 := (hW7.setCell (p := ⟨gp + 1, 0, none⟩) (by simp; omega) (.int .i64 1)).setCell (p := ⟨gp + 1, 1, none⟩) (by simp; omega) (.int .i64 (((k : Int) + 1)))
                have hlk := SM2.look 1 (by decide)
                rw [show fn4 z a y c 1 = a from rfl] at hlk
                have hwr : IntKind.i64.wrap (a + 1) = a + 1 := by rw [IntKind.wrap_i64]; omega
                go_wp2_with (at_mapUpdate; refine wp_put rfl _ _ _ (.inl rfl) (gp + 1 + 1) nn _ rfl SM2 (by unfold maxLen; omega) 1 (a + 1) rfl rfl (by decide) (wf64 (by omega) (by omega)) ?_; intro w9 hM9 hg9)
                rw [fn_put1] at hM9
                go_roundw
                case rel => exact ⟨k + 1, 1, ((k : Int) + 1), z, a + 1, y, c, nn + 1, by go_num, by unfold St; omega, by omega, hW8.grown hg9 hW8.size (fun j hj => by injection hj with hj; omega), Sp2.grown hg9 (fun e => by injection e with e; omega), Sx2.grown hg9 (fun e => by injection e with e; omega), hM9⟩
                case measure => simp [intOf]; omega

              · have HS := Lib.hid (show stepV p 1 (k : Int) true = (1, ((k : Int) + 1)) by rw [stepV, if_pos rfl, if_neg (fun h => hnd h.2), Int.min_eq_left (by omega)])
                have HW := Lib.hid (show walkV p 1 (k : Int) = 2 by simp [walkV, hw1, hw2])
                have HL : LiOk p 1 ((k : Int) + 1) := by exact .inl ⟨rfl, by omega, by omega⟩
                refine (walk_c p 1 (k : Int) 2 _ hp (by omega) HW.out).mono ?_
                rintro e w5 ⟨rfl, hb5⟩
                clear o0 o1 o2 o3 o4 o5 o6 o7 q0 q1
                have Sp := Rp.below hb5
                have Sx := Rx.below hb5
                have SM := RM.below hb5
                have hW5 := hW.trans (hb5.mono hW.size)
                have o0 := Sp.at 0 rfl
                have o1 := Sp.at 1 rfl
                have o2 := Sp.at 2 rfl
                have o3 := Sp.at 3 rfl
                have o4 := Sp.at 4 rfl
                have o5 := Sp.at 5 rfl
                have o6 := Sp.at 6 rfl
                have o7 := Sp.at 7 rfl
                have q0 := Sx.at 0 rfl
                have q1 := Sx.at 1 rfl
                go_wp2_with fail
                refine (step_c p 1 (k : Int) true 1 ((k : Int) + 1) _ hp (by omega) HS.out).mono ?_
                rintro e w6 ⟨rfl, hb6⟩
                clear o0 o1 o2 o3 o4 o5 o6 o7 q0 q1
                have bY := lat_alloc (Below.refl w6.heap.size w6) (.cells #[.int .i64 1, .int .i64 ((k : Int) + 1)] 23)
                have Sp := (Sp.below hb6).below bY
                have Sx := (Sx.below hb6).below bY
                have SM := (SM.below hb6).below bY
                have hW6 := hW5.trans (hb6.mono hW5.size)
                have hgy : (gp + 1 + 1) < w6.heap.size := by have := hb6.size; have := hb5.size; have := RM.lt; omega
                have Sy := Blk.new (w := w6) (t := 23) (cs := #[.int .i64 1, .int .i64 ((k : Int) + 1)])
                have hW6 := hW6.trans (bY.mono hW6.size)
                have o0 := Sp.at 0 rfl
                have o1 := Sp.at 1 rfl
                have o2 := Sp.at 2 rfl
                have o3 := Sp.at 3 rfl
                have o4 := Sp.at 4 rfl
                have o5 := Sp.at 5 rfl
                have o6 := Sp.at 6 rfl
                have o7 := Sp.at 7 rfl
                have r0 := Sy.at 0 rfl
                have r1 := Sy.at 1 rfl
                go_wp2_with fail
                clear o0 o1 o2 o3 o4 o5 o6 o7 r0 r1
                generalize w6.alloc (.cells #[.int .i64 1, .int .i64 ((k : Int) + 1)] 23) = W6 at *
                generalize w6.heap.size = gy at *
                refine (valid_c p 1 ((k : Int) + 1) _ hp HL (by have := HL.bd hp; omega)).mono ?_
                rintro e w7 ⟨rfl, hb7⟩
                have Sp := Sp.below hb7
                have Sx := Sx.below hb7
                have Sy := Sy.below hb7
                have SM := SM.below hb7
                have hW7 := hW6.trans (hb7.mono hW6.size)
                have HW2 := Lib.hid (show walkV p 1 ((k : Int) + 1) = 0 by have h9 : ¬ (k : Int) + 1 < p.wk := (by omega); simp [walkV, h9, hw3])
                have o0 := Sp.at 0 rfl
                have o1 := Sp.at 1 rfl
                have o2 := Sp.at 2 rfl
                have o3 := Sp.at 3 rfl
                have o4 := Sp.at 4 rfl
                have o5 := Sp.at 5 rfl
                have o6 := Sp.at 6 rfl
                have o7 := Sp.at 7 rfl
                have r0 := Sy.at 0 rfl
                have r1 := Sy.at 1 rfl
                go_wp2_with fail
                clear o0 o1 o2 o3 o4 o5 o6 o7 r0 r1
                refine (walk_c p 1 ((k : Int) + 1) 0 _ hp (by omega) HW2.out).mono ?_
                rintro e w7' ⟨rfl, hb8⟩
                obtain ⟨w7, hw7⟩ : ∃ v : World, v = w7' := ⟨_, rfl⟩
                subst hw7
                have Sp := Sp.below hb8
                have Sx := Sx.below hb8
                have Sy := Sy.below hb8
                have SM := SM.below hb8
                have hW7 := hW7.trans (hb8.mono hW7.size)
                have f0 := Sx.frozen 0
                have f1 := Sx.frozen 1
                have q0 := Sx.at 0 rfl
                have q1 := Sx.at 1 rfl
                have r0 := Sy.at 0 rfl
                have r1 := Sy.at 1 rfl
                have hne : (gp + 1) ≠ gy := by omega
                have SM2 := (SM.set_ (gp + 1) 0 (by omega) (.int .i64 1)).set_ (gp + 1) 1 (by omega) (.int .i64 (((k : Int) + 1)))
                have Sp2 := (Sp.far (p := ⟨gp + 1, 0, none⟩) (by simp <;> omega) (.int .i64 1)).far (p := ⟨gp + 1, 1, none⟩) (by simp <;> omega) (.int .i64 (((k : Int) + 1)))
                have Sx2 := (Sx.set_ 0 (.int .i64 1)).set_ 1 (.int .i64 (((k : Int) + 1)))
                have hW8 := (hW7.setCell (p := ⟨gp + 1, 0, none⟩) (by simp; omega) (.int .i64 1)).setCell (p := ⟨gp + 1, 1, none⟩) (by simp; omega) (.int .i64 (((k : Int) + 1)))
                have hlk := SM2.look 1 (by decide)
                rw [show fn4 z a y c 1 = a from rfl] at hlk
                have hwr : IntKind.i64.wrap (a + 1) = a + 1 := by rw [IntKind.wrap_i64]; omega
                go_wp2_with (at_mapUpdate; refine wp_put rfl _ _ _ (.inl rfl) (gp + 1 + 1) nn _ rfl SM2 (by unfold maxLen; omega) 1 (a + 1) rfl rfl (by decide) (wf64 (by omega) (by omega)) ?_; intro w9 hM9 hg9)
                rw [fn_put1] at hM9
                go_roundw
                case rel => exact ⟨k + 1, 1, ((k : Int) + 1), z, a + 1, y, c, nn + 1, by go_num, by unfold St; omega, by omega, hW8.grown hg9 hW8.size (fun j hj => by injection hj with hj; omega), Sp2.grown hg9 (fun e => by injection e with e; omega), Sx2.grown hg9 (fun e => by injection e with e; omega), hM9⟩
                case measure => simp [intOf]; omega

            · have HS := Lib.hid (show stepV p 1 (k : Int) true = (1, ((k : Int) + 1)) by rw [stepV, if_pos rfl, if_neg (fun h => hnd h.2), Int.min_eq_left (by omega)])
              have HW := Lib.hid (show walkV p 1 (k : Int) = 0 by simp [walkV, hw1, hw2])
              have HL : LiOk p 1 ((k : Int) + 1) := by exact .inl ⟨rfl, by omega, by omega⟩
              refine (walk_c p 1 (k : Int) 0 _ hp (by omega) HW.out).mono ?_
              rintro e w5 ⟨rfl, hb5⟩
              clear o0 o1 o2 o3 o4 o5 o6 o7 q0 q1
              have Sp := Rp.below hb5
              have Sx := Rx.below hb5
              have SM := RM.below hb5
              have hW5 := hW.trans (hb5.mono hW.size)
              have o0 := Sp.at 0 rfl
              have o1 := Sp.at 1 rfl
              have o2 := Sp.at 2 rfl
              have o3 := Sp.at 3 rfl
              have o4 := Sp.at 4 rfl
              have o5 := Sp.at 5 rfl
              have o6 := Sp.at 6 rfl
              have o7 := Sp.at 7 rfl
              have q0 := Sx.at 0 rfl
              have q1 := Sx.at 1 rfl
              go_wp2_with fail
              refine (step_c p 1 (k : Int) true 1 ((k : Int) + 1) _ hp (by omega) HS.out).mono ?_
              rintro e w6 ⟨rfl, hb6⟩
              clear o0 o1 o2 o3 o4 o5 o6 o7 q0 q1
              have bY := lat_alloc (Below.refl w6.heap.size w6) (.cells #[.int .i64 1, .int .i64 ((k : Int) + 1)] 23)
              have Sp := (Sp.below hb6).below bY
              have Sx := (Sx.below hb6).below bY
              have SM := (SM.below hb6).below bY
              have hW6 := hW5.trans (hb6.mono hW5.size)
              have hgy : (gp + 1 + 1) < w6.heap.size := by have := hb6.size; have := hb5.size; have := RM.lt; omega
              have Sy := Blk.new (w := w6) (t := 23) (cs := #[.int .i64 1, .int .i64 ((k : Int) + 1)])
              have hW6 := hW6.trans (bY.mono hW6.size)
              have o0 := Sp.at 0 rfl
              have o1 := Sp.at 1 rfl
              have o2 := Sp.at 2 rfl
              have o3 := Sp.at 3 rfl
              have o4 := Sp.at 4 rfl
              have o5 := Sp.at 5 rfl
              have o6 := Sp.at 6 rfl
              have o7 := Sp.at 7 rfl
              have r0 := Sy.at 0 rfl
              have r1 := Sy.at 1 rfl
              go_wp2_with fail
              clear o0 o1 o2 o3 o4 o5 o6 o7 r0 r1
              generalize w6.alloc (.cells #[.int .i64 1, .int .i64 ((k : Int) + 1)] 23) = W6 at *
              generalize w6.heap.size = gy at *
              refine (valid_c p 1 ((k : Int) + 1) _ hp HL (by have := HL.bd hp; omega)).mono ?_
              rintro e w7 ⟨rfl, hb7⟩
              have Sp := Sp.below hb7
              have Sx := Sx.below hb7
              have Sy := Sy.below hb7
              have SM := SM.below hb7
              have hW7 := hW6.trans (hb7.mono hW6.size)
              have f0 := Sx.frozen 0
              have f1 := Sx.frozen 1
              have q0 := Sx.at 0 rfl
              have q1 := Sx.at 1 rfl
              have r0 := Sy.at 0 rfl
              have r1 := Sy.at 1 rfl
              have hne : (gp + 1) ≠ gy := by omega
              have SM2 := (SM.set_ (gp + 1) 0 (by omega) (.int .i64 1)).set_ (gp + 1) 1 (by omega) (.int .i64 (((k : Int) + 1)))
              have Sp2 := (Sp.far (p := ⟨gp + 1, 0, none⟩) (by simp <;> omega) (.int .i64 1)).far (p := ⟨gp + 1, 1, none⟩) (by simp <;> omega) (.int .i64 (((k : Int) + 1)))
              have Sx2 := (Sx.set_ 0 (.int .i64 1)).set_ 1 (.int .i64 (((k : Int) + 1)))
              have hW8 := (hW7.setCell (p := ⟨gp + 1, 0, none⟩) (by simp; omega) (.int .i64 1)).setCell (p := ⟨gp + 1, 1, none⟩) (by simp; omega) (.int .i64 (((k : Int) + 1)))
              have hlk := SM2.look 1 (by decide)
              rw [show fn4 z a y c 1 = a from rfl] at hlk
              have hwr : IntKind.i64.wrap (a + 1) = a + 1 := by rw [IntKind.wrap_i64]; omega
              go_wp2_with (at_mapUpdate; refine wp_put rfl _ _ _ (.inl rfl) (gp + 1 + 1) nn _ rfl SM2 (by unfold maxLen; omega) 1 (a + 1) rfl rfl (by decide) (wf64 (by omega) (by omega)) ?_; intro w9 hM9 hg9)
              rw [fn_put1] at hM9
              go_roundw
              case rel => exact ⟨k + 1, 1, ((k : Int) + 1), z, a + 1, y, c, nn + 1, by go_num, by unfold St; omega, by omega, hW8.grown hg9 hW8.size (fun j hj => by injection hj with hj; omega), Sp2.grown hg9 (fun e => by injection e with e; omega), Sx2.grown hg9 (fun e => by injection e with e; omega), hM9⟩
              case measure => simp [intOf]; omega

      · have zk : decide ((ls.length : Int) ≤ k) = false := by simp; omega
        have hklN : k < ls.length := by omega
        have hklZ : (k : Int) < ls.length := by omega
        obtain ⟨bb, off, rfl, hbB, hcs⟩ := (hs2.below hW) (by omega)
        have hck := hcs k hklN
        go_wp2_with fail
        clear hck
        generalize (bits BinOp.and IntKind.i64 (at_ ls k) 1 == 1) = lv at *
        cases lv with
        | true =>
          by_cases hnd : needV p ≤ (k : Int) + 1
          · have hw1 : ¬ (k : Int) < p.wk := by unfold needV at hnd; omega
            by_cases hw2 : (k : Int) < p.wk + p.cl
            · have HS := Lib.hid (show stepV p 1 (k : Int) true = (2, 0) by rw [stepV, if_pos rfl, if_pos ⟨rfl, hnd⟩])
              have HW := Lib.hid (show walkV p 1 (k : Int) = 2 by simp [walkV, hw1, hw2])
              have HL : LiOk p 2 0 := by exact .inr (.inl ⟨rfl, by omega, by omega⟩)
              refine (walk_c p 1 (k : Int) 2 _ hp (by omega) HW.out).mono ?_
              rintro e w5 ⟨rfl, hb5⟩
              clear o0 o1 o2 o3 o4 o5 o6 o7 q0 q1
              have Sp := Rp.below hb5
              have Sx := Rx.below hb5
              have SM := RM.below hb5
              have hW5 := hW.trans (hb5.mono hW.size)
              have o0 := Sp.at 0 rfl
              have o1 := Sp.at 1 rfl
              have o2 := Sp.at 2 rfl
              have o3 := Sp.at 3 rfl
              have o4 := Sp.at 4 rfl
              have o5 := Sp.at 5 rfl
              have o6 := Sp.at 6 rfl
              have o7 := Sp.at 7 rfl
              have q0 := Sx.at 0 rfl
              have q1 := Sx.at 1 rfl
              go_wp2_with fail
              refine (step_c p 1 (k : Int) true 2 0 _ hp (by omega) HS.out).mono ?_
              rintro e w6 ⟨rfl, hb6⟩
              clear o0 o1 o2 o3 o4 o5 o6 o7 q0 q1
              have bY := lat_alloc (Below.refl w6.heap.size w6) (.cells #[.int .i64 2, .int .i64 0] 23)
              have Sp := (Sp.below hb6).below bY
              have Sx := (Sx.below hb6).below bY
              have SM := (SM.below hb6).below bY
              have hW6 := hW5.trans (hb6.mono hW5.size)
              have hgy : (gp + 1 + 1) < w6.heap.size := by have := hb6.size; have := hb5.size; have := RM.lt; omega
              have Sy := Blk.new (w := w6) (t := 23) (cs := #[.int .i64 2, .int .i64 0])
              have hW6 := hW6.trans (bY.mono hW6.size)
              have o0 := Sp.at 0 rfl
              have o1 := Sp.at 1 rfl
              have o2 := Sp.at 2 rfl
              have o3 := Sp.at 3 rfl
              have o4 := Sp.at 4 rfl
              have o5 := Sp.at 5 rfl
              have o6 := Sp.at 6 rfl
              have o7 := Sp.at 7 rfl
              have r0 := Sy.at 0 rfl
              have r1 := Sy.at 1 rfl
              go_wp2_with fail
              clear o0 o1 o2 o3 o4 o5 o6 o7 r0 r1
              generalize w6.alloc (.cells #[.int .i64 2, .int .i64 0] 23) = W6 at *
              generalize w6.heap.size = gy at *
              refine (valid_c p 2 0 _ hp HL (by have := HL.bd hp; omega)).mono ?_
              rintro e w7 ⟨rfl, hb7⟩
              have Sp := Sp.below hb7
              have Sx := Sx.below hb7
              have Sy := Sy.below hb7
              have SM := SM.below hb7
              have hW7 := hW6.trans (hb7.mono hW6.size)
              have f0 := Sx.frozen 0
              have f1 := Sx.frozen 1
              have q0 := Sx.at 0 rfl
              have q1 := Sx.at 1 rfl
              have r0 := Sy.at 0 rfl
              have r1 := Sy.at 1 rfl
              have hne : (gp + 1) ≠ gy := by omega
              have SM2 := (SM.set_ (gp + 1) 0 (by omega) (.int .i64 2)).set_ (gp + 1) 1 (by omega) (.int .i64 (0))
              have Sp2 := (Sp.far (p := ⟨gp + 1, 0, none⟩) (by simp <;> omega) (.int .i64 2)).far (p := ⟨gp + 1, 1, none⟩) (by simp <;> omega) (.int .i64 (0))
              have Sx2 := (Sx.set_ 0 (.int .i64 2)).set_ 1 (.int .i64 (0))
              have hW8 := (hW7.setCell (p := ⟨gp + 1, 0, none⟩) (by simp; omega) (.int .i64 2)).setCell (p := ⟨gp + 1, 1, none⟩) (by simp; omega) (.int .i64 (0))
              have hlk := SM2.look 2 (by decide)
              rw [show fn4 z a y c 2 = y from rfl] at hlk
              have hwr : IntKind.i64.wrap (y + 1) = y + 1 := by rw [IntKind.wrap_i64]; omega
              go_wp2_with (at_mapUpdate; refine wp_put rfl _ _ _ (.inl rfl) (gp + 1 + 1) nn _ rfl SM2 (by unfold maxLen; omega) 2 (y + 1) rfl rfl (by decide) (wf64 (by omega) (by omega)) ?_; intro w9 hM9 hg9)
              rw [fn_put2] at hM9
              go_roundw
              case rel => exact ⟨k + 1, 2, 0, z, a, y + 1, c, nn + 1, by go_num, by unfold St; omega, by omega, hW8.grown hg9 hW8.size (fun j hj => by injection hj with hj; omega), Sp2.grown hg9 (fun e => by injection e with e; omega), Sx2.grown hg9 (fun e => by injection e with e; omega), hM9⟩
              case measure => simp [intOf]; omega

            · have HS := Lib.hid (show stepV p 1 (k : Int) true = (2, 0) by rw [stepV, if_pos rfl, if_pos ⟨rfl, hnd⟩])
              have HW := Lib.hid (show walkV p 1 (k : Int) = 0 by simp [walkV, hw1, hw2])
              have HL : LiOk p 2 0 := by exact .inr (.inl ⟨rfl, by omega, by omega⟩)
              refine (walk_c p 1 (k : Int) 0 _ hp (by omega) HW.out).mono ?_
              rintro e w5 ⟨rfl, hb5⟩
              clear o0 o1 o2 o3 o4 o5 o6 o7 q0 q1
              have Sp := Rp.below hb5
              have Sx := Rx.below hb5
              have SM := RM.below hb5
              have hW5 := hW.trans (hb5.mono hW.size)
              have o0 := Sp.at 0 rfl
              have o1 := Sp.at 1 rfl
              have o2 := Sp.at 2 rfl
              have o3 := Sp.at 3 rfl
              have o4 := Sp.at 4 rfl
              have o5 := Sp.at 5 rfl
              have o6 := Sp.at 6 rfl
              have o7 := Sp.at 7 rfl
              have q0 := Sx.at 0 rfl
              have q1 := Sx.at 1 rfl
              go_wp2_with fail
              refine (step_c p 1 (k : Int) true 2 0 _ hp (by omega) HS.out).mono ?_
              rintro e w6 ⟨rfl, hb6⟩
              clear o0 o1 o2 o3 o4 o5 o6 o7 q0 q1
              have bY := lat_alloc (Below.refl w6.heap.size w6) (.cells #[.int .i64 2, .int .i64 0] 23)
              have Sp := (Sp.below hb6).below bY
              have Sx := (Sx.below hb6).below bY
              have SM := (SM.below hb6).below bY
              have hW6 := hW5.trans (hb6.mono hW5.size)
              have hgy : (gp + 1 + 1) < w6.heap.size := by have := hb6.size; have := hb5.size; have := RM.lt; omega
              have Sy := Blk.new (w := w6) (t := 23) (cs := #[.int .i64 2, .int .i64 0])
              have hW6 := hW6.trans (bY.mono hW6.size)
              have o0 := Sp.at 0 rfl
              have o1 := Sp.at 1 rfl
              have o2 := Sp.at 2 rfl
              have o3 := Sp.at 3 rfl
              have o4 := Sp.at 4 rfl
              have o5 := Sp.at 5 rfl
              have o6 := Sp.at 6 rfl
              have o7 := Sp.at 7 rfl
              have r0 := Sy.at 0 rfl
              have r1 := Sy.at 1 rfl
              go_wp2_with fail
              clear o0 o1 o2 o3 o4 o5 o6 o7 r0 r1
              generalize w6.alloc (.cells #[.int .i64 2, .int .i64 0] 23) = W6 at *
              generalize w6.heap.size = gy at *
              refine (valid_c p 2 0 _ hp HL (by have := HL.bd hp; omega)).mono ?_
              rintro e w7 ⟨rfl, hb7⟩
              have Sp := Sp.below hb7
              have Sx := Sx.below hb7
              have Sy := Sy.below hb7
              have SM := SM.below hb7
              have hW7 := hW6.trans (hb7.mono hW6.size)
              have f0 := Sx.frozen 0
              have f1 := Sx.frozen 1
              have q0 := Sx.at 0 rfl
              have q1 := Sx.at 1 rfl
              have r0 := Sy.at 0 rfl
              have r1 := Sy.at 1 rfl
              have hne : (gp + 1) ≠ gy := by omega
              have SM2 := (SM.set_ (gp + 1) 0 (by omega) (.int .i64 2)).set_ (gp + 1) 1 (by omega) (.int .i64 (0))
              have Sp2 := (Sp.far (p := ⟨gp + 1, 0, none⟩) (by simp <;> omega) (.int .i64 2)).far (p := ⟨gp + 1, 1, none⟩) (by simp <;> omega) (.int .i64 (0))
              have Sx2 := (Sx.set_ 0 (.int .i64 2)).set_ 1 (.int .i64 (0))
              have hW8 := (hW7.setCell (p := ⟨gp + 1, 0, none⟩) (by simp; omega) (.int .i64 2)).setCell (p := ⟨gp + 1, 1, none⟩) (by simp; omega) (.int .i64 (0))
              have hlk := SM2.look 2 (by decide)
              rw [show fn4 z a y c 2 = y from rfl] at hlk
              have hwr : IntKind.i64.wrap (y + 1) = y + 1 := by rw [IntKind.wrap_i64]; omega
              go_wp2_with (at_mapUpdate; refine wp_put rfl _ _ _ (.inl rfl) (gp + 1 + 1) nn _ rfl SM2 (by unfold maxLen; omega) 2 (y + 1) rfl rfl (by decide) (wf64 (by omega) (by omega)) ?_; intro w9 hM9 hg9)
              rw [fn_put2] at hM9
              go_roundw
              case rel => exact ⟨k + 1, 2, 0, z, a, y + 1, c, nn + 1, by go_num, by unfold St; omega, by omega, hW8.grown hg9 hW8.size (fun j hj => by injection hj with hj; omega), Sp2.grown hg9 (fun e => by injection e with e; omega), Sx2.grown hg9 (fun e => by injection e with e; omega), hM9⟩
              case measure => simp [intOf]; omega

          · by_cases hw1 : (k : Int) < p.wk
            · have HS := Lib.hid (show stepV p 1 (k : Int) true = (1, ((k : Int) + 1)) by rw [stepV, if_pos rfl, if_neg (fun h => hnd h.2), Int.min_eq_left (by omega)])
              have HW := Lib.hid (show walkV p 1 (k : Int) = 1 by simp [walkV, hw1])
              have HL : LiOk p 1 ((k : Int) + 1) := by exact .inl ⟨rfl, by omega, by omega⟩
              refine (walk_c p 1 (k : Int) 1 _ hp (by omega) HW.out).mono ?_
              rintro e w5 ⟨rfl, hb5⟩
              clear o0 o1 o2 o3 o4 o5 o6 o7 q0 q1
              have Sp := Rp.below hb5
              have Sx := Rx.below hb5
              have SM := RM.below hb5
              have hW5 := hW.trans (hb5.mono hW.size)
              have o0 := Sp.at 0 rfl
              have o1 := Sp.at 1 rfl
              have o2 := Sp.at 2 rfl
              have o3 := Sp.at 3 rfl
              have o4 := Sp.at 4 rfl
              have o5 := Sp.at 5 rfl
              have o6 := Sp.at 6 rfl
              have o7 := Sp.at 7 rfl
              have q0 := Sx.at 0 rfl
              have q1 := Sx.at 1 rfl
              go_wp2_with fail
              refine (step_c p 1 (k : Int) true 1 ((k : Int) + 1) _ hp (by omega) HS.out).mono ?_
              rintro e w6 ⟨rfl, hb6⟩
              clear o0 o1 o2 o3 o4 o5 o6 o7 q0 q1
              have bY := lat_alloc (Below.refl w6.heap.size w6) (.cells #[.int .i64 1, .int .i64 ((k : Int) + 1)] 23)
              have Sp := (Sp.below hb6).below bY
              have Sx := (Sx.below hb6).below bY
              have SM := (SM.below hb6).below bY
              have hW6 := hW5.trans (hb6.mono hW5.size)
              have hgy : (gp + 1 + 1) < w6.heap.size := by have := hb6.size; have := hb5.size; have := RM.lt; omega
              have Sy := Blk.new (w := w6) (t := 23) (cs := #[.int .i64 1, .int .i64 ((k : Int) + 1)])
              have hW6 := hW6.trans (bY.mono hW6.size)
              have o0 := Sp.at 0 rfl
              have o1 := Sp.at 1 rfl
              have o2 := Sp.at 2 rfl
              have o3 := Sp.at 3 rfl
              have o4 := Sp.at 4 rfl
              have o5 := Sp.at 5 rfl
              have o6 := Sp.at 6 rfl
              have o7 := Sp.at 7 rfl
              have r0 := Sy.at 0 rfl
              have r1 := Sy.at 1 rfl
              go_wp2_with fail
              clear o0 o1 o2 o3 o4 o5 o6 o7 r0 r1
              generalize w6.alloc (.cells #[.int .i64 1, .int .i64 ((k : Int) + 1)] 23) = W6 at *
              generalize w6.heap.size = gy at *
              refine (valid_c p 1 ((k : Int) + 1) _ hp HL (by have := HL.bd hp; omega)).mono ?_
              rintro e w7 ⟨rfl, hb7⟩
              have Sp := Sp.below hb7
              have Sx := Sx.below hb7
              have Sy := Sy.below hb7
              have SM := SM.below hb7
              have hW7 := hW6.trans (hb7.mono hW6.size)
              have f0 := Sx.frozen 0
              have f1 := Sx.frozen 1
              have q0 := Sx.at 0 rfl
              have q1 := Sx.at 1 rfl
              have r0 := Sy.at 0 rfl
              have r1 := Sy.at 1 rfl
              have hne : (gp + 1) ≠ gy := by omega
              have SM2 := (SM.set_ (gp + 1) 0 (by omega) (.int .i64 1)).set_ (gp + 1) 1 (by omega) (.int .i64 (((k : Int) + 1)))
              have Sp2 := (Sp.far (p := ⟨gp + 1, 0, none⟩) (by simp <;> omega) (.int .i64 1)).far (p := ⟨gp + 1, 1, none⟩) (by simp <;> omega) (.int .i64 (((k : Int) + 1)))
              have Sx2 := (Sx.set_ 0 (.int .i64 1)).set_ 1 (.int .i64 (((k : Int) + 1)))
              have hW8 := (hW7.setCell (p := ⟨gp + 1, 0, none⟩) (by simp; omega) (.int .i64 1)).setCell (p := ⟨gp + 1, 1, none⟩) (by simp; omega) (.int .i64 (((k : Int) + 1)))
              have hlk := SM2.look 1 (by decide)
              rw [show fn4 z a y c 1 = a from rfl] at hlk
              have hwr : IntKind.i64.wrap (a + 1) = a + 1 := by rw [IntKind.wrap_i64]; omega
              go_wp2_with (at_mapUpdate; refine wp_put rfl _ _ _ (.inl rfl) (gp + 1 + 1) nn _ rfl SM2 (by unfold maxLen; omega) 1 (a + 1) rfl rfl (by decide) (wf64 (by omega) (by omega)) ?_; intro w9 hM9 hg9)
              rw [fn_put1] at hM9
              go_roundw
              case rel => exact ⟨k + 1, 1, ((k : Int) + 1), z, a + 1, y, c, nn + 1, by go_num, by unfold St; omega, by omega, hW8.grown hg9 hW8.size (fun j hj => by injection hj with hj; omega), Sp2.grown hg9 (fun e => by injection e with e; omega), Sx2.grown hg9 (fun e => by injection e with e; omega), hM9⟩
              case measure => simp [intOf]; omega

            · by_cases hw2 : (k : Int) < p.wk + p.cl
              · by_cases hw3 : (k : Int) + 1 < p.wk + p.cl
                · have HS := Lib.hid (show stepV p 1 (k : Int) true = (1, ((k : Int) + 1)) by rw [stepV, if_pos rfl, if_neg (fun h => hnd h.2), Int.min_eq_left (by omega)])
                  have HW := Lib.hid (show walkV p 1 (k : Int) = 2 by simp [walkV, hw1, hw2])
                  have HL : LiOk p 1 ((k : Int) + 1) := by exact .inl ⟨rfl, by omega, by omega⟩
                  refine (walk_c p 1 (k : Int) 2 _ hp (by omega) HW.out).mono ?_
                  rintro e w5 ⟨rfl, hb5⟩
                  clear o0 o1 o2 o3 o4 o5 o6 o7 q0 q1
                  have Sp := Rp.below hb5
                  have Sx := Rx.below hb5
                  have SM := RM.below hb5
                  have hW5 := hW.trans (hb5.mono hW.size)
                  have o0 := Sp.at 0 rfl
                  have o1 := Sp.at 1 rfl
                  have o2 := Sp.at 2 rfl
                  have o3 := Sp.at 3 rfl
                  have o4 := Sp.at 4 rfl
                  have o5 := Sp.at 5 rfl
                  have o6 := Sp.at 6 rfl
                  have o7 := Sp.at 7 rfl
                  have q0 := Sx.at 0 rfl
                  have q1 := Sx.at 1 rfl
                  go_wp2_with fail
                  refine (step_c p 1 (k : Int) true 1 ((k : Int) + 1) _ hp (by omega) HS.out).mono ?_
                  rintro e w6 ⟨rfl, hb6⟩
                  clear o0 o1 o2 o3 o4 o5 o6 o7 q0 q1
                  have bY := lat_alloc (Below.refl w6.heap.size w6) (.cells #[.int .i64 1, .int .i64 ((k : Int) + 1)] 23)
                  have Sp := (Sp.below hb6).below bY
                  have Sx := (Sx.below hb6).below bY
                  have SM := (SM.below hb6).below bY
                  have hW6 := hW5.trans (hb6.mono hW5.size)
                  have hgy : (gp + 1 + 1) < w6.heap.size := by have := hb6.size; have := hb5.size; have := RM.lt; omega
                  have Sy := Blk.new (w := w6) (t := 23) (cs := #[.int .i64 1, .int .i64 ((k : Int) + 1)])
                  have hW6 := hW6.trans (bY.mono hW6.size)
                  have o0 := Sp.at 0 rfl
                  have o1 := Sp.at 1 rfl
                  have o2 := Sp.at 2 rfl
                  have o3 := Sp.at 3 rfl
                  have o4 := Sp.at 4 rfl
                  have o5 := Sp.at 5 rfl
                  have o6 := Sp.at 6 rfl
                  have o7 := Sp.at 7 rfl
                  have r0 := Sy.at 0 rfl
                  have r1 := Sy.at 1 rfl
                  go_wp2_with fail
                  clear o0 o1 o2 o3 o4 o5 o6 o7 r0 r1
                  generalize w6.alloc (.cells #[.int .i64 1, .int .i64 ((k : Int) + 1)] 23) = W6 at *
                  generalize w6.heap.size = gy at *
                  refine (valid_c p 1 ((k : Int) + 1) _ hp HL (by have := HL.bd hp; omega)).mono ?_
                  rintro e w7 ⟨rfl, hb7⟩
                  have Sp := Sp.below hb7
                  have Sx := Sx.below hb7
                  have Sy := Sy.below hb7
                  have SM := SM.below hb7
                  have hW7 := hW6.trans (hb7.mono hW6.size)
                  have HW2 := Lib.hid (show walkV p 1 ((k : Int) + 1) = 2 by have h9 : ¬ (k : Int) + 1 < p.wk := (by omega); simp [walkV, h9, hw3])
                  have o0 := Sp.at 0 rfl
                  have o1 := Sp.at 1 rfl
                  have o2 := Sp.at 2 rfl
                  have o3 := Sp.at 3 rfl
                  have o4 := Sp.at 4 rfl
                  have o5 := Sp.at 5 rfl
                  have o6 := Sp.at 6 rfl
                  have o7 := Sp.at 7 rfl
                  have r0 := Sy.at 0 rfl
                  have r1 := Sy.at 1 rfl
                  go_wp2_with fail
                  clear o0 o1 o2 o3 o4 o5 o6 o7 r0 r1
                  refine (walk_c p 1 ((k : Int) + 1) 2 _ hp (by omega) HW2.out).mono ?_
                  rintro e w7' ⟨rfl, hb8⟩
                  obtain ⟨w7, hw7⟩ : ∃ v : World, v = w7' := ⟨_, rfl⟩
                  subst hw7
                  have Sp := Sp.below hb8
                  have Sx := Sx.below hb8
                  have Sy := Sy.below hb8
                  have SM := SM.below hb8
                  have hW7 := hW7.trans (hb8.mono hW7.size)
                  have f0 := Sx.frozen 0
                  have f1 := Sx.frozen 1
                  have q0 := Sx.at 0 rfl
                  have q1 := Sx.at 1 rfl
                  have r0 := Sy.at 0 rfl
                  have r1 := Sy.at 1 rfl
                  have hne : (gp + 1) ≠ gy := by omega
                  have SM2 := (SM.set_ (gp + 1) 0 (by omega) (.int .i64 1)).set_ (gp + 1) 1 (by omega) (.int .i64 (((k : Int) + 1)))
                  have Sp2 := (Sp.far (p := ⟨gp + 1, 0, none⟩) (by simp <;> omega) (.int .i64 1)).far (p := ⟨gp + 1, 1, none⟩) (by simp <;> omega) (.int .i64 (((k : Int) + 1)))
                  have Sx2 := (Sx.set_ 0 (.int .i64 1)).set_ 1 (.int .i64 (((k : Int) + 1)))
                  have hW8 := (hW7.setCell (p := ⟨gp + 1, 0, none⟩) (by simp; omega) (.int .i64 1)).setCell (p := ⟨gp + 1, 1, none⟩) (by simp; omega) (.int .i64 (((k : Int) + 1)))
                  have hlk := SM2.look 1 (by decide)
                  rw [show fn4 z a y c 1 = a from rfl] at hlk
                  have hwr : IntKind.i64.wrap (a + 1) = a + 1 := by rw [IntKind.wrap_i64]; omega
                  go_wp2_with (at_mapUpdate; refine wp_put rfl _ _ _ (.inl rfl) (gp + 1 + 1) nn _ rfl SM2 (by unfold maxLen; omega) 1 (a + 1) rfl rfl (by decide) (wf64 (by omega) (by omega)) ?_; intro w9 hM9 hg9)
                  rw [fn_put1] at hM9
                  go_roundw
                  case rel => exact ⟨k + 1, 1, ((k : Int) + 1), z, a + 1, y, c, nn + 1, by go_num, by unfold St; omega, by omega, hW8.grown hg9 hW8.size (fun j hj => by injection hj with hj; omega), Sp2.grown hg9 (fun e => by injection e with e; omega), Sx2.grown hg9 (fun e => by injection e with e; omega), hM9⟩
                  case measure => simp [intOf]; omega

                · have HS := Lib.hid (show stepV p 1 (k : Int) true = (1, ((k : Int) + 1)) by rw [stepV, if_pos rfl, if_neg (fun h => hnd h.2), Int.min_eq_left (by omega)])
                  have HW := Lib.hid (show walkV p 1 (k : Int) = 2 by simp [walkV, hw1, hw2])
                  have HL : LiOk p 1 ((k : Int) + 1) := by exact .inl ⟨rfl, by omega, by omega⟩
                  refine (walk_c p 1 (k : Int) 2 _ hp (by omega) HW.out).mono ?_
                  rintro e w5 ⟨rfl, hb5⟩
                  clear o0 o1 o2 o3 o4 o5 o6 o7 q0 q1
                  have Sp := Rp.below hb5
                  have Sx := Rx.below hb5
                  have SM := RM.below hb5
                  have hW5 := hW.trans (hb5.mono hW.size)
                  have o0 := Sp.at 0 rfl
                  have o1 := Sp.at 1 rfl
                  have o2 := Sp.at 2 rfl
                  have o3 := Sp.at 3 rfl
                  have o4 := Sp.at 4 rfl
                  have o5 := Sp.at 5 rfl
                  have o6 := Sp.at 6 rfl
                  have o7 := Sp.at 7 rfl
                  have q0 := Sx.at 0 rfl
                  have q1 := Sx.at 1 rfl
                  go_wp2_with fail
                  refine (step_c p 1 (k : Int) true 1 ((k : Int) + 1) _ hp (by omega) HS.out).mono ?_
                  rintro e w6 ⟨rfl, hb6⟩
                  clear o0 o1 o2 o3 o4 o5 o6 o7 q0 q1
                  have bY := lat_alloc (Below.refl w6.heap.size w6) (.cells #[.int .i64 1, .int .i64 ((k : Int) + 1)] 23)
                  have Sp := (Sp.below hb6).below bY
                  have Sx := (Sx.below hb6).below bY
                  have SM := (SM.below hb6).below bY
                  have hW6 := hW5.trans (hb6.mono hW5.size)
                  have hgy : (gp + 1 + 1) < w6.heap.size := by have := hb6.size; have := hb5.size; have := RM.lt; omega
                  have Sy := Blk.new (w := w6) (t := 23) (cs := #[.int .i64 1, .int .i64 ((k : Int) + 1)])
                  have hW6 := hW6.trans (bY.mono hW6.size)
                  have o0 := Sp.at 0 rfl
                  have o1 := Sp.at 1 rfl
                  have o2 := Sp.at 2 rfl
                  have o3 := Sp.at 3 rfl
                  have o4 := Sp.at 4 rfl
                  have o5 := Sp.at 5 rfl
                  have o6 := Sp.at 6 rfl
                  have o7 := Sp.at 7 rfl
                  have r0 := Sy.at 0 rfl
                  have r1 := Sy.at 1 rfl
                  go_wp2_with fail
                  clear o0 o1 o2 o3 o4 o5 o6 o7 r0 r1
                  generalize w6.alloc (.cells #[.int .i64 1, .int .i64 ((k : Int) + 1)] 23) = W6 at *
                  generalize w6.heap.size = gy at *
                  refine (valid_c p 1 ((k : Int) + 1) _ hp HL (by have := HL.bd hp; omega)).mono ?_
                  rintro e w7 ⟨rfl, hb7⟩
                  have Sp := Sp.below hb7
                  have Sx := Sx.below hb7
                  have Sy := Sy.below hb7
                  have SM := SM.below hb7
                  have hW7 := hW6.trans (hb7.mono hW6.size)
                  have HW2 := Lib.hid (show walkV p 1 ((k : Int) + 1) = 0 by have h9 : ¬ (k : Int) + 1 < p.wk := (by omega); simp [walkV, h9, hw3])
                  have o0 := Sp.at 0 rfl
                  have o1 := Sp.at 1 rfl
                  have o2 := Sp.at 2 rfl
                  have o3 := Sp.at 3 rfl
                  have o4 := Sp.at 4 rfl
                  have o5 := Sp.at 5 rfl
                  have o6 := Sp.at 6 rfl
                  have o7 := Sp.at 7 rfl
                  have r0 := Sy.at 0 rfl
                  have r1 := Sy.at 1 rfl
                  go_wp2_with fail
                  clear o0 o1 o2 o3 o4 o5 o6 o7 r0 r1
                  refine (walk_c p 1 ((k : Int) + 1) 0 _ hp (by omega) HW2.out).mono ?_
                  rintro e w7' ⟨rfl, hb8⟩
                  obtain ⟨w7, hw7⟩ : ∃ v : World, v = w7' := ⟨_, rfl⟩
                  subst hw7
                  have Sp := Sp.below hb8
                  have Sx := Sx.below hb8
                  have Sy := Sy.below hb8
                  have SM := SM.below hb8
                  have hW7 := hW7.trans (hb8.mono hW7.size)
                  have f0 := Sx.frozen 0
                  have f1 := Sx.frozen 1
                  have q0 := Sx.at 0 rfl
                  have q1 := Sx.at 1 rfl
                  have r0 := Sy.at 0 rfl
                  have r1 := Sy.at 1 rfl
                  have hne : (gp + 1) ≠ gy := by omega
                  have SM2 := (SM.set_ (gp + 1) 0 (by omega) (.int .i64 1)).set_ (gp + 1) 1 (by omega) (.int .i64 (((k : Int) + 1)))
                  have Sp2 := (Sp.far (p := ⟨gp + 1, 0, none⟩) (by simp <;> omega) (.int .i64 1)).far (p := ⟨gp + 1, 1, none⟩) (by simp <;> omega) (.int .i64 (((k : Int) + 1)))
                  have Sx2 := (Sx.set_ 0 (.int .i64 1)).set_ 1 (.int .i64 (((k : Int) + 1)))
                  have hW8 := (hW7.setCell (p := ⟨gp + 1, 0, none⟩) (by simp; omega) (.int .i64 1)).setCell (p := ⟨gp + 1, 1, none⟩) (by simp; omega) (.int .i64 (((k : Int) + 1)))
                  have hlk := SM2.look 1 (by decide)
                  rw [show fn4 z a y c 1 = a from rfl] at hlk
                  have hwr : IntKind.i64.wrap (a + 1) = a + 1 := by rw [IntKind.wrap_i64]; omega
                  go_wp2_with (at_mapUpdate; refine wp_put rfl _ _ _ (.inl rfl) (gp + 1 + 1) nn _ rfl SM2 (by unfold maxLen; omega) 1 (a + 1) rfl rfl (by decide) (wf64 (by omega) (by omega)) ?_; intro w9 hM9 hg9)
                  rw [fn_put1] at hM9
                  go_roundw
                  case rel => exact ⟨k + 1, 1, ((k : Int) + 1), z, a + 1, y, c, nn + 1, by go_num, by unfold St; omega, by omega, hW8.grown hg9 hW8.size (fun j hj => by injection hj with hj; omega), Sp2.grown hg9 (fun e => by injection e with e; omega), Sx2.grown hg9 (fun e => by injection e with e; omega), hM9⟩
                  case measure => simp [intOf]; omega

              · have HS := Lib.hid (show stepV p 1 (k : Int) true = (1, ((k : Int) + 1)) by rw [stepV, if_pos rfl, if_neg (fun h => hnd h.2), Int.min_eq_left (by omega)])
                have HW := Lib.hid (show walkV p 1 (k : Int) = 0 by simp [walkV, hw1, hw2])
                have HL : LiOk p 1 ((k : Int) + 1) := by exact .inl ⟨rfl, by omega, by omega⟩
                refine (walk_c p 1 (k : Int) 0 _ hp (by omega) HW.out).mono ?_
                rintro e w5 ⟨rfl, hb5⟩
                clear o0 o1 o2 o3 o4 o5 o6 o7 q0 q1
                have Sp := Rp.below hb5
                have Sx := Rx.below hb5
                have SM := RM.below hb5
                have hW5 := hW.trans (hb5.mono hW.size)
                have o0 := Sp.at 0 rfl
                have o1 := Sp.at 1 rfl
                have o2 := Sp.at 2 rfl
                have o3 := Sp.at 3 rfl
                have o4 := Sp.at 4 rfl
                have o5 := Sp.at 5 rfl
                have o6 := Sp.at 6 rfl
                have o7 := Sp.at 7 rfl
                have q0 := Sx.at 0 rfl
                have q1 := Sx.at 1 rfl
                go_wp2_with fail
                refine (step_c p 1 (k : Int) true 1 ((k : Int) + 1) _ hp (by omega) HS.out).mono ?_
                rintro e w6 ⟨rfl, hb6⟩
                clear o0 o1 o2 o3 o4 o5 o6 o7 q0 q1
                have bY := lat_alloc (Below.refl w6.heap.size w6) (.cells #[.int .i64 1, .int .i64 ((k : Int) + 1)] 23)
                have Sp := (Sp.below hb6).below bY
                have Sx := (Sx.below hb6).below bY
                have SM := (SM.below hb6).below bY
                have hW6 := hW5.trans (hb6.mono hW5.size)
                have hgy : (gp + 1 + 1) < w6.heap.size := by have := hb6.size; have := hb5.size; have := RM.lt; omega
                have Sy := Blk.new (w := w6) (t := 23) (cs := #[.int .i64 1, .int .i64 ((k : Int) + 1)])
                have hW6 := hW6.trans (bY.mono hW6.size)
                have o0 := Sp.at 0 rfl
                have o1 := Sp.at 1 rfl
                have o2 := Sp.at 2 rfl
                have o3 := Sp.at 3 rfl
                have o4 := Sp.at 4 rfl
                have o5 := Sp.at 5 rfl
                have o6 := Sp.at 6 rfl
                have o7 := Sp.at 7 rfl
                have r0 := Sy.at 0 rfl
                have r1 := Sy.at 1 rfl
                go_wp2_with fail
                clear o0 o1 o2 o3 o4 o5 o6 o7 r0 r1
                generalize w6.alloc (.cells #[.int .i64 1, .int .i64 ((k : Int) + 1)] 23) = W6 at *
                generalize w6.heap.size = gy at *
                refine (valid_c p 1 ((k : Int) + 1) _ hp HL (by have := HL.bd hp; omega)).mono ?_
                rintro e w7 ⟨rfl, hb7⟩
                have Sp := Sp.below hb7
                have Sx := Sx.below hb7
                have Sy := Sy.below hb7
                have SM := SM.below hb7
                have hW7 := hW6.trans (hb7.mono hW6.size)
                have f0 := Sx.frozen 0
                have f1 := Sx.frozen 1
                have q0 := Sx.at 0 rfl
                have q1 := Sx.at 1 rfl
                have r0 := Sy.at 0 rfl
                have r1 := Sy.at 1 rfl
                have hne : (gp + 1) ≠ gy := by omega
                have SM2 := (SM.set_ (gp + 1) 0 (by omega) (.int .i64 1)).set_ (gp + 1) 1 (by omega) (.int .i64 (((k : Int) + 1)))
                have Sp2 := (Sp.far (p := ⟨gp + 1, 0, none⟩) (by simp <;> omega) (.int .i64 1)).far (p := ⟨gp + 1, 1, none⟩) (by simp <;> omega) (.int .i64 (((k : Int) + 1)))
                have Sx2 := (Sx.set_ 0 (.int .i64 1)).set_ 1 (.int .i64 (((k : Int) + 1)))
                have hW8 := (hW7.setCell (p := ⟨gp + 1, 0, none⟩) (by simp; omega) (.int .i64 1)).setCell (p := ⟨gp + 1, 1, none⟩) (by simp; omega) (.int .i64 (((k : Int) + 1)))
                have hlk := SM2.look 1 (by decide)
                rw [show fn4 z a y c 1 = a from rfl] at hlk
                have hwr : IntKind.i64.wrap (a + 1) = a + 1 := by rw [IntKind.wrap_i64]; omega
                go_wp2_with (at_mapUpdate; refine wp_put rfl _ _ _ (.inl rfl) (gp + 1 + 1) nn _ rfl SM2 (by unfold maxLen; omega) 1 (a + 1) rfl rfl (by decide) (wf64 (by omega) (by omega)) ?_; intro w9 hM9 hg9)
                rw [fn_put1] at hM9
                go_roundw
                case rel => exact ⟨k + 1, 1, ((k : Int) + 1), z, a + 1, y, c, nn + 1, by go_num, by unfold St; omega, by omega, hW8.grown hg9 hW8.size (fun j hj => by injection hj with hj; omega), Sp2.grown hg9 (fun e => by injection e with e; omega), Sx2.grown hg9 (fun e => by injection e with e; omega), hM9⟩
                case measure => simp [intOf]; omega

        | false =>
          by_cases hw1 : (k : Int) < p.wk
          · have HS := Lib.hid (show stepV p 1 (k : Int) false = (1, ((k : Int) + 1)) by rw [stepV, if_pos rfl, if_neg (fun h => by cases h.1), Int.min_eq_left (by omega)])
            have HW := Lib.hid (show walkV p 1 (k : Int) = 1 by simp [walkV, hw1])
            have HL : LiOk p 1 ((k : Int) + 1) := by exact .inl ⟨rfl, by omega, by omega⟩
            refine (walk_c p 1 (k : Int) 1 _ hp (by omega) HW.out).mono ?_
            rintro e w5 ⟨rfl, hb5⟩
            clear o0 o1 o2 o3 o4 o5 o6 o7 q0 q1
            have Sp := Rp.below hb5
            have Sx := Rx.below hb5
            have SM := RM.below hb5
            have hW5 := hW.trans (hb5.mono hW.size)
            have o0 := Sp.at 0 rfl
            have o1 := Sp.at 1 rfl
            have o2 := Sp.at 2 rfl
            have o3 := Sp.at 3 rfl
            have o4 := Sp.at 4 rfl
            have o5 := Sp.at 5 rfl
            have o6 := Sp.at 6 rfl
            have o7 := Sp.at 7 rfl
            have q0 := Sx.at 0 rfl
            have q1 := Sx.at 1 rfl
            go_wp2_with fail
            refine (step_c p 1 (k : Int) false 1 ((k : Int) + 1) _ hp (by omega) HS.out).mono ?_
            rintro e w6 ⟨rfl, hb6⟩
            clear o0 o1 o2 o3 o4 o5 o6 o7 q0 q1
            have bY := lat_alloc (Below.refl w6.heap.size w6) (.cells #[.int .i64 1, .int .i64 ((k : Int) + 1)] 23)
            have Sp := (Sp.below hb6).below bY
            have Sx := (Sx.below hb6).below bY
            have SM := (SM.below hb6).below bY
            have hW6 := hW5.trans (hb6.mono hW5.size)
            have hgy : (gp + 1 + 1) < w6.heap.size := by have := hb6.size; have := hb5.size; have := RM.lt; omega
            have Sy := Blk.new (w := w6) (t := 23) (cs := #[.int .i64 1, .int .i64 ((k : Int) + 1)])
            have hW6 := hW6.trans (bY.mono hW6.size)
            have o0 := Sp.at 0 rfl
            have o1 := Sp.at 1 rfl
            have o2 := Sp.at 2 rfl
            have o3 := Sp.at 3 rfl
            have o4 := Sp.at 4 rfl
            have o5 := Sp.at 5 rfl
            have o6 := Sp.at 6 rfl
            have o7 := Sp.at 7 rfl
            have r0 := Sy.at 0 rfl
            have r1 := Sy.at 1 rfl
            go_wp2_with fail
            clear o0 o1 o2 o3 o4 o5 o6 o7 r0 r1
            generalize w6.alloc (.cells #[.int .i64 1, .int .i64 ((k : Int) + 1)] 23) = W6 at *
            generalize w6.heap.size = gy at *
            refine (valid_c p 1 ((k : Int) + 1) _ hp HL (by have := HL.bd hp; omega)).mono ?_
            rintro e w7 ⟨rfl, hb7⟩
            have Sp := Sp.below hb7
            have Sx := Sx.below hb7
            have Sy := Sy.below hb7
            have SM := SM.below hb7
            have hW7 := hW6.trans (hb7.mono hW6.size)
            have f0 := Sx.frozen 0
            have f1 := Sx.frozen 1
            have q0 := Sx.at 0 rfl
            have q1 := Sx.at 1 rfl
            have r0 := Sy.at 0 rfl
            have r1 := Sy.at 1 rfl
            have hne : (gp + 1) ≠ gy := by omega
            have SM2 := (SM.set_ (gp + 1) 0 (by omega) (.int .i64 1)).set_ (gp + 1) 1 (by omega) (.int .i64 (((k : Int) + 1)))
            have Sp2 := (Sp.far (p := ⟨gp + 1, 0, none⟩) (by simp <;> omega) (.int .i64 1)).far (p := ⟨gp + 1, 1, none⟩) (by simp <;> omega) (.int .i64 (((k : Int) + 1)))
            have Sx2 := (Sx.set_ 0 (.int .i64 1)).set_ 1 (.int .i64 (((k : Int) + 1)))
            have hW8 := (hW7.setCell (p := ⟨gp + 1, 0, none⟩) (by simp; omega) (.int .i64 1)).setCell (p := ⟨gp + 1, 1, none⟩) (by simp; omega) (.int .i64 (((k : Int) + 1)))
            have hlk := SM2.look 1 (by decide)
            rw [show fn4 z a y c 1 = a from rfl] at hlk
            have hwr : IntKind.i64.wrap (a + 1) = a + 1 := by rw [IntKind.wrap_i64]; omega
            go_wp2_with (at_mapUpdate; refine wp_put rfl _ _ _ (.inl rfl) (gp + 1 + 1) nn _ rfl SM2 (by unfold maxLen; omega) 1 (a + 1) rfl rfl (by decide) (wf64 (by omega) (by omega)) ?_; intro w9 hM9 hg9)
            rw [fn_put1] at hM9
            go_roundw
            case rel => exact ⟨k + 1, 1, ((k : Int) + 1), z, a + 1, y, c, nn + 1, by go_num, by unfold St; omega, by omega, hW8.grown hg9 hW8.size (fun j hj => by injection hj with hj; omega), Sp2.grown hg9 (fun e => by injection e with e; omega), Sx2.grown hg9 (fun e => by injection e with e; omega), hM9⟩
            case measure => simp [intOf]; omega

          · by_cases hw2 : (k : Int) < p.wk + p.cl
            · by_cases hw3 : (k : Int) + 1 < p.wk + p.cl
              · have HS := Lib.hid (show stepV p 1 (k : Int) false = (1, ((k : Int) + 1)) by rw [stepV, if_pos rfl, if_neg (fun h => by cases h.1), Int.min_eq_left (by omega)])
                have HW := Lib.hid (show walkV p 1 (k : Int) = 2 by simp [walkV, hw1, hw2])
                have HL : LiOk p 1 ((k : Int) + 1) := by exact .inl ⟨rfl, by omega, by omega⟩
                refine (walk_c p 1 (k : Int) 2 _ hp (by omega) HW.out).mono ?_
                rintro e w5 ⟨rfl, hb5⟩
                clear o0 o1 o2 o3 o4 o5 o6 o7 q0 q1
                have Sp := Rp.below hb5
                have Sx := Rx.below hb5
                have SM := RM.below hb5
                have hW5 := hW.trans (hb5.mono hW.size)
                have o0 := Sp.at 0 rfl
                have o1 := Sp.at 1 rfl
                have o2 := Sp.at 2 rfl
                have o3 := Sp.at 3 rfl
                have o4 := Sp.at 4 rfl
                have o5 := Sp.at 5 rfl
                have o6 := Sp.at 6 rfl
                have o7 := Sp.at 7 rfl
                have q0 := Sx.at 0 rfl
                have q1 := Sx.at 1 rfl
                go_wp2_with fail
                refine (step_c p 1 (k : Int) false 1 ((k : Int) + 1) _ hp (by omega) HS.out).mono ?_
                rintro e w6 ⟨rfl, hb6⟩
                clear o0 o1 o2 o3 o4 o5 o6 o7 q0 q1
                have bY := lat_alloc (Below.refl w6.heap.size w6) (.cells #[.int .i64 1, .int .i64 ((k : Int) + 1)] 23)
                have Sp := (Sp.below hb6).below bY
                have Sx := (Sx.below hb6).below bY
                have SM := (SM.below hb6).below bY
                have hW6 := hW5.trans (hb6.mono hW5.size)
                have hgy : (gp + 1 + 1) < w6.heap.size := by have := hb6.size; have := hb5.size; have := RM.lt; omega
                have Sy := Blk.new (w := w6) (t := 23) (cs := #[.int .i64 1, .int .i64 ((k : Int) + 1)])
                have hW6 := hW6.trans (bY.mono hW6.size)
                have o0 := Sp.at 0 rfl
                have o1 := Sp.at 1 rfl
                have o2 := Sp.at 2 rfl
                have o3 := Sp.at 3 rfl
                have o4 := Sp.at 4 rfl
                have o5 := Sp.at 5 rfl
                have o6 := Sp.at 6 rfl
                have o7 := Sp.at 7 rfl
                have r0 := Sy.at 0 rfl
                have r1 := Sy.at 1 rfl
                go_wp2_with fail
                clear o0 o1 o2 o3 o4 o5 o6 o7 r0 r1
                generalize w6.alloc (.cells #[.int .i64 1, .int .i64 ((k : Int) + 1)] 23) = W6 at *
                generalize w6.heap.size = gy at *
                refine (valid_c p 1 ((k : Int) + 1) _ hp HL (by have := HL.bd hp; omega)).mono ?_
                rintro e w7 ⟨rfl, hb7⟩
                have Sp := Sp.below hb7
                have Sx := Sx.below hb7
                have Sy := Sy.below hb7
                have SM := SM.below hb7
                have hW7 := hW6.trans (hb7.mono hW6.size)
                have HW2 := Lib.hid (show walkV p 1 ((k : Int) + 1) = 2 by have h9 : ¬ (k : Int) + 1 < p.wk := (by omega); simp [walkV, h9, hw3])
                have o0 := Sp.at 0 rfl
                have o1 := Sp.at 1 rfl
                have o2 := Sp.at 2 rfl
                have o3 := Sp.at 3 rfl
                have o4 := Sp.at 4 rfl
                have o5 := Sp.at 5 rfl
                have o6 := Sp.at 6 rfl
                have o7 := Sp.at 7 rfl
                have r0 := Sy.at 0 rfl
                have r1 := Sy.at 1 rfl
                go_wp2_with fail
                clear o0 o1 o2 o3 o4 o5 o6 o7 r0 r1
                refine (walk_c p 1 ((k : Int) + 1) 2 _ hp (by omega) HW2.out).mono ?_
                rintro e w7' ⟨rfl, hb8⟩
                obtain ⟨w7, hw7⟩ : ∃ v : World, v = w7' := ⟨_, rfl⟩
                subst hw7
                have Sp := Sp.below hb8
                have Sx := Sx.below hb8
                have Sy := Sy.below hb8
                have SM := SM.below hb8
                have hW7 := hW7.trans (hb8.mono hW7.size)
                have f0 := Sx.frozen 0
                have f1 := Sx.frozen 1
                have q0 := Sx.at 0 rfl
                have q1 := Sx.at 1 rfl
                have r0 := Sy.at 0 rfl
                have r1 := Sy.at 1 rfl
                have hne : (gp + 1) ≠ gy := by omega
                have SM2 := (SM.set_ (gp + 1) 0 (by omega) (.int .i64 1)).set_ (gp + 1) 1 (by omega) (.int .i64 (((k : Int) + 1)))
                have Sp2 := (Sp.far (p := ⟨gp + 1, 0, none⟩) (by simp <;> omega) (.int .i64 1)).far (p := ⟨gp + 1, 1, none⟩) (by simp <;> omega) (.int .i64 (((k : Int) + 1)))
                have Sx2 := (Sx.set_ 0 (.int .i64 1)).set_ 1 (.int .i64 (((k : Int) + 1)))
                have hW8 := (hW7.setCell (p := ⟨gp + 1, 0, none⟩) (by simp; omega) (.int .i64 1)).setCell (p := ⟨gp + 1, 1, none⟩) (by simp; omega) (.int .i64 (((k : Int) + 1)))
                have hlk := SM2.look 1 (by decide)
                rw [show fn4 z a y c 1 = a from rfl] at hlk
                have hwr : IntKind.i64.wrap (a + 1) = a + 1 := by rw [IntKind.wrap_i64]; omega
                go_wp2_with (at_mapUpdate; refine wp_put rfl _ _ _ (.inl rfl) (gp + 1 + 1) nn _ rfl SM2 (by unfold maxLen; omega) 1 (a + 1) rfl rfl (by decide) (wf64 (by omega) (by omega)) ?_; intro w9 hM9 hg9)
                rw [fn_put1] at hM9
                go_roundw
                case rel => exact ⟨k + 1, 1, ((k : Int) + 1), z, a + 1, y, c, nn + 1, by go_num, by unfold St; omega, by omega, hW8.grown hg9 hW8.size (fun j hj => by injection hj with hj; omega), Sp2.grown hg9 (fun e => by injection e with e; omega), Sx2.grown hg9 (fun e => by injection e with e; omega), hM9⟩
                case measure => simp [intOf]; omega

              · have HS := Lib.hid (show stepV p 1 (k : Int) false = (1, ((k : Int) + 1)) by rw [stepV, if_pos rfl, if_neg (fun h => by cases h.1), Int.min_eq_left (by omega)])
                have HW := Lib.hid (show walkV p 1 (k : Int) = 2 by simp [walkV, hw1, hw2])
                have HL : LiOk p 1 ((k : Int) + 1) := by exact .inl ⟨rfl, by omega, by omega⟩
                refine (walk_c p 1 (k : Int) 2 _ hp (by omega) HW.out).mono ?_
                rintro e w5 ⟨rfl, hb5⟩
                clear o0 o1 o2 o3 o4 o5 o6 o7 q0 q1
                have Sp := Rp.below hb5
                have Sx := Rx.below hb5
                have SM := RM.below hb5
                have hW5 := hW.trans (hb5.mono hW.size)
                have o0 := Sp.at 0 rfl
                have o1 := Sp.at 1 rfl
                have o2 := Sp.at 2 rfl
                have o3 := Sp.at 3 rfl
                have o4 := Sp.at 4 rfl
                have o5 := Sp.at 5 rfl
                have o6 := Sp.at 6 rfl
                have o7 := Sp.at 7 rfl
                have q0 := Sx.at 0 rfl
                have q1 := Sx.at 1 rfl
                go_wp2_with fail
                refine (step_c p 1 (k : Int) false 1 ((k : Int) + 1) _ hp (by omega) HS.out).mono ?_
                rintro e w6 ⟨rfl, hb6⟩
                clear o0 o1 o2 o3 o4 o5 o6 o7 q0 q1
                have bY := lat_alloc (Below.refl w6.heap.size w6) (.cells #[.int .i64 1, .int .i64 ((k : Int) + 1)] 23)
                have Sp := (Sp.below hb6).below bY
                have Sx := (Sx.below hb6).below bY
                have SM := (SM.below hb6).below bY
                have hW6 := hW5.trans (hb6.mono hW5.size)
                have hgy : (gp + 1 + 1) < w6.heap.size := by have := hb6.size; have := hb5.size; have := RM.lt; omega
                have Sy := Blk.new (w := w6) (t := 23) (cs := #[.int .i64 1, .int .i64 ((k : Int) + 1)])
                have hW6 := hW6.trans (bY.mono hW6.size)
                have o0 := Sp.at 0 rfl
                have o1 := Sp.at 1 rfl
                have o2 := Sp.at 2 rfl
                have o3 := Sp.at 3 rfl
                have o4 := Sp.at 4 rfl
                have o5 := Sp.at 5 rfl
                have o6 := Sp.at 6 rfl
                have o7 := Sp.at 7 rfl
                have r0 := Sy.at 0 rfl
                have r1 := Sy.at 1 rfl
                go_wp2_with fail
                clear o0 o1 o2 o3 o4 o5 o6 o7 r0 r1
                generalize w6.alloc (.cells #[.int .i64 1, .int .i64 ((k : Int) + 1)] 23) = W6 at *
                generalize w6.heap.size = gy at *
                refine (valid_c p 1 ((k : Int) + 1) _ hp HL (by have := HL.bd hp; omega)).mono ?_
                rintro e w7 ⟨rfl, hb7⟩
                have Sp := Sp.below hb7
                have Sx := Sx.below hb7
                have Sy := Sy.below hb7
                have SM := SM.below hb7
                have hW7 := hW6.trans (hb7.mono hW6.size)
                have HW2 := Lib.hid (show walkV p 1 ((k : Int) + 1) = 0 by have h9 : ¬ (k : Int) + 1 < p.wk := (by omega); simp [walkV, h9, hw3])
                have o0 := Sp.at 0 rfl
                have o1 := Sp.at 1 rfl
                have o2 := Sp.at 2 rfl
                have o3 := Sp.at 3 rfl
                have o4 := Sp.at 4 rfl
                have o5 := Sp.at 5 rfl
                have o6 := Sp.at 6 rfl
                have o7 := Sp.at 7 rfl
                have r0 := Sy.at 0 rfl
                have r1 := Sy.at 1 rfl
                go_wp2_with fail
                clear o0 o1 o2 o3 o4 o5 o6 o7 r0 r1
                refine (walk_c p 1 ((k : Int) + 1) 0 _ hp (by omega) HW2.out).mono ?_
                rintro e w7' ⟨rfl, hb8⟩
                obtain ⟨w7, hw7⟩ : ∃ v : World, v = w7' := ⟨_, rfl⟩
                subst hw7
                have Sp := Sp.below hb8
                have Sx := Sx.below hb8
                have Sy := Sy.below hb8
                have SM := SM.below hb8
                have hW7 := hW7.trans (hb8.mono hW7.size)
                have f0 := Sx.frozen 0
                have f1 := Sx.frozen 1
                have q0 := Sx.at 0 rfl
                have q1 := Sx.at 1 rfl
                have r0 := Sy.at 0 rfl
                have r1 := Sy.at 1 rfl
                have hne : (gp + 1) ≠ gy := by omega
                have SM2 := (SM.set_ (gp + 1) 0 (by omega) (.int .i64 1)).set_ (gp + 1) 1 (by omega) (.int .i64 (((k : Int) + 1)))
                have Sp2 := (Sp.far (p := ⟨gp + 1, 0, none⟩) (by simp <;> omega) (.int .i64 1)).far (p := ⟨gp + 1, 1, none⟩) (by simp <;> omega) (.int .i64 (((k : Int) + 1)))
                have Sx2 := (Sx.set_ 0 (.int .i64 1)).set_ 1 (.int .i64 (((k : Int) + 1)))
                have hW8 := (hW7.setCell (p := ⟨gp + 1, 0, none⟩) (by simp; omega) (.int .i64 1)).setCell (p := ⟨gp + 1, 1, none⟩) (by simp; omega) (.int .i64 (((k : Int) + 1)))
                have hlk := SM2.look 1 (by decide)
                rw [show fn4 z a y c 1 = a from rfl] at hlk
                have hwr : IntKind.i64.wrap (a + 1) = a + 1 := by rw [IntKind.wrap_i64]; omega
                go_wp2_with (at_mapUpdate; refine wp_put rfl _ _ _ (.inl rfl) (gp + 1 + 1) nn _ rfl SM2 (by unfold maxLen; omega) 1 (a + 1) rfl rfl (by decide) (wf64 (by omega) (by omega)) ?_; intro w9 hM9 hg9)
                rw [fn_put1] at hM9
                go_roundw
                case rel => exact ⟨k + 1, 1, ((k : Int) + 1), z, a + 1, y, c, nn + 1, by go_num, by unfold St; omega, by omega, hW8.grown hg9 hW8.size (fun j hj => by injection hj with hj; omega), Sp2.grown hg9 (fun e => by injection e with e; omega), Sx2.grown hg9 (fun e => by injection e with e; omega), hM9⟩
                case measure => simp [intOf]; omega

            · have HS := Lib.hid (show stepV p 1 (k : Int) false = (1, ((k : Int) + 1)) by rw [stepV, if_pos rfl, if_neg (fun h => by cases h.1), Int.min_eq_left (by omega)])
              have HW := Lib.hid (show walkV p 1 (k : Int) = 0 by simp [walkV, hw1, hw2])
              have HL : LiOk p 1 ((k : Int) + 1) := by exact .inl ⟨rfl, by omega, by omega⟩
              refine (walk_c p 1 (k : Int) 0 _ hp (by omega) HW.out).mono ?_
              rintro e w5 ⟨rfl, hb5⟩
              clear o0 o1 o2 o3 o4 o5 o6 o7 q0 q1
              have Sp := Rp.below hb5
              have Sx := Rx.below hb5
              have SM := RM.below hb5
              have hW5 := hW.trans (hb5.mono hW.size)
              have o0 := Sp.at 0 rfl
              have o1 := Sp.at 1 rfl
              have o2 := Sp.at 2 rfl
              have o3 := Sp.at 3 rfl
              have o4 := Sp.at 4 rfl
              have o5 := Sp.at 5 rfl
              have o6 := Sp.at 6 rfl
              have o7 := Sp.at 7 rfl
              have q0 := Sx.at 0 rfl
              have q1 := Sx.at 1 rfl
              go_wp2_with fail
              refine (step_c p 1 (k : Int) false 1 ((k : Int) + 1) _ hp (by omega) HS.out).mono ?_
              rintro e w6 ⟨rfl, hb6⟩
              clear o0 o1 o2 o3 o4 o5 o6 o7 q0 q1
              have bY := lat_alloc (Below.refl w6.heap.size w6) (.cells #[.int .i64 1, .int .i64 ((k : Int) + 1)] 23)
              have Sp := (Sp.below hb6).below bY
              have Sx := (Sx.below hb6).below bY
              have SM := (SM.below hb6).below bY
              have hW6 := hW5.trans (hb6.mono hW5.size)
              have hgy : (gp + 1 + 1) < w6.heap.size := by have := hb6.size; have := hb5.size; have := RM.lt; omega
              have Sy := Blk.new (w := w6) (t := 23) (cs := #[.int .i64 1, .int .i64 ((k : Int) + 1)])
              have hW6 := hW6.trans (bY.mono hW6.size)
              have o0 := Sp.at 0 rfl
              have o1 := Sp.at 1 rfl
              have o2 := Sp.at 2 rfl
              have o3 := Sp.at 3 rfl
              have o4 := Sp.at 4 rfl
              have o5 := Sp.at 5 rfl
              have o6 := Sp.at 6 rfl
              have o7 := Sp.at 7 rfl
              have r0 := Sy.at 0 rfl
              have r1 := Sy.at 1 rfl
              go_wp2_with fail
              clear o0 o1 o2 o3 o4 o5 o6 o7 r0 r1
              generalize w6.alloc (.cells #[.int .i64 1, .int .i64 ((k : Int) + 1)] 23) = W6 at *
              generalize w6.heap.size = gy at *
              refine (valid_c p 1 ((k : Int) + 1) _ hp HL (by have := HL.bd hp; omega)).mono ?_
              rintro e w7 ⟨rfl, hb7⟩
              have Sp := Sp.below hb7
              have Sx := Sx.below hb7
              have Sy := Sy.below hb7
              have SM := SM.below hb7
              have hW7 := hW6.trans (hb7.mono hW6.size)
              have f0 := Sx.frozen 0
              have f1 := Sx.frozen 1
              have q0 := Sx.at 0 rfl
              have q1 := Sx.at 1 rfl
              have r0 := Sy.at 0 rfl
              have r1 := Sy.at 1 rfl
              have hne : (gp + 1) ≠ gy := by omega
              have SM2 := (SM.set_ (gp + 1) 0 (by omega) (.int .i64 1)).set_ (gp + 1) 1 (by omega) (.int .i64 (((k : Int) + 1)))
              have Sp2 := (Sp.far (p := ⟨gp + 1, 0, none⟩) (by simp <;> omega) (.int .i64 1)).far (p := ⟨gp + 1, 1, none⟩) (by simp <;> omega) (.int .i64 (((k : Int) + 1)))
              have Sx2 := (Sx.set_ 0 (.int .i64 1)).set_ 1 (.int .i64 (((k : Int) + 1)))
              have hW8 := (hW7.setCell (p := ⟨gp + 1, 0, none⟩) (by simp; omega) (.int .i64 1)).setCell (p := ⟨gp + 1, 1, none⟩) (by simp; omega) (.int .i64 (((k : Int) + 1)))
              have hlk := SM2.look 1 (by decide)
              rw [show fn4 z a y c 1 = a from rfl] at hlk
              have hwr : IntKind.i64.wrap (a + 1) = a + 1 := by rw [IntKind.wrap_i64]; omega
              go_wp2_with (at_mapUpdate; refine wp_put rfl _ _ _ (.inl rfl) (gp + 1 + 1) nn _ rfl SM2 (by unfold maxLen; omega) 1 (a + 1) rfl rfl (by decide) (wf64 (by omega) (by omega)) ?_; intro w9 hM9 hg9)
              rw [fn_put1] at hM9
              go_roundw
              case rel => exact ⟨k + 1, 1, ((k : Int) + 1), z, a + 1, y, c, nn + 1, by go_num, by unfold St; omega, by omega, hW8.grown hg9 hW8.size (fun j hj => by injection hj with hj; omega), Sp2.grown hg9 (fun e => by injection e with e; omega), Sx2.grown hg9 (fun e => by injection e with e; omega), hM9⟩
              case measure => simp [intOf]; omega

    · have hq0 : tk + 1 ≤ y ∧ y ≤ tk + 1 ∧ 0 ≤ z ∧ z ≤ 0 ∧ 0 ≤ c ∧ c ≤ 0 := by omega
      have zk9 : decide ((k : Int) < 90) = true := by simp; omega
      clear hz hyy hc
      have q0 := Rx.at 0 rfl
      have q1 := Rx.at 1 rfl
      by_cases hkl : (ls.length : Int) ≤ k
      · have zk : decide ((ls.length : Int) ≤ k) = true := by simp; omega
        go_wp2_with fail
        by_cases hy1 : tk + 1 < p.yl
        · have HS := Lib.hid (show stepV p 2 tk true = (2, (tk + 1)) by simp [stepV, hy1])
          have HW := Lib.hid (show walkV p 2 tk = 0 by simp [walkV])
          have HL : LiOk p 2 (tk + 1) := by exact .inr (.inl ⟨rfl, by omega, by omega⟩)
          refine (walk_c p 2 tk 0 _ hp (by omega) HW.out).mono ?_
          rintro e w5 ⟨rfl, hb5⟩
          clear o0 o1 o2 o3 o4 o5 o6 o7 q0 q1
          have Sp := Rp.below hb5
          have Sx := Rx.below hb5
          have SM := RM.below hb5
          have hW5 := hW.trans (hb5.mono hW.size)
          have o0 := Sp.at 0 rfl
          have o1 := Sp.at 1 rfl
          have o2 := Sp.at 2 rfl
          have o3 := Sp.at 3 rfl
          have o4 := Sp.at 4 rfl
          have o5 := Sp.at 5 rfl
          have o6 := Sp.at 6 rfl
          have o7 := Sp.at 7 rfl
          have q0 := Sx.at 0 rfl
          have q1 := Sx.at 1 rfl
          go_wp2_with fail
          refine (step_c p 2 tk true 2 (tk + 1) _ hp (by omega) HS.out).mono ?_
          rintro e w6 ⟨rfl, hb6⟩
          clear o0 o1 o2 o3 o4 o5 o6 o7 q0 q1
          have bY := lat_alloc (Below.refl w6.heap.size w6) (.cells #[.int .i64 2, .int .i64 (tk + 1)] 23)
          have Sp := (Sp.below hb6).below bY
          have Sx := (Sx.below hb6).below bY
          have SM := (SM.below hb6).below bY
          have hW6 := hW5.trans (hb6.mono hW5.size)
          have hgy : (gp + 1 + 1) < w6.heap.size := by have := hb6.size; have := hb5.size; have := RM.lt; omega
          have Sy := Blk.new (w := w6) (t := 23) (cs := #[.int .i64 2, .int .i64 (tk + 1)])
          have hW6 := hW6.trans (bY.mono hW6.size)
          have o0 := Sp.at 0 rfl
          have o1 := Sp.at 1 rfl
          have o2 := Sp.at 2 rfl
          have o3 := Sp.at 3 rfl
          have o4 := Sp.at 4 rfl
          have o5 := Sp.at 5 rfl
          have o6 := Sp.at 6 rfl
          have o7 := Sp.at 7 rfl
          have r0 := Sy.at 0 rfl
          have r1 := Sy.at 1 rfl
          go_wp2_with fail
          clear o0 o1 o2 o3 o4 o5 o6 o7 r0 r1
          generalize w6.alloc (.cells #[.int .i64 2, .int .i64 (tk + 1)] 23) = W6 at *
          generalize w6.heap.size = gy at *
          refine (valid_c p 2 (tk + 1) _ hp HL (by have := HL.bd hp; omega)).mono ?_
          rintro e w7 ⟨rfl, hb7⟩
          have Sp := Sp.below hb7
          have Sx := Sx.below hb7
          have Sy := Sy.below hb7
          have SM := SM.below hb7
          have hW7 := hW6.trans (hb7.mono hW6.size)
          have f0 := Sx.frozen 0
          have f1 := Sx.frozen 1
          have q0 := Sx.at 0 rfl
          have q1 := Sx.at 1 rfl
          have r0 := Sy.at 0 rfl
          have r1 := Sy.at 1 rfl
          have hne : (gp + 1) ≠ gy := by omega
          have SM2 := (SM.set_ (gp + 1) 0 (by omega) (.int .i64 2)).set_ (gp + 1) 1 (by omega) (.int .i64 ((tk + 1)))
          have Sp2 := (Sp.far (p := ⟨gp + 1, 0, none⟩) (by simp <;> omega) (.int .i64 2)).far (p := ⟨gp + 1, 1, none⟩) (by simp <;> omega) (.int .i64 ((tk + 1)))
          have Sx2 := (Sx.set_ 0 (.int .i64 2)).set_ 1 (.int .i64 ((tk + 1)))
          have hW8 := (hW7.setCell (p := ⟨gp + 1, 0, none⟩) (by simp; omega) (.int .i64 2)).setCell (p := ⟨gp + 1, 1, none⟩) (by simp; omega) (.int .i64 ((tk + 1)))
          have hlk := SM2.look 2 (by decide)
          rw [show fn4 z a y c 2 = y from rfl] at hlk
          have hwr : IntKind.i64.wrap (y + 1) = y + 1 := by rw [IntKind.wrap_i64]; omega
          go_wp2_with (at_mapUpdate; refine wp_put rfl _ _ _ (.inl rfl) (gp + 1 + 1) nn _ rfl SM2 (by unfold maxLen; omega) 2 (y + 1) rfl rfl (by decide) (wf64 (by omega) (by omega)) ?_; intro w9 hM9 hg9)
          rw [fn_put2] at hM9
          go_roundw
          case rel => exact ⟨k + 1, 2, (tk + 1), z, a, y + 1, c, nn + 1, by go_num, by unfold St; omega, by omega, hW8.grown hg9 hW8.size (fun j hj => by injection hj with hj; omega), Sp2.grown hg9 (fun e => by injection e with e; omega), Sx2.grown hg9 (fun e => by injection e with e; omega), hM9⟩
          case measure => simp [intOf]; omega

        · by_cases hr1 : 0 < p.rd
          · have HS := Lib.hid (show stepV p 2 tk true = (3, 0) by simp [stepV, hy1, hr1])
            have HW := Lib.hid (show walkV p 2 tk = 0 by simp [walkV])
            have HL : LiOk p 3 0 := by exact .inr (.inr (.inl ⟨rfl, by omega, by omega⟩))
            refine (walk_c p 2 tk 0 _ hp (by omega) HW.out).mono ?_
            rintro e w5 ⟨rfl, hb5⟩
            clear o0 o1 o2 o3 o4 o5 o6 o7 q0 q1
            have Sp := Rp.below hb5
            have Sx := Rx.below hb5
            have SM := RM.below hb5
            have hW5 := hW.trans (hb5.mono hW.size)
            have o0 := Sp.at 0 rfl
            have o1 := Sp.at 1 rfl
            have o2 := Sp.at 2 rfl
            have o3 := Sp.at 3 rfl
            have o4 := Sp.at 4 rfl
            have o5 := Sp.at 5 rfl
            have o6 := Sp.at 6 rfl
            have o7 := Sp.at 7 rfl
            have q0 := Sx.at 0 rfl
            have q1 := Sx.at 1 rfl
            go_wp2_with fail
            refine (step_c p 2 tk true 3 0 _ hp (by omega) HS.out).mono ?_
            rintro e w6 ⟨rfl, hb6⟩
            clear o0 o1 o2 o3 o4 o5 o6 o7 q0 q1
            have bY := lat_alloc (Below.refl w6.heap.size w6) (.cells #[.int .i64 3, .int .i64 0] 23)
            have Sp := (Sp.below hb6).below bY
            have Sx := (Sx.below hb6).below bY
            have SM := (SM.below hb6).below bY
            have hW6 := hW5.trans (hb6.mono hW5.size)
            have hgy : (gp + 1 + 1) < w6.heap.size := by have := hb6.size; have := hb5.size; have := RM.lt; omega
            have Sy := Blk.new (w := w6) (t := 23) (cs := #[.int .i64 3, .int .i64 0])
            have hW6 := hW6.trans (bY.mono hW6.size)
            have o0 := Sp.at 0 rfl
            have o1 := Sp.at 1 rfl
            have o2 := Sp.at 2 rfl
            have o3 := Sp.at 3 rfl
            have o4 := Sp.at 4 rfl
            have o5 := Sp.at 5 rfl
            have o6 := Sp.at 6 rfl
            have o7 := Sp.at 7 rfl
            have r0 := Sy.at 0 rfl
            have r1 := Sy.at 1 rfl
            go_wp2_with fail
            clear o0 o1 o2 o3 o4 o5 o6 o7 r0 r1
            generalize w6.alloc (.cells #[.int .i64 3, .int .i64 0] 23) = W6 at *
            generalize w6.heap.size = gy at *
            refine (valid_c p 3 0 _ hp HL (by have := HL.bd hp; omega)).mono ?_
            rintro e w7 ⟨rfl, hb7⟩
            have Sp := Sp.below hb7
            have Sx := Sx.below hb7
            have Sy := Sy.below hb7
            have SM := SM.below hb7
            have hW7 := hW6.trans (hb7.mono hW6.size)
            have f0 := Sx.frozen 0
            have f1 := Sx.frozen 1
            have q0 := Sx.at 0 rfl
            have q1 := Sx.at 1 rfl
            have r0 := Sy.at 0 rfl
            have r1 := Sy.at 1 rfl
            have hne : (gp + 1) ≠ gy := by omega
            have SM2 := (SM.set_ (gp + 1) 0 (by omega) (.int .i64 3)).set_ (gp + 1) 1 (by omega) (.int .i64 (0))
            have Sp2 := (Sp.far (p := ⟨gp + 1, 0, none⟩) (by simp <;> omega) (.int .i64 3)).far (p := ⟨gp + 1, 1, none⟩) (by simp <;> omega) (.int .i64 (0))
            have Sx2 := (Sx.set_ 0 (.int .i64 3)).set_ 1 (.int .i64 (0))
            have hW8 := (hW7.setCell (p := ⟨gp + 1, 0, none⟩) (by simp; omega) (.int .i64 3)).setCell (p := ⟨gp + 1, 1, none⟩) (by simp; omega) (.int .i64 (0))
            have hlk := SM2.look 3 (by decide)
            rw [show fn4 z a y c 3 = c from rfl] at hlk
            have hwr : IntKind.i64.wrap (c + 1) = c + 1 := by rw [IntKind.wrap_i64]; omega
            go_wp2_with (at_mapUpdate; refine wp_put rfl _ _ _ (.inl rfl) (gp + 1 + 1) nn _ rfl SM2 (by unfold maxLen; omega) 3 (c + 1) rfl rfl (by decide) (wf64 (by omega) (by omega)) ?_; intro w9 hM9 hg9)
            rw [fn_put3] at hM9
            go_roundw
            case rel => exact ⟨k + 1, 3, 0, z, a, y, c + 1, nn + 1, by go_num, by unfold St; omega, by omega, hW8.grown hg9 hW8.size (fun j hj => by injection hj with hj; omega), Sp2.grown hg9 (fun e => by injection e with e; omega), Sx2.grown hg9 (fun e => by injection e with e; omega), hM9⟩
            case measure => simp [intOf]; omega

          · have HS := Lib.hid (show stepV p 2 tk true = (0, 0) by simp [stepV, hy1, hr1])
            have HW := Lib.hid (show walkV p 2 tk = 0 by simp [walkV])
            have HL : LiOk p 0 0 := by exact .inr (.inr (.inr ⟨rfl, rfl⟩))
            refine (walk_c p 2 tk 0 _ hp (by omega) HW.out).mono ?_
            rintro e w5 ⟨rfl, hb5⟩
            clear o0 o1 o2 o3 o4 o5 o6 o7 q0 q1
            have Sp := Rp.below hb5
            have Sx := Rx.below hb5
            have SM := RM.below hb5
            have hW5 := hW.trans (hb5.mono hW.size)
            have o0 := Sp.at 0 rfl
            have o1 := Sp.at 1 rfl
            have o2 := Sp.at 2 rfl
            have o3 := Sp.at 3 rfl
            have o4 := Sp.at 4 rfl
            have o5 := Sp.at 5 rfl
            have o6 := Sp.at 6 rfl
            have o7 := Sp.at 7 rfl
            have q0 := Sx.at 0 rfl
            have q1 := Sx.at 1 rfl
            go_wp2_with fail
            refine (step_c p 2 tk true 0 0 _ hp (by omega) HS.out).mono ?_
            rintro e w6 ⟨rfl, hb6⟩
            clear o0 o1 o2 o3 o4 o5 o6 o7 q0 q1
            have bY := lat_alloc (Below.refl w6.heap.size w6) (.cells #[.int .i64 0, .int .i64 0] 23)
            have Sp := (Sp.below hb6).below bY
            have Sx := (Sx.below hb6).below bY
            have SM := (SM.below hb6).below bY
            have hW6 := hW5.trans (hb6.mono hW5.size)
            have hgy : (gp + 1 + 1) < w6.heap.size := by have := hb6.size; have := hb5.size; have := RM.lt; omega
            have Sy := Blk.new (w := w6) (t := 23) (cs := #[.int .i64 0, .int .i64 0])
            have hW6 := hW6.trans (bY.mono hW6.size)
            have o0 := Sp.at 0 rfl
            have o1 := Sp.at 1 rfl
            have o2 := Sp.at 2 rfl
            have o3 := Sp.at 3 rfl
            have o4 := Sp.at 4 rfl
            have o5 := Sp.at 5 rfl
            have o6 := Sp.at 6 rfl
            have o7 := Sp.at 7 rfl
            have r0 := Sy.at 0 rfl
            have r1 := Sy.at 1 rfl
            go_wp2_with fail
            clear o0 o1 o2 o3 o4 o5 o6 o7 r0 r1
            generalize w6.alloc (.cells #[.int .i64 0, .int .i64 0] 23) = W6 at *
            generalize w6.heap.size = gy at *
            refine (valid_c p 0 0 _ hp HL (by have := HL.bd hp; omega)).mono ?_
            rintro e w7 ⟨rfl, hb7⟩
            have Sp := Sp.below hb7
            have Sx := Sx.below hb7
            have Sy := Sy.below hb7
            have SM := SM.below hb7
            have hW7 := hW6.trans (hb7.mono hW6.size)
            have f0 := Sx.frozen 0
            have f1 := Sx.frozen 1
            have q0 := Sx.at 0 rfl
            have q1 := Sx.at 1 rfl
            have r0 := Sy.at 0 rfl
            have r1 := Sy.at 1 rfl
            have hne : (gp + 1) ≠ gy := by omega
            have SM2 := (SM.set_ (gp + 1) 0 (by omega) (.int .i64 0)).set_ (gp + 1) 1 (by omega) (.int .i64 (0))
            have Sp2 := (Sp.far (p := ⟨gp + 1, 0, none⟩) (by simp <;> omega) (.int .i64 0)).far (p := ⟨gp + 1, 1, none⟩) (by simp <;> omega) (.int .i64 (0))
            have Sx2 := (Sx.set_ 0 (.int .i64 0)).set_ 1 (.int .i64 (0))
            have hW8 := (hW7.setCell (p := ⟨gp + 1, 0, none⟩) (by simp; omega) (.int .i64 0)).setCell (p := ⟨gp + 1, 1, none⟩) (by simp; omega) (.int .i64 (0))
            have hlk := SM2.look 0 (by decide)
            rw [show fn4 z a y c 0 = z from rfl] at hlk
            have hwr : IntKind.i64.wrap (z + 1) = z + 1 := by rw [IntKind.wrap_i64]; omega
            go_wp2_with (at_mapUpdate; refine wp_put rfl _ _ _ (.inl rfl) (gp + 1 + 1) nn _ rfl SM2 (by unfold maxLen; omega) 0 (z + 1) rfl rfl (by decide) (wf64 (by omega) (by omega)) ?_; intro w9 hM9 hg9)
            rw [fn_put0] at hM9
            go_roundw
            case rel => exact ⟨k + 1, 0, 0, z + 1, a, y, c, nn + 1, by go_num, by unfold St; omega, by omega, hW8.grown hg9 hW8.size (fun j hj => by injection hj with hj; omega), Sp2.grown hg9 (fun e => by injection e with e; omega), Sx2.grown hg9 (fun e => by injection e with e; omega), hM9⟩
            case measure => simp [intOf]; omega

      · have zk : decide ((ls.length : Int) ≤ k) = false := by simp; omega
        have hklN : k < ls.length := by omega
        have hklZ : (k : Int) < ls.length := by omega
        obtain ⟨bb, off, rfl, hbB, hcs⟩ := (hs2.below hW) (by omega)
        have hck := hcs k hklN
        go_wp2_with fail
        clear hck
        generalize (bits BinOp.and IntKind.i64 (at_ ls k) 1 == 1) = lv at *
        by_cases hy1 : tk + 1 < p.yl
        · have HS := Lib.hid (show stepV p 2 tk lv = (2, (tk + 1)) by simp [stepV, hy1])
          have HW := Lib.hid (show walkV p 2 tk = 0 by simp [walkV])
          have HL : LiOk p 2 (tk + 1) := by exact .inr (.inl ⟨rfl, by omega, by omega⟩)
          refine (walk_c p 2 tk 0 _ hp (by omega) HW.out).mono ?_
          rintro e w5 ⟨rfl, hb5⟩
          clear o0 o1 o2 o3 o4 o5 o6 o7 q0 q1
          have Sp := Rp.below hb5
          have Sx := Rx.below hb5
          have SM := RM.below hb5
          have hW5 := hW.trans (hb5.mono hW.size)
          have o0 := Sp.at 0 rfl
          have o1 := Sp.at 1 rfl
          have o2 := Sp.at 2 rfl
          have o3 := Sp.at 3 rfl
          have o4 := Sp.at 4 rfl
          have o5 := Sp.at 5 rfl
          have o6 := Sp.at 6 rfl
          have o7 := Sp.at 7 rfl
          have q0 := Sx.at 0 rfl
          have q1 := Sx.at 1 rfl
          go_wp2_with fail
          refine (step_c p 2 tk lv 2 (tk + 1) _ hp (by omega) HS.out).mono ?_
          rintro e w6 ⟨rfl, hb6⟩
          clear o0 o1 o2 o3 o4 o5 o6 o7 q0 q1
          have bY := lat_alloc (Below.refl w6.heap.size w6) (.cells #[.int .i64 2, .int .i64 (tk + 1)] 23)
          have Sp := (Sp.below hb6).below bY
          have Sx := (Sx.below hb6).below bY
          have SM := (SM.below hb6).below bY
          have hW6 := hW5.trans (hb6.mono hW5.size)
          have hgy : (gp + 1 + 1) < w6.heap.size := by have := hb6.size; have := hb5.size; have := RM.lt; omega
          have Sy := Blk.new (w := w6) (t := 23) (cs := #[.int .i64 2, .int .i64 (tk + 1)])
          have hW6 := hW6.trans (bY.mono hW6.size)
          have o0 := Sp.at 0 rfl
          have o1 := Sp.at 1 rfl
          have o2 := Sp.at 2 rfl
          have o3 := Sp.at 3 rfl
          have o4 := Sp.at 4 rfl
          have o5 := Sp.at 5 rfl
          have o6 := Sp.at 6 rfl
          have o7 := Sp.at 7 rfl
          have r0 := Sy.at 0 rfl
          have r1 := Sy.at 1 rfl
          go_wp2_with fail
          clear o0 o1 o2 o3 o4 o5 o6 o7 r0 r1
          generalize w6.alloc (.cells #[.int .i64 2, .int .i64 (tk + 1)] 23) = W6 at *
          generalize w6.heap.size = gy at *
          refine (valid_c p 2 (tk + 1) _ hp HL (by have := HL.bd hp; omega)).mono ?_
          rintro e w7 ⟨rfl, hb7⟩
          have Sp := Sp.below hb7
          have Sx := Sx.below hb7
          have Sy := Sy.below hb7
          have SM := SM.below hb7
          have hW7 := hW6.trans (hb7.mono hW6.size)
          have f0 := Sx.frozen 0
          have f1 := Sx.frozen 1
          have q0 := Sx.at 0 rfl
          have q1 := Sx.at 1 rfl
          have r0 := Sy.at 0 rfl
          have r1 := Sy.at 1 rfl
          have hne : (gp + 1) ≠ gy := by omega
          have SM2 := (SM.set_ (gp + 1) 0 (by omega) (.int .i64 2)).set_ (gp + 1) 1 (by omega) (.int .i64 ((tk + 1)))
          have Sp2 := (Sp.far (p := ⟨gp + 1, 0, none⟩) (by simp <;> omega) (.int .i64 2)).far (p := ⟨gp + 1, 1, none⟩) (by simp <;> omega) (.int .i64 ((tk + 1)))
          have Sx2 := (Sx.set_ 0 (.int .i64 2)).set_ 1 (.int .i64 ((tk + 1)))
          have hW8 := (hW7.setCell (p := ⟨gp + 1, 0, none⟩) (by simp; omega) (.int .i64 2)).setCell (p := ⟨gp + 1, 1, none⟩) (by simp; omega) (.int .i64 ((tk + 1)))
          have hlk := SM2.look 2 (by decide)
          rw [show fn4 z a y c 2 = y from rfl] at hlk
          have hwr : IntKind.i64.wrap (y + 1) = y + 1 := by rw [IntKind.wrap_i64]; omega
          go_wp2_with (at_mapUpdate; refine wp_put rfl _ _ _ (.inl rfl) (gp + 1 + 1) nn _ rfl SM2 (by unfold maxLen; omega) 2 (y + 1) rfl rfl (by decide) (wf64 (by omega) (by omega)) ?_; intro w9 hM9 hg9)
          rw [fn_put2] at hM9
          go_roundw
          case rel => exact ⟨k + 1, 2, (tk + 1), z, a, y + 1, c, nn + 1, by go_num, by unfold St; omega, by omega, hW8.grown hg9 hW8.size (fun j hj => by injection hj with hj; omega), Sp2.grown hg9 (fun e => by injection e with e; omega), Sx2.grown hg9 (fun e => by injection e with e; omega), hM9⟩
          case measure => simp [intOf]; omega

        · by_cases hr1 : 0 < p.rd
          · have HS := Lib.hid (show stepV p 2 tk lv = (3, 0) by simp [stepV, hy1, hr1])
            have HW := Lib.hid (show walkV p 2 tk = 0 by simp [walkV])
            have HL : LiOk p 3 0 := by exact .inr (.inr (.inl ⟨rfl, by omega, by omega⟩))
            refine (walk_c p 2 tk 0 _ hp (by omega) HW.out).mono ?_
            rintro e w5 ⟨rfl, hb5⟩
            clear o0 o1 o2 o3 o4 o5 o6 o7 q0 q1
            have Sp := Rp.below hb5
            have Sx := Rx.below hb5
            have SM := RM.below hb5
            have hW5 := hW.trans (hb5.mono hW.size)
            have o0 := Sp.at 0 rfl
            have o1 := Sp.at 1 rfl
            have o2 := Sp.at 2 rfl
            have o3 := Sp.at 3 rfl
            have o4 := Sp.at 4 rfl
            have o5 := Sp.at 5 rfl
            have o6 := Sp.at 6 rfl
            have o7 := Sp.at 7 rfl
            have q0 := Sx.at 0 rfl
            have q1 := Sx.at 1 rfl
            go_wp2_with fail
            refine (step_c p 2 tk lv 3 0 _ hp (by omega) HS.out).mono ?_
            rintro e w6 ⟨rfl, hb6⟩
            clear o0 o1 o2 o3 o4 o5 o6 o7 q0 q1
            have bY := lat_alloc (Below.refl w6.heap.size w6) (.cells #[.int .i64 3, .int .i64 0] 23)
            have Sp := (Sp.below hb6).below bY
            have Sx := (Sx.below hb6).below bY
            have SM := (SM.below hb6).below bY
            have hW6 := hW5.trans (hb6.mono hW5.size)
            have hgy : (gp + 1 + 1) < w6.heap.size := by have := hb6.size; have := hb5.size; have := RM.lt; omega
            have Sy := Blk.new (w := w6) (t := 23) (cs := #[.int .i64 3, .int .i64 0])
            have hW6 := hW6.trans (bY.mono hW6.size)
            have o0 := Sp.at 0 rfl
            have o1 := Sp.at 1 rfl
            have o2 := Sp.at 2 rfl
            have o3 := Sp.at 3 rfl
            have o4 := Sp.at 4 rfl
            have o5 := Sp.at 5 rfl
            have o6 := Sp.at 6 rfl
            have o7 := Sp.at 7 rfl
            have r0 := Sy.at 0 rfl
            have r1 := Sy.at 1 rfl
            go_wp2_with fail
            clear o0 o1 o2 o3 o4 o5 o6 o7 r0 r1
            generalize w6.alloc (.cells #[.int .i64 3, .int .i64 0] 23) = W6 at *
            generalize w6.heap.size = gy at *
            refine (valid_c p 3 0 _ hp HL (by have := HL.bd hp; omega)).mono ?_
            rintro e w7 ⟨rfl, hb7⟩
            have Sp := Sp.below hb7
            have Sx := Sx.below hb7
            have Sy := Sy.below hb7
            have SM := SM.below hb7
            have hW7 := hW6.trans (hb7.mono hW6.size)
            have f0 := Sx.frozen 0
            have f1 := Sx.frozen 1
            have q0 := Sx.at 0 rfl
            have q1 := Sx.at 1 rfl
            have r0 := Sy.at 0 rfl
            have r1 := Sy.at 1 rfl
            have hne : (gp + 1) ≠ gy := by omega
            have SM2 := (SM.set_ (gp + 1) 0 (by omega) (.int .i64 3)).set_ (gp + 1) 1 (by omega) (.int .i64 (0))
            have Sp2 := (Sp.far (p := ⟨gp + 1, 0, none⟩) (by simp <;> omega) (.int .i64 3)).far (p := ⟨gp + 1, 1, none⟩) (by simp <;> omega) (.int .i64 (0))
            have Sx2 := (Sx.set_ 0 (.int .i64 3)).set_ 1 (.int .i64 (0))
            have hW8 := (hW7.setCell (p := ⟨gp + 1, 0, none⟩) (by simp; omega) (.int .i64 3)).setCell (p := ⟨gp + 1, 1, none⟩) (by simp; omega) (.int .i64 (0))
            have hlk := SM2.look 3 (by decide)
            rw [show fn4 z a y c 3 = c from rfl] at hlk
            have hwr : IntKind.i64.wrap (c + 1) = c + 1 := by rw [IntKind.wrap_i64]; omega
            go_wp2_with (at_mapUpdate; refine wp_put rfl _ _ _ (.inl rfl) (gp + 1 + 1) nn _ rfl SM2 (by unfold maxLen; omega) 3 (c + 1) rfl rfl (by decide) (wf64 (by omega) (by omega)) ?_; intro w9 hM9 hg9)
            rw [fn_put3] at hM9
            go_roundw
            case rel => exact ⟨k + 1, 3, 0, z, a, y, c + 1, nn + 1, by go_num, by unfold St; omega, by omega, hW8.grown hg9 hW8.size (fun j hj => by injection hj with hj; omega), Sp2.grown hg9 (fun e => by injection e with e; omega), Sx2.grown hg9 (fun e => by injection e with e; omega), hM9⟩
            case measure => simp [intOf]; omega

          · have HS := Lib.hid (show stepV p 2 tk lv = (0, 0) by simp [stepV, hy1, hr1])
            have HW := Lib.hid (show walkV p 2 tk = 0 by simp [walkV])
            have HL : LiOk p 0 0 := by exact .inr (.inr (.inr ⟨rfl, rfl⟩))
            refine (walk_c p 2 tk 0 _ hp (by omega) HW.out).mono ?_
            rintro e w5 ⟨rfl, hb5⟩
            clear o0 o1 o2 o3 o4 o5 o6 o7 q0 q1
            have Sp := Rp.below hb5
            have Sx := Rx.below hb5
            have SM := RM.below hb5
            have hW5 := hW.trans (hb5.mono hW.size)
            have o0 := Sp.at 0 rfl
            have o1 := Sp.at 1 rfl
            have o2 := Sp.at 2 rfl
            have o3 := Sp.at 3 rfl
            have o4 := Sp.at 4 rfl
            have o5 := Sp.at 5 rfl
            have o6 := Sp.at 6 rfl
            have o7 := Sp.at 7 rfl
            have q0 := Sx.at 0 rfl
            have q1 := Sx.at 1 rfl
            go_wp2_with fail
            refine (step_c p 2 tk lv 0 0 _ hp (by omega) HS.out).mono ?_
            rintro e w6 ⟨rfl, hb6⟩
            clear o0 o1 o2 o3 o4 o5 o6 o7 q0 q1
            have bY := lat_alloc (Below.refl w6.heap.size w6) (.cells #[.int .i64 0, .int .i64 0] 23)
            have Sp := (Sp.below hb6).below bY
            have Sx := (Sx.below hb6).below bY
            have SM := (SM.below hb6).below bY
            have hW6 := hW5.trans (hb6.mono hW5.size)
            have hgy : (gp + 1 + 1) < w6.heap.size := by have := hb6.size; have := hb5.size; have := RM.lt; omega
            have Sy := Blk.new (w := w6) (t := 23) (cs := #[.int .i64 0, .int .i64 0])
            have hW6 := hW6.trans (bY.mono hW6.size)
            have o0 := Sp.at 0 rfl
            have o1 := Sp.at 1 rfl
            have o2 := Sp.at 2 rfl
            have o3 := Sp.at 3 rfl
            have o4 := Sp.at 4 rfl
            have o5 := Sp.at 5 rfl
            have o6 := Sp.at 6 rfl
            have o7 := Sp.at 7 rfl
            have r0 := Sy.at 0 rfl
            have r1 := Sy.at 1 rfl
            go_wp2_with fail
            clear o0 o1 o2 o3 o4 o5 o6 o7 r0 r1
            generalize w6.alloc (.cells #[.int .i64 0, .int .i64 0] 23) = W6 at *
            generalize w6.heap.size = gy at *
            refine (valid_c p 0 0 _ hp HL (by have := HL.bd hp; omega)).mono ?_
            rintro e w7 ⟨rfl, hb7⟩
            have Sp := Sp.below hb7
            have Sx := Sx.below hb7
            have Sy := Sy.below hb7
            have SM := SM.below hb7
            have hW7 := hW6.trans (hb7.mono hW6.size)
            have f0 := Sx.frozen 0
            have f1 := Sx.frozen 1
            have q0 := Sx.at 0 rfl
            have q1 := Sx.at 1 rfl
            have r0 := Sy.at 0 rfl
            have r1 := Sy.at 1 rfl
            have hne : (gp + 1) ≠ gy := by omega
            have SM2 := (SM.set_ (gp + 1) 0 (by omega) (.int .i64 0)).set_ (gp + 1) 1 (by omega) (.int .i64 (0))
            have Sp2 := (Sp.far (p := ⟨gp + 1, 0, none⟩) (by simp <;> omega) (.int .i64 0)).far (p := ⟨gp + 1, 1, none⟩) (by simp <;> omega) (.int .i64 (0))
            have Sx2 := (Sx.set_ 0 (.int .i64 0)).set_ 1 (.int .i64 (0))
            have hW8 := (hW7.setCell (p := ⟨gp + 1, 0, none⟩) (by simp; omega) (.int .i64 0)).setCell (p := ⟨gp + 1, 1, none⟩) (by simp; omega) (.int .i64 (0))
            have hlk := SM2.look 0 (by decide)
            rw [show fn4 z a y c 0 = z from rfl] at hlk
            have hwr : IntKind.i64.wrap (z + 1) = z + 1 := by rw [IntKind.wrap_i64]; omega
            go_wp2_with (at_mapUpdate; refine wp_put rfl _ _ _ (.inl rfl) (gp + 1 + 1) nn _ rfl SM2 (by unfold maxLen; omega) 0 (z + 1) rfl rfl (by decide) (wf64 (by omega) (by omega)) ?_; intro w9 hM9 hg9)
            rw [fn_put0] at hM9
            go_roundw
            case rel => exact ⟨k + 1, 0, 0, z + 1, a, y, c, nn + 1, by go_num, by unfold St; omega, by omega, hW8.grown hg9 hW8.size (fun j hj => by injection hj with hj; omega), Sp2.grown hg9 (fun e => by injection e with e; omega), Sx2.grown hg9 (fun e => by injection e with e; omega), hM9⟩
            case measure => simp [intOf]; omega

    · have hq0 : p.yl ≤ y ∧ y ≤ p.yl ∧ 0 ≤ z ∧ z ≤ 0 ∧ tk + 1 ≤ c ∧ c ≤ tk + 1 := by omega
      have zk9 : decide ((k : Int) < 90) = true := by simp; omega
      clear hz hyy hc
      have q0 := Rx.at 0 rfl
      have q1 := Rx.at 1 rfl
      by_cases hkl : (ls.length : Int) ≤ k
      · have zk : decide ((ls.length : Int) ≤ k) = true := by simp; omega
        go_wp2_with fail
        by_cases hr1 : tk + 1 < p.rd
        · have HS := Lib.hid (show stepV p 3 tk true = (3, (tk + 1)) by simp [stepV, hr1])
          have HW := Lib.hid (show walkV p 3 tk = 0 by simp [walkV])
          have HL : LiOk p 3 (tk + 1) := by exact .inr (.inr (.inl ⟨rfl, by omega, by omega⟩))
          refine (walk_c p 3 tk 0 _ hp (by omega) HW.out).mono ?_
          rintro e w5 ⟨rfl, hb5⟩
          clear o0 o1 o2 o3 o4 o5 o6 o7 q0 q1
          have Sp := Rp.below hb5
          have Sx := Rx.below hb5
          have SM := RM.below hb5
          have hW5 := hW.trans (hb5.mono hW.size)
          have o0 := Sp.at 0 rfl
          have o1 := Sp.at 1 rfl
          have o2 := Sp.at 2 rfl
          have o3 := Sp.at 3 rfl
          have o4 := Sp.at 4 rfl
          have o5 := Sp.at 5 rfl
          have o6 := Sp.at 6 rfl
          have o7 := Sp.at 7 rfl
          have q0 := Sx.at 0 rfl
          have q1 := Sx.at 1 rfl
          go_wp2_with fail
          refine (step_c p 3 tk true 3 (tk + 1) _ hp (by omega) HS.out).mono ?_
          rintro e w6 ⟨rfl, hb6⟩
          clear o0 o1 o2 o3 o4 o5 o6 o7 q0 q1
          have bY := lat_alloc (Below.refl w6.heap.size w6) (.cells #[.int .i64 3, .int .i64 (tk + 1)] 23)
          have Sp := (Sp.below hb6).below bY
          have Sx := (Sx.below hb6).below bY
          have SM := (SM.below hb6).below bY
          have hW6 := hW5.trans (hb6.mono hW5.size)
          have hgy : (gp + 1 + 1) < w6.heap.size := by have := hb6.size; have := hb5.size; have := RM.lt; omega
          have Sy := Blk.new (w := w6) (t := 23) (cs := #[.int .i64 3, .int .i64 (tk + 1)])
          have hW6 := hW6.trans (bY.mono hW6.size)
          have o0 := Sp.at 0 rfl
          have o1 := Sp.at 1 rfl
          have o2 := Sp.at 2 rfl
          have o3 := Sp.at 3 rfl
          have o4 := Sp.at 4 rfl
          have o5 := Sp.at 5 rfl
          have o6 := Sp.at 6 rfl
          have o7 := Sp.at 7 rfl
          have r0 := Sy.at 0 rfl
          have r1 := Sy.at 1 rfl
          go_wp2_with fail
          clear o0 o1 o2 o3 o4 o5 o6 o7 r0 r1
          generalize w6.alloc (.cells #[.int .i64 3, .int .i64 (tk + 1)] 23) = W6 at *
          generalize w6.heap.size = gy at *
          refine (valid_c p 3 (tk + 1) _ hp HL (by have := HL.bd hp; omega)).mono ?_
          rintro e w7 ⟨rfl, hb7⟩
          have Sp := Sp.below hb7
          have Sx := Sx.below hb7
          have Sy := Sy.below hb7
          have SM := SM.below hb7
          have hW7 := hW6.trans (hb7.mono hW6.size)
          have f0 := Sx.frozen 0
          have f1 := Sx.frozen 1
          have q0 := Sx.at 0 rfl
          have q1 := Sx.at 1 rfl
          have r0 := Sy.at 0 rfl
          have r1 := Sy.at 1 rfl
          have hne : (gp + 1) ≠ gy := by omega
          have SM2 := (SM.set_ (gp + 1) 0 (by omega) (.int .i64 3)).set_ (gp + 1) 1 (by omega) (.int .i64 ((tk + 1)))
          have Sp2 := (Sp.far (p := ⟨gp + 1, 0, none⟩) (by simp <;> omega) (.int .i64 3)).far (p := ⟨gp + 1, 1, none⟩) (by simp <;> omega) (.int .i64 ((tk + 1)))
          have Sx2 := (Sx.set_ 0 (.int .i64 3)).set_ 1 (.int .i64 ((tk + 1)))
          have hW8 := (hW7.setCell (p := ⟨gp + 1, 0, none⟩) (by simp; omega) (.int .i64 3)).setCell (p := ⟨gp + 1, 1, none⟩) (by simp; omega) (.int .i64 ((tk + 1)))
          have hlk := SM2.look 3 (by decide)
          rw [show fn4 z a y c 3 = c from rfl] at hlk
          have hwr : IntKind.i64.wrap (c + 1) = c + 1 := by rw [IntKind.wrap_i64]; omega
          go_wp2_with (at_mapUpdate; refine wp_put rfl _ _ _ (.inl rfl) (gp + 1 + 1) nn _ rfl SM2 (by unfold maxLen; omega) 3 (c + 1) rfl rfl (by decide) (wf64 (by omega) (by omega)) ?_; intro w9 hM9 hg9)
          rw [fn_put3] at hM9
          go_roundw
          case rel => exact ⟨k + 1, 3, (tk + 1), z, a, y, c + 1, nn + 1, by go_num, by unfold St; omega, by omega, hW8.grown hg9 hW8.size (fun j hj => by injection hj with hj; omega), Sp2.grown hg9 (fun e => by injection e with e; omega), Sx2.grown hg9 (fun e => by injection e with e; omega), hM9⟩
          case measure => simp [intOf]; omega

        · have HS := Lib.hid (show stepV p 3 tk true = (0, 0) by simp [stepV, hr1])
          have HW := Lib.hid (show walkV p 3 tk = 0 by simp [walkV])
          have HL : LiOk p 0 0 := by exact .inr (.inr (.inr ⟨rfl, rfl⟩))
          refine (walk_c p 3 tk 0 _ hp (by omega) HW.out).mono ?_
          rintro e w5 ⟨rfl, hb5⟩
          clear o0 o1 o2 o3 o4 o5 o6 o7 q0 q1
          have Sp := Rp.below hb5
          have Sx := Rx.below hb5
          have SM := RM.below hb5
          have hW5 := hW.trans (hb5.mono hW.size)
          have o0 := Sp.at 0 rfl
          have o1 := Sp.at 1 rfl
          have o2 := Sp.at 2 rfl
          have o3 := Sp.at 3 rfl
          have o4 := Sp.at 4 rfl
          have o5 := Sp.at 5 rfl
          have o6 := Sp.at 6 rfl
          have o7 := Sp.at 7 rfl
          have q0 := Sx.at 0 rfl
          have q1 := Sx.at 1 rfl
          go_wp2_with fail
          refine (step_c p 3 tk true 0 0 _ hp (by omega) HS.out).mono ?_
          rintro e w6 ⟨rfl, hb6⟩
          clear o0 o1 o2 o3 o4 o5 o6 o7 q0 q1
          have bY := lat_alloc (Below.refl w6.heap.size w6) (.cells #[.int .i64 0, .int .i64 0] 23)
          have Sp := (Sp.below hb6).below bY
          have Sx := (Sx.below hb6).below bY
          have SM := (SM.below hb6).below bY
          have hW6 := hW5.trans (hb6.mono hW5.size)
          have hgy : (gp + 1 + 1) < w6.heap.size := by have := hb6.size; have := hb5.size; have := RM.lt; omega
          have Sy := Blk.new (w := w6) (t := 23) (cs := #[.int .i64 0, .int .i64 0])
          have hW6 := hW6.trans (bY.mono hW6.size)
          have o0 := Sp.at 0 rfl
          have o1 := Sp.at 1 rfl
          have o2 := Sp.at 2 rfl
          have o3 := Sp.at 3 rfl
          have o4 := Sp.at 4 rfl
          have o5 := Sp.at 5 rfl
          have o6 := Sp.at 6 rfl
          have o7 := Sp.at 7 rfl
          have r0 := Sy.at 0 rfl
          have r1 := Sy.at 1 rfl
          go_wp2_with fail
          clear o0 o1 o2 o3 o4 o5 o6 o7 r0 r1
          generalize w6.alloc (.cells #[.int .i64 0, .int .i64 0] 23) = W6 at *
          generalize w6.heap.size = gy at *
          refine (valid_c p 0 0 _ hp HL (by have := HL.bd hp; omega)).mono ?_
          rintro e w7 ⟨rfl, hb7⟩
          have Sp := Sp.below hb7
          have Sx := Sx.below hb7
          have Sy := Sy.below hb7
          have SM := SM.below hb7
          have hW7 := hW6.trans (hb7.mono hW6.size)
          have f0 := Sx.frozen 0
          have f1 := Sx.frozen 1
          have q0 := Sx.at 0 rfl
          have q1 := Sx.at 1 rfl
          have r0 := Sy.at 0 rfl
          have r1 := Sy.at 1 rfl
          have hne : (gp + 1) ≠ gy := by omega
          have SM2 := (SM.set_ (gp + 1) 0 (by omega) (.int .i64 0)).set_ (gp + 1) 1 (by omega) (.int .i64 (0))
          have Sp2 := (Sp.far (p := ⟨gp + 1, 0, none⟩) (by simp <;> omega) (.int .i64 0)).far (p := ⟨gp + 1, 1, none⟩) (by simp <;> omega) (.int .i64 (0))
          have Sx2 := (Sx.set_ 0 (.int .i64 0)).set_ 1 (.int .i64 (0))
          have hW8 := (hW7.setCell (p := ⟨gp + 1, 0, none⟩) (by simp; omega) (.int .i64 0)).setCell (p := ⟨gp + 1, 1, none⟩) (by simp; omega) (.int .i64 (0))
          have hlk := SM2.look 0 (by decide)
          rw [show fn4 z a y c 0 = z from rfl] at hlk
          have hwr : IntKind.i64.wrap (z + 1) = z + 1 := by rw [IntKind.wrap_i64]; omega
          go_wp2_with (at_mapUpdate; refine wp_put rfl _ _ _ (.inl rfl) (gp + 1 + 1) nn _ rfl SM2 (by unfold maxLen; omega) 0 (z + 1) rfl rfl (by decide) (wf64 (by omega) (by omega)) ?_; intro w9 hM9 hg9)
          rw [fn_put0] at hM9
          go_roundw
          case rel => exact ⟨k + 1, 0, 0, z + 1, a, y, c, nn + 1, by go_num, by unfold St; omega, by omega, hW8.grown hg9 hW8.size (fun j hj => by injection hj with hj; omega), Sp2.grown hg9 (fun e => by injection e with e; omega), Sx2.grown hg9 (fun e => by injection e with e; omega), hM9⟩
          case measure => simp [intOf]; omega

      · have zk : decide ((ls.length : Int) ≤ k) = false := by simp; omega
        have hklN : k < ls.length := by omega
        have hklZ : (k : Int) < ls.length := by omega
        obtain ⟨bb, off, rfl, hbB, hcs⟩ := (hs2.below hW) (by omega)
        have hck := hcs k hklN
        go_wp2_with fail
        clear hck
        generalize (bits BinOp.and IntKind.i64 (at_ ls k) 1 == 1) = lv at *
        by_cases hr1 : tk + 1 < p.rd
        · have HS := Lib.hid (show stepV p 3 tk lv = (3, (tk + 1)) by simp [stepV, hr1])
          have HW := Lib.hid (show walkV p 3 tk = 0 by simp [walkV])
          have HL : LiOk p 3 (tk + 1) := by exact .inr (.inr (.inl ⟨rfl, by omega, by omega⟩))
          refine (walk_c p 3 tk 0 _ hp (by omega) HW.out).mono ?_
          rintro e w5 ⟨rfl, hb5⟩
          clear o0 o1 o2 o3 o4 o5 o6 o7 q0 q1
          have Sp := Rp.below hb5
          have Sx := Rx.below hb5
          have SM := RM.below hb5
          have hW5 := hW.trans (hb5.mono hW.size)
          have o0 := Sp.at 0 rfl
          have o1 := Sp.at 1 rfl
          have o2 := Sp.at 2 rfl
          have o3 := Sp.at 3 rfl
          have o4 := Sp.at 4 rfl
          have o5 := Sp.at 5 rfl
          have o6 := Sp.at 6 rfl
          have o7 := Sp.at 7 rfl
          have q0 := Sx.at 0 rfl
          have q1 := Sx.at 1 rfl
          go_wp2_with fail
          refine (step_c p 3 tk lv 3 (tk + 1) _ hp (by omega) HS.out).mono ?_
          rintro e w6 ⟨rfl, hb6⟩
          clear o0 o1 o2 o3 o4 o5 o6 o7 q0 q1
          have bY := lat_alloc (Below.refl w6.heap.size w6) (.cells #[.int .i64 3, .int .i64 (tk + 1)] 23)
          have Sp := (Sp.below hb6).below bY
          have Sx := (Sx.below hb6).below bY
          have SM := (SM.below hb6).below bY
          have hW6 := hW5.trans (hb6.mono hW5.size)
          have hgy : (gp + 1 + 1) < w6.heap.size := by have := hb6.size; have := hb5.size; have := RM.lt; omega
          have Sy := Blk.new (w := w6) (t := 23) (cs := #[.int .i64 3, .int .i64 (tk + 1)])
          have hW6 := hW6.trans (bY.mono hW6.size)
          have o0 := Sp.at 0 rfl
          have o1 := Sp.at 1 rfl
          have o2 := Sp.at 2 rfl
          have o3 := Sp.at 3 rfl
          have o4 := Sp.at 4 rfl
          have o5 := Sp.at 5 rfl
          have o6 := Sp.at 6 rfl
          have o7 := Sp.at 7 rfl
          have r0 := Sy.at 0 rfl
          have r1 := Sy.at 1 rfl
          go_wp2_with fail
          clear o0 o1 o2 o3 o4 o5 o6 o7 r0 r1
          generalize w6.alloc (.cells #[.int .i64 3, .int .i64 (tk + 1)] 23) = W6 at *
          generalize w6.heap.size = gy at *
          refine (valid_c p 3 (tk + 1) _ hp HL (by have := HL.bd hp; omega)).mono ?_
          rintro e w7 ⟨rfl, hb7⟩
          have Sp := Sp.below hb7
          have Sx := Sx.below hb7
          have Sy := Sy.below hb7
          have SM := SM.below hb7
          have hW7 := hW6.trans (hb7.mono hW6.size)
          have f0 := Sx.frozen 0
          have f1 := Sx.frozen 1
          have q0 := Sx.at 0 rfl
          have q1 := Sx.at 1 rfl
          have r0 := Sy.at 0 rfl
          have r1 := Sy.at 1 rfl
          have hne : (gp + 1) ≠ gy := by omega
          have SM2 := (SM.set_ (gp + 1) 0 (by omega) (.int .i64 3)).set_ (gp + 1) 1 (by omega) (.int .i64 ((tk + 1)))
          have Sp2 := (Sp.far (p := ⟨gp + 1, 0, none⟩) (by simp <;> omega) (.int .i64 3)).far (p := ⟨gp + 1, 1, none⟩) (by simp <;> omega) (.int .i64 ((tk + 1)))
          have Sx2 := (Sx.set_ 0 (.int .i64 3)).set_ 1 (.int .i64 ((tk + 1)))
          have hW8 := (hW7.setCell (p := ⟨gp + 1, 0, none⟩) (by simp; omega) (.int .i64 3)).setCell (p := ⟨gp + 1, 1, none⟩) (by simp; omega) (.int .i64 ((tk + 1)))
          have hlk := SM2.look 3 (by decide)
          rw [show fn4 z a y c 3 = c from rfl] at hlk
          have hwr : IntKind.i64.wrap (c + 1) = c + 1 := by rw [IntKind.wrap_i64]; omega
          go_wp2_with (at_mapUpdate; refine wp_put rfl _ _ _ (.inl rfl) (gp + 1 + 1) nn _ rfl SM2 (by unfold maxLen; omega) 3 (c + 1) rfl rfl (by decide) (wf64 (by omega) (by omega)) ?_; intro w9 hM9 hg9)
          rw [fn_put3] at hM9
          go_roundw
          case rel => exact ⟨k + 1, 3, (tk + 1), z, a, y, c + 1, nn + 1, by go_num, by unfold St; omega, by omega, hW8.grown hg9 hW8.size (fun j hj => by injection hj with hj; omega), Sp2.grown hg9 (fun e => by injection e with e; omega), Sx2.grown hg9 (fun e => by injection e with e; omega), hM9⟩
          case measure => simp [intOf]; omega

        · have HS := Lib.hid (show stepV p 3 tk lv = (0, 0) by simp [stepV, hr1])
          have HW := Lib.hid (show walkV p 3 tk = 0 by simp [walkV])
          have HL : LiOk p 0 0 := by exact .inr (.inr (.inr ⟨rfl, rfl⟩))
          refine (walk_c p 3 tk 0 _ hp (by omega) HW.out).mono ?_
          rintro e w5 ⟨rfl, hb5⟩
          clear o0 o1 o2 o3 o4 o5 o6 o7 q0 q1
          have Sp := Rp.below hb5
          have Sx := Rx.below hb5
          have SM := RM.below hb5
          have hW5 := hW.trans (hb5.mono hW.size)
          have o0 := Sp.at 0 rfl
          have o1 := Sp.at 1 rfl
          have o2 := Sp.at 2 rfl
          have o3 := Sp.at 3 rfl
          have o4 := Sp.at 4 rfl
          have o5 := Sp.at 5 rfl
          have o6 := Sp.at 6 rfl
          have o7 := Sp.at 7 rfl
          have q0 := Sx.at 0 rfl
          have q1 := Sx.at 1 rfl
          go_wp2_with fail
          refine (step_c p 3 tk lv 0 0 _ hp (by omega) HS.out).mono ?_
          rintro e w6 ⟨rfl, hb6⟩
          clear o0 o1 o2 o3 o4 o5 o6 o7 q0 q1
          have bY := lat_alloc (Below.refl w6.heap.size w6) (.cells #[.int .i64 0, .int .i64 0] 23)
          have Sp := (Sp.below hb6).below bY
          have Sx := (Sx.below hb6).below bY
          have SM := (SM.below hb6).below bY
          have hW6 := hW5.trans (hb6.mono hW5.size)
          have hgy : (gp + 1 + 1) < w6.heap.size := by have := hb6.size; have := hb5.size; have := RM.lt; omega
          have Sy := Blk.new (w := w6) (t := 23) (cs := #[.int .i64 0, .int .i64 0])
          have hW6 := hW6.trans (bY.mono hW6.size)
          have o0 := Sp.at 0 rfl
          have o1 := Sp.at 1 rfl
          have o2 := Sp.at 2 rfl
          have o3 := Sp.at 3 rfl
          have o4 := Sp.at 4 rfl
          have o5 := Sp.at 5 rfl
          have o6 := Sp.at 6 rfl
          have o7 := Sp.at 7 rfl
          have r0 := Sy.at 0 rfl
          have r1 := Sy.at 1 rfl
          go_wp2_with fail
          clear o0 o1 o2 o3 o4 o5 o6 o7 r0 r1
          generalize w6.alloc (.cells #[.int .i64 0, .int .i64 0] 23) = W6 at *
          generalize w6.heap.size = gy at *
          refine (valid_c p 0 0 _ hp HL (by have := HL.bd hp; omega)).mono ?_
          rintro e w7 ⟨rfl, hb7⟩
          have Sp := Sp.below hb7
          have Sx := Sx.below hb7
          have Sy := Sy.below hb7
          have SM := SM.below hb7
          have hW7 := hW6.trans (hb7.mono hW6.size)
          have f0 := Sx.frozen 0
          have f1 := Sx.frozen 1
          have q0 := Sx.at 0 rfl
          have q1 := Sx.at 1 rfl
          have r0 := Sy.at 0 rfl
          have r1 := Sy.at 1 rfl
          have hne : (gp + 1) ≠ gy := by omega
          have SM2 := (SM.set_ (gp + 1) 0 (by omega) (.int .i64 0)).set_ (gp + 1) 1 (by omega) (.int .i64 (0))
          have Sp2 := (Sp.far (p := ⟨gp + 1, 0, none⟩) (by simp <;> omega) (.int .i64 0)).far (p := ⟨gp + 1, 1, none⟩) (by simp <;> omega) (.int .i64 (0))
          have Sx2 := (Sx.set_ 0 (.int .i64 0)).set_ 1 (.int .i64 (0))
          have hW8 := (hW7.setCell (p := ⟨gp + 1, 0, none⟩) (by simp; omega) (.int .i64 0)).setCell (p := ⟨gp + 1, 1, none⟩) (by simp; omega) (.int .i64 (0))
          have hlk := SM2.look 0 (by decide)
          rw [show fn4 z a y c 0 = z from rfl] at hlk
          have hwr : IntKind.i64.wrap (z + 1) = z + 1 := by rw [IntKind.wrap_i64]; omega
          go_wp2_with (at_mapUpdate; refine wp_put rfl _ _ _ (.inl rfl) (gp + 1 + 1) nn _ rfl SM2 (by unfold maxLen; omega) 0 (z + 1) rfl rfl (by decide) (wf64 (by omega) (by omega)) ?_; intro w9 hM9 hg9)
          rw [fn_put0] at hM9
          go_roundw
          case rel => exact ⟨k + 1, 0, 0, z + 1, a, y, c, nn + 1, by go_num, by unfold St; omega, by omega, hW8.grown hg9 hW8.size (fun j hj => by injection hj with hj; omega), Sp2.grown hg9 (fun e => by injection e with e; omega), Sx2.grown hg9 (fun e => by injection e with e; omega), hM9⟩
          case measure => simp [intOf]; omega

    · have L1 := RM.look 1 (by decide)
      have L2 := RM.look 2 (by decide)
      have L3 := RM.look 3 (by decide)
      rw [show fn4 z a y c 1 = a from rfl] at L1
      rw [show fn4 z a y c 2 = y from rfl] at L2
      rw [show fn4 z a y c 3 = c from rfl] at L3
      have zk9 : decide ((k : Int) < 90) = true := by simp; omega
      subst hyy hc
      have e1 : decide (p.mn ≤ a) = true := by unfold needV at ha; simp; omega
      have e2 : decide (p.wk + p.cl ≤ a) = true := by unfold needV at ha; simp; omega
      clear htk
      have q0 := Rx.at 0 rfl
      have q1 := Rx.at 1 rfl
      go_wp2_with fail
      refine (awake_any _).mono ?_
      rintro e w9 ⟨rfl, hb9⟩
      go_wp2
      go_ret
      exact ⟨rfl, hW.trans (hb9.mono hW.size)⟩

end Go.Proofs.Ytdcifiinhnilbaa
