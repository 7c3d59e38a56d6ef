/-
  A service is begun, ended, counted. Conditions: the list of ends is in memory and not empty.
-/
import Derived.Test.YtikffoepndpfjaaAr
namespace Go.Proofs.Ytikffoepndpfjaa
open Go.ChangeShapes Go.WideShapes Go.RowKit
set_option linter.unusedVariables false

/-- A service is returned, its list of ends in new memory. -/
def SvOut (w : World) (ph gr : Int) (n : Nat) (E : List Int) (e : Ending) (w' : World) : Prop :=
  ∃ A c, e = .returned (.agg #[.int .i64 ph, .int .i64 gr, .slice A n c]) ∧ Below w.heap.size w w' ∧ Own .i64 3 w' w.heap.size (.slice A n c) E
theorem Own.intsN {w : World} {base n c : Nat} {A : Option Addr} {E : List Int} (h : Own .i64 3 w base (.slice A n c) E) : Ints .i64 w w.heap.size A E ∧ E.length = n := by
  obtain ⟨A', c', hv, _, _, hI⟩ := h.ints
  injection hv with e1 e2 _
  subst e1
  exact ⟨hI, e2.symm⟩
theorem Own.away {w : World} {base b i : Nat} {v : Value} {E : List Int} (h : Own .i64 3 w base v E) (hb : b < base) (u : Value) : Own .i64 3 (w.setCell ⟨b, i, none⟩ u) base v E :=
  h.block (fun k hk => Below.heap_setCell _ _ _ _ (by have := (h.lt hk).1; show k ≠ b; omega))
theorem wpList_store3 {ops : Array Oper} {rest : List Oper} {o : Oper} {a : Act} {w : World} {Q : Exit → Act → World → Prop} (hgd : o.guard = none) {p v : Operand} (ho : o.op = .store 24 p v) (hd : o.dst = none) {b : Nat} {x y z x' y' z' : Value} (hp : a.eval p = .pointer (some ⟨b, 0, none⟩)) (hv : a.eval v = .agg #[x', y', z']) (hB : Blk w b 24 #[x, y, z]) (h1 : x'.oneCell' = true ∧ y'.oneCell' = true ∧ z'.oneCell' = true) (hx : ∃ k n, x' = .int k n) (hy : ∃ k n, y' = .int k n) (hz : ∃ s n c, z' = .slice s n c)
    (h : ∀ w' : World, Blk w' b 24 #[x', y', z'] → w.grownBy w' (some b) → wpList Try.prog ops Q rest a w') : wpList Try.prog ops Q (o :: rest) a w := by
  unfold wpList
  have hw : Region.wanted o (yielded ops a.tmps) = true := by unfold Region.wanted; rw [hgd]
  rw [if_pos hw]
  refine .inl ?_
  obtain ⟨_, _, rfl⟩ := hx
  obtain ⟨_, _, rfl⟩ := hy
  obtain ⟨_, _, _, rfl⟩ := hz
  obtain ⟨c0, c1, c2, f0, f1, f2⟩ := hB.three
  have hk := h _ (hB.set3 _ _ _) (grownBy_setAt (grownBy_setAt (grownBy_set w b 0 _) b 1 _ rfl) b 2 _ rfl)
  unfold Oper.wp
  simp only [execOp, ho, hp, hv]
  go_simp
  all_goals (first | exact hk | (simp [Act.put, hd]; exact hk))
set_option maxHeartbeats 1000000 in
theorem new_any (n : Nat) (w : World) (hl : n ≤ 1000) :
    Calls Try.prog 17 #[.int .i64 n] w fun e w' => SvOut w (-1) 0 n (List.replicate n (-1)) e w' := by
  have bX := lat_alloc (lat_alloc (Below.refl w.heap.size w) (.cells #[.int .i64 0, .int .i64 0, .slice none 0 0] 24)) (.cells #[.int .i64 (-1), .int .i64 0, .slice none 0 0] 24)
  have B0 := Blk.alloc (Blk.new (w := w) (t := 24) (cs := #[.int .i64 0, .int .i64 0, .slice none 0 0])) (.cells #[.int .i64 (-1), .int .i64 0, .slice none 0 0] 24)
  have B1 := Blk.new (w := w.alloc (.cells #[.int .i64 0, .int .i64 0, .slice none 0 0] 24)) (t := 24) (cs := #[.int .i64 (-1), .int .i64 0, .slice none 0 0])
  rw [heap_size] at B1
  go_enter Try.func17, Try.ntmps17
  go_wp2_with fail
  have hW1 := B1.lt
  generalize ((w.alloc (.cells #[.int .i64 0, .int .i64 0, .slice none 0 0] 24)).alloc (.cells #[.int .i64 (-1), .int .i64 0, .slice none 0 0] 24)) = W at *
  go_loopw [6] (fun i wr => ∃ k : Nat, k ≤ n ∧ i = .int .i64 k ∧ Below w.heap.size w wr ∧ w.heap.size + 1 < wr.heap.size ∧ Blk wr w.heap.size 24 #[.int .i64 0, .int .i64 0, .slice none 0 0] ∧ ∃ v, Blk wr (w.heap.size + 1) 24 #[.int .i64 (-1), .int .i64 0, v] ∧ Own .i64 3 wr (w.heap.size + 2) v (List.replicate k (-1))) (fun i _ => n - (intOf i).toNat)
  case atStart => exact ⟨0, by omega, rfl, bX, hW1, B0, _, B1, Own.nil_ _ _ _ _⟩
  case round =>
    obtain ⟨k, hk, rfl, hbr, hsz, C0, v, C1, own⟩ := hrel
    by_cases hlt : k < n
    · have hlt' : (k : Int) < n := by omega
      obtain ⟨s0, s1, s2, sf0, sf1, sf2⟩ := C1.three
      go_wp2_with (at_builtin; refine wpList_append_ints rfl (.tmp 9) (.tmp 10) _ rfl (w.heap.size + 2) 3 .i64 8 Try.underlying22 int_info v (List.replicate k (-1)) rfl (own.alloc _) _ 1 [-1] 1 rfl rfl (ints_blk Blk.new) (by simp; omega) (by omega) (by rw [heap_size]; omega) ?_; intro v6 w6 own6 g6 a6; have D0 := (C0.alloc _).grown g6 (fun e => by have := (own.lt e).1; omega); have D1 := (C1.alloc _).grown g6 (fun e => by have := (own.lt e).1; omega); have hb6 := (lat_alloc hbr _).grown g6 (by rw [heap_size]; omega) (fun k e => by have := (own.lt e).1; omega); have hs6 := g6.size; rw [heap_size] at hs6; obtain ⟨t0, t1, t2, tf0, tf1, tf2⟩ := D1.three; obtain ⟨A6, c6, hv6⟩ := own_len own6 (show (List.replicate k (-1 : Int) ++ [-1]).length = k + 1 by simp); subst hv6)
      go_roundw
      case rel => exact ⟨k + 1, by omega, by go_num, hb6.setCell (p := ⟨w.heap.size + 1, 2, none⟩) (by simp) _, Nat.lt_of_lt_of_le (by omega) (grownBy_set w6 (w.heap.size + 1) 2 _).size, D0.far (p := ⟨w.heap.size + 1, 2, none⟩) (by simp) _, _, D1.set_ 2 _, by rw [List.replicate_succ']; exact own6.away (by omega) _⟩
      case measure => simp [intOf]; omega
    · have hkn : n = k := by omega
      obtain ⟨A2, c2, hv⟩ := own_len own (List.length_replicate)
      subst hv
      obtain ⟨s0, s1, s2, sf0, sf1, sf2⟩ := C1.three
      obtain ⟨u0, u1, u2, uf0, uf1, uf2⟩ := C0.three
      go_wp2
      refine bodyPost_ret (results_cell rfl rfl (load_service (Blk.set3 C0 _ _ _))) rfl ?_
      refine ⟨A2, c2, by rw [hkn], below_set3 hbr (Nat.le_refl _) _ _ _, ?_⟩
      rw [hkn]
      exact (((own.away (by omega) _).away (by omega) _).away (by omega) _).rebase (by omega)
/-- The list of ends behind the end of a service. -/
def endE (ph gr : Int) (E : List Int) (now : Int) : List Int := if 0 < gr ∧ 0 ≤ ph ∧ ph < E.length then E.set ph.toNat now else E
set_option maxRecDepth 20000 in
set_option maxHeartbeats 2000000 in
theorem end_any (ph gr : Int) (A : Option Addr) (n c : Nat) (E : List Int) (now : Int) (w : World) (hn : E.length = n) (hI : Ints .i64 w w.heap.size A E) (hp : 0 < n) (hl : n ≤ 1000000) :
    Calls Try.prog 19 #[.agg #[.int .i64 ph, .int .i64 gr, .slice A n c], .int .i64 now] w fun e w' => SvOut w (-1) 0 n (endE ph gr E now) e w' := by
  have bX := lat_alloc (lat_alloc (Below.refl w.heap.size w) (.cells #[.int .i64 ph, .int .i64 gr, .slice A n c] 24)) (.cells #[.int .i64 0, .int .i64 0, .slice none 0 0] 24)
  have B0 := Blk.alloc (Blk.new (w := w) (t := 24) (cs := #[.int .i64 ph, .int .i64 gr, .slice A n c])) (.cells #[.int .i64 0, .int .i64 0, .slice none 0 0] 24)
  have B1 := Blk.new (w := w.alloc (.cells #[.int .i64 ph, .int .i64 gr, .slice A n c] 24)) (t := 24) (cs := #[.int .i64 0, .int .i64 0, .slice none 0 0])
  rw [heap_size] at B1
  have hIX := hI.grow bX
  go_enter Try.func19, Try.ntmps19
  go_wp2_with fail
  have hltW := B1.lt
  generalize ((w.alloc (.cells #[.int .i64 ph, .int .i64 gr, .slice A n c] 24)).alloc (.cells #[.int .i64 0, .int .i64 0, .slice none 0 0] 24)) = W at *
  refine (clone_any ph gr A n c E W hn hIX hp hl).mono ?_
  rintro e w2 ⟨A2, c2, rfl, hb2, own⟩
  have C0 := B0.below hb2
  have C1 := B1.below hb2
  have hlt2 := C1.lt
  have bz := bX.trans (hb2.mono bX.size)
  obtain ⟨t0, t1, t2, f0, f1, f2⟩ := C0.three
  obtain ⟨u0, u1, u2, h0, h1, h2⟩ := C1.three
  have MARK : True := trivial
  have hW1 : w.heap.size + 1 < W.heap.size := hltW
  have HN := Lib.hid hn
  have hW2 := hb2.size
  clear h0 h1 h2 t0 t1 t2 f0 f1 f2 u0 u1 u2 MARK
  by_cases q1 : 0 < gr
  · have z1 : decide (gr > 0) = true := by simpa using q1
    by_cases q2 : 0 ≤ ph
    · obtain ⟨k, rfl⟩ := Int.eq_ofNat_of_zero_le q2
      by_cases q3 : k < n
      · have q3' : (k : Int) < n := by omega
        have HE : Hid (endE (k : Int) gr E now = E.set k now) := Lib.hid (by unfold endE; rw [if_pos ⟨q1, q2, by omega⟩]; rfl)
        obtain ⟨g2, cap2, hv, hgb, hgl⟩ := own.form (by omega)
        injection hv with e1 e2 e3
        subst e1 e3
        have hkE : k < E.length := by omega
        clear hn q1 e2
        go_wp2_with (show wpList _ _ _ (Oper.mk none (.store _ (.tmp 2) (.tmp 6)) _ _ _ _ :: _) _ _; refine wpList_store3 rfl rfl rfl rfl rfl C0 ⟨rfl, rfl, rfl⟩ ⟨_, _, rfl⟩ ⟨_, _, rfl⟩ ⟨_, _, _, rfl⟩ ?_; intro w3 D0 g3; have D1 := C1.grown g3 (by intro e; injection e with e; omega); have own3 := own.block (w' := w3) (fun b hb => g3.block b (own.lt hb).2 (by have := (own.lt hb).1; intro e; injection e with e; omega)); have bz3 := bz.grown g3 bz.size (fun k e => by injection e with e; omega); obtain ⟨t0, t1, t2, f0, f1, f2⟩ := D0.three; obtain ⟨u0, u1, u2, h0, h1, h2⟩ := D1.three; obtain ⟨oc, of⟩ := own3.cell hkE; have hne1 : ¬ g2 = w.heap.size := (by omega); have own4 := own3.set hkE now; have bz4 := bz3.setCell (p := ⟨g2, k, none⟩) (show w.heap.size ≤ g2 by omega) (.int .i64 now); have G0 := D0.far (p := ⟨g2, k, none⟩) (show w.heap.size ≠ g2 by omega) (.int .i64 now); have G1 := D1.far (p := ⟨g2, k, none⟩) (show w.heap.size + 1 ≠ g2 by omega) (.int .i64 now))
        refine bodyPost_ret (results_cell rfl rfl (load_service (Blk.set3 ((G1.far (p := ⟨w.heap.size, 0, none⟩) (by simp) _).far (p := ⟨w.heap.size, 1, none⟩) (by simp) _) _ _ _))) rfl ?_
        rw [HE.out]
        exact ⟨some ⟨g2, 0, none⟩, c2, rfl, below_set3 ((bz4.setCell (p := ⟨w.heap.size, 0, none⟩) (Nat.le_refl _) _).setCell (p := ⟨w.heap.size, 1, none⟩) (Nat.le_refl _) _) (by omega) _ _ _, (((((own4.away (by omega) _).away (by omega) _).away (by omega) _).away (by omega) _).away (by omega) _).rebase (by omega)⟩
      · have z3 : decide ((k : Int) < (n : Int)) = false := by simp; omega
        have HE : Hid (endE (k : Int) gr E now = E) := Lib.hid (by unfold endE; rw [if_neg (by omega)])
        clear q1
        clear hn
        go_wp2_with (show wpList _ _ _ (Oper.mk none (.store _ (.tmp 2) (.tmp 6)) _ _ _ _ :: _) _ _; refine wpList_store3 rfl rfl rfl rfl rfl C0 ⟨rfl, rfl, rfl⟩ ⟨_, _, rfl⟩ ⟨_, _, rfl⟩ ⟨_, _, _, rfl⟩ ?_; intro w3 D0 g3; have D1 := C1.grown g3 (by intro e; injection e with e; omega); have own3 := own.block (w' := w3) (fun b hb => g3.block b (own.lt hb).2 (by have := (own.lt hb).1; intro e; injection e with e; omega)); have bz3 := bz.grown g3 bz.size (fun k e => by injection e with e; omega); obtain ⟨t0, t1, t2, f0, f1, f2⟩ := D0.three; obtain ⟨u0, u1, u2, h0, h1, h2⟩ := D1.three)
        refine bodyPost_ret (results_cell rfl rfl (load_service (Blk.set3 ((D1.far (p := ⟨w.heap.size, 0, none⟩) (by simp) _).far (p := ⟨w.heap.size, 1, none⟩) (by simp) _) _ _ _))) rfl ?_
        rw [HE.out]
        exact ⟨A2, c2, rfl, below_set3 ((bz3.setCell (p := ⟨w.heap.size, 0, none⟩) (Nat.le_refl _) _).setCell (p := ⟨w.heap.size, 1, none⟩) (Nat.le_refl _) _) (by omega) _ _ _, (((((own3.away (by omega) _).away (by omega) _).away (by omega) _).away (by omega) _).away (by omega) _).rebase (by omega)⟩
    · have z2 : decide (0 ≤ ph) = false := by simpa using q2
      have HE : Hid (endE ph gr E now = E) := Lib.hid (by unfold endE; rw [if_neg (by omega)])
      clear q1
      clear hn
      go_wp2_with (show wpList _ _ _ (Oper.mk none (.store _ (.tmp 2) (.tmp 6)) _ _ _ _ :: _) _ _; refine wpList_store3 rfl rfl rfl rfl rfl C0 ⟨rfl, rfl, rfl⟩ ⟨_, _, rfl⟩ ⟨_, _, rfl⟩ ⟨_, _, _, rfl⟩ ?_; intro w3 D0 g3; have D1 := C1.grown g3 (by intro e; injection e with e; omega); have own3 := own.block (w' := w3) (fun b hb => g3.block b (own.lt hb).2 (by have := (own.lt hb).1; intro e; injection e with e; omega)); have bz3 := bz.grown g3 bz.size (fun k e => by injection e with e; omega); obtain ⟨t0, t1, t2, f0, f1, f2⟩ := D0.three; obtain ⟨u0, u1, u2, h0, h1, h2⟩ := D1.three)
      refine bodyPost_ret (results_cell rfl rfl (load_service (Blk.set3 ((D1.far (p := ⟨w.heap.size, 0, none⟩) (by simp) _).far (p := ⟨w.heap.size, 1, none⟩) (by simp) _) _ _ _))) rfl ?_
      rw [HE.out]
      exact ⟨A2, c2, rfl, below_set3 ((bz3.setCell (p := ⟨w.heap.size, 0, none⟩) (Nat.le_refl _) _).setCell (p := ⟨w.heap.size, 1, none⟩) (Nat.le_refl _) _) (by omega) _ _ _, (((((own3.away (by omega) _).away (by omega) _).away (by omega) _).away (by omega) _).away (by omega) _).rebase (by omega)⟩
  · have z1 : decide (gr > 0) = false := by simpa using q1
    have HE : Hid (endE ph gr E now = E) := Lib.hid (by unfold endE; rw [if_neg (by omega)])
    clear q1
    clear hn
    go_wp2_with (show wpList _ _ _ (Oper.mk none (.store _ (.tmp 2) (.tmp 6)) _ _ _ _ :: _) _ _; refine wpList_store3 rfl rfl rfl rfl rfl C0 ⟨rfl, rfl, rfl⟩ ⟨_, _, rfl⟩ ⟨_, _, rfl⟩ ⟨_, _, _, rfl⟩ ?_; intro w3 D0 g3; have D1 := C1.grown g3 (by intro e; injection e with e; omega); have own3 := own.block (w' := w3) (fun b hb => g3.block b (own.lt hb).2 (by have := (own.lt hb).1; intro e; injection e with e; omega)); have bz3 := bz.grown g3 bz.size (fun k e => by injection e with e; omega); obtain ⟨t0, t1, t2, f0, f1, f2⟩ := D0.three; obtain ⟨u0, u1, u2, h0, h1, h2⟩ := D1.three)
    refine bodyPost_ret (results_cell rfl rfl (load_service (Blk.set3 ((D1.far (p := ⟨w.heap.size, 0, none⟩) (by simp) _).far (p := ⟨w.heap.size, 1, none⟩) (by simp) _) _ _ _))) rfl ?_
    rw [HE.out]
    exact ⟨A2, c2, rfl, below_set3 ((bz3.setCell (p := ⟨w.heap.size, 0, none⟩) (Nat.le_refl _) _).setCell (p := ⟨w.heap.size, 1, none⟩) (Nat.le_refl _) _) (by omega) _ _ _, (((((own3.away (by omega) _).away (by omega) _).away (by omega) _).away (by omega) _).away (by omega) _).rebase (by omega)⟩
end Go.Proofs.Ytikffoepndpfjaa
