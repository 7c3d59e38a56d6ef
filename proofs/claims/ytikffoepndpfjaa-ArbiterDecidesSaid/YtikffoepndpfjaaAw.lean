/-
  The example of chapter 21. Conditions: none.
-/
import Derived.Test.YtikffoepndpfjaaAe
import Derived.Test.YtikffoepndpfjaaMh
namespace Go.Proofs.Ytikffoepndpfjaa
open Go.ChangeShapes Go.WideShapes Go.RowKit
set_option linter.unusedVariables false

/-- Numbers that lie elsewhere than in a block that was changed. -/
theorem ints_other {w w' : World} {A : Option Addr} {l : List Int} {b : Nat} {t : TypeId} {cs : Array Value} (h : Ints .i64 w w.heap.size A l) (hB : Blk w b t cs) (hg : w.grownBy w' (some b)) (hne : ∀ {o : Nat} (i : Nat), i < l.length → cs[o]? = some (.int .i64 (at_ l i)) → False) : Ints .i64 w' w'.heap.size A l := fun h0 => by
  obtain ⟨bb, off, hA, hb, hc⟩ := h h0
  have hbb : bb ≠ b := fun e => by
    subst e
    have h1 := hc 0 h0
    rw [hB.cell] at h1
    exact hne 0 h0 h1
  refine ⟨bb, off, hA, Nat.lt_of_lt_of_le hb hg.size, fun i hi => ?_⟩
  rw [← hc i hi]
  exact World.cell?_of_block (hg.block bb hb (fun e => by injection e with e; exact hbb e))
theorem Cls.more9 {w : World} {B B' : Nat} {A : Option Addr} {C : List Cl} (h : Cls w B A C) (hB : B ≤ B') : Cls w B' A C := fun h0 => by
  obtain ⟨b, off, hA, hb, hc⟩ := h h0
  exact ⟨b, off, hA, by omega, hc⟩
set_option maxRecDepth 20000 in
set_option maxHeartbeats 4000000 in
theorem awake_any (w : World) : Calls Try.prog 7 #[] w fun e w' => e = .returned (.bool true) ∧ Below w.heap.size w w' := by
  have sm1 : Small [-1] := fun x hx => by simp at hx; omega
  have sm3 : Small [3] := fun x hx => by simp at hx; omega
  have ok1 : AllOk [⟨0, 0, 0, 0, 0⟩] := fun x hx => by simp at hx; subst hx; exact ⟨by simp, by simp, by simp⟩
  have E1 : decT 1 0 2 9 (-1) 0 [-1] [⟨0, 0, 0, 0, 0⟩] 1 = (0, 0, [-1]) := by decide
  have E2 : decT 1 0 2 9 0 1 [-1] [⟨0, 0, 0, 0, 0⟩] 2 = (0, 1, [-1]) := by decide
  have E3 : decT 1 0 2 9 0 2 [-1] [⟨0, 0, 0, 0, 0⟩] 3 = (-1, 0, [3]) := by decide
  have bX := lat_alloc (lat_alloc (Below.refl w.heap.size w) (.cells #[.slice none 0 0, .slice none 0 0, .int .i64 1, .int .i64 0, .int .i64 2, .int .i64 9] 33)) (.cells #[.int .i64 0, .int .i64 0, .int .i64 0, .int .i64 0, .int .i64 0] 47)
  have BC := Blk.alloc (Blk.new (w := w) (t := 33) (cs := #[.slice none 0 0, .slice none 0 0, .int .i64 1, .int .i64 0, .int .i64 2, .int .i64 9])) (.cells #[.int .i64 0, .int .i64 0, .int .i64 0, .int .i64 0, .int .i64 0] 47)
  have BK := Blk.new (w := w.alloc (.cells #[.slice none 0 0, .slice none 0 0, .int .i64 1, .int .i64 0, .int .i64 2, .int .i64 9] 33)) (t := 47) (cs := #[.int .i64 0, .int .i64 0, .int .i64 0, .int .i64 0, .int .i64 0])
  rw [heap_size] at BK
  go_enter Try.func7, Try.ntmps7
  go_wp2_with fail
  generalize (w.alloc (.cells #[.slice none 0 0, .slice none 0 0, .int .i64 1, .int .i64 0, .int .i64 2, .int .i64 9] 33)).alloc (.cells #[.int .i64 0, .int .i64 0, .int .i64 0, .int .i64 0, .int .i64 0] 47) = W at *
  generalize w.heap.size + 1 = gk at *
  obtain ⟨gc, hgc⟩ : ∃ g, w.heap.size = g := ⟨_, rfl⟩
  rw [hgc] at BC ⊢
  have hK : Cls W W.heap.size (some ⟨gk, 0, none⟩) [⟨0, 0, 0, 0, 0⟩] := fun _ => ⟨gk, 0, rfl, BK.lt, fun i hi => by
    simp at hi; subst hi
    exact ⟨BK.at 0 rfl, BK.at 1 rfl, BK.at 2 rfl, BK.at 3 rfl, BK.at 4 rfl⟩⟩
  refine wp_region_pre (R := Bl) 6 48 [fun v _ => v = .agg #[.slice none 0 0, .slice none 0 0, .int .i64 1, .int .i64 0, .int .i64 2, .int .i64 9], fun v w => ∃ (A : Option Addr) (c : Nat), v = .agg #[.int .i64 (-1), .int .i64 0, .slice A 1 c] ∧ Ints .i64 w (w).heap.size A [-1], fun v _ => v = (.slice (some ⟨gk, 0, none⟩) 1 1), fun v w => ∃ (A : Option Addr) (c : Nat), v = .agg #[.int .i64 0, .int .i64 0, .slice A 1 c] ∧ Ints .i64 w (w).heap.size A [-1], fun v w => ∃ (A : Option Addr) (c : Nat), v = .agg #[.int .i64 0, .int .i64 1, .slice A 1 c] ∧ Ints .i64 w (w).heap.size A [-1], fun v w => ∃ b, v = .pointer (some ⟨b, 0, none⟩) ∧ Blk w b 24 #[.int .i64 0, .int .i64 0, .slice none 0 0] ∧ W.heap.size ≤ b] (Bl.trans) (Bl.drew) (by kernel_rfl) (fun _ _ d _ _ h => by cases d <;> exact h) rfl (by kernel_rfl) (stay_cons (stays_v _) (stay_cons (fun v w w1 h hb => by obtain ⟨A, c, h1, h2⟩ := h; exact ⟨A, c, h1, h2.grow hb⟩) (stay_cons (stays_v _) (stay_cons (fun v w w1 h hb => by obtain ⟨A, c, h1, h2⟩ := h; exact ⟨A, c, h1, h2.grow hb⟩) (stay_cons (fun v w w1 h hb => by obtain ⟨A, c, h1, h2⟩ := h; exact ⟨A, c, h1, h2.grow hb⟩) (stay_cons (fun v w w1 h hb => by obtain ⟨b, h1, h2, h3⟩ := h; exact ⟨b, h1, h2.below hb, h3⟩) (stay_nil))))))) ?_ ?_
  · simp only [List.take_succ_cons, List.take_zero]
    refine steps_cons (Bl.refl) (fun ev xw hb hc hf hfr hd hr => ?_) ?_
    · have e1 : ev (.tmp 1) = .pointer (some ⟨gc, 0, none⟩) := hfr 1 (by kernel_rfl)
      clear hfr hd
      have q0 := (BC.below hb).at 0 rfl
      have q1 := (BC.below hb).at 1 rfl
      have q2 := (BC.below hb).at 2 rfl
      have q3 := (BC.below hb).at 3 rfl
      have q4 := (BC.below hb).at 4 rfl
      have q5 := (BC.below hb).at 5 rfl
      show OpOk _ _ ev xw fun v w' => Bl xw w' ∧ (v = .agg #[.slice none 0 0, .slice none 0 0, .int .i64 1, .int .i64 0, .int .i64 2, .int .i64 9])
      refine opOk_hid (fun Rp HR => ?_)
      unfold OpOk
      go_simp
      rw [HR.out]
      exact ⟨hr, rfl⟩
    refine steps_cons (Bl.refl) (fun ev xw hb hc hf hfr hd hr => ?_) ?_
    · clear hfr hd
      show OpOk _ _ ev xw fun v w' => Bl xw w' ∧ (∃ (A : Option Addr) (c : Nat), v = .agg #[.int .i64 (-1), .int .i64 0, .slice A 1 c] ∧ Ints .i64 w' (w').heap.size A [-1])
      refine opOk_hid (fun Rp HR => ?_)
      unfold OpOk
      go_simp
      refine (new_any 1 xw (by omega)).mono ?_
      intro e w'' hS
      obtain ⟨A, c, rfl, hw, ho⟩ := hS
      refine ⟨_, rfl, ?_⟩
      rw [HR.out]
      exact ⟨hw, A, c, rfl, ho.intsN.1⟩
    refine steps_cons (Bl.refl) (fun ev xw hb hc hf hfr hd hr => ?_) ?_
    · have e2 : ev (.tmp 2) = (.slice (some ⟨gk, 0, none⟩) 1 1) := hfr 2 (by kernel_rfl)
      clear hfr hd
      show OpOk _ _ ev xw fun v w' => Bl xw w' ∧ (v = (.slice (some ⟨gk, 0, none⟩) 1 1))
      refine opOk_hid (fun Rp HR => ?_)
      unfold OpOk
      go_simp
      rw [HR.out]
      exact ⟨hr, rfl⟩
    refine steps_cons (Bl.refl) (fun ev xw hb hc hf hfr hd hr => ?_) ?_
    · have e8 : ev (.tmp 8) = .agg #[.slice none 0 0, .slice none 0 0, .int .i64 1, .int .i64 0, .int .i64 2, .int .i64 9] := hd 0 8 (by kernel_rfl)
      obtain ⟨A9, c9, e9, I9⟩ : ∃ (A : Option Addr) (c : Nat), ev (.tmp 9) = .agg #[.int .i64 (-1), .int .i64 0, .slice A 1 c] ∧ Ints .i64 xw (xw).heap.size A [-1] := hd 1 9 (by kernel_rfl)
      have e10 : ev (.tmp 10) = (.slice (some ⟨gk, 0, none⟩) 1 1) := hd 2 10 (by kernel_rfl)
      clear hfr hd
      show OpOk _ _ ev xw fun v w' => Bl xw w' ∧ (∃ (A : Option Addr) (c : Nat), v = .agg #[.int .i64 0, .int .i64 0, .slice A 1 c] ∧ Ints .i64 w' (w').heap.size A [-1])
      refine opOk_hid (fun Rp HR => ?_)
      unfold OpOk
      go_simp
      have hkx := hK.grow hb
      have hD := decide_any 1 0 2 9 (-1) 0 A9 1 c9 [-1] (some ⟨gk, 0, none⟩) 1 [⟨0, 0, 0, 0, 0⟩] 1 xw rfl I9 (by omega) (by omega) sm1 (by omega) (by omega) (by omega) (by omega) hkx ok1 (by simp)
      rw [E1] at hD
      refine hD.mono ?_
      intro e w'' hS
      obtain ⟨A, c, rfl, hw, ho⟩ := hS
      refine ⟨_, rfl, ?_⟩
      rw [HR.out]
      exact ⟨hw, A, c, rfl, ho.intsN.1⟩
    refine steps_cons (Bl.refl) (fun ev xw hb hc hf hfr hd hr => ?_) ?_
    · obtain ⟨A11, c11, e11, I11⟩ : ∃ (A : Option Addr) (c : Nat), ev (.tmp 11) = .agg #[.int .i64 0, .int .i64 0, .slice A 1 c] ∧ Ints .i64 xw (xw).heap.size A [-1] := hd 3 11 (by kernel_rfl)
      clear hfr hd
      show OpOk _ _ ev xw fun v w' => Bl xw w' ∧ (∃ (A : Option Addr) (c : Nat), v = .agg #[.int .i64 0, .int .i64 1, .slice A 1 c] ∧ Ints .i64 w' (w').heap.size A [-1])
      refine opOk_hid (fun Rp HR => ?_)
      unfold OpOk
      go_simp
      refine (count_any 0 0 A11 1 c11 [-1] true xw rfl I11 (by omega) (by omega) (by omega)).mono ?_
      intro e w'' hS
      obtain ⟨A, c, rfl, hw, ho⟩ := hS
      refine ⟨_, rfl, ?_⟩
      rw [HR.out]
      exact ⟨hw, A, c, rfl, ho.intsN.1⟩
    refine steps_cons (Bl.refl) (fun ev xw hb hc hf hfr hd hr => ?_) ?_
    · clear hfr hd
      show OpOk _ _ ev xw fun v w' => Bl xw w' ∧ (∃ b, v = .pointer (some ⟨b, 0, none⟩) ∧ Blk w' b 24 #[.int .i64 0, .int .i64 0, .slice none 0 0] ∧ W.heap.size ≤ b)
      refine opOk_hid (fun Rp HR => ?_)
      unfold OpOk
      go_simp
      rw [HR.out]
      exact ⟨lat_alloc (Below.refl _ _) _, _, rfl, Blk.new, Below.size hb⟩
    exact steps_nil
  · intro vs W5 hb5 hk
    obtain ⟨A4, c4, k4, I4⟩ : ∃ (A : Option Addr) (c : Nat), vs 4 = .agg #[.int .i64 0, .int .i64 1, .slice A 1 c] ∧ Ints .i64 W5 W5.heap.size A [-1] := hk 4 (by omega)
    obtain ⟨b3, k3, B3, z3⟩ : ∃ b, vs 5 = .pointer (some ⟨b, 0, none⟩) ∧ Blk W5 b 24 #[.int .i64 0, .int .i64 0, .slice none 0 0] ∧ W.heap.size ≤ b := hk 5 (by omega)
    clear hk
    simp only [List.take_succ_cons, List.take_zero, List.drop_succ_cons, List.drop_zero, putAll, Act.put, List.setIfInBounds_toArray, List.set_cons_zero, List.set_cons_succ, k3, k4, Nat.reduceAdd]
    clear k3 k4
    refine wpList_store3 rfl rfl rfl rfl rfl B3 ⟨rfl, rfl, rfl⟩ ⟨_, _, rfl⟩ ⟨_, _, rfl⟩ ⟨_, _, _, rfl⟩ ?_
    intro w6 S6 g6
    have I6 : Ints .i64 w6 w6.heap.size A4 [-1] := ints_other I4 B3 g6 (fun i hi h => by
      simp at hi; subst hi
      rename_i o
      have h2 : (#[Value.int .i64 0, Value.int .i64 0, Value.slice none 0 0] : Array Value)[o]? = some (Value.int .i64 (-1)) := h
      rcases o with _ | _ | _ | o <;> simp at h2)
    have bz6 : Below W.heap.size W w6 := Below.grown hb5 g6 (Below.size hb5) (fun k e => by injection e with e; omega)
    have bz7 := bX.trans (bz6.mono bX.size)
    have BC6 := BC.below bz6
    have hKW := hK
    have K6 := hK.grow bz6
    have hgcl := BC.lt
    have hs6 := bz6.size
    have S6l := S6.lt
    have q0 := BC6.at 0 rfl
    have q1 := BC6.at 1 rfl
    have q2 := BC6.at 2 rfl
    have q3 := BC6.at 3 rfl
    have q4 := BC6.at 4 rfl
    have q5 := BC6.at 5 rfl
    have s0 := S6.at 0 rfl
    have s1 := S6.at 1 rfl
    have s2 := S6.at 2 rfl
    go_wp2_with fail
    clear q0 q1 q2 q3 q4 q5 s0 s1 s2
    have hD := decide_any 1 0 2 9 0 1 A4 1 c4 [-1] (some ⟨gk, 0, none⟩) 1 [⟨0, 0, 0, 0, 0⟩] 2 w6 rfl I6 (by omega) (by omega) sm1 (by omega) (by omega) (by omega) (by omega) K6 ok1 (by simp)
    rw [E2] at hD
    refine hD.mono ?_
    rintro e w7 ⟨A7, c7, rfl, hb7, own7⟩
    clear hD
    go_wp2_with fail
    refine (count_any 0 1 A7 1 c7 [-1] true w7 rfl own7.intsN.1 (by omega) (by omega) (by omega)).mono ?_
    rintro e w8 ⟨A8, c8, rfl, hb8, own8⟩
    have hs7 := hb7.size
    have hs8 := hb8.size
    have S8 := (S6.below hb7).below hb8
    have BC8 := (BC6.below hb7).below hb8
    have bz8 := bz6.trans ((hb7.trans (hb8.mono hb7.size)).mono bz6.size)
    go_wp2_with (show wpList _ _ _ (Oper.mk none (.store _ (.tmp 3) (.tmp 17)) _ _ _ _ :: _) _ _; refine wpList_store3 rfl rfl rfl rfl rfl S8 ⟨rfl, rfl, rfl⟩ ⟨_, _, rfl⟩ ⟨_, _, rfl⟩ ⟨_, _, _, rfl⟩ ?_; intro w9 S9 g9; have BC9 := BC8.grown g9 (by intro e; injection e with e; omega); have own9 := own8.block (w' := w9) (fun b hb => g9.block b (own8.lt hb).2 (by have := (own8.lt hb).1; intro e; injection e with e; omega)); have bz9 := bz8.grown g9 bz8.size (fun k e => by injection e with e; omega); have q0 := BC9.at 0 rfl; have q1 := BC9.at 1 rfl; have q2 := BC9.at 2 rfl; have q3 := BC9.at 3 rfl; have q4 := BC9.at 4 rfl; have q5 := BC9.at 5 rfl; have s0 := S9.at 0 rfl; have s1 := S9.at 1 rfl; have s2 := S9.at 2 rfl)
    clear q0 q1 q2 q3 q4 q5 s0 s1 s2
    have K9 := (hKW.below_ bz9).more9 bz9.size
    have hD := decide_any 1 0 2 9 0 2 A8 1 c8 [-1] (some ⟨gk, 0, none⟩) 1 [⟨0, 0, 0, 0, 0⟩] 3 w9 rfl own9.intsN.1 (by omega) (by omega) sm1 (by omega) (by omega) (by omega) (by omega) K9 ok1 (by simp)
    rw [E3] at hD
    refine hD.mono ?_
    rintro e wA ⟨AA, cA, rfl, hbA, ownA⟩
    clear hD
    have S10 := (S9.below hbA).alloc (.cells #[.int .i64 (-1), .int .i64 0, .slice AA 1 cA] 24)
    obtain ⟨ba, oa, rfl, hBa, hca⟩ := ((ownA.intsN.1).grow (lat_alloc (Below.refl wA.heap.size wA) (.cells #[.int .i64 (-1), .int .i64 0, .slice AA 1 cA] 24))).sub (show 0 < [(3 : Int)].length by simp)
    have bF := bz9.trans ((lat_alloc hbA (.cells #[.int .i64 (-1), .int .i64 0, .slice (some ⟨ba, oa, none⟩) 1 cA] 24)).mono bz9.size)
    have s0 := S10.at 0 rfl
    have s1 := S10.at 1 rfl
    have s2 := S10.at 2 rfl
    have hca : (wA.alloc (.cells #[.int .i64 (-1), .int .i64 0, .slice (some ⟨ba, oa, none⟩) 1 cA] 24)).cell? ⟨ba, oa, none⟩ = some (.int .i64 3) := hca
    go_wp2
    go_ret
    exact ⟨rfl, bX.trans (bF.mono bX.size)⟩
end Go.Proofs.Ytikffoepndpfjaa
