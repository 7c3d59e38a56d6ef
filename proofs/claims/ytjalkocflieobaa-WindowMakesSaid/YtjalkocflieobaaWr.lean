/-
  The rest of layer 18 and of its reference: Make, Live, Mark of the reference, Valid of both. Conditions: none.
-/
import Derived.Test.YtjalkocflieobaaW
namespace Go.Proofs.Ytjalkocflieobaa
open Go.ChangeShapes Go.WideShapes Go.RowKit
set_option linter.unusedVariables false

def legB (j p f t s : Int) : Bool := isP j p && wi f 0 t && decide (t ≤ 2147483648) && wi s (-1) 1073741824
theorem rmake_any (j p f t n : Int) (w : World) : Calls Try.prog 6 #[.int .i64 j, .int .i64 p, .int .i64 f, .int .i64 t, .int .i64 n] w fun e w' =>
    e = .returned (.tuple #[.agg #[.int .i64 (sel (mkOk j p f t n) j 0), .int .i64 (sel (mkOk j p f t n) p 0), .int .i64 (sel (mkOk j p f t n) (n + f) 0), .int .i64 (sel (mkOk j p f t n) (n + t) 0), .int .i64 (sel (mkOk j p f t n) (-1) 0)], .int .i64 (sel (mkOk j p f t n) 0 8)]) ∧ Below w.heap.size w w' := by
  go_enter Try.func6, Try.ntmps6
  go_wp2_with fail
  refine (rwithin_any _ _ _ _).mono ?_
  by_cases h1 : 0 ≤ j ∧ j ≤ 3
  · have e1 := wi_t h1
    rw [e1]; rintro e w' ⟨rfl, rfl⟩
    go_wp2_with fail
    refine (rwithin_any _ _ _ _).mono ?_
    by_cases h2 : 0 ≤ p ∧ p ≤ 7
    · have e2 := wi_t h2
      rw [e2]; rintro e w' ⟨rfl, rfl⟩
      go_wp2_with fail
      refine (rwithin_any _ _ _ _).mono ?_
      by_cases h3 : 0 ≤ n ∧ n ≤ 1073741824
      · have e3 := wi_t h3
        rw [e3]; rintro e w' ⟨rfl, rfl⟩
        go_wp2_with fail
        refine (rwithin_any _ _ _ _).mono ?_
        by_cases h4 : 0 ≤ f ∧ f ≤ t
        · have e4 := wi_t h4
          rw [e4]; rintro e w' ⟨rfl, rfl⟩
          by_cases h5 : t ≤ 600
          · go_wp2
            (try simp only [Exit.inBlock, Exit.then]); refine bodyPost_ret (results_cell_tmp rfl rfl (load_leg Blk.new)) rfl ?_
            have E : mkOk j p f t n = true := by simp [mkOk, isP, e1, e2, e3, e4, wi]; omega
            rw [E]
            exact ⟨rfl, lat_alloc (Below.refl _ _) _⟩
          · go_wp2
            (try simp only [Exit.inBlock, Exit.then]); refine bodyPost_ret (results_cell_tmp rfl rfl (load_leg Blk.new)) rfl ?_
            have E : mkOk j p f t n = false := by simp [mkOk, isP, e1, e2, e3, e4, wi]; omega
            rw [E]
            exact ⟨rfl, lat_alloc (Below.refl _ _) _⟩
        · have e4 := wi_f h4
          rw [e4]; rintro e w' ⟨rfl, rfl⟩
          go_wp2
          (try simp only [Exit.inBlock, Exit.then]); refine bodyPost_ret (results_cell_tmp rfl rfl (load_leg Blk.new)) rfl ?_
          have E : mkOk j p f t n = false := by simp [mkOk, isP, e4]
          rw [E]
          exact ⟨rfl, lat_alloc (Below.refl _ _) _⟩
      · have e3 := wi_f h3
        rw [e3]; rintro e w' ⟨rfl, rfl⟩
        go_wp2
        (try simp only [Exit.inBlock, Exit.then]); refine bodyPost_ret (results_cell_tmp rfl rfl (load_leg Blk.new)) rfl ?_
        have E : mkOk j p f t n = false := by simp [mkOk, isP, e3]
        rw [E]
        exact ⟨rfl, lat_alloc (Below.refl _ _) _⟩
    · have e2 := wi_f h2
      rw [e2]; rintro e w' ⟨rfl, rfl⟩
      go_wp2
      (try simp only [Exit.inBlock, Exit.then]); refine bodyPost_ret (results_cell_tmp rfl rfl (load_leg Blk.new)) rfl ?_
      have E : mkOk j p f t n = false := by simp [mkOk, isP, e2]
      rw [E]
      exact ⟨rfl, lat_alloc (Below.refl _ _) _⟩
  · have e1 := wi_f h1
    rw [e1]; rintro e w' ⟨rfl, rfl⟩
    go_wp2
    (try simp only [Exit.inBlock, Exit.then]); refine bodyPost_ret (results_cell_tmp rfl rfl (load_leg Blk.new)) rfl ?_
    have E : mkOk j p f t n = false := by simp [mkOk, isP, e1]
    rw [E]
    exact ⟨rfl, lat_alloc (Below.refl _ _) _⟩
theorem valid_any (j p f t s : Int) (w : World) : Calls Try.prog 8 #[.agg #[.int .i64 j, .int .i64 p, .int .i64 f, .int .i64 t, .int .i64 s]] w fun e w' => e = .returned (.bool (legB j p f t s)) ∧ Below w.heap.size w w' := by
  go_enter Try.func8, Try.ntmps8
  go_wp2_with fail
  have B0 := Blk.new (w := w) (t := 23) (cs := #[.int .i64 j, .int .i64 p, .int .i64 f, .int .i64 t, .int .i64 s])
  have b0 := lat_alloc (Below.refl w.heap.size w) (.cells #[.int .i64 j, .int .i64 p, .int .i64 f, .int .i64 t, .int .i64 s] 23)
  generalize w.alloc (.cells #[.int .i64 j, .int .i64 p, .int .i64 f, .int .i64 t, .int .i64 s] 23) = W at *
  obtain ⟨c0, c1, c2, c3, c4, _⟩ := B0.five
  refine (isPlace_any _ _ _).mono ?_
  by_cases h1 : isP j p = true
  · rw [h1]; rintro e w' ⟨rfl, rfl⟩
    go_wp2_with fail
    refine (within_any _ _ _ _).mono ?_
    by_cases h2 : wi f 0 t = true
    · rw [h2]; rintro e w' ⟨rfl, rfl⟩
      by_cases h4 : t ≤ 2147483648
      · go_wp2_with fail
        refine (within_any _ _ _ _).mono ?_
        rintro e w' ⟨rfl, rfl⟩
        go_wp2
        go_ret
        exact ⟨by simp [legB, h1, h2, h4], b0⟩
      · go_wp2
        go_ret
        exact ⟨by simp [legB, h1, h2]; omega, b0⟩
    · have h2' := eq_false_of_ne_true h2
      rw [h2']; rintro e w' ⟨rfl, rfl⟩
      go_wp2
      go_ret
      exact ⟨by simp [legB, isP, h2'], b0⟩
  · have h1' := eq_false_of_ne_true h1
    rw [h1']; rintro e w' ⟨rfl, rfl⟩
    go_wp2
    go_ret
    exact ⟨by simp [legB, h1'], b0⟩
theorem rvalid_any (j p f t s : Int) (w : World) : Calls Try.prog 9 #[.agg #[.int .i64 j, .int .i64 p, .int .i64 f, .int .i64 t, .int .i64 s]] w fun e w' => e = .returned (.bool (legB j p f t s)) ∧ Below w.heap.size w w' := by
  go_enter Try.func9, Try.ntmps9
  go_wp2_with fail
  have B0 := Blk.new (w := w) (t := 23) (cs := #[.int .i64 j, .int .i64 p, .int .i64 f, .int .i64 t, .int .i64 s])
  have b0 := lat_alloc (Below.refl w.heap.size w) (.cells #[.int .i64 j, .int .i64 p, .int .i64 f, .int .i64 t, .int .i64 s] 23)
  generalize w.alloc (.cells #[.int .i64 j, .int .i64 p, .int .i64 f, .int .i64 t, .int .i64 s] 23) = W at *
  obtain ⟨c0, c1, c2, c3, c4, _⟩ := B0.five
  refine (rwithin_any _ _ _ _).mono ?_
  by_cases h1 : wi j 0 3 = true
  · rw [h1]; rintro e w' ⟨rfl, rfl⟩
    go_wp2_with fail
    refine (rwithin_any _ _ _ _).mono ?_
    by_cases h2 : wi p 0 7 = true
    · rw [h2]; rintro e w' ⟨rfl, rfl⟩
      go_wp2_with fail
      refine (rwithin_any _ _ _ _).mono ?_
      by_cases h3 : wi f 0 t = true
      · rw [h3]; rintro e w' ⟨rfl, rfl⟩
        by_cases h4 : t ≤ 2147483648
        · go_wp2_with fail
          refine (rwithin_any _ _ _ _).mono ?_
          rintro e w' ⟨rfl, rfl⟩
          go_wp2
          go_ret
          exact ⟨by simp [legB, isP, h1, h2, h3, h4], b0⟩
        · go_wp2
          go_ret
          exact ⟨by simp [legB, isP, h1, h2, h3]; omega, b0⟩
      · have h3' := eq_false_of_ne_true h3
        rw [h3']; rintro e w' ⟨rfl, rfl⟩
        go_wp2
        go_ret
        exact ⟨by simp [legB, isP, h3'], b0⟩
    · have h2' := eq_false_of_ne_true h2
      rw [h2']; rintro e w' ⟨rfl, rfl⟩
      go_wp2
      go_ret
      exact ⟨by simp [legB, isP, h2'], b0⟩
  · have h1' := eq_false_of_ne_true h1
    rw [h1']; rintro e w' ⟨rfl, rfl⟩
    go_wp2
    go_ret
    exact ⟨by simp [legB, isP, h1'], b0⟩
theorem rlive_any (j p f t s n : Int) (w : World) : Calls Try.prog 11 #[.agg #[.int .i64 j, .int .i64 p, .int .i64 f, .int .i64 t, .int .i64 s], .int .i64 n] w fun e w' => e = .returned (.bool (wi n f t)) ∧ Below w.heap.size w w' := by
  go_enter Try.func11, Try.ntmps11
  go_wp2_with fail
  refine (rwithin_any _ _ _ _).mono ?_; rintro e w' ⟨rfl, rfl⟩
  go_wp2
  go_ret
  exact ⟨rfl, lat_alloc (Below.refl _ _) _⟩
theorem rmark_any (j p f t s n : Int) (w : World) : Calls Try.prog 13 #[.agg #[.int .i64 j, .int .i64 p, .int .i64 f, .int .i64 t, .int .i64 s], .int .i64 n] w fun e w' =>
    e = .returned (.agg #[.int .i64 j, .int .i64 p, .int .i64 f, .int .i64 t, .int .i64 (mkS f t s n)]) ∧ Below w.heap.size w w' := by
  go_enter Try.func13, Try.ntmps13
  go_wp2_with fail
  refine (rlive_any _ _ _ _ _ _ _).mono ?_
  have hb : Below w.heap.size w ((w.alloc (.cells #[.int .i64 j, .int .i64 p, .int .i64 f, .int .i64 t, .int .i64 s] 23)).alloc (.cells #[.int .i64 0, .int .i64 0, .int .i64 0, .int .i64 0, .int .i64 0] 23)) := lat_alloc (lat_alloc (Below.refl _ _) _) _
  have B1 := Blk.alloc (Blk.new (w := w) (t := 23) (cs := #[.int .i64 j, .int .i64 p, .int .i64 f, .int .i64 t, .int .i64 s])) (.cells #[.int .i64 0, .int .i64 0, .int .i64 0, .int .i64 0, .int .i64 0] 23)
  have B2 := Blk.new (w := w.alloc (.cells #[.int .i64 j, .int .i64 p, .int .i64 f, .int .i64 t, .int .i64 s] 23)) (t := 23) (cs := #[.int .i64 0, .int .i64 0, .int .i64 0, .int .i64 0, .int .i64 0])
  rw [heap_size] at B2
  generalize (w.alloc (.cells #[.int .i64 j, .int .i64 p, .int .i64 f, .int .i64 t, .int .i64 s] 23)).alloc (.cells #[.int .i64 0, .int .i64 0, .int .i64 0, .int .i64 0, .int .i64 0] 23) = W at *
  rintro e W1 ⟨rfl, hb1⟩
  have hb2 := hb.trans (hb1.mono hb.size)
  have D1 := B1.below hb1
  have D2 := B2.below hb1
  clear hb hb1 B1 B2
  have hlt := D1.lt
  obtain ⟨c0, c1, c2, c3, c4, f4⟩ := D1.five
  obtain ⟨d0, d1, d2, d3, d4, df0, df1, df2, df3, df4⟩ := D2.fiveF
  clear hlt
  have hne : w.heap.size + 1 ≠ w.heap.size := by omega
  have hle : w.heap.size ≤ w.heap.size + 1 := by omega
  generalize w.heap.size + 1 = g2 at *
  generalize hg1 : w.heap.size = g1 at *
  have G1 := Lib.hid hg1
  clear hg1
  have hsc : ∀ v, Below g1 w (W1.setCell ⟨g1, 4, none⟩ v) := fun v => hb2.setCell (Nat.le_refl _) v
  by_cases h : f ≤ n ∧ n ≤ t
  · rw [wi_t h]
    have H := Lib.hid h
    clear h
    by_cases hs : s = -1
    · subst hs
      go_wp2
      (try simp only [Exit.inBlock, Exit.then]); refine bodyPost_ret (results_cell rfl rfl (load_leg (Blk.set5 (Blk.far D2 hne _) _ _ _ _ _))) rfl ?_
      exact ⟨by simp [mkS, H.out], by rw [G1.out]; exact below_set5 (hsc _) hle _ _ _ _ _⟩
    · have hs' : (s == -1) = false := by simpa using hs
      go_wp2
      (try simp only [Exit.inBlock, Exit.then]); refine bodyPost_ret (results_cell rfl rfl (load_leg (Blk.set5 D2 _ _ _ _ _))) rfl ?_
      exact ⟨by simp [mkS, H.out, hs], by rw [G1.out]; exact below_set5 hb2 hle _ _ _ _ _⟩
  · rw [wi_f h]
    have H := Lib.hid h
    clear h
    go_wp2
    (try simp only [Exit.inBlock, Exit.then]); refine bodyPost_ret (results_cell rfl rfl (load_leg (Blk.set5 (Blk.far D2 hne _) _ _ _ _ _))) rfl ?_
    exact ⟨by rw [mkS, if_neg H.out], by rw [G1.out]; exact below_set5 (hsc _) hle _ _ _ _ _⟩
end Go.Proofs.Ytjalkocflieobaa
