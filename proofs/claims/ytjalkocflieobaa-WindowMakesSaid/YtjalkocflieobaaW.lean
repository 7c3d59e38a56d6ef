/-
  The functions of layer 18 and of its reference. Conditions: numbers of the machine.
-/
import Derived.Test.YtjalkocflieobaaLg
namespace Go.Proofs.Ytjalkocflieobaa
open Go.ChangeShapes Go.WideShapes Go.RowKit
set_option linter.unusedVariables false

def wi (n a b : Int) : Bool := decide (a ≤ n ∧ n ≤ b)
theorem wi_t {n a b : Int} (h : a ≤ n ∧ n ≤ b) : wi n a b = true := by simp [wi, h]
theorem wi_f {n a b : Int} (h : ¬ (a ≤ n ∧ n ≤ b)) : wi n a b = false := by unfold wi; exact decide_eq_false h
theorem within_any (n a b : Int) (w : World) : Calls Try.prog 16 #[.int .i64 n, .int .i64 a, .int .i64 b] w fun e w' => e = .returned (.bool (wi n a b)) ∧ w = w' := by
  go_enter Try.func16, Try.ntmps16
  by_cases h : a ≤ n
  · go_wp2
    go_ret
    exact ⟨by simp [wi, h], rfl⟩
  · go_wp2
    go_ret
    exact ⟨by simp [wi]; omega, rfl⟩
theorem rwithin_any (n a b : Int) (w : World) : Calls Try.prog 17 #[.int .i64 n, .int .i64 a, .int .i64 b] w fun e w' => e = .returned (.bool (wi n a b)) ∧ w = w' := by
  go_enter Try.func17, Try.ntmps17
  by_cases h : a ≤ n
  · go_wp2
    go_ret
    exact ⟨by simp [wi, h], rfl⟩
  · go_wp2
    go_ret
    exact ⟨by simp [wi]; omega, rfl⟩
def isP (j p : Int) : Bool := wi j 0 3 && wi p 0 7
theorem isPlace_any (j p : Int) (w : World) : Calls Try.prog 15 #[.int .i64 j, .int .i64 p] w fun e w' => e = .returned (.bool (isP j p)) ∧ w = w' := by
  go_enter Try.func15, Try.ntmps15
  by_cases h : 0 ≤ j ∧ j ≤ 3
  · have e1 := wi_t h
    go_wp2_with fail
    refine (within_any _ _ _ _).mono ?_; rw [e1]; rintro e w' ⟨rfl, rfl⟩
    go_wp2_with fail
    refine (within_any _ _ _ _).mono ?_; rintro e w' ⟨rfl, rfl⟩
    go_wp2
    go_ret
    exact ⟨by simp [isP, e1], rfl⟩
  · have e1 := wi_f h
    go_wp2_with fail
    refine (within_any _ _ _ _).mono ?_; rw [e1]; rintro e w' ⟨rfl, rfl⟩
    go_wp2
    go_ret
    exact ⟨by simp [isP, e1], rfl⟩
/-- The leg that Make gives, and its answer. -/
def mkOk (j p f t n : Int) : Bool := isP j p && wi n 0 1073741824 && wi t 0 600 && wi f 0 t
def sel (b : Bool) (x y : Int) : Int := if b then x else y
theorem sel_t (x y : Int) : sel true x y = x := rfl
theorem sel_f (x y : Int) : sel false x y = y := rfl
theorem make_any (j p f t n : Int) (w : World) : Calls Try.prog 5 #[.int .i64 j, .int .i64 p, .int .i64 f, .int .i64 t, .int .i64 n] w fun e w' =>
    e = .returned (.tuple #[.agg #[.int .i64 (sel (mkOk j p f t n) j 0), .int .i64 (sel (mkOk j p f t n) p 0), .int .i64 (sel (mkOk j p f t n) (n + f) 0), .int .i64 (sel (mkOk j p f t n) (n + t) 0), .int .i64 (sel (mkOk j p f t n) (-1) 0)], .int .i64 (sel (mkOk j p f t n) 0 8)]) ∧ Below w.heap.size w w' := by
  go_enter Try.func5, Try.ntmps5
  go_wp2_with fail
  refine (isPlace_any _ _ _).mono ?_
  by_cases h1 : isP j p = true
  · rw [h1]; rintro e w' ⟨rfl, rfl⟩
    go_wp2_with fail
    refine (within_any _ _ _ _).mono ?_
    by_cases h2 : 0 ≤ n ∧ n ≤ 1073741824
    · have e2 := wi_t h2
      rw [e2]; rintro e w' ⟨rfl, rfl⟩
      go_wp2_with fail
      refine (within_any _ _ _ _).mono ?_
      by_cases h3 : 0 ≤ t ∧ t ≤ 600
      · have e3 := wi_t h3
        rw [e3]; rintro e w' ⟨rfl, rfl⟩
        go_wp2_with fail
        refine (within_any _ _ _ _).mono ?_
        by_cases h4 : 0 ≤ f ∧ f ≤ t
        · have e4 := wi_t h4
          rw [e4]; rintro e w' ⟨rfl, rfl⟩
          go_wp2
          (try simp only [Exit.inBlock, Exit.then]); refine bodyPost_ret (results_cell_tmp rfl rfl (load_leg Blk.new)) rfl ?_
          have E : mkOk j p f t n = true := by simp [mkOk, h1, e2, e3, e4]
          rw [E]
          exact ⟨rfl, lat_alloc (Below.refl _ _) _⟩
        · have e4 := wi_f h4
          rw [e4]; rintro e w' ⟨rfl, rfl⟩
          go_wp2
          (try simp only [Exit.inBlock, Exit.then]); refine bodyPost_ret (results_cell_tmp rfl rfl (load_leg Blk.new)) rfl ?_
          have E : mkOk j p f t n = false := by simp [mkOk, e4]
          rw [E]
          exact ⟨rfl, lat_alloc (Below.refl _ _) _⟩
      · have e3 := wi_f h3
        rw [e3]; rintro e w' ⟨rfl, rfl⟩
        go_wp2
        (try simp only [Exit.inBlock, Exit.then]); refine bodyPost_ret (results_cell_tmp rfl rfl (load_leg Blk.new)) rfl ?_
        have E : mkOk j p f t n = false := by simp [mkOk, e3]
        rw [E]
        exact ⟨rfl, lat_alloc (Below.refl _ _) _⟩
    · have e2 := wi_f h2
      rw [e2]; rintro e w' ⟨rfl, rfl⟩
      go_wp2
      (try simp only [Exit.inBlock, Exit.then]); refine bodyPost_ret (results_cell_tmp rfl rfl (load_leg Blk.new)) rfl ?_
      have E : mkOk j p f t n = false := by simp [mkOk, e2]
      rw [E]
      exact ⟨rfl, lat_alloc (Below.refl _ _) _⟩
  · rw [eq_false_of_ne_true h1]; rintro e w' ⟨rfl, rfl⟩
    go_wp2
    (try simp only [Exit.inBlock, Exit.then]); refine bodyPost_ret (results_cell_tmp rfl rfl (load_leg Blk.new)) rfl ?_
    have E : mkOk j p f t n = false := by simp [mkOk, h1]
    rw [E]
    exact ⟨rfl, lat_alloc (Below.refl _ _) _⟩
theorem live_any (j p f t s n : Int) (w : World) : Calls Try.prog 10 #[.agg #[.int .i64 j, .int .i64 p, .int .i64 f, .int .i64 t, .int .i64 s], .int .i64 n] w fun e w' => e = .returned (.bool (wi n f t)) ∧ Below w.heap.size w w' := by
  go_enter Try.func10, Try.ntmps10
  go_wp2_with fail
  refine (within_any _ _ _ _).mono ?_; rintro e w' ⟨rfl, rfl⟩
  go_wp2
  go_ret
  exact ⟨rfl, lat_alloc (Below.refl _ _) _⟩
/-- The Since of a marked leg. -/
def mkS (f t s n : Int) : Int := if f ≤ n ∧ n ≤ t then (if s = -1 then n else s) else -1
theorem mark_any (j p f t s n : Int) (w : World) : Calls Try.prog 12 #[.agg #[.int .i64 j, .int .i64 p, .int .i64 f, .int .i64 t, .int .i64 s], .int .i64 n] w fun e w' =>
    e = .returned (.agg #[.int .i64 j, .int .i64 p, .int .i64 f, .int .i64 t, .int .i64 (mkS f t s n)]) ∧ Below w.heap.size w w' := by
  go_enter Try.func12, Try.ntmps12
  go_wp2_with fail
  refine (live_any _ _ _ _ _ _ _).mono ?_
  have hb : Below w.heap.size w ((w.alloc (.cells #[.int .i64 j, .int .i64 p, .int .i64 f, .int .i64 t, .int .i64 s] 23)).alloc (.cells #[.int .i64 0, .int .i64 0, .int .i64 0, .int .i64 0, .int .i64 0] 23)) := lat_alloc (lat_alloc (Below.refl _ _) _) _
  have B1 := Blk.alloc (Blk.new (w := w) (t := 23) (cs := #[.int .i64 j, .int .i64 p, .int .i64 f, .int .i64 t, .int .i64 s])) (.cells #[.int .i64 0, .int .i64 0, .int .i64 0, .int .i64 0, .int .i64 0] 23)
  have B2 := Blk.new (w := w.alloc (.cells #[.int .i64 j, .int .i64 p, .int .i64 f, .int .i64 t, .int .i64 s] 23)) (t := 23) (cs := #[.int .i64 0, .int .i64 0, .int .i64 0, .int .i64 0, .int .i64 0])
  rw [heap_size] at B2
  generalize (w.alloc (.cells #[.int .i64 j, .int .i64 p, .int .i64 f, .int .i64 t, .int .i64 s] 23)).alloc (.cells #[.int .i64 0, .int .i64 0, .int .i64 0, .int .i64 0, .int .i64 0] 23) = W at *
  rintro e W1 ⟨rfl, hb1⟩
  have hb2 := hb.trans (hb1.mono hb.size)
  have D1 := B1.below hb1
  have D2 := B2.below hb1
  clear hb hb1 B1 B2
  have hlt := D1.lt
  obtain ⟨c0, c1, c2, c3, c4, f4⟩ := D1.five
  obtain ⟨d0, d1, d2, d3, d4, df0, df1, df2, df3, df4⟩ := D2.fiveF
  clear hlt
  have hne : w.heap.size + 1 ≠ w.heap.size := by omega
  have hle : w.heap.size ≤ w.heap.size + 1 := by omega
  generalize w.heap.size + 1 = g2 at *
  generalize hg1 : w.heap.size = g1 at *
  have G1 := Lib.hid hg1
  clear hg1
  have hsc : ∀ v, Below g1 w (W1.setCell ⟨g1, 4, none⟩ v) := fun v => hb2.setCell (Nat.le_refl _) v
  by_cases h : f ≤ n ∧ n ≤ t
  · rw [wi_t h]
    have H := Lib.hid h
    clear h
    by_cases hs : s = -1
    · subst hs
      go_wp2
      (try simp only [Exit.inBlock, Exit.then]); refine bodyPost_ret (results_cell rfl rfl (load_leg (Blk.set5 (Blk.far D2 hne _) _ _ _ _ _))) rfl ?_
      exact ⟨by simp [mkS, H.out], by rw [G1.out]; exact below_set5 (hsc _) hle _ _ _ _ _⟩
    · have hs' : (s == -1) = false := by simpa using hs
      go_wp2
      (try simp only [Exit.inBlock, Exit.then]); refine bodyPost_ret (results_cell rfl rfl (load_leg (Blk.set5 D2 _ _ _ _ _))) rfl ?_
      exact ⟨by simp [mkS, H.out, hs], by rw [G1.out]; exact below_set5 hb2 hle _ _ _ _ _⟩
  · rw [wi_f h]
    have H := Lib.hid h
    clear h
    go_wp2
    (try simp only [Exit.inBlock, Exit.then]); refine bodyPost_ret (results_cell rfl rfl (load_leg (Blk.set5 (Blk.far D2 hne _) _ _ _ _ _))) rfl ?_
    exact ⟨by rw [mkS, if_neg H.out], by rw [G1.out]; exact below_set5 (hsc _) hle _ _ _ _ _⟩
end Go.Proofs.Ytjalkocflieobaa
