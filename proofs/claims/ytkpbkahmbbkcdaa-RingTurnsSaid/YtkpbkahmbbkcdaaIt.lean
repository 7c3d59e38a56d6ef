/-
  The first control of a junction. Conditions: at least one phase.
-/
import Derived.Test.YtkpbkahmbbkcdaaCp
namespace Go.Proofs.Ytkpbkahmbbkcdaa
open Go.ChangeShapes Go.WideShapes Go.RowKit
set_option linter.unusedVariables false

theorem prAt_rep {n i : Nat} (h : i < n) : prAt (List.replicate n ((0, 0) : Int × Int)) i = (0, 0) := by simp [prAt, h]
def initC (P : List Ph) (n : Nat) (st : Int) : Ct := ⟨List.replicate n (0, 0), 0, nxL P n 0 2, st⟩
set_option maxRecDepth 20000 in
set_option maxHeartbeats 2000000 in
theorem init_any (A B : Option Addr) (cP d n m : Nat) (P : List Ph) (st : Int) (w : World) (hn : P.length = n) (hP : Phs w w.heap.size A P) (h1 : 0 < n) (h8 : n ≤ 60) :
    Calls Try.prog 23 #[.agg #[.slice A n cP, .slice B m d, .int .i64 st]] w fun e w' => ∃ v, e = .returned v ∧ Below w.heap.size w w' ∧ CtH w' w.heap.size n v (initC P n st) := by
  have HN := Lib.hid hn
  clear hn
  obtain ⟨ZA, hZA, hmake⟩ := make_li n (by omega)
  have bW := lat_alloc (lat_alloc (Below.refl w.heap.size w) (.cells #[.slice A n cP, .slice B m d, .int .i64 st] 30)) (.cells #[.slice none 0 0, .int .i64 0, .slice none 0 0, .int .i64 0] 25)
  have B1 := (Blk.new (w := w) (t := 30) (cs := #[.slice A n cP, .slice B m d, .int .i64 st])).alloc (.cells #[.slice none 0 0, .int .i64 0, .slice none 0 0, .int .i64 0] 25)
  have B2 := Blk.new (w := w.alloc (.cells #[.slice A n cP, .slice B m d, .int .i64 st] 30)) (t := 25) (cs := #[.slice none 0 0, .int .i64 0, .slice none 0 0, .int .i64 0])
  rw [heap_size] at B2
  have hP1 := hP.grow bW
  go_enter Try.func23, Try.ntmps23
  go_wp2_with fail
  generalize (w.alloc (.cells #[.slice A n cP, .slice B m d, .int .i64 st] 30)).alloc (.cells #[.slice none 0 0, .int .i64 0, .slice none 0 0, .int .i64 0] 25) = W at *
  have hgg : w.heap.size + 1 < W.heap.size := B2.lt
  refine wp_region_pre (R := Bl) 8 14 [fun v _ => v = .pointer (some ⟨w.heap.size, 0, none⟩), fun v _ => v = .slice A n cP, fun v _ => v = .int .i64 n, fun v w => ∃ g : Nat, v = .slice (some ⟨g, 0, none⟩) n n ∧ LiB w g (List.replicate n (0, 0)) ∧ W.heap.size ≤ g, fun v _ => v = .pointer (some ⟨w.heap.size, 2, none⟩), fun v _ => v = .int .i64 st, fun v w => ∃ g : Nat, v = .agg #[.slice (some ⟨g, 0, none⟩) n n, .int .i64 0, .slice none 0 0, .int .i64 st] ∧ LiB w g (List.replicate n (0, 0)) ∧ W.heap.size ≤ g, fun v w => ∃ b : Nat, v = .pointer (some ⟨b, 0, none⟩) ∧ Blk w b 25 #[.slice none 0 0, .int .i64 0, .slice none 0 0, .int .i64 0] ∧ W.heap.size ≤ b] (Bl.trans) (Bl.drew) (by kernel_rfl) (fun _ _ d _ _ h => by cases d <;> exact h) rfl (by kernel_rfl) (stay_cons (stays_v _) (stay_cons (stays_v _) (stay_cons (stays_v _) (stay_cons (fun v w w1 h hb => by obtain ⟨g, h1, h2, h3⟩ := h; exact ⟨g, h1, h2.below hb, h3⟩) (stay_cons (stays_v _) (stay_cons (stays_v _) (stay_cons (fun v w w1 h hb => by obtain ⟨g, h1, h2, h3⟩ := h; exact ⟨g, h1, h2.below hb, h3⟩) (stay_cons (fun v w w1 h hb => by obtain ⟨g, h1, h2, h3⟩ := h; exact ⟨g, h1, h2.below hb, h3⟩) (stay_nil))))))))) ?_ ?_
  · simp only [List.take_succ_cons, List.take_zero]
    refine steps_cons (Bl.refl) (fun ev xw hb hc hf hfr hd hr => ?_) ?_
    · have e1 : ev (.tmp 1) = .pointer (some ⟨w.heap.size, 0, none⟩) := hfr 1 (by kernel_rfl)
      clear hfr hd
      show OpOk _ _ ev xw fun v w' => Bl xw w' ∧ (v = .pointer (some ⟨w.heap.size, 0, none⟩))
      refine opOk_hid (fun Rp HR => ?_)
      unfold OpOk
      go_simp
      rw [HR.out]
      exact ⟨hr, rfl⟩
    refine steps_cons (Bl.refl) (fun ev xw hb hc hf hfr hd hr => ?_) ?_
    · have e4 : ev (.tmp 4) = .pointer (some ⟨w.heap.size, 0, none⟩) := hd 0 4 (by kernel_rfl)
      clear hfr hd
      have k0 := (B1.below hb).at 0 rfl
      show OpOk _ _ ev xw fun v w' => Bl xw w' ∧ (v = .slice A n cP)
      refine opOk_hid (fun Rp HR => ?_)
      unfold OpOk
      go_simp
      rw [HR.out]
      exact ⟨hr, rfl⟩
    refine steps_cons (Bl.refl) (fun ev xw hb hc hf hfr hd hr => ?_) ?_
    · have e5 : ev (.tmp 5) = .slice A n cP := hd 1 5 (by kernel_rfl)
      clear hfr hd
      show OpOk _ _ ev xw fun v w' => Bl xw w' ∧ (v = .int .i64 n)
      refine opOk_hid (fun Rp HR => ?_)
      unfold OpOk
      go_simp
      rw [HR.out]
      exact ⟨hr, rfl⟩
    refine steps_cons (Bl.refl) (fun ev xw hb hc hf hfr hd hr => ?_) ?_
    · have e6 : ev (.tmp 6) = .int .i64 n := hd 2 6 (by kernel_rfl)
      clear hfr hd
      have hmk := hmake xw
      show OpOk _ _ ev xw fun v w' => Bl xw w' ∧ (∃ g : Nat, v = .slice (some ⟨g, 0, none⟩) n n ∧ LiB w' g (List.replicate n (0, 0)) ∧ W.heap.size ≤ g)
      refine opOk_hid (fun Rp HR => ?_)
      unfold OpOk
      go_simp
      rw [HR.out]
      exact ⟨lat_alloc (Below.refl _ _) _, _, rfl, ⟨_, Blk.new, fun i hi => by rw [List.length_replicate] at hi; have := hZA i hi; rw [prAt_rep hi]; exact this⟩, Below.size hb⟩
    refine steps_cons (Bl.refl) (fun ev xw hb hc hf hfr hd hr => ?_) ?_
    · have e1 : ev (.tmp 1) = .pointer (some ⟨w.heap.size, 0, none⟩) := hfr 1 (by kernel_rfl)
      clear hfr hd
      show OpOk _ _ ev xw fun v w' => Bl xw w' ∧ (v = .pointer (some ⟨w.heap.size, 2, none⟩))
      refine opOk_hid (fun Rp HR => ?_)
      unfold OpOk
      go_simp
      rw [HR.out]
      exact ⟨hr, rfl⟩
    refine steps_cons (Bl.refl) (fun ev xw hb hc hf hfr hd hr => ?_) ?_
    · have e8 : ev (.tmp 8) = .pointer (some ⟨w.heap.size, 2, none⟩) := hd 4 8 (by kernel_rfl)
      clear hfr hd
      have k2 := (B1.below hb).at 2 rfl
      show OpOk _ _ ev xw fun v w' => Bl xw w' ∧ (v = .int .i64 st)
      refine opOk_hid (fun Rp HR => ?_)
      unfold OpOk
      go_simp
      rw [HR.out]
      exact ⟨hr, rfl⟩
    refine steps_cons (Bl.refl) (fun ev xw hb hc hf hfr hd hr => ?_) ?_
    · obtain ⟨gl, e7, L7, l7⟩ : ∃ g : Nat, ev (.tmp 7) = .slice (some ⟨g, 0, none⟩) n n ∧ LiB xw g (List.replicate n (0, 0)) ∧ W.heap.size ≤ g := hd 3 7 (by kernel_rfl)
      have e9 : ev (.tmp 9) = .int .i64 st := hd 5 9 (by kernel_rfl)
      clear hfr hd
      show OpOk _ _ ev xw fun v w' => Bl xw w' ∧ (∃ g : Nat, v = .agg #[.slice (some ⟨g, 0, none⟩) n n, .int .i64 0, .slice none 0 0, .int .i64 st] ∧ LiB w' g (List.replicate n (0, 0)) ∧ W.heap.size ≤ g)
      refine opOk_hid (fun Rp HR => ?_)
      unfold OpOk
      go_simp
      rw [HR.out]
      exact ⟨hr, gl, rfl, L7, l7⟩
    refine steps_cons (Bl.refl) (fun ev xw hb hc hf hfr hd hr => ?_) ?_
    · clear hfr hd
      show OpOk _ _ ev xw fun v w' => Bl xw w' ∧ (∃ b : Nat, v = .pointer (some ⟨b, 0, none⟩) ∧ Blk w' b 25 #[.slice none 0 0, .int .i64 0, .slice none 0 0, .int .i64 0] ∧ W.heap.size ≤ b)
      refine opOk_hid (fun Rp HR => ?_)
      unfold OpOk
      go_simp
      rw [HR.out]
      exact ⟨lat_alloc (Below.refl _ _) _, _, rfl, Blk.new, Below.size hb⟩
    exact steps_nil
  · intro vs W5 hb5 hk
    obtain ⟨gl, k1, L5, l5⟩ : ∃ g : Nat, vs 6 = .agg #[.slice (some ⟨g, 0, none⟩) n n, .int .i64 0, .slice none 0 0, .int .i64 st] ∧ LiB W5 g (List.replicate n (0, 0)) ∧ W.heap.size ≤ g := hk 6 (by omega)
    obtain ⟨b, k2, X5, l3⟩ : ∃ b : Nat, vs 7 = .pointer (some ⟨b, 0, none⟩) ∧ Blk W5 b 25 #[.slice none 0 0, .int .i64 0, .slice none 0 0, .int .i64 0] ∧ W.heap.size ≤ b := hk 7 (by omega)
    clear hk
    simp only [List.take_succ_cons, List.take_zero, List.drop_succ_cons, List.drop_zero, putAll, Act.put, List.setIfInBounds_toArray, List.set_cons_zero, List.set_cons_succ, k1, k2, Nat.reduceAdd]
    have X2 := B2.below hb5
    have hgl5 := L5.lt
    have hlb : gl ≠ b := fun e => by
      obtain ⟨cs, hB, _⟩ := L5
      rw [e] at hB
      have := hB.symm.trans X5
      injection this with this; injection this with _ this; exact absurd this (by decide)
    refine step_store_ct (by rfl) (by rfl) (by rfl) (b := b) (by rfl) (by rfl) X5 ?_
    intro w6 Y6 hg6
    have L6 := L5.grown hg6 (by intro e; injection e with e; exact hlb e.symm)
    have Z6 := X2.grown hg6 (by intro e; injection e with e; omega)
    have B16 := (B1.below hb5).grown hg6 (by intro e; injection e with e; omega)
    have hF6 : Below W.heap.size W w6 := Below.grown hb5 hg6 (Below.size hb5) (fun k e => by injection e with e; omega)
    have hb6 := Y6.lt
    unfold wpList
    have j0 := B16.at 0 rfl
    have j1 := B16.at 1 rfl
    have j2 := B16.at 2 rfl
    go_wp2_with fail
    refine (enter_any A B cP d n m b P st 0 0 st (.slice (some ⟨gl, 0, none⟩) n n) (.slice none 0 0) w6 HN.out (hP1.grow hF6) h8 Y6).mono ?_
    rintro e w7 ⟨v7, gx, cx, rfl, hg7, hgx, Y7, own7⟩
    clear j0 j1 j2
    have L7 := L6.grown hg7 (by intro e; injection e with e; exact hlb e.symm)
    have Z7 := Z6.grown hg7 (by intro e; injection e with e; omega)
    have N7 := own7.nxb (nxL_len P n 0 2)
    have hF7 : Below W.heap.size W w7 := Below.grown hF6 hg7 (Below.size hF6) (fun k e => by injection e with e; omega)
    have hs6 := Below.size hF6
    have y0 := Y7.at 0 rfl
    have y1 := Y7.at 1 rfl
    have y2 := Y7.at 2 rfl
    have y3 := Y7.at 3 rfl
    go_wp2_with (refine step_store_ct (by rfl) (by rfl) (by rfl) (b := w.heap.size + 1) (by rfl) (by rfl) Z7 ?_; intro w8 Z8 hg8)
    refine bodyPost_ret (results_cell rfl rfl (load_control Z8)) rfl ?_
    have hF8 : Below w.heap.size w w8 := Below.grown (bW.trans (Below.mono hF7 bW.size)) hg8 (Below.size (bW.trans (Below.mono hF7 bW.size))) (fun k e => by injection e with e; omega)
    exact ⟨_, rfl, hF8, gl, n, gx, cx, rfl, by omega, by omega, L7.grown hg8 (by intro e; injection e with e; omega), N7.grown hg8 (by intro e; injection e with e; omega)⟩
end Go.Proofs.Ytkpbkahmbbkcdaa
