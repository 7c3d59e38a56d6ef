/-
  The phase and the light of a law, and the sanity check. Conditions: none.
-/
import Derived.Test.YtdcifiinhnilbaaLa
namespace Go.Proofs.Ytdcifiinhnilbaa
open Go.ChangeShapes Go.WideShapes Go.RowKit
set_option linter.unusedVariables false

set_option maxHeartbeats 1000000 in
theorem phase_any (A : Option Addr) (c : Nat) (l : List Int) (n : Int) (w : World) (hs : Ints .i64 w w.heap.size A l) (hn : Nums l) (hl : l.length ≤ 9223372036854775807) (n0 : -9223372036854775808 ≤ n) (n1 : n ≤ 9223372036854775807) :
    Calls Try.prog 7 #[.slice A l.length c, .int .i64 n] w fun e w' => Below w.heap.size w w' ∧ ∃ p : Ph, PhOk p ∧ e = .returned (.agg #[.int .i64 p.ri, .int .i64 p.gr, .int .i64 p.mn, .int .i64 p.mx, .int .i64 p.yl, .int .i64 p.rd, .int .i64 p.wk, .int .i64 p.cl]) := by
  have bZ := lat_alloc (Below.refl w.heap.size w) (.cells #[.int .i64 0, .int .i64 0, .int .i64 0, .int .i64 0, .int .i64 0, .int .i64 0, .int .i64 0, .int .i64 0] 26)
  have hs1 := hs.grow bZ
  have Bz0 := Blk.new (w := w) (t := 26) (cs := #[.int .i64 0, .int .i64 0, .int .i64 0, .int .i64 0, .int .i64 0, .int .i64 0, .int .i64 0, .int .i64 0])
  have hsz := heap_size w (.cells #[.int .i64 0, .int .i64 0, .int .i64 0, .int .i64 0, .int .i64 0, .int .i64 0, .int .i64 0, .int .i64 0] 26)
  go_enter Try.func7, Try.ntmps7
  go_wp2_with fail
  refine (new_ok A l c _ hs1 hn hl).mono ?_
  rintro e w2 ⟨rfl, hdk, hb2, hlt2⟩
  rw [hsz] at hdk
  have Bz2 := Bz0.below hb2
  have bW2 := bZ.trans (hb2.mono bZ.size)
  clear bZ hs1 Bz0 hb2
  rw [hsz] at hlt2
  clear hsz
  go_wp2_with fail
  refine (junction_any (w.heap.size + 1) w2 hdk).mono ?_
  rintro e w3 ⟨hgr, hdk3, q, st, ex, P, A1, B1, c1, d1, rfl, hj, hP, hI, hA1, hB1⟩
  have hP8 : 1 ≤ P.length ∧ P.length ≤ 8 := by have h1 := hj.len; have h2 := shapeL_len q; omega
  have hm := modI_bd n P.length (by omega)
  obtain ⟨k, HK0⟩ := Int.eq_ofNat_of_zero_le hm.1
  have HK := Lib.hid HK0
  have hkl : (k : Int) < P.length := by rw [← HK0]; exact hm.2
  clear HK0 hm
  have hpok := hj.ok _ (phAt_mem (show k < P.length by omega))
  obtain ⟨b, off, rfl, hbB, hcells⟩ := hP.at (show k < P.length by omega)
  generalize phAt P k = p at *
  have Bz3 := hgr.blk Bz2 (by omega)
  have bW3 := hgr.base bW2 (by omega)
  have bA := lat_alloc (Below.refl w3.heap.size w3) (.cells #[.slice (some ⟨b, off, none⟩) P.length c1, .slice B1 P.length d1, .int .i64 st] 43)
  have BJ0 := Blk.new (w := w3) (t := 43) (cs := #[.slice (some ⟨b, off, none⟩) P.length c1, .slice B1 P.length d1, .int .i64 st])
  have Bz := Bz3.below bA
  have bW4 := bW3.trans (bA.mono bW3.size)
  have hcells := hcells.block (bA.block _ hbB)
  have hbW : b < (w3.alloc (.cells #[.slice (some ⟨b, off, none⟩) P.length c1, .slice B1 P.length d1, .int .i64 st] 43)).heap.size := Nat.lt_of_lt_of_le hbB bA.size
  go_wp2_with fail
  generalize w3.alloc (.cells #[.slice (some ⟨b, off, none⟩) P.length c1, .slice B1 P.length d1, .int .i64 st] 43) = W4 at *
  generalize hjj : w3.heap.size = j at *
  have BJ := BJ0
  clear hjj
  refine wp_region_pre (R := Bl) 9 18 [fun v _ => v = .pointer (some ⟨j, 0, none⟩), fun v _ => v = .slice (some ⟨b, off, none⟩) P.length c1, fun v _ => v = .int .i64 n, fun v _ => v = .pointer (some ⟨j, 0, none⟩), fun v _ => v = .slice (some ⟨b, off, none⟩) P.length c1, fun v _ => v = .int .i64 P.length, fun v _ => v = .int .i64 k, fun v _ => v = .pointer (some ⟨b, off + k * 8, none⟩), fun v _ => v = .agg #[.int .i64 p.ri, .int .i64 p.gr, .int .i64 p.mn, .int .i64 p.mx, .int .i64 p.yl, .int .i64 p.rd, .int .i64 p.wk, .int .i64 p.cl]] (Bl.trans) (Bl.drew) (by kernel_rfl) (fun _ _ d _ _ h => by cases d <;> exact h) rfl (by kernel_rfl) (stay_cons (stays_v _) (stay_cons (stays_v _) (stay_cons (stays_v _) (stay_cons (stays_v _) (stay_cons (stays_v _) (stay_cons (stays_v _) (stay_cons (stays_v _) (stay_cons (stays_v _) (stay_cons (stays_v _) (stay_nil)))))))))) ?_ ?_
  · simp only [List.take_succ_cons, List.take_zero]
    refine steps_cons (Bl.refl) (fun ev xw hb hc hf hfr hd hr => ?_) ?_
    · have e5 : ev (.tmp 5) = .pointer (some ⟨j, 0, none⟩) := hfr 5 (by kernel_rfl)
      clear hfr hd
      show OpOk _ _ ev xw fun v w' => Bl xw w' ∧ v = .pointer (some ⟨j, 0, none⟩)
      refine opOk_hid (fun Rp HR => ?_)
      unfold OpOk
      go_simp
      rw [HR.out]
      exact ⟨hr, rfl⟩
    refine steps_cons (Bl.refl) (fun ev xw hb hc hf hfr hd hr => ?_) ?_
    · have e9 : ev (.tmp 9) = .pointer (some ⟨j, 0, none⟩) := hd 0 9 (by kernel_rfl)
      clear hfr hd
      have k9 := (BJ.below hb).at 0 rfl
      show OpOk _ _ ev xw fun v w' => Bl xw w' ∧ v = .slice (some ⟨b, off, none⟩) P.length c1
      refine opOk_hid (fun Rp HR => ?_)
      unfold OpOk
      go_simp
      rw [HR.out]
      exact ⟨hr, rfl⟩
    refine steps_cons (Bl.refl) (fun ev xw hb hc hf hfr hd hr => ?_) ?_
    · have e1 : ev (.tmp 1) = .int .i64 n := hfr 1 (by kernel_rfl)
      clear hfr hd
      show OpOk _ _ ev xw fun v w' => Bl xw w' ∧ v = .int .i64 n
      refine opOk_hid (fun Rp HR => ?_)
      unfold OpOk
      go_simp
      rw [HR.out]
      exact ⟨hr, rfl⟩
    refine steps_cons (Bl.refl) (fun ev xw hb hc hf hfr hd hr => ?_) ?_
    · have e5 : ev (.tmp 5) = .pointer (some ⟨j, 0, none⟩) := hfr 5 (by kernel_rfl)
      clear hfr hd
      show OpOk _ _ ev xw fun v w' => Bl xw w' ∧ v = .pointer (some ⟨j, 0, none⟩)
      refine opOk_hid (fun Rp HR => ?_)
      unfold OpOk
      go_simp
      rw [HR.out]
      exact ⟨hr, rfl⟩
    refine steps_cons (Bl.refl) (fun ev xw hb hc hf hfr hd hr => ?_) ?_
    · have e12 : ev (.tmp 12) = .pointer (some ⟨j, 0, none⟩) := hd 3 12 (by kernel_rfl)
      clear hfr hd
      have k9 := (BJ.below hb).at 0 rfl
      show OpOk _ _ ev xw fun v w' => Bl xw w' ∧ v = .slice (some ⟨b, off, none⟩) P.length c1
      refine opOk_hid (fun Rp HR => ?_)
      unfold OpOk
      go_simp
      rw [HR.out]
      exact ⟨hr, rfl⟩
    refine steps_cons (Bl.refl) (fun ev xw hb hc hf hfr hd hr => ?_) ?_
    · have e13 : ev (.tmp 13) = .slice (some ⟨b, off, none⟩) P.length c1 := hd 4 13 (by kernel_rfl)
      clear hfr hd
      show OpOk _ _ ev xw fun v w' => Bl xw w' ∧ v = .int .i64 P.length
      refine opOk_hid (fun Rp HR => ?_)
      unfold OpOk
      go_simp
      rw [HR.out]
      exact ⟨hr, rfl⟩
    refine steps_cons (Bl.refl) (fun ev xw hb hc hf hfr hd hr => ?_) ?_
    · have e11 : ev (.tmp 11) = .int .i64 n := hd 2 11 (by kernel_rfl)
      have e14 : ev (.tmp 14) = .int .i64 P.length := hd 5 14 (by kernel_rfl)
      clear hfr hd
      show OpOk _ _ ev xw fun v w' => Bl xw w' ∧ v = .int .i64 k
      refine opOk_hid (fun Rp HR => ?_)
      unfold OpOk
      go_simp
      refine (mod_q n P.length (by omega) (by omega) n0 n1 xw).mono ?_
      rintro e w'' ⟨rfl, rfl⟩
      refine ⟨_, rfl, ?_⟩
      rw [HR.out]
      exact ⟨hr, by rw [HK.out]⟩
    refine steps_cons (Bl.refl) (fun ev xw hb hc hf hfr hd hr => ?_) ?_
    · have e10 : ev (.tmp 10) = .slice (some ⟨b, off, none⟩) P.length c1 := hd 1 10 (by kernel_rfl)
      have e15 : ev (.tmp 15) = .int .i64 k := hd 6 15 (by kernel_rfl)
      clear hfr hd
      show OpOk _ _ ev xw fun v w' => Bl xw w' ∧ v = .pointer (some ⟨b, off + k * 8, none⟩)
      refine opOk_hid (fun Rp HR => ?_)
      unfold OpOk
      go_simp
      rw [HR.out]
      exact ⟨hr, rfl⟩
    refine steps_cons (Bl.refl) (fun ev xw hb hc hf hfr hd hr => ?_) ?_
    · have e16 : ev (.tmp 16) = .pointer (some ⟨b, off + k * 8, none⟩) := hd 7 16 (by kernel_rfl)
      clear hfr hd
      obtain ⟨m0, m1, m2, m3, m4, m5, m6, m7⟩ := hcells.block (Below.block hb _ hbW)
      show OpOk _ _ ev xw fun v w' => Bl xw w' ∧ v = .agg #[.int .i64 p.ri, .int .i64 p.gr, .int .i64 p.mn, .int .i64 p.mx, .int .i64 p.yl, .int .i64 p.rd, .int .i64 p.wk, .int .i64 p.cl]
      refine opOk_hid (fun Rp HR => ?_)
      unfold OpOk
      go_simp
      rw [HR.out]
      exact ⟨hr, rfl⟩
    exact steps_nil
  · intro vs W5 hb5 hk
    have k17 : vs 8 = .agg #[.int .i64 p.ri, .int .i64 p.gr, .int .i64 p.mn, .int .i64 p.mx, .int .i64 p.yl, .int .i64 p.rd, .int .i64 p.wk, .int .i64 p.cl] := hk 8 (by omega)
    clear hk
    simp only [List.take_succ_cons, List.take_zero, List.drop_succ_cons, List.drop_zero, putAll, Act.put, List.setIfInBounds_toArray, List.set_cons_zero, List.set_cons_succ, k17, Nat.reduceAdd, Nat.reduceSub]
    clear k17
    have Bz5 := Bz.below hb5
    have o0 := Bz5.at 0 rfl
    have o1 := Bz5.at 1 rfl
    have o2 := Bz5.at 2 rfl
    have o3 := Bz5.at 3 rfl
    have o4 := Bz5.at 4 rfl
    have o5 := Bz5.at 5 rfl
    have o6 := Bz5.at 6 rfl
    have o7 := Bz5.at 7 rfl
    have f0 := Bz5.frozen 0
    have f1 := Bz5.frozen 1
    have f2 := Bz5.frozen 2
    have f3 := Bz5.frozen 3
    have f4 := Bz5.frozen 4
    have f5 := Bz5.frozen 5
    have f6 := Bz5.frozen 6
    have f7 := Bz5.frozen 7
    go_wp2
    (try simp only [Exit.inBlock, Exit.then]); refine bodyPost_ret (results_cell rfl rfl (load_phase (Bz5.set8 _ _ _ _ _ _ _ _))) rfl ?_
    exact ⟨(bW4.trans (Below.mono hb5 bW4.size)).grown (grown8 W5 w.heap.size _ _ _ _ _ _ _ _) (by have := (bW4.trans (Below.mono hb5 bW4.size)).size; omega) (fun k e => by injection e with e; omega), p, hpok, rfl⟩

/-- A valid light of a phase. -/
def LiOk (p : Ph) (lm tk : Int) : Prop := (lm = 1 ∧ 0 ≤ tk ∧ tk ≤ 1073741824) ∨ (lm = 2 ∧ 0 ≤ tk ∧ tk < p.yl) ∨ (lm = 3 ∧ 0 ≤ tk ∧ tk < p.rd) ∨ (lm = 0 ∧ tk = 0)

theorem LiOk.bd {p : Ph} {lm tk : Int} (hp : PhOk p) (h : LiOk p lm tk) : 0 ≤ lm ∧ lm ≤ 3 ∧ 0 ≤ tk ∧ tk ≤ 1073741824 := by
  have := hp.yl
  have := hp.rd
  unfold LiOk at h
  omega
theorem tdiv_bd (n m : Int) (h : 0 < m) (n0 : -9223372036854775808 ≤ n) (n1 : n ≤ 9223372036854775807) : -9223372036854775808 ≤ n.tdiv m ∧ n.tdiv m ≤ 9223372036854775807 := by
  rcases Int.le_total 0 n with h0 | h0
  · rw [Int.tdiv_eq_ediv_of_nonneg h0]
    have h1 := Int.ediv_nonneg h0 (by omega : 0 ≤ m)
    have h2 := Int.ediv_le_self m h0
    omega
  · have e : n.tdiv m = -((-n).tdiv m) := by rw [Int.neg_tdiv, Int.neg_neg]
    have h3 : 0 ≤ -n := by omega
    rw [e, Int.tdiv_eq_ediv_of_nonneg h3]
    have h1 := Int.ediv_nonneg h3 (by omega : 0 ≤ m)
    have h2 := Int.ediv_le_self m h3
    omega
theorem load_new1 {w : World} {ph : Obj} {a b : Value} : (loadVar 23 ⟨w.heap.size + 1, 0, none⟩).run Try.prog ((w.alloc ph).alloc (.cells #[a, b] 23)) = .ok (.agg #[a, b]) ((w.alloc ph).alloc (.cells #[a, b] 23)) := by
  have B := Blk.new (w := w.alloc ph) (t := 23) (cs := #[a, b])
  rw [heap_size] at B
  exact load_light B
theorem load_new2 {w : World} {ph x : Obj} {a b : Value} : (loadVar 23 ⟨w.heap.size + 1, 0, none⟩).run Try.prog (((w.alloc ph).alloc (.cells #[a, b] 23)).alloc x) = .ok (.agg #[a, b]) (((w.alloc ph).alloc (.cells #[a, b] 23)).alloc x) := by
  have B := (Blk.new (w := w.alloc ph) (t := 23) (cs := #[a, b])).alloc x
  rw [heap_size] at B
  exact load_light B
set_option maxHeartbeats 1000000 in
theorem light_any (p : Ph) (n : Int) (w : World) (hp : PhOk p) (n0 : -9223372036854775808 ≤ n) (n1 : n ≤ 9223372036854775807) :
    Calls Try.prog 8 #[.agg #[.int .i64 p.ri, .int .i64 p.gr, .int .i64 p.mn, .int .i64 p.mx, .int .i64 p.yl, .int .i64 p.rd, .int .i64 p.wk, .int .i64 p.cl], .int .i64 n] w fun e w' => Below w.heap.size w w' ∧ ∃ lm tk : Int, LiOk p lm tk ∧ e = .returned (.agg #[.int .i64 lm, .int .i64 tk]) := by
  have hy := hp.yl
  have hr := hp.rd
  have bPx : ∀ a b : Value, Below w.heap.size w ((w.alloc (.cells #[.int .i64 p.ri, .int .i64 p.gr, .int .i64 p.mn, .int .i64 p.mx, .int .i64 p.yl, .int .i64 p.rd, .int .i64 p.wk, .int .i64 p.cl] 26)).alloc (.cells #[a, b] 23)) := fun a b => lat_alloc (lat_alloc (Below.refl w.heap.size w) (.cells #[.int .i64 p.ri, .int .i64 p.gr, .int .i64 p.mn, .int .i64 p.mx, .int .i64 p.yl, .int .i64 p.rd, .int .i64 p.wk, .int .i64 p.cl] 26)) (.cells #[a, b] 23)
  have q4 := tdiv_bd n 4 (by omega) n0 n1
  have q64 := tdiv_bd n 64 (by omega) n0 n1
  go_enter Try.func8, Try.ntmps8
  go_wp2_with fail
  refine (mod_q (n) 4 (by omega) (by omega) (by omega) (by omega) _).mono ?_
  rintro e w' ⟨rfl, rfl⟩
  have hm0 := modI_bd (n) 4 (by omega)
  generalize modI (n) 4 = x at *

  have hc : x = 0 ∨ x = 1 ∨ x = 2 ∨ x = 3 := by omega
  clear hm0
  rcases hc with rfl | rfl | rfl | rfl
  · skip
    go_wp2_with fail
    refine (mod_q (n.tdiv 4) 8 (by omega) (by omega) (by omega) (by omega) _).mono ?_
    rintro e w' ⟨rfl, rfl⟩
    have hm1 := modI_bd (n.tdiv 4) 8 (by omega)
    generalize modI (n.tdiv 4) 8 = y at *
    go_wp2_with fail
    refine (mod_q (n.tdiv 4) 2 (by omega) (by omega) (by omega) (by omega) _).mono ?_
    rintro e w' ⟨rfl, rfl⟩
    have hm2 := modI_bd (n.tdiv 4) 2 (by omega)
    generalize modI (n.tdiv 4) 2 = z at *
    have hz : IntKind.i64.wrap (1073741824 - z) = 1073741824 - z := by rw [IntKind.wrap_i64]; omega
    go_wp2_with fail
    refine (mod_q (n.tdiv 64) 9 (by omega) (by omega) (by omega) (by omega) _).mono ?_
    rintro e w' ⟨rfl, rfl⟩
    have hm3 := modI_bd (n.tdiv 64) 9 (by omega)
    generalize modI (n.tdiv 64) 9 = u at *
    by_cases hu : u = 8
    · subst hu
      go_wp2
      (try simp only [Exit.inBlock, Exit.then]); refine bodyPost_ret (results_cell rfl rfl load_new2) rfl ?_
      exact ⟨lat_alloc (bPx _ _) _, 1, 1073741824 - z, .inl ⟨rfl, by omega⟩, rfl⟩
    · have e8 : u.tdiv 8 = 0 := by rw [Int.tdiv_eq_ediv_of_nonneg hm3.1]; omega
      clear hu
      go_wp2
      (try simp only [Exit.inBlock, Exit.then]); refine bodyPost_ret (results_cell rfl rfl load_new2) rfl ?_
      exact ⟨lat_alloc (bPx _ _) _, 1, y, .inl ⟨rfl, by omega⟩, rfl⟩
  · skip
    go_wp2_with fail
    refine (mod_q (n.tdiv 4) p.yl (by omega) (by omega) (by omega) (by omega) _).mono ?_
    rintro e w' ⟨rfl, rfl⟩
    have hm1 := modI_bd (n.tdiv 4) p.yl (by omega)
    generalize modI (n.tdiv 4) p.yl = y at *

    go_wp2
    (try simp only [Exit.inBlock, Exit.then]); refine bodyPost_ret (results_cell rfl rfl load_new1) rfl ?_
    exact ⟨bPx _ _, 2, y, .inr (.inl ⟨rfl, hm1⟩), rfl⟩
  · by_cases h4 : 0 < p.rd
    · skip
      go_wp2_with fail
      refine (mod_q (n.tdiv 4) p.rd (by omega) (by omega) (by omega) (by omega) _).mono ?_
      rintro e w' ⟨rfl, rfl⟩
      have hm1 := modI_bd (n.tdiv 4) p.rd (by omega)
      generalize modI (n.tdiv 4) p.rd = y at *

      go_wp2
      (try simp only [Exit.inBlock, Exit.then]); refine bodyPost_ret (results_cell rfl rfl load_new1) rfl ?_
      exact ⟨bPx _ _, 3, y, .inr (.inr (.inl ⟨rfl, hm1⟩)), rfl⟩
    · skip
      go_wp2
      (try simp only [Exit.inBlock, Exit.then]); refine bodyPost_ret (results_cell rfl rfl load_new1) rfl ?_
      exact ⟨bPx _ _, 0, 0, .inr (.inr (.inr ⟨rfl, rfl⟩)), rfl⟩
  · skip
    go_wp2
    (try simp only [Exit.inBlock, Exit.then]); refine bodyPost_ret (results_cell rfl rfl load_new1) rfl ?_
    exact ⟨bPx _ _, 0, 0, .inr (.inr (.inr ⟨rfl, rfl⟩)), rfl⟩
theorem p0_ok : PhOk ⟨0, 0, 2, 2, 1, 0, 0, 0⟩ := ⟨by decide, by decide, by decide, by decide, by decide⟩
theorem aw1 (w : World) : Calls Try.prog 16 #[.agg #[.int .i64 0, .int .i64 0, .int .i64 2, .int .i64 2, .int .i64 1, .int .i64 0, .int .i64 0, .int .i64 0], .agg #[.int .i64 1, .int .i64 0], .bool true] w fun e w' => e = .returned (.agg #[.int .i64 1, .int .i64 1]) ∧ Below w.heap.size w w' :=
  (step_any ⟨0, 0, 2, 2, 1, 0, 0, 0⟩ 1 0 true w p0_ok (by omega)).mono fun e w' h => by
    have S : stepV ⟨0, 0, 2, 2, 1, 0, 0, 0⟩ 1 0 true = (1, 1) := by decide
    rw [S] at h
    exact h
theorem aw2 (w : World) : Calls Try.prog 16 #[.agg #[.int .i64 0, .int .i64 0, .int .i64 2, .int .i64 2, .int .i64 1, .int .i64 0, .int .i64 0, .int .i64 0], .agg #[.int .i64 1, .int .i64 1], .bool true] w fun e w' => e = .returned (.agg #[.int .i64 2, .int .i64 0]) ∧ Below w.heap.size w w' :=
  (step_any ⟨0, 0, 2, 2, 1, 0, 0, 0⟩ 1 1 true w p0_ok (by omega)).mono fun e w' h => by
    have S : stepV ⟨0, 0, 2, 2, 1, 0, 0, 0⟩ 1 1 true = (2, 0) := by decide
    rw [S] at h
    exact h
theorem aw3 (w : World) : Calls Try.prog 16 #[.agg #[.int .i64 0, .int .i64 0, .int .i64 2, .int .i64 2, .int .i64 1, .int .i64 0, .int .i64 0, .int .i64 0], .agg #[.int .i64 2, .int .i64 0], .bool true] w fun e w' => e = .returned (.agg #[.int .i64 0, .int .i64 0]) ∧ Below w.heap.size w w' :=
  (step_any ⟨0, 0, 2, 2, 1, 0, 0, 0⟩ 2 0 true w p0_ok (by omega)).mono fun e w' h => by
    have S : stepV ⟨0, 0, 2, 2, 1, 0, 0, 0⟩ 2 0 true = (0, 0) := by decide
    rw [S] at h
    exact h
theorem aw4 (w : World) : Calls Try.prog 14 #[.agg #[.int .i64 0, .int .i64 0, .int .i64 2, .int .i64 2, .int .i64 1, .int .i64 0, .int .i64 0, .int .i64 0]] w fun e w' => e = .returned (.int .i64 2) ∧ Below w.heap.size w w' :=
  (need_any ⟨0, 0, 2, 2, 1, 0, 0, 0⟩ w p0_ok).mono fun e w' h => by
    have S : needV ⟨0, 0, 2, 2, 1, 0, 0, 0⟩ = 2 := by decide
    rw [S] at h
    exact h
theorem awake_any (w : World) : Calls Try.prog 22 #[] w fun e w' => e = .returned (.bool true) ∧ Below w.heap.size w w' := by
  have bP := lat_alloc (Below.refl w.heap.size w) (.cells #[.int .i64 0, .int .i64 0, .int .i64 2, .int .i64 2, .int .i64 1, .int .i64 0, .int .i64 0, .int .i64 0] 26)
  have B1 := Blk.new (w := w) (t := 26) (cs := #[.int .i64 0, .int .i64 0, .int .i64 2, .int .i64 2, .int .i64 1, .int .i64 0, .int .i64 0, .int .i64 0])
  go_enter Try.func22, Try.ntmps22
  go_wp2_with fail
  refine (aw1 _).mono ?_
  rintro e w2 ⟨rfl, hb2⟩
  have bA := lat_alloc (Below.refl w2.heap.size w2) (.cells #[.int .i64 1, .int .i64 1] 23)
  have C1 := (B1.below hb2).below bA
  have C2 := Blk.new (w := w2) (t := 23) (cs := #[.int .i64 1, .int .i64 1])
  have bW := (bP.trans (hb2.mono bP.size))
  have bW := bW.trans (bA.mono bW.size)
  have hsz := Lib.hid (heap_size w2 (.cells #[.int .i64 1, .int .i64 1] 23))
  have o0 := C1.at 0 rfl
  have o1 := C1.at 1 rfl
  have o2 := C1.at 2 rfl
  have o3 := C1.at 3 rfl
  have o4 := C1.at 4 rfl
  have o5 := C1.at 5 rfl
  have o6 := C1.at 6 rfl
  have o7 := C1.at 7 rfl
  have p0 := C2.at 0 rfl
  have p1 := C2.at 1 rfl
  go_wp2_with fail
  generalize w2.alloc (.cells #[.int .i64 1, .int .i64 1] 23) = W2 at *
  generalize w2.heap.size = g2 at *
  clear o0 o1 o2 o3 o4 o5 o6 o7 p0 p1
  refine (aw2 _).mono ?_
  rintro e w3 ⟨rfl, hb3⟩
  have bA := lat_alloc (Below.refl w3.heap.size w3) (.cells #[.int .i64 2, .int .i64 0] 23)
  have D1 := (C1.below hb3).below bA
  have D2 := (C2.below hb3).below bA
  have D3 := Blk.new (w := w3) (t := 23) (cs := #[.int .i64 2, .int .i64 0])
  have bW := bW.trans (hb3.mono bW.size)
  have bW := bW.trans (bA.mono bW.size)
  have o0 := D1.at 0 rfl
  have o1 := D1.at 1 rfl
  have o2 := D1.at 2 rfl
  have o3 := D1.at 3 rfl
  have o4 := D1.at 4 rfl
  have o5 := D1.at 5 rfl
  have o6 := D1.at 6 rfl
  have o7 := D1.at 7 rfl
  have p0 := D2.at 0 rfl
  have p1 := D2.at 1 rfl
  have q0 := D3.at 0 rfl
  have q1 := D3.at 1 rfl
  go_wp2_with fail
  generalize w3.alloc (.cells #[.int .i64 2, .int .i64 0] 23) = W3 at *
  generalize w3.heap.size = g3 at *
  clear o0 o1 o2 o3 o4 o5 o6 o7 p0 p1 q0 q1
  refine (aw3 _).mono ?_
  rintro e w4 ⟨rfl, hb4⟩
  have E1 := D1.below hb4
  have bW := bW.trans (hb4.mono bW.size)
  have o0 := E1.at 0 rfl
  have o1 := E1.at 1 rfl
  have o2 := E1.at 2 rfl
  have o3 := E1.at 3 rfl
  have o4 := E1.at 4 rfl
  have o5 := E1.at 5 rfl
  have o6 := E1.at 6 rfl
  have o7 := E1.at 7 rfl
  go_wp2_with fail
  clear o0 o1 o2 o3 o4 o5 o6 o7
  refine (aw4 _).mono ?_
  rintro e w5 ⟨rfl, hb5⟩
  have bW := bW.trans (hb5.mono bW.size)
  go_wp2
  go_ret
  exact ⟨rfl, bW⟩

end Go.Proofs.Ytdcifiinhnilbaa
