/-
  The laws LampCounts and LampWalks answer true: their walks. Conditions: none.
-/
import Derived.Test.YtdcifiinhnilbaaLb
namespace Go.Proofs.Ytdcifiinhnilbaa
open Go.ChangeShapes Go.WideShapes Go.RowKit
set_option linter.unusedVariables false

theorem walk_c (p : Ph) (lm tk v : Int) (w : World) (hp : PhOk p) (ht : 0 ≤ tk ∧ tk ≤ 1073741824) (h : walkV p lm tk = v) : Calls Try.prog 20 #[.agg #[.int .i64 p.ri, .int .i64 p.gr, .int .i64 p.mn, .int .i64 p.mx, .int .i64 p.yl, .int .i64 p.rd, .int .i64 p.wk, .int .i64 p.cl], .agg #[.int .i64 lm, .int .i64 tk]] w fun e w' => e = .returned (.int .i64 v) ∧ Below w.heap.size w w' := by
  have := walk_any p lm tk w hp ht
  rw [h] at this
  exact this
theorem count_c (p : Ph) (lm tk v : Int) (w : World) (hp : PhOk p) (ht : 0 ≤ tk ∧ tk ≤ 1073741824) (h : countV p lm tk = v) : Calls Try.prog 18 #[.agg #[.int .i64 p.ri, .int .i64 p.gr, .int .i64 p.mn, .int .i64 p.mx, .int .i64 p.yl, .int .i64 p.rd, .int .i64 p.wk, .int .i64 p.cl], .agg #[.int .i64 lm, .int .i64 tk]] w fun e w' => e = .returned (.int .i64 v) ∧ Below w.heap.size w w' := by
  have := count_any p lm tk w hp ht
  rw [h] at this
  exact this
theorem step_c (p : Ph) (lm tk : Int) (lv : Bool) (a b : Int) (w : World) (hp : PhOk p) (ht : 0 ≤ tk ∧ tk ≤ 1073741824) (h : stepV p lm tk lv = (a, b)) : Calls Try.prog 16 #[.agg #[.int .i64 p.ri, .int .i64 p.gr, .int .i64 p.mn, .int .i64 p.mx, .int .i64 p.yl, .int .i64 p.rd, .int .i64 p.wk, .int .i64 p.cl], .agg #[.int .i64 lm, .int .i64 tk], .bool lv] w fun e w' => e = .returned (.agg #[.int .i64 a, .int .i64 b]) ∧ Below w.heap.size w w' := by
  have := step_any p lm tk lv w hp ht
  rw [h] at this
  exact this
theorem step_grow (p : Ph) (k : Int) (h : k + 1 ≤ 1073741824) : stepV p 1 k false = (1, k + 1) := by
  rw [stepV, if_pos rfl, if_neg (by simp), Int.min_eq_left h]
theorem count_bd {p : Ph} {lm tk : Int} (hp : PhOk p) (h : LiOk p lm tk) : 0 ≤ countV p lm tk ∧ countV p lm tk ≤ 4 := by
  have h1 := hp.yl
  have h2 := hp.rd
  have h3 := needV_bd hp
  unfold LiOk at h
  unfold countV
  rcases h with ⟨rfl, h⟩ | ⟨rfl, h⟩ | ⟨rfl, h⟩ | ⟨rfl, h⟩ <;> simp <;> omega
theorem count_big {p : Ph} {lm tk : Int} (hp : PhOk p) (h : LiOk p lm tk) (hb : 1000 < tk) : countV p lm tk = 0 := by
  have h1 := hp.yl
  have h2 := hp.rd
  have h3 := needV_bd hp
  unfold LiOk at h
  unfold countV
  rcases h with ⟨rfl, h⟩ | ⟨rfl, h⟩ | ⟨rfl, h⟩ | ⟨rfl, h⟩ <;> simp <;> omega
theorem step_stay {p : Ph} {lm tk t : Int} (hp : PhOk p) (h : LiOk p lm tk) (hs : tk ≤ 1000) (h0 : tk ≤ t) (h1 : t < tk + countV p lm tk) : stepV p lm t true = (lm, t + 1) := by
  have h3 := needV_bd hp
  have h4 := count_bd hp h
  unfold LiOk at h
  rcases h with ⟨rfl, h⟩ | ⟨rfl, h⟩ | ⟨rfl, h⟩ | ⟨rfl, h⟩
  · simp [countV] at h1
    have hx : ¬ needV p ≤ t + 1 := by omega
    simp [stepV, hx]; omega
  · simp [countV] at h1
    have hx : t + 1 < p.yl := by omega
    simp [stepV, hx]
  · simp [countV] at h1
    have hx : t + 1 < p.rd := by omega
    simp [stepV, hx]
  · simp [countV] at h1
    omega
theorem step_end {p : Ph} {lm tk : Int} (hp : PhOk p) (h : LiOk p lm tk) (h0 : lm ≠ 0) : (stepV p lm (tk + countV p lm tk) true).1 ≠ lm := by
  have h3 := needV_bd hp
  have h4 := hp.rd
  unfold LiOk at h
  rcases h with ⟨rfl, h⟩ | ⟨rfl, h⟩ | ⟨rfl, h⟩ | ⟨rfl, h⟩
  · have hx : needV p ≤ tk + countV p 1 tk + 1 := by simp [countV]; omega
    simp [stepV, hx]
  · have hx : ¬ tk + countV p 2 tk + 1 < p.yl := by simp [countV]; omega
    by_cases h5 : 0 < p.rd <;> simp [stepV, hx, h5]
  · have hx : ¬ tk + countV p 3 tk + 1 < p.rd := by simp [countV]; omega
    simp [stepV, hx]
  · exact absurd rfl h0

set_option maxHeartbeats 1000000 in
theorem counts_any (A : Option Addr) (c : Nat) (l : List Int) (n m : Int) (w : World) (hs : Ints .i64 w w.heap.size A l) (hn : Nums l) (hl : l.length ≤ 9223372036854775807) (n0 : -9223372036854775808 ≤ n) (n1 : n ≤ 9223372036854775807) (m0 : -9223372036854775808 ≤ m) (m1 : m ≤ 9223372036854775807) :
    Calls Try.prog 5 #[.slice A l.length c, .int .i64 n, .int .i64 m] w fun e w' => e = .returned (.bool true) ∧ Below w.heap.size w w' := by
  go_enter Try.func5, Try.ntmps5
  go_wp2_with fail
  refine (phase_any A c l m w hs hn hl m0 m1).mono ?_
  rintro e w1 ⟨hb1, p, hp, rfl⟩
  have bA := lat_alloc (Below.refl w1.heap.size w1) (.cells #[.int .i64 p.ri, .int .i64 p.gr, .int .i64 p.mn, .int .i64 p.mx, .int .i64 p.yl, .int .i64 p.rd, .int .i64 p.wk, .int .i64 p.cl] 26)
  have Bp := Blk.new (w := w1) (t := 26) (cs := #[.int .i64 p.ri, .int .i64 p.gr, .int .i64 p.mn, .int .i64 p.mx, .int .i64 p.yl, .int .i64 p.rd, .int .i64 p.wk, .int .i64 p.cl])
  have bW := hb1.trans (bA.mono hb1.size)
  have hgp := hb1.size
  have o0 := Bp.at 0 rfl
  have o1 := Bp.at 1 rfl
  have o2 := Bp.at 2 rfl
  have o3 := Bp.at 3 rfl
  have o4 := Bp.at 4 rfl
  have o5 := Bp.at 5 rfl
  have o6 := Bp.at 6 rfl
  have o7 := Bp.at 7 rfl
  go_wp2_with fail
  generalize w1.alloc (.cells #[.int .i64 p.ri, .int .i64 p.gr, .int .i64 p.mn, .int .i64 p.mx, .int .i64 p.yl, .int .i64 p.rd, .int .i64 p.wk, .int .i64 p.cl] 26) = W1 at *
  generalize w1.heap.size = gp at *
  clear o0 o1 o2 o3 o4 o5 o6 o7 bA
  refine (light_any p n _ hp n0 n1).mono ?_
  rintro e w2 ⟨hb2, lm, tk, hli, rfl⟩
  have bA := lat_alloc (Below.refl w2.heap.size w2) (.cells #[.int .i64 lm, .int .i64 tk] 23)
  have Cp0 := Bp.below hb2
  have Cp := Cp0.below bA
  have Cx := Blk.new (w := w2) (t := 23) (cs := #[.int .i64 lm, .int .i64 tk])
  have bW := bW.trans (hb2.mono bW.size)
  have hgx : w.heap.size ≤ w2.heap.size := bW.size
  have hpx : gp < w2.heap.size := Cp0.lt
  have bW := bW.trans (bA.mono bW.size)
  clear Cp0
  have o0 := Cp.at 0 rfl
  have o1 := Cp.at 1 rfl
  have o2 := Cp.at 2 rfl
  have o3 := Cp.at 3 rfl
  have o4 := Cp.at 4 rfl
  have o5 := Cp.at 5 rfl
  have o6 := Cp.at 6 rfl
  have o7 := Cp.at 7 rfl
  have q0 := Cx.at 0 rfl
  have q1 := Cx.at 1 rfl
  go_wp2_with fail
  generalize w2.alloc (.cells #[.int .i64 lm, .int .i64 tk] 23) = W2 at *
  generalize w2.heap.size = gx at *
  clear o0 o1 o2 o3 o4 o5 o6 o7 q0 q1 bA
  have hbd := hli.bd hp
  have hcb := count_bd hp hli
  have hcbig := Lib.hid (fun hb => count_big hp hli hb)
  obtain ⟨cv, hcv⟩ : ∃ v, v = countV p lm tk := ⟨_, rfl⟩
  have HC := Lib.hid hcv
  rw [← hcv] at hcb
  clear hcv
  refine (count_c p lm tk cv _ hp (by omega) HC.out.symm).mono ?_
  rintro e w3 ⟨rfl, hb3⟩
  have Dp := Cp.below hb3
  have Dx := Cx.below hb3
  have bW := bW.trans (hb3.mono bW.size)
  have z1 : decide (cv < 0) = false := by simp; omega
  have q0 := Dx.at 0 rfl
  have q1 := Dx.at 1 rfl
  by_cases hbig : 1000 < tk
  · have hc0 : cv = 0 := by rw [HC.out]; exact hcbig.out hbig
    have z2 : decide (1000 < tk) = true := by simp; omega
    subst hc0
    clear hbig
    go_wp2_with fail
    refine (awake_any _).mono ?_
    rintro e w4 ⟨rfl, hb4⟩
    go_wp2
    go_ret
    exact ⟨rfl, bW.trans (hb4.mono bW.size)⟩
  have z2 : decide (1000 < tk) = false := by simp; omega
  have hsm : tk ≤ 1000 := by omega
  clear hbig
  have bA := lat_alloc (Below.refl w3.heap.size w3) (.cells #[.int .i64 lm, .int .i64 tk] 23)
  have Ep := Dp.below bA
  have Ex := Dx.below bA
  have Ey := Blk.new (w := w3) (t := 23) (cs := #[.int .i64 lm, .int .i64 tk])
  have hgy : w.heap.size ≤ w3.heap.size := bW.size
  have hxy : gx < w3.heap.size := Dx.lt
  have bW := bW.trans (bA.mono bW.size)
  clear Dp Dx
  go_wp2_with fail
  clear q0 q1 bA
  generalize w3.alloc (.cells #[.int .i64 lm, .int .i64 tk] 23) = W3 at *
  generalize w3.heap.size = gy at *
  go_loopw [35] (fun i wr => ∃ (k : Nat) (t : Int), (k : Int) ≤ cv ∧ tk + k ≤ t ∧ t ≤ tk + k ∧ i = .int .i64 k ∧ Below w.heap.size w wr ∧ Blk wr gp 26 #[.int .i64 p.ri, .int .i64 p.gr, .int .i64 p.mn, .int .i64 p.mx, .int .i64 p.yl, .int .i64 p.rd, .int .i64 p.wk, .int .i64 p.cl] ∧ Blk wr gx 23 #[.int .i64 lm, .int .i64 tk] ∧ Blk wr gy 23 #[.int .i64 lm, .int .i64 t]) (fun i _ => cv.toNat - (intOf i).toNat)
  case atStart => exact ⟨0, tk, by omega, by omega, by omega, rfl, bW, Ep, Ex, Ey⟩
  case round =>
    obtain ⟨k, t, hk, ht0, ht1, rfl, hW, Rp, Rx, Ry⟩ := hrel
    have o0 := Rp.at 0 rfl
    have o1 := Rp.at 1 rfl
    have o2 := Rp.at 2 rfl
    have o3 := Rp.at 3 rfl
    have o4 := Rp.at 4 rfl
    have o5 := Rp.at 5 rfl
    have o6 := Rp.at 6 rfl
    have o7 := Rp.at 7 rfl
    have q0 := Ry.at 0 rfl
    have q1 := Ry.at 1 rfl
    by_cases hlt : (k : Int) < cv
    · go_wp2_with fail
      refine (step_c p lm t true lm (t + 1) _ hp (by omega) (step_stay hp hli hsm (by omega) (by rw [← HC.out]; omega))).mono ?_
      rintro e w5 ⟨rfl, hb5⟩
      clear o0 o1 o2 o3 o4 o5 o6 o7 q0 q1
      have Sp := Rp.below hb5
      have Sx := Rx.below hb5
      have Sy := Ry.below hb5
      have hW5 := hW.trans (hb5.mono hW.size)
      have r0 := Sx.at 0 rfl
      have r1 := Sx.at 1 rfl
      have q0 := Sy.at 0 rfl
      have q1 := Sy.at 1 rfl
      have f0 := Sy.frozen 0
      have f1 := Sy.frozen 1
      have hne : gx ≠ gy := by omega
      have hne2 : gp ≠ gy := by omega
      go_wp2
      go_roundw
      case rel => exact ⟨k + 1, t + 1, by omega, by omega, by omega, by go_num, (hW5.setCell (p := ⟨gy, 0, none⟩) (by simp; omega) _).setCell (p := ⟨gy, 1, none⟩) (by simp; omega) _, (Sp.far (p := ⟨gy, 0, none⟩) (by simp; omega) _).far (p := ⟨gy, 1, none⟩) (by simp; omega) _, (Sx.far (p := ⟨gy, 0, none⟩) (by simp; omega) _).far (p := ⟨gy, 1, none⟩) (by simp; omega) _, (Sy.set_ 0 _).set_ 1 _⟩
      case measure => simp [intOf]; omega
    · obtain ⟨⟨a, b⟩, hab⟩ : ∃ v, stepV p lm t true = v := ⟨_, rfl⟩
      have hte0 : t = tk + countV p lm tk := by rw [← HC.out]; omega
      have hte1 := Lib.hid hte0
      have hab1 := Lib.hid hab
      clear hte0 hab
      go_wp2_with fail
      refine (step_c p lm t true a b _ hp (by omega) hab1.out).mono ?_
      rintro e w5 ⟨rfl, hb5⟩
      clear o0 o1 o2 o3 o4 o5 o6 o7 q0 q1
      have bA := lat_alloc (Below.refl w5.heap.size w5) (.cells #[.int .i64 a, .int .i64 b] 23)
      have Sx := (Rx.below hb5).below bA
      have Sz := Blk.new (w := w5) (t := 23) (cs := #[.int .i64 a, .int .i64 b])
      have hW5 := hW.trans (hb5.mono hW.size)
      have hW5 := hW5.trans (bA.mono hW5.size)
      have r0 := Sx.at 0 rfl
      have r1 := Sx.at 1 rfl
      have q0 := Sz.at 0 rfl
      have q1 := Sz.at 1 rfl
      have hte := hte1.out
      have hab := hab1.out
      clear hte1 hab1
      by_cases hl0 : lm = 0
      · subst hl0
        have ha : a = 0 := by simp [stepV] at hab; exact hab.1.symm
        subst ha
        clear hab hte
        go_wp2_with fail
        refine (awake_any _).mono ?_
        rintro e w6 ⟨rfl, hb6⟩
        go_wp2
        go_ret
        exact ⟨rfl, hW5.trans (hb6.mono hW5.size)⟩
      · have hne := step_end hp hli hl0
        rw [← hte, hab] at hne
        have y1 : (a == lm) = false := by simpa using hne
        have y2 : (lm == 0) = false := by simpa using hl0
        clear hab hte hne hl0
        go_wp2_with fail
        refine (awake_any _).mono ?_
        rintro e w6 ⟨rfl, hb6⟩
        go_wp2
        go_ret
        exact ⟨rfl, hW5.trans (hb6.mono hW5.size)⟩

set_option maxHeartbeats 1000000 in
theorem walks_any (A : Option Addr) (c : Nat) (l : List Int) (n m : Int) (w : World) (hs : Ints .i64 w w.heap.size A l) (hn : Nums l) (hl : l.length ≤ 9223372036854775807) (n0 : -9223372036854775808 ≤ n) (n1 : n ≤ 9223372036854775807) (m0 : -9223372036854775808 ≤ m) (m1 : m ≤ 9223372036854775807) :
    Calls Try.prog 6 #[.slice A l.length c, .int .i64 n, .int .i64 m] w fun e w' => e = .returned (.bool true) ∧ Below w.heap.size w w' := by
  go_enter Try.func6, Try.ntmps6
  go_wp2_with fail
  refine (phase_any A c l n w hs hn hl n0 n1).mono ?_
  rintro e w1 ⟨hb1, p, hp, rfl⟩
  have bA0 := lat_alloc (Below.refl w1.heap.size w1) (.cells #[.int .i64 p.ri, .int .i64 p.gr, .int .i64 p.mn, .int .i64 p.mx, .int .i64 p.yl, .int .i64 p.rd, .int .i64 p.wk, .int .i64 p.cl] 26)
  have bA := lat_alloc bA0 (.cells #[.int .i64 1, .int .i64 0] 23)
  have Bp := (Blk.new (w := w1) (t := 26) (cs := #[.int .i64 p.ri, .int .i64 p.gr, .int .i64 p.mn, .int .i64 p.mx, .int .i64 p.yl, .int .i64 p.rd, .int .i64 p.wk, .int .i64 p.cl])).alloc (.cells #[.int .i64 1, .int .i64 0] 23)
  have Bx := Blk.new (w := w1.alloc (.cells #[.int .i64 p.ri, .int .i64 p.gr, .int .i64 p.mn, .int .i64 p.mx, .int .i64 p.yl, .int .i64 p.rd, .int .i64 p.wk, .int .i64 p.cl] 26)) (t := 23) (cs := #[.int .i64 1, .int .i64 0])
  rw [heap_size] at Bx
  have bW := hb1.trans (bA.mono hb1.size)
  have hgp := hb1.size
  clear bA0
  have h2 : 0 ≤ p.wk ∧ p.wk ≤ 2 ∧ 0 ≤ p.cl ∧ p.cl ≤ 2 := by have := hp.wk; omega
  have h3 := needV_bd hp
  have o0 := Bp.at 0 rfl
  have o1 := Bp.at 1 rfl
  have o2 := Bp.at 2 rfl
  have o3 := Bp.at 3 rfl
  have o4 := Bp.at 4 rfl
  have o5 := Bp.at 5 rfl
  have o6 := Bp.at 6 rfl
  have o7 := Bp.at 7 rfl
  have q0 := Bx.at 0 rfl
  have q1 := Bx.at 1 rfl
  go_wp2_with fail
  refine (need_any p _ hp).mono ?_
  rintro e w2 ⟨rfl, hb2⟩
  clear o0 o1 o2 o3 o4 o5 o6 o7 q0 q1
  have Cp := Bp.below hb2
  have Cx := Bx.below hb2
  have bW := bW.trans (hb2.mono bW.size)
  clear hb2 Bp Bx bA
  generalize w1.heap.size = gp at *
  generalize needV p = nd at *
  go_wp2_with fail
  refine (mod_q m 5 (by omega) (by omega) m0 m1 _).mono ?_
  rintro e w3 ⟨rfl, rfl⟩
  have hm := modI_bd m 5 (by omega)
  generalize modI m 5 = md at *
  have hw : IntKind.i64.wrap (nd + md) = nd + md := by rw [IntKind.wrap_i64]; omega
  go_wp2_with fail
  generalize hcv : nd + md = cv at *
  have hc8 : 0 ≤ cv ∧ cv ≤ 20 := by omega
  clear hcv
  go_loopw [20] (fun i wr => ∃ k : Nat, (k : Int) ≤ cv ∧ i = .int .i64 k ∧ Below w.heap.size w wr ∧ Blk wr gp 26 #[.int .i64 p.ri, .int .i64 p.gr, .int .i64 p.mn, .int .i64 p.mx, .int .i64 p.yl, .int .i64 p.rd, .int .i64 p.wk, .int .i64 p.cl] ∧ Blk wr (gp + 1) 23 #[.int .i64 1, .int .i64 k]) (fun i _ => cv.toNat - (intOf i).toNat)
  case atStart => exact ⟨0, by omega, rfl, bW, Cp, Cx⟩
  case round =>
    obtain ⟨k, hk, rfl, hW, Rp, Rx⟩ := hrel
    have o0 := Rp.at 0 rfl
    have o1 := Rp.at 1 rfl
    have o2 := Rp.at 2 rfl
    have o3 := Rp.at 3 rfl
    have o4 := Rp.at 4 rfl
    have o5 := Rp.at 5 rfl
    have o6 := Rp.at 6 rfl
    have o7 := Rp.at 7 rfl
    have q0 := Rx.at 0 rfl
    have q1 := Rx.at 1 rfl
    by_cases hlt : (k : Int) < cv
    · by_cases hk1 : (k : Int) < p.wk
      · have HV : walkV p 1 k = 1 := by simp [walkV, hk1]
        go_wp2_with fail
        refine (walk_c p 1 k 1 _ hp (by omega) HV).mono ?_
        rintro e w5 ⟨rfl, hb5⟩
        clear o0 o1 o2 o3 o4 o5 o6 o7 q0 q1
        have Sp := Rp.below hb5
        have Sx := Rx.below hb5
        have hW5 := hW.trans (hb5.mono hW.size)
        have o0 := Sp.at 0 rfl
        have o1 := Sp.at 1 rfl
        have o2 := Sp.at 2 rfl
        have o3 := Sp.at 3 rfl
        have o4 := Sp.at 4 rfl
        have o5 := Sp.at 5 rfl
        have o6 := Sp.at 6 rfl
        have o7 := Sp.at 7 rfl
        have q0 := Sx.at 0 rfl
        have q1 := Sx.at 1 rfl
        go_wp2_with fail
        refine (step_c p 1 k false 1 (k + 1) _ hp (by omega) (step_grow p k (by omega))).mono ?_
        rintro e w6 ⟨rfl, hb6⟩
        clear o0 o1 o2 o3 o4 o5 o6 o7 q0 q1
        have Tp := Sp.below hb6
        have Tx := Sx.below hb6
        have hW6 := hW5.trans (hb6.mono hW5.size)
        have f0 := Tx.frozen 0
        have f1 := Tx.frozen 1
        have q0 := Tx.at 0 rfl
        have q1 := Tx.at 1 rfl
        go_wp2
        go_roundw
        case rel => exact ⟨k + 1, by omega, by go_num, (hW6.setCell (p := ⟨gp + 1, 0, none⟩) (by simp; omega) _).setCell (p := ⟨gp + 1, 1, none⟩) (by simp; omega) _, (Tp.far (p := ⟨gp + 1, 0, none⟩) (by simp <;> omega) _).far (p := ⟨gp + 1, 1, none⟩) (by simp <;> omega) _, (Tx.set_ 0 _).set_ 1 _⟩
        case measure => simp [intOf]; omega
      · by_cases hk2 : (k : Int) < p.wk + p.cl
        · have HV : walkV p 1 k = 2 := by simp [walkV, hk1, hk2]
          go_wp2_with fail
          refine (walk_c p 1 k 2 _ hp (by omega) HV).mono ?_
          rintro e w5 ⟨rfl, hb5⟩
          clear o0 o1 o2 o3 o4 o5 o6 o7 q0 q1
          have Sp := Rp.below hb5
          have Sx := Rx.below hb5
          have hW5 := hW.trans (hb5.mono hW.size)
          have o0 := Sp.at 0 rfl
          have o1 := Sp.at 1 rfl
          have o2 := Sp.at 2 rfl
          have o3 := Sp.at 3 rfl
          have o4 := Sp.at 4 rfl
          have o5 := Sp.at 5 rfl
          have o6 := Sp.at 6 rfl
          have o7 := Sp.at 7 rfl
          have q0 := Sx.at 0 rfl
          have q1 := Sx.at 1 rfl
          go_wp2_with fail
          refine (step_c p 1 k false 1 (k + 1) _ hp (by omega) (step_grow p k (by omega))).mono ?_
          rintro e w6 ⟨rfl, hb6⟩
          clear o0 o1 o2 o3 o4 o5 o6 o7 q0 q1
          have Tp := Sp.below hb6
          have Tx := Sx.below hb6
          have hW6 := hW5.trans (hb6.mono hW5.size)
          have f0 := Tx.frozen 0
          have f1 := Tx.frozen 1
          have q0 := Tx.at 0 rfl
          have q1 := Tx.at 1 rfl
          go_wp2
          go_roundw
          case rel => exact ⟨k + 1, by omega, by go_num, (hW6.setCell (p := ⟨gp + 1, 0, none⟩) (by simp; omega) _).setCell (p := ⟨gp + 1, 1, none⟩) (by simp; omega) _, (Tp.far (p := ⟨gp + 1, 0, none⟩) (by simp <;> omega) _).far (p := ⟨gp + 1, 1, none⟩) (by simp <;> omega) _, (Tx.set_ 0 _).set_ 1 _⟩
          case measure => simp [intOf]; omega
        · have HV : walkV p 1 k = 0 := by simp [walkV, hk1, hk2]
          go_wp2_with fail
          refine (walk_c p 1 k 0 _ hp (by omega) HV).mono ?_
          rintro e w5 ⟨rfl, hb5⟩
          clear o0 o1 o2 o3 o4 o5 o6 o7 q0 q1
          have Sp := Rp.below hb5
          have Sx := Rx.below hb5
          have hW5 := hW.trans (hb5.mono hW.size)
          have o0 := Sp.at 0 rfl
          have o1 := Sp.at 1 rfl
          have o2 := Sp.at 2 rfl
          have o3 := Sp.at 3 rfl
          have o4 := Sp.at 4 rfl
          have o5 := Sp.at 5 rfl
          have o6 := Sp.at 6 rfl
          have o7 := Sp.at 7 rfl
          have q0 := Sx.at 0 rfl
          have q1 := Sx.at 1 rfl
          go_wp2_with fail
          refine (step_c p 1 k false 1 (k + 1) _ hp (by omega) (step_grow p k (by omega))).mono ?_
          rintro e w6 ⟨rfl, hb6⟩
          clear o0 o1 o2 o3 o4 o5 o6 o7 q0 q1
          have Tp := Sp.below hb6
          have Tx := Sx.below hb6
          have hW6 := hW5.trans (hb6.mono hW5.size)
          have f0 := Tx.frozen 0
          have f1 := Tx.frozen 1
          have q0 := Tx.at 0 rfl
          have q1 := Tx.at 1 rfl
          go_wp2
          go_roundw
          case rel => exact ⟨k + 1, by omega, by go_num, (hW6.setCell (p := ⟨gp + 1, 0, none⟩) (by simp; omega) _).setCell (p := ⟨gp + 1, 1, none⟩) (by simp; omega) _, (Tp.far (p := ⟨gp + 1, 0, none⟩) (by simp <;> omega) _).far (p := ⟨gp + 1, 1, none⟩) (by simp <;> omega) _, (Tx.set_ 0 _).set_ 1 _⟩
          case measure => simp [intOf]; omega
    · go_wp2_with fail
      refine (walk_c p 2 0 0 _ hp (by omega) (by simp [walkV])).mono ?_
      rintro e w5 ⟨rfl, hb5⟩
      clear o0 o1 o2 o3 o4 o5 o6 o7 q0 q1
      have Sp := Rp.below hb5
      have hW5 := hW.trans (hb5.mono hW.size)
      have o0 := Sp.at 0 rfl
      have o1 := Sp.at 1 rfl
      have o2 := Sp.at 2 rfl
      have o3 := Sp.at 3 rfl
      have o4 := Sp.at 4 rfl
      have o5 := Sp.at 5 rfl
      have o6 := Sp.at 6 rfl
      have o7 := Sp.at 7 rfl
      go_wp2_with fail
      refine (walk_c p 0 0 0 _ hp (by omega) (by simp [walkV])).mono ?_
      rintro e w6 ⟨rfl, hb6⟩
      have hW6 := hW5.trans (hb6.mono hW5.size)
      go_wp2_with fail
      refine (awake_any _).mono ?_
      rintro e w7 ⟨rfl, hb7⟩
      go_wp2
      go_ret
      exact ⟨rfl, hW6.trans (hb7.mono hW6.size)⟩
end Go.Proofs.Ytdcifiinhnilbaa
