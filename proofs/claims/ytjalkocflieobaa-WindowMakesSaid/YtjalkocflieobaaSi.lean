/-
  The sanity check of layer 18's laws, and the law WindowSince: its walk. Conditions: none.
-/
import Derived.Test.YtjalkocflieobaaW
namespace Go.Proofs.Ytjalkocflieobaa
open Go.ChangeShapes Go.WideShapes Go.RowKit
set_option linter.unusedVariables false

theorem awake_any (w : World) : Calls Try.prog 14 #[] w fun e w' => e = .returned (.bool true) ∧ Below w.heap.size w w' := by
  go_enter Try.func14, Try.ntmps14
  go_wp2_with fail
  refine (make_any 0 1 2 5 10 w).mono ?_
  rw [show mkOk 0 1 2 5 10 = true by decide]
  simp only [sel_t, Int.reduceAdd]
  rintro e w1 ⟨rfl, hb1⟩
  go_wp2_with fail
  have A1 := Blk.new (w := w1) (t := 23) (cs := #[.int .i64 0, .int .i64 1, .int .i64 12, .int .i64 15, .int .i64 (-1)])
  have b1 := hb1.alloc hb1.size (.cells #[.int .i64 0, .int .i64 1, .int .i64 12, .int .i64 15, .int .i64 (-1)] 23)
  generalize w1.alloc (.cells #[.int .i64 0, .int .i64 1, .int .i64 12, .int .i64 15, .int .i64 (-1)] 23) = W1 at *
  generalize w1.heap.size = g1 at *
  refine (mark_any _ _ _ _ _ _ _).mono ?_
  rw [show mkS 12 15 (-1) 12 = 12 by decide]
  rintro e w2 ⟨rfl, hb2⟩
  go_wp2_with fail
  refine (mark_any _ _ _ _ _ _ _).mono ?_
  rw [show mkS 12 15 12 13 = 12 by decide]
  rintro e w3 ⟨rfl, hb3⟩
  have A3 := (A1.below hb2).below hb3
  have b3 := (b1.trans (hb2.mono b1.size)).trans (hb3.mono (Nat.le_trans b1.size hb2.size))
  clear hb1 hb2 hb3 A1
  have A2 := Blk.new (w := w3) (t := 23) (cs := #[.int .i64 0, .int .i64 1, .int .i64 12, .int .i64 15, .int .i64 12])
  have b4 := b3.alloc b3.size (.cells #[.int .i64 0, .int .i64 1, .int .i64 12, .int .i64 15, .int .i64 12] 23)
  have A4 := Blk.alloc A3 (.cells #[.int .i64 0, .int .i64 1, .int .i64 12, .int .i64 15, .int .i64 12] 23)
  have z : (w3.alloc (.cells #[.int .i64 0, .int .i64 1, .int .i64 12, .int .i64 15, .int .i64 12] 23)).cell? ⟨w3.heap.size, 4, none⟩ = some (.int .i64 12) := Blk.cell A2 4
  obtain ⟨k0, k1, k2, k3, k4, _⟩ := A4.five
  clear A2 A3 b3 b1
  go_wp2_with fail
  generalize w3.alloc (.cells #[.int .i64 0, .int .i64 1, .int .i64 12, .int .i64 15, .int .i64 12] 23) = W4 at *
  refine (live_any _ _ _ _ _ _ _).mono ?_
  rw [show wi 15 12 15 = true by decide]
  rintro e w5 ⟨rfl, hb5⟩
  have b5 := b4.trans (hb5.mono b4.size)
  obtain ⟨m0, m1, m2, m3, m4, _⟩ := (A4.below hb5).five
  go_wp2_with fail
  refine (live_any _ _ _ _ _ _ _).mono ?_
  rw [show wi 16 12 15 = false by decide]
  rintro e w6 ⟨rfl, hb6⟩
  go_wp2
  go_ret
  exact ⟨rfl, b5.trans (hb6.mono b5.size)⟩
/-- The first tick of the span: the leg lives from F on to T, now is S + k. -/
def fV (F T S : Int) (k : Nat) : Int := if 1 ≤ k ∧ F ≤ S + k - 1 ∧ S + k - 1 ≤ T then F else -1
theorem fV_step {F T S : Int} {k : Nat} (hF : S ≤ F) (h0 : 0 ≤ S) : mkS F T (fV F T S k) (S + k) = fV F T S (k + 1) := by
  unfold mkS fV
  by_cases h : F ≤ S + k ∧ S + k ≤ T
  · rw [if_pos h, if_pos (show 1 ≤ k + 1 ∧ F ≤ S + ↑(k + 1) - 1 ∧ S + ↑(k + 1) - 1 ≤ T by omega)]
    by_cases h2 : 1 ≤ k ∧ F ≤ S + k - 1 ∧ S + k - 1 ≤ T
    · rw [if_pos h2, if_neg (by omega)]
    · rw [if_neg h2, if_pos rfl]; omega
  · rw [if_neg h, if_neg (show ¬ (1 ≤ k + 1 ∧ F ≤ S + ↑(k + 1) - 1 ∧ S + ↑(k + 1) - 1 ≤ T) by omega)]
theorem mod_n (a : Int) (m : Nat) (h : 0 < m) : ∃ i : Nat, modI a m = i ∧ i < m := by
  have := modI_bd a m (by omega)
  exact ⟨(modI a m).toNat, by omega, by omega⟩
theorem mod_s {a : Int} {m : Int} {i : Nat} (hi : modI a m = i) (h0 : 0 < m) (h1 : m ≤ 4294967296) (ha : -9223372036854775808 ≤ a) (hb : a ≤ 9223372036854775807) (w : World) : Calls Try.prog 7 #[.int .i64 a, .int .i64 m] w fun e w' => e = .returned (.int .i64 i) ∧ w' = w := by
  have := mod_q a m h0 h1 ha hb w
  rw [hi] at this
  exact this
theorem since_any (from_ to_ start : Int) (w : World) (f0 : -9223372036854775808 ≤ from_) (f1 : from_ ≤ 9223372036854775807) (t0 : -9223372036854775808 ≤ to_) (t1 : to_ ≤ 9223372036854775807) (s0 : -9223372036854775808 ≤ start) (s1 : start ≤ 9223372036854775807) :
    Calls Try.prog 4 #[.int .i64 from_, .int .i64 to_, .int .i64 start] w fun e w' => e = .returned (.bool true) ∧ Below w.heap.size w w' := by
  obtain ⟨f, hmf, hf⟩ := mod_n from_ 12 (by omega)
  obtain ⟨t, hmt, ht⟩ := mod_n to_ 30 (by omega)
  obtain ⟨s, hms, hs⟩ := mod_n start 20 (by omega)
  go_enter Try.func4, Try.ntmps4
  go_wp2_with fail
  refine (mod_s hmf (by omega) (by omega) f0 f1 _).mono ?_; rintro e w' ⟨rfl, rfl⟩
  go_wp2_with fail
  refine (mod_s hmt (by omega) (by omega) t0 t1 _).mono ?_; rintro e w' ⟨rfl, rfl⟩
  go_wp2_with fail
  refine (mod_s hms (by omega) (by omega) s0 s1 _).mono ?_; rintro e w' ⟨rfl, rfl⟩
  clear hmf hmt hms
  go_wp2_with fail
  refine (make_any _ _ _ _ _ _).mono ?_
  rw [show mkOk 1 2 f (f + t) s = true by simp [mkOk, isP, wi]; omega]
  simp only [sel_t]
  rintro e w1 ⟨rfl, hb1⟩
  go_wp2_with fail
  have A1 := Blk.new (w := w1) (t := 23) (cs := #[.int .i64 1, .int .i64 2, .int .i64 (s + f), .int .i64 (s + (f + t)), .int .i64 (-1)])
  have b1 := hb1.alloc hb1.size (.cells #[.int .i64 1, .int .i64 2, .int .i64 (s + f), .int .i64 (s + (f + t)), .int .i64 (-1)] 23)
  have hg1 := hb1.size
  generalize w1.alloc (.cells #[.int .i64 1, .int .i64 2, .int .i64 (s + f), .int .i64 (s + (f + t)), .int .i64 (-1)] 23) = W1 at *
  generalize w1.heap.size = g1 at *
  clear hb1
  go_loopw [9, 10] (fun v9 v10 Wr => ∃ k : Nat, k ≤ 60 ∧ v9 = .int .i64 (fV (s + f) (s + (f + t)) s k) ∧ v10 = .int .i64 (s + k) ∧ Blk Wr g1 23 #[.int .i64 1, .int .i64 2, .int .i64 (s + f), .int .i64 (s + (f + t)), .int .i64 (fV (s + f) (s + (f + t)) s k)] ∧ Below w'.heap.size w' Wr) (fun _ v10 _ => s + 60 - (intOf v10).toNat)
  case atStart => exact ⟨0, by omega, by simp [fV], by simp, by simpa [fV] using A1, b1⟩
  case round =>
    obtain ⟨k, hk, rfl, rfl, hB, hbr⟩ := hrel
    by_cases hlt : k < 60
    · have hst := fV_step (F := s + f) (T := s + (f + t)) (S := s) (k := k) (by omega) (by omega)
      obtain ⟨c0, c1, c2, c3, c4, _⟩ := hB.five
      by_cases hlive : (s : Int) + f ≤ s + k ∧ (s : Int) + k ≤ s + (f + t)
      · have hw := wi_t hlive
        obtain ⟨v, hv, hv1, hv2⟩ : ∃ v, fV (s + f) (s + (f + t)) s k = v ∧ (v < 0 ∨ 0 ≤ v) ∧ fV (s + f) (s + (f + t)) s (k + 1) = if v < 0 then (s : Int) + k else v := by
          refine ⟨_, rfl, by omega, ?_⟩
          unfold fV
          rw [if_pos (show 1 ≤ k + 1 ∧ (s : Int) + f ≤ s + ↑(k + 1) - 1 ∧ (s : Int) + ↑(k + 1) - 1 ≤ s + (f + t) by omega)]
          split <;> split <;> omega
        have d1 := hlive.1
        have d2 : (s : Int) + k ≤ s + f + t := by omega
        rw [hv] at hst hB c4 ⊢
        clear hv hlive
        rcases hv1 with hneg | hpos
        · rw [if_pos hneg] at hv2
          have HV := Lib.hid hv2
          have HST := Lib.hid (hst.trans hv2)
          clear hst hv2
          go_wp2_with fail
          refine (mark_any _ _ _ _ _ _ _).mono ?_
          rw [HST.out]
          rintro e w2 ⟨rfl, hb2⟩
          have hB2 := hB.below hb2
          have hbr2 := hbr.trans (hb2.mono hbr.size)
          clear c0 c1 c2 c3 c4 hb2
          obtain ⟨c0, c1, c2, c3, c4, f0', f1', f2', f3', f4'⟩ := hB2.fiveF
          go_wp2_with fail
          have hB3 := hB2.set5 (.int .i64 1) (.int .i64 2) (.int .i64 (s + f)) (.int .i64 (s + (f + t))) (.int .i64 (s + k))
          have hbr3 := below_set5 hbr2 hg1 (.int .i64 1) (.int .i64 2) (.int .i64 (s + f)) (.int .i64 (s + (f + t))) (.int .i64 (s + k))
          generalize ((((w2.setCell ⟨g1, 0, none⟩ (.int .i64 1)).setCell ⟨g1, 1, none⟩ (.int .i64 2)).setCell ⟨g1, 2, none⟩ (.int .i64 (s + f))).setCell ⟨g1, 3, none⟩ (.int .i64 (s + (f + t)))).setCell ⟨g1, 4, none⟩ (.int .i64 (s + k)) = W3 at *
          refine (live_any _ _ _ _ _ _ _).mono ?_
          rw [hw]
          rintro e w4 ⟨rfl, hb4⟩
          have hB4 := hB3.below hb4
          have hbr4 := hbr3.trans (hb4.mono hbr3.size)
          clear c0 c1 c2 c3 c4 f0' f1' f2' f3' f4' hb4
          obtain ⟨c0, c1, c2, c3, c4, _⟩ := hB4.five
          go_wp2_with fail
          refine (live_any _ _ _ _ _ _ _).mono ?_
          rw [hw]
          rintro e w5 ⟨rfl, hb5⟩
          have hB5 := hB4.below hb5
          have hbr5 := hbr4.trans (hb5.mono hbr4.size)
          go_wp2
          go_roundw
          case rel => exact ⟨k + 1, by omega, by rw [HV.out], by go_num, by rw [HV.out]; exact hB5, hbr5⟩
          case measure => simp [intOf]; omega
        · rw [if_neg (by omega)] at hv2
          have HV := Lib.hid hv2
          have HST := Lib.hid (hst.trans hv2)
          clear hst hv2
          go_wp2_with fail
          refine (mark_any _ _ _ _ _ _ _).mono ?_
          rw [HST.out]
          rintro e w2 ⟨rfl, hb2⟩
          have hB2 := hB.below hb2
          have hbr2 := hbr.trans (hb2.mono hbr.size)
          clear c0 c1 c2 c3 c4 hb2
          obtain ⟨c0, c1, c2, c3, c4, f0', f1', f2', f3', f4'⟩ := hB2.fiveF
          go_wp2_with fail
          have hB3 := hB2.set5 (.int .i64 1) (.int .i64 2) (.int .i64 (s + f)) (.int .i64 (s + (f + t))) (.int .i64 v)
          have hbr3 := below_set5 hbr2 hg1 (.int .i64 1) (.int .i64 2) (.int .i64 (s + f)) (.int .i64 (s + (f + t))) (.int .i64 v)
          generalize ((((w2.setCell ⟨g1, 0, none⟩ (.int .i64 1)).setCell ⟨g1, 1, none⟩ (.int .i64 2)).setCell ⟨g1, 2, none⟩ (.int .i64 (s + f))).setCell ⟨g1, 3, none⟩ (.int .i64 (s + (f + t)))).setCell ⟨g1, 4, none⟩ (.int .i64 v) = W3 at *
          refine (live_any _ _ _ _ _ _ _).mono ?_
          rw [hw]
          rintro e w4 ⟨rfl, hb4⟩
          have hB4 := hB3.below hb4
          have hbr4 := hbr3.trans (hb4.mono hbr3.size)
          clear c0 c1 c2 c3 c4 f0' f1' f2' f3' f4' hb4
          obtain ⟨c0, c1, c2, c3, c4, _⟩ := hB4.five
          go_wp2_with fail
          refine (live_any _ _ _ _ _ _ _).mono ?_
          rw [hw]
          rintro e w5 ⟨rfl, hb5⟩
          have hB5 := hB4.below hb5
          have hbr5 := hbr4.trans (hb5.mono hbr4.size)
          go_wp2
          go_roundw
          case rel => exact ⟨k + 1, by omega, by rw [HV.out], by go_num, by rw [HV.out]; exact hB5, hbr5⟩
          case measure => simp [intOf]; omega
      · have hw := wi_f hlive
        have hv2 : fV (s + f) (s + (f + t)) s (k + 1) = -1 := by
          unfold fV
          rw [if_neg (show ¬ (1 ≤ k + 1 ∧ (s : Int) + f ≤ s + ↑(k + 1) - 1 ∧ (s : Int) + ↑(k + 1) - 1 ≤ s + (f + t)) by omega)]
        have HV := Lib.hid hv2
        have HST := Lib.hid (hst.trans hv2)
        clear hst hv2
        generalize fV (s + f) (s + (f + t)) s k = v at *
        by_cases d1 : (s : Int) + f ≤ s + k
        · have d2 : (s : Int) + f + t < s + k := by omega
          clear hlive
          go_wp2_with fail
          refine (mark_any _ _ _ _ _ _ _).mono ?_
          rw [HST.out]
          rintro e w2 ⟨rfl, hb2⟩
          have hB2 := hB.below hb2
          have hbr2 := hbr.trans (hb2.mono hbr.size)
          clear c0 c1 c2 c3 c4 hb2
          obtain ⟨c0, c1, c2, c3, c4, f0', f1', f2', f3', f4'⟩ := hB2.fiveF
          go_wp2_with fail
          have hB3 := hB2.set5 (.int .i64 1) (.int .i64 2) (.int .i64 (s + f)) (.int .i64 (s + (f + t))) (.int .i64 (-1))
          have hbr3 := below_set5 hbr2 hg1 (.int .i64 1) (.int .i64 2) (.int .i64 (s + f)) (.int .i64 (s + (f + t))) (.int .i64 (-1))
          generalize ((((w2.setCell ⟨g1, 0, none⟩ (.int .i64 1)).setCell ⟨g1, 1, none⟩ (.int .i64 2)).setCell ⟨g1, 2, none⟩ (.int .i64 (s + f))).setCell ⟨g1, 3, none⟩ (.int .i64 (s + (f + t)))).setCell ⟨g1, 4, none⟩ (.int .i64 (-1)) = W3 at *
          refine (live_any _ _ _ _ _ _ _).mono ?_
          rw [hw]
          rintro e w4 ⟨rfl, hb4⟩
          have hB4 := hB3.below hb4
          have hbr4 := hbr3.trans (hb4.mono hbr3.size)
          clear c0 c1 c2 c3 c4 f0' f1' f2' f3' f4' hb4
          obtain ⟨c0, c1, c2, c3, c4, _⟩ := hB4.five
          go_wp2_with fail
          refine (live_any _ _ _ _ _ _ _).mono ?_
          rw [hw]
          rintro e w5 ⟨rfl, hb5⟩
          have hB5 := hB4.below hb5
          have hbr5 := hbr4.trans (hb5.mono hbr4.size)
          go_wp2
          go_roundw
          case rel => exact ⟨k + 1, by omega, by rw [HV.out], by go_num, by rw [HV.out]; exact hB5, hbr5⟩
          case measure => simp [intOf]; omega
        · have d1' : (s : Int) + k < s + f := by omega
          clear hlive d1
          go_wp2_with fail
          refine (mark_any _ _ _ _ _ _ _).mono ?_
          rw [HST.out]
          rintro e w2 ⟨rfl, hb2⟩
          have hB2 := hB.below hb2
          have hbr2 := hbr.trans (hb2.mono hbr.size)
          clear c0 c1 c2 c3 c4 hb2
          obtain ⟨c0, c1, c2, c3, c4, f0', f1', f2', f3', f4'⟩ := hB2.fiveF
          go_wp2_with fail
          have hB3 := hB2.set5 (.int .i64 1) (.int .i64 2) (.int .i64 (s + f)) (.int .i64 (s + (f + t))) (.int .i64 (-1))
          have hbr3 := below_set5 hbr2 hg1 (.int .i64 1) (.int .i64 2) (.int .i64 (s + f)) (.int .i64 (s + (f + t))) (.int .i64 (-1))
          generalize ((((w2.setCell ⟨g1, 0, none⟩ (.int .i64 1)).setCell ⟨g1, 1, none⟩ (.int .i64 2)).setCell ⟨g1, 2, none⟩ (.int .i64 (s + f))).setCell ⟨g1, 3, none⟩ (.int .i64 (s + (f + t)))).setCell ⟨g1, 4, none⟩ (.int .i64 (-1)) = W3 at *
          refine (live_any _ _ _ _ _ _ _).mono ?_
          rw [hw]
          rintro e w4 ⟨rfl, hb4⟩
          have hB4 := hB3.below hb4
          have hbr4 := hbr3.trans (hb4.mono hbr3.size)
          clear c0 c1 c2 c3 c4 f0' f1' f2' f3' f4' hb4
          obtain ⟨c0, c1, c2, c3, c4, _⟩ := hB4.five
          go_wp2_with fail
          refine (live_any _ _ _ _ _ _ _).mono ?_
          rw [hw]
          rintro e w5 ⟨rfl, hb5⟩
          have hB5 := hB4.below hb5
          have hbr5 := hbr4.trans (hb5.mono hbr4.size)
          go_wp2
          go_roundw
          case rel => exact ⟨k + 1, by omega, by rw [HV.out], by go_num, by rw [HV.out]; exact hB5, hbr5⟩
          case measure => simp [intOf]; omega
    · go_wp2_with fail
      refine (awake_any _).mono ?_; rintro e w' ⟨rfl, hw⟩
      go_wp2
      go_ret
      exact ⟨rfl, hbr.trans (hw.mono hbr.size)⟩
end Go.Proofs.Ytjalkocflieobaa
