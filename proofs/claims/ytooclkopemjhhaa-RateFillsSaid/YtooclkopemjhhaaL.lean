/-
  The law RateFills answers true for all arguments: its walk. Conditions: none.
-/
import Derived.Test.YtooclkopemjhhaaA
namespace Go.Proofs.Ytooclkopemjhhaa
open Go.ChangeShapes Go.WideShapes Go.RowKit
set_option linter.unusedVariables false

/-- The level behind k ticks. -/
def lev (L R B : Int) : Nat → Int
  | 0 => L
  | k + 1 => if lev L R B k + R ≤ B then lev L R B k + R else B
theorem lev_bd {L R B : Int} (hL : 0 ≤ L) (hR : 0 ≤ R) (hB : L ≤ B) (k : Nat) : L ≤ lev L R B k ∧ lev L R B k ≤ B := by
  induction k with
  | zero => exact ⟨Int.le_refl _, hB⟩
  | succ k ih => simp only [lev]; split <;> omega
theorem lev_still {L B : Int} (hB : L ≤ B) (k : Nat) : lev L 0 B k = L := by
  induction k with
  | zero => rfl
  | succ k ih => simp only [lev]; rw [ih, if_pos (by omega)]; omega
theorem lev_full {L R B : Int} (hL : 0 ≤ L) (hR : 0 < R) (hB : L ≤ B) (k : Nat) : lev L R B k = B ∨ L + k ≤ lev L R B k := by
  induction k with
  | zero => right; simp [lev]
  | succ k ih =>
    simp only [lev]
    split
    · rcases ih with h | h <;> omega
    · exact .inl rfl
set_option maxHeartbeats 1000000 in
theorem fills_any (r burst level : Int) (w : World) (r0 : -9223372036854775808 ≤ r) (r1 : r ≤ 9223372036854775807) (b0 : -9223372036854775808 ≤ burst) (b1 : burst ≤ 9223372036854775807) (l0 : -9223372036854775808 ≤ level) (l1 : level ≤ 9223372036854775807) :
    Calls Try.prog 5 #[.int .i64 r, .int .i64 burst, .int .i64 level] w fun e w' => e = .returned (.bool true) ∧ Below w.heap.size w w' := by
  have hB := modI_bd burst 40 (by decide)
  have hR := modI_bd r (modI burst 40 + 1) (by omega)
  have hL := modI_bd level (modI burst 40 + 1) (by omega)
  go_enter Try.func5, Try.ntmps5
  go_wp2_with fail
  refine (mod_any burst 40 (by omega) (by omega) b0 b1 _).mono ?_; rintro e w' ⟨rfl, rfl⟩
  go_wp2_with fail
  refine (mod_any r (modI burst 40 + 1) (by omega) (by omega) r0 r1 _).mono ?_; rintro e w' ⟨rfl, rfl⟩
  go_wp2_with fail
  refine (mod_any level (modI burst 40 + 1) (by omega) (by omega) l0 l1 _).mono ?_; rintro e w' ⟨rfl, rfl⟩
  generalize modI burst 40 = B at *
  generalize modI r (B + 1) = R at *
  generalize modI level (B + 1) = L at *
  obtain ⟨n, rfl⟩ := Int.eq_ofNat_of_zero_le hB.1
  go_wp2_with fail
  have B1 : Blk ((w.alloc (.cells #[.int .i64 L, .int .i64 R, .int .i64 n] 23)).alloc (.cells #[.int .i64 L, .int .i64 R, .int .i64 n] 23)) w.heap.size 23 #[.int .i64 L, .int .i64 R, .int .i64 n] := Blk.new.below (lat_alloc (Below.refl _ _) _)
  have B2 : Blk ((w.alloc (.cells #[.int .i64 L, .int .i64 R, .int .i64 n] 23)).alloc (.cells #[.int .i64 L, .int .i64 R, .int .i64 n] 23)) (w.heap.size + 1) 23 #[.int .i64 L, .int .i64 R, .int .i64 n] := by
    have := Blk.new (w := w.alloc (.cells #[.int .i64 L, .int .i64 R, .int .i64 n] 23)) (t := 23) (cs := #[.int .i64 L, .int .i64 R, .int .i64 n])
    rwa [heap_size] at this
  have hbW : Below w.heap.size w ((w.alloc (.cells #[.int .i64 L, .int .i64 R, .int .i64 n] 23)).alloc (.cells #[.int .i64 L, .int .i64 R, .int .i64 n] 23)) := lat_alloc (lat_alloc (Below.refl _ _) _) _
  generalize ((w.alloc (.cells #[.int .i64 L, .int .i64 R, .int .i64 n] 23)).alloc (.cells #[.int .i64 L, .int .i64 R, .int .i64 n] 23)) = W at *
  go_loopw [25] (fun i wr => ∃ k : Nat, k ≤ n ∧ i = .int .i64 k ∧ Blk wr w.heap.size 23 #[.int .i64 L, .int .i64 R, .int .i64 n] ∧ Blk wr (w.heap.size + 1) 23 #[.int .i64 (lev L R n k), .int .i64 R, .int .i64 n] ∧ Below w.heap.size w wr) (fun i _ => n - (intOf i).toNat)
  case atStart => exact ⟨0, by omega, rfl, B1, B2, hbW⟩
  case round =>
    obtain ⟨k, hk, rfl, C1, C2, hbr⟩ := hrel
    obtain ⟨a0, a1, a2, _, _, _⟩ := C1.three
    obtain ⟨c0, c1, c2, f0, f1, f2⟩ := C2.three
    by_cases hlt : k < n
    · have hlv := lev_bd hL.1 hR.1 (by omega) k (L := L) (R := R) (B := n)
      have HN := Lib.hid (show lev L R n (k + 1) = if lev L R n k + R ≤ n then lev L R n k + R else n from rfl)
      generalize lev L R n k = X at *
      by_cases hx : X + R ≤ n
      · go_wp2_with fail
        refine (tick_any X R n (by omega) (by omega) _).mono ?_; rw [if_pos hx]; rintro e w1 ⟨rfl, hb1⟩
        have D1 := C1.below hb1
        have D2 := C2.below hb1
        have hb2 := hbr.trans (hb1.mono hbr.size)
        obtain ⟨d0, d1, d2, g0, g1, g2⟩ := D2.three
        have hlt1 := D2.lt
        have hlt2 := D1.lt
        clear a0 a1 a2 c0 c1 c2 f0 f1 f2
        go_wp2
        go_roundw
        case rel => exact ⟨k + 1, by omega, by go_num, (D1.far3 (by omega) _ _ _).alloc _, by rw [HN.out, if_pos hx]; exact (D2.set3 _ _ _).alloc _, (below_set3 hb2 (by omega) _ _ _).alloc (below_set3 hb2 (by omega) _ _ _).size _⟩
        case measure => simp [intOf]; omega
      · go_wp2_with fail
        refine (tick_any X R n (by omega) (by omega) _).mono ?_; rw [if_neg (by omega)]; rintro e w1 ⟨rfl, hb1⟩
        have D1 := C1.below hb1
        have D2 := C2.below hb1
        have hb2 := hbr.trans (hb1.mono hbr.size)
        obtain ⟨d0, d1, d2, g0, g1, g2⟩ := D2.three
        have hlt1 := D2.lt
        have hlt2 := D1.lt
        clear a0 a1 a2 c0 c1 c2 f0 f1 f2
        go_wp2
        go_roundw
        case rel => exact ⟨k + 1, by omega, by go_num, (D1.far3 (by omega) _ _ _).alloc _, by rw [HN.out, if_neg (by omega)]; exact (D2.set3 _ _ _).alloc _, (below_set3 hb2 (by omega) _ _ _).alloc (below_set3 hb2 (by omega) _ _ _).size _⟩
        case measure => simp [intOf]; omega
    · obtain rfl : k = n := by omega
      by_cases hr : R = 0
      · subst hr
        have he := lev_still (L := L) (B := k) (by omega) k
        rw [he] at c0
        go_wp2_with fail
        refine (awake_any _).mono ?_; rintro e w' ⟨rfl, hw⟩
        go_wp2
        go_ret
        exact ⟨rfl, hbr.trans (hw.mono hbr.size)⟩
      · have hr' : (R == 0) = false := by simpa using hr
        have hf : lev L R k k = k := by
          have h1 := lev_full hL.1 (show 0 < R by omega) (show L ≤ k by omega) k
          have h2 := lev_bd hL.1 hR.1 (show L ≤ k by omega) k
          omega
        rw [hf] at c0
        go_wp2_with fail
        refine (awake_any _).mono ?_; rintro e w' ⟨rfl, hw⟩
        go_wp2
        go_ret
        exact ⟨rfl, hbr.trans (hw.mono hbr.size)⟩
end Go.Proofs.Ytooclkopemjhhaa
