/-
  The law WindowMakes answers true: its walk. Conditions: none.
-/
import Derived.Test.YtjalkocflieobaaSi
import Derived.Test.YtjalkocflieobaaWr
import Derived.Test.YtjalkocflieobaaMr
import Derived.Test.YtjalkocflieobaaR
import Derived.BigQuiet
import Derived.Deep.Cut
namespace Go.Proofs.Ytjalkocflieobaa
open Go.ChangeShapes Go.WideShapes Go.RowKit
set_option linter.unusedVariables false

def legOf (j p f t n : Int) : Value := .agg #[.int .i64 (sel (mkOk j p f t n) j 0), .int .i64 (sel (mkOk j p f t n) p 0), .int .i64 (sel (mkOk j p f t n) (n + f) 0), .int .i64 (sel (mkOk j p f t n) (n + t) 0), .int .i64 (sel (mkOk j p f t n) (-1) 0)]
def mkV (j p f t n : Int) : Value := .tuple #[legOf j p f t n, .int .i64 (sel (mkOk j p f t n) 0 8)]
theorem tdiv3 {N : Int} (h0 : -9223372036854775808 ≤ N) (h1 : N ≤ 9223372036854775807) : -9223372036854775808 ≤ N.tdiv 3 ∧ N.tdiv 3 ≤ 9223372036854775807 := by
  rcases Int.le_total 0 N with h | h
  · rw [Int.tdiv_eq_ediv_of_nonneg h]; omega
  · obtain ⟨M, rfl⟩ : ∃ M : Int, N = -M := ⟨-N, by omega⟩
    rw [Int.neg_tdiv, Int.tdiv_eq_ediv_of_nonneg (by omega)]; omega
set_option maxRecDepth 100000 in
set_option maxHeartbeats 4000000 in
theorem makes_any (a b c d e J Ph F T N : Int) (w : World) (ra0 : -9223372036854775808 ≤ a) (ra1 : a ≤ 9223372036854775807) (rb0 : -9223372036854775808 ≤ b) (rb1 : b ≤ 9223372036854775807) (rc0 : -9223372036854775808 ≤ c) (rc1 : c ≤ 9223372036854775807) (rd0 : -9223372036854775808 ≤ d) (rd1 : d ≤ 9223372036854775807) (re0 : -9223372036854775808 ≤ e) (re1 : e ≤ 9223372036854775807) (J0 : -9223372036854775808 ≤ J) (J1 : J ≤ 9223372036854775807) (P0 : -9223372036854775808 ≤ Ph) (P1 : Ph ≤ 9223372036854775807) (F0 : -9223372036854775808 ≤ F) (F1 : F ≤ 9223372036854775807) (T0 : -9223372036854775808 ≤ T) (T1 : T ≤ 9223372036854775807) (N0 : -9223372036854775808 ≤ N) (N1 : N ≤ 9223372036854775807) :
    Calls Try.prog 3 #[.agg #[.int .i64 a, .int .i64 b, .int .i64 c, .int .i64 d, .int .i64 e], .int .i64 J, .int .i64 Ph, .int .i64 F, .int .i64 T, .int .i64 N] w fun e w' => e = .returned (.bool true) ∧ Below w.heap.size w w' := by
  obtain ⟨r0, hr0, hr0'⟩ := mod_n a 5 (by omega)
  obtain ⟨r1, hr1, hr1'⟩ := mod_n b 9 (by omega)
  obtain ⟨r2, hr2, hr2'⟩ := mod_n c 30 (by omega)
  obtain ⟨r3, hr3, hr3'⟩ := mod_n d 30 (by omega)
  obtain ⟨r4, hr4, hr4'⟩ := mod_n e 12 (by omega)
  obtain ⟨n30, hn30, hn30'⟩ := mod_n N 30 (by omega)
  obtain ⟨j1, hj, hj1⟩ := mod_n J 6 (by omega)
  obtain ⟨p1, hp, hp1⟩ := mod_n Ph 10 (by omega)
  obtain ⟨f1, hf1, hf2⟩ := mod_n F 9 (by omega)
  obtain ⟨t1, ht, ht1⟩ := mod_n T 9 (by omega)
  obtain ⟨n3, hn3, hn31⟩ := mod_n N 3 (by omega)
  obtain ⟨n20, hn20, hn201⟩ := mod_n N 20 (by omega)
  obtain ⟨n2, hn2, hn21⟩ := mod_n (N.tdiv 3) 2 (by omega)
  have hq0 : -9223372036854775808 ≤ N.tdiv 3 ∧ N.tdiv 3 ≤ 9223372036854775807 := tdiv3 N0 N1
  obtain ⟨A, hA, A0, A1⟩ : ∃ A : Int, (#[.int .i64 0, .int .i64 0, .int .i64 596] : Array Value)[n3]? = some (.int .i64 A) ∧ 0 ≤ A ∧ A ≤ 596 := by
    match n3, hn31 with
    | 0, _ => exact ⟨0, rfl, by omega, by omega⟩
    | 1, _ => exact ⟨0, rfl, by omega, by omega⟩
    | 2, _ => exact ⟨596, rfl, by omega, by omega⟩
  obtain ⟨B, hB, B0, B1⟩ : ∃ B : Int, (#[.int .i64 ((n20 : Int) - 1), .int .i64 (1073741823 + (n3 : Int))] : Array Value)[n2]? = some (.int .i64 B) ∧ -1 ≤ B ∧ B ≤ 1073741825 := by
    match n2, hn21 with
    | 0, _ => exact ⟨_, rfl, by omega, by omega⟩
    | 1, _ => exact ⟨_, rfl, by omega, by omega⟩
  obtain ⟨y0, y1, y2, y3, y4, yE, hleg', hyE'⟩ : ∃ y0 y1 y2 y3 y4 yE : Int, legOf ((j1 : Int) - 1) ((p1 : Int) - 1) ((f1 : Int) - 1) ((t1 : Int) + A) B = .agg #[.int .i64 y0, .int .i64 y1, .int .i64 y2, .int .i64 y3, .int .i64 y4] ∧ sel (mkOk ((j1 : Int) - 1) ((p1 : Int) - 1) ((f1 : Int) - 1) ((t1 : Int) + A) B) 0 8 = yE := ⟨_, _, _, _, _, _, rfl, rfl⟩
  have hleg := Lib.hid hleg'
  have hyE := Lib.hid hyE'
  clear hleg' hyE'
  go_enter Try.func3, Try.ntmps3
  go_wp2_with fail
  have G6 := Blk.new (w := w) (t := 23) (cs := #[.int .i64 a, .int .i64 b, .int .i64 c, .int .i64 d, .int .i64 e])
  have b6 := lat_alloc (Below.refl w.heap.size w) (.cells #[.int .i64 a, .int .i64 b, .int .i64 c, .int .i64 d, .int .i64 e] 23)
  generalize w.alloc (.cells #[.int .i64 a, .int .i64 b, .int .i64 c, .int .i64 d, .int .i64 e] 23) = W6 at *
  refine (make_any _ _ _ _ _ _).mono ?_; rintro e1 w1 ⟨rfl, hb1⟩
  go_wp2_with fail
  have c1 := G6.below hb1
  have d1 := b6.trans (hb1.mono b6.size)
  have G13 := Blk.new (w := w1) (t := 23) (cs := #[.int .i64 (sel (mkOk J Ph F T N) J 0), .int .i64 (sel (mkOk J Ph F T N) Ph 0), .int .i64 (sel (mkOk J Ph F T N) (N + F) 0), .int .i64 (sel (mkOk J Ph F T N) (N + T) 0), .int .i64 (sel (mkOk J Ph F T N) (-1) 0)])
  have G6' := Blk.alloc c1 (.cells #[.int .i64 (sel (mkOk J Ph F T N) J 0), .int .i64 (sel (mkOk J Ph F T N) Ph 0), .int .i64 (sel (mkOk J Ph F T N) (N + F) 0), .int .i64 (sel (mkOk J Ph F T N) (N + T) 0), .int .i64 (sel (mkOk J Ph F T N) (-1) 0)] 23)
  have b13 := d1.alloc d1.size (.cells #[.int .i64 (sel (mkOk J Ph F T N) J 0), .int .i64 (sel (mkOk J Ph F T N) Ph 0), .int .i64 (sel (mkOk J Ph F T N) (N + F) 0), .int .i64 (sel (mkOk J Ph F T N) (N + T) 0), .int .i64 (sel (mkOk J Ph F T N) (-1) 0)] 23)
  generalize w1.alloc (.cells #[.int .i64 (sel (mkOk J Ph F T N) J 0), .int .i64 (sel (mkOk J Ph F T N) Ph 0), .int .i64 (sel (mkOk J Ph F T N) (N + F) 0), .int .i64 (sel (mkOk J Ph F T N) (N + T) 0), .int .i64 (sel (mkOk J Ph F T N) (-1) 0)] 23) = W13 at *
  generalize w1.heap.size = g13 at *
  clear c1 d1 hb1 b6 G6
  refine (rmake_any _ _ _ _ _ _).mono ?_; rintro e1 w2 ⟨rfl, hb2⟩
  go_wp2_with fail
  have c1 := G6'.below hb2
  have c2 := G13.below hb2
  have d1 := b13.trans (hb2.mono b13.size)
  have G15 := Blk.new (w := w2) (t := 23) (cs := #[.int .i64 (sel (mkOk J Ph F T N) J 0), .int .i64 (sel (mkOk J Ph F T N) Ph 0), .int .i64 (sel (mkOk J Ph F T N) (N + F) 0), .int .i64 (sel (mkOk J Ph F T N) (N + T) 0), .int .i64 (sel (mkOk J Ph F T N) (-1) 0)])
  have G6 := Blk.alloc c1 (.cells #[.int .i64 (sel (mkOk J Ph F T N) J 0), .int .i64 (sel (mkOk J Ph F T N) Ph 0), .int .i64 (sel (mkOk J Ph F T N) (N + F) 0), .int .i64 (sel (mkOk J Ph F T N) (N + T) 0), .int .i64 (sel (mkOk J Ph F T N) (-1) 0)] 23)
  have G13' := Blk.alloc c2 (.cells #[.int .i64 (sel (mkOk J Ph F T N) J 0), .int .i64 (sel (mkOk J Ph F T N) Ph 0), .int .i64 (sel (mkOk J Ph F T N) (N + F) 0), .int .i64 (sel (mkOk J Ph F T N) (N + T) 0), .int .i64 (sel (mkOk J Ph F T N) (-1) 0)] 23)
  have b15 := d1.alloc d1.size (.cells #[.int .i64 (sel (mkOk J Ph F T N) J 0), .int .i64 (sel (mkOk J Ph F T N) Ph 0), .int .i64 (sel (mkOk J Ph F T N) (N + F) 0), .int .i64 (sel (mkOk J Ph F T N) (N + T) 0), .int .i64 (sel (mkOk J Ph F T N) (-1) 0)] 23)
  generalize w2.alloc (.cells #[.int .i64 (sel (mkOk J Ph F T N) J 0), .int .i64 (sel (mkOk J Ph F T N) Ph 0), .int .i64 (sel (mkOk J Ph F T N) (N + F) 0), .int .i64 (sel (mkOk J Ph F T N) (N + T) 0), .int .i64 (sel (mkOk J Ph F T N) (-1) 0)] 23) = W at *
  generalize w2.heap.size = g15 at *
  clear c1 c2 d1 hb2 b13 G13 G6'
  skip
  refine wp_region_mono 34 185 [fun v _ => v = .int .i64 J, fun v _ => v = .int .i64 j1, fun v _ => v = .int .i64 ((j1 : Int) - 1), fun v _ => v = .int .i64 Ph, fun v _ => v = .int .i64 p1, fun v _ => v = .int .i64 ((p1 : Int) - 1), fun v _ => v = .int .i64 F, fun v _ => v = .int .i64 f1, fun v _ => v = .int .i64 ((f1 : Int) - 1), fun v _ => v = .int .i64 T, fun v _ => v = .int .i64 t1, fun v w => ∃ g, v = .slice (some ⟨g, 0, none⟩) 3 3 ∧ Blk w g 3 #[.int .i64 0, .int .i64 0, .int .i64 596], fun v _ => v = .int .i64 N, fun v _ => v = .int .i64 n3, fun v w => ∃ g, v = .pointer (some ⟨g, n3, none⟩) ∧ Blk w g 3 #[.int .i64 0, .int .i64 0, .int .i64 596], fun v _ => v = .int .i64 A, fun v _ => v = .int .i64 ((t1 : Int) + A), fun v _ => v = .int .i64 N, fun v _ => v = .int .i64 n20, fun v _ => v = .int .i64 ((n20 : Int) - 1), fun v _ => v = .int .i64 N, fun v _ => v = .int .i64 n3, fun v _ => v = .int .i64 (1073741823 + (n3 : Int)), fun v w => ∃ g, v = .slice (some ⟨g, 0, none⟩) 2 2 ∧ Blk w g 3 #[.int .i64 ((n20 : Int) - 1), .int .i64 (1073741823 + (n3 : Int))], fun v _ => v = .int .i64 N, fun v _ => v = .int .i64 (N.tdiv 3), fun v _ => v = .int .i64 n2, fun v w => ∃ g, v = .pointer (some ⟨g, n2, none⟩) ∧ Blk w g 3 #[.int .i64 ((n20 : Int) - 1), .int .i64 (1073741823 + (n3 : Int))], fun v _ => v = .int .i64 B, fun v _ => v = mkV ((j1 : Int) - 1) ((p1 : Int) - 1) ((f1 : Int) - 1) ((t1 : Int) + A) B, fun v _ => v = mkV ((j1 : Int) - 1) ((p1 : Int) - 1) ((f1 : Int) - 1) ((t1 : Int) + A) B, fun v _ => v = legOf ((j1 : Int) - 1) ((p1 : Int) - 1) ((f1 : Int) - 1) ((t1 : Int) + A) B, fun v _ => v = .int .i64 (sel (mkOk ((j1 : Int) - 1) ((p1 : Int) - 1) ((f1 : Int) - 1) ((t1 : Int) + A) B) 0 8), fun v w => ∃ g, v = .pointer (some ⟨g, 0, none⟩) ∧ W.heap.size ≤ g ∧ Blk w g 23 #[.int .i64 0, .int .i64 0, .int .i64 0, .int .i64 0, .int .i64 0]] (by kernel_rfl) (fun _ _ d _ _ h => by cases d <;> exact h) rfl (by kernel_rfl) (stay_cons (stays_v _) (stay_cons (stays_v _) (stay_cons (stays_v _) (stay_cons (stays_v _) (stay_cons (stays_v _) (stay_cons (stays_v _) (stay_cons (stays_v _) (stay_cons (stays_v _) (stay_cons (stays_v _) (stay_cons (stays_v _) (stay_cons (stays_v _) (stay_cons (stays_s _ _ _) (stay_cons (stays_v _) (stay_cons (stays_v _) (stay_cons (stays_p _ _ _) (stay_cons (stays_v _) (stay_cons (stays_v _) (stay_cons (stays_v _) (stay_cons (stays_v _) (stay_cons (stays_v _) (stay_cons (stays_v _) (stay_cons (stays_v _) (stay_cons (stays_v _) (stay_cons (stays_s _ _ _) (stay_cons (stays_v _) (stay_cons (stays_v _) (stay_cons (stays_v _) (stay_cons (stays_p _ _ _) (stay_cons (stays_v _) (stay_cons (stays_v _) (stay_cons (stays_v _) (stay_cons (stays_v _) (stay_cons (stays_v _) (stay_cons (stays_n _ _ _ _) (stay_nil))))))))))))))))))))))))))))))))))) ?_ ?_
  · simp only [List.take_succ_cons, List.take_zero]
    refine steps_cons (fun ev xw hb hc hf hfr hd hr => ?_) ?_
    · have e1 : ev (.tmp 1) = .int .i64 J := hfr 1 (by kernel_rfl)
      clear hfr hd
      show OpOk _ _ ev xw fun v w' => Below xw.heap.size xw w' ∧ v = .int .i64 J
      unfold OpOk
      go_simp
    refine steps_cons (fun ev xw hb hc hf hfr hd hr => ?_) ?_
    · have e44 : ev (.tmp 44) = .int .i64 J := hd 0 44 (by kernel_rfl)
      clear hfr hd
      show OpOk _ _ ev xw fun v w' => Below xw.heap.size xw w' ∧ v = .int .i64 j1
      unfold OpOk
      go_simp
      exact (mod_s hj (by omega) (by omega) (by omega) (by omega) _).mono fun e w'' ⟨he, hw⟩ => ⟨he, hw ▸ Below.refl _ _⟩
    refine steps_cons (fun ev xw hb hc hf hfr hd hr => ?_) ?_
    · have e45 : ev (.tmp 45) = .int .i64 j1 := hd 1 45 (by kernel_rfl)
      clear hfr hd
      show OpOk _ _ ev xw fun v w' => Below xw.heap.size xw w' ∧ v = .int .i64 ((j1 : Int) - 1)
      unfold OpOk
      go_simp
      all_goals (rw [IntKind.wrap_i64]; omega)
    refine steps_cons (fun ev xw hb hc hf hfr hd hr => ?_) ?_
    · have e2 : ev (.tmp 2) = .int .i64 Ph := hfr 2 (by kernel_rfl)
      clear hfr hd
      show OpOk _ _ ev xw fun v w' => Below xw.heap.size xw w' ∧ v = .int .i64 Ph
      unfold OpOk
      go_simp
    refine steps_cons (fun ev xw hb hc hf hfr hd hr => ?_) ?_
    · have e47 : ev (.tmp 47) = .int .i64 Ph := hd 3 47 (by kernel_rfl)
      clear hfr hd
      show OpOk _ _ ev xw fun v w' => Below xw.heap.size xw w' ∧ v = .int .i64 p1
      unfold OpOk
      go_simp
      exact (mod_s hp (by omega) (by omega) (by omega) (by omega) _).mono fun e w'' ⟨he, hw⟩ => ⟨he, hw ▸ Below.refl _ _⟩
    refine steps_cons (fun ev xw hb hc hf hfr hd hr => ?_) ?_
    · have e48 : ev (.tmp 48) = .int .i64 p1 := hd 4 48 (by kernel_rfl)
      clear hfr hd
      show OpOk _ _ ev xw fun v w' => Below xw.heap.size xw w' ∧ v = .int .i64 ((p1 : Int) - 1)
      unfold OpOk
      go_simp
      all_goals (rw [IntKind.wrap_i64]; omega)
    refine steps_cons (fun ev xw hb hc hf hfr hd hr => ?_) ?_
    · have e3 : ev (.tmp 3) = .int .i64 F := hfr 3 (by kernel_rfl)
      clear hfr hd
      show OpOk _ _ ev xw fun v w' => Below xw.heap.size xw w' ∧ v = .int .i64 F
      unfold OpOk
      go_simp
    refine steps_cons (fun ev xw hb hc hf hfr hd hr => ?_) ?_
    · have e50 : ev (.tmp 50) = .int .i64 F := hd 6 50 (by kernel_rfl)
      clear hfr hd
      show OpOk _ _ ev xw fun v w' => Below xw.heap.size xw w' ∧ v = .int .i64 f1
      unfold OpOk
      go_simp
      exact (mod_s hf1 (by omega) (by omega) (by omega) (by omega) _).mono fun e w'' ⟨he, hw⟩ => ⟨he, hw ▸ Below.refl _ _⟩
    refine steps_cons (fun ev xw hb hc hf hfr hd hr => ?_) ?_
    · have e51 : ev (.tmp 51) = .int .i64 f1 := hd 7 51 (by kernel_rfl)
      clear hfr hd
      show OpOk _ _ ev xw fun v w' => Below xw.heap.size xw w' ∧ v = .int .i64 ((f1 : Int) - 1)
      unfold OpOk
      go_simp
      all_goals (rw [IntKind.wrap_i64]; omega)
    refine steps_cons (fun ev xw hb hc hf hfr hd hr => ?_) ?_
    · have e4 : ev (.tmp 4) = .int .i64 T := hfr 4 (by kernel_rfl)
      clear hfr hd
      show OpOk _ _ ev xw fun v w' => Below xw.heap.size xw w' ∧ v = .int .i64 T
      unfold OpOk
      go_simp
    refine steps_cons (fun ev xw hb hc hf hfr hd hr => ?_) ?_
    · have e53 : ev (.tmp 53) = .int .i64 T := hd 9 53 (by kernel_rfl)
      clear hfr hd
      show OpOk _ _ ev xw fun v w' => Below xw.heap.size xw w' ∧ v = .int .i64 t1
      unfold OpOk
      go_simp
      exact (mod_s ht (by omega) (by omega) (by omega) (by omega) _).mono fun e w'' ⟨he, hw⟩ => ⟨he, hw ▸ Below.refl _ _⟩
    refine steps_cons (fun ev xw hb hc hf hfr hd hr => ?_) ?_
    · clear hfr hd
      show OpOk _ _ ev xw fun v w' => Below xw.heap.size xw w' ∧ ∃ g, v = .slice (some ⟨g, 0, none⟩) 3 3 ∧ Blk w' g 3 #[.int .i64 0, .int .i64 0, .int .i64 596]
      unfold OpOk
      go_simp
      first | exact ⟨lat_alloc (Below.refl _ _) _, _, rfl, Blk.new⟩ | exact ⟨lat_alloc (Below.refl _ _) _, Blk.new⟩
    refine steps_cons (fun ev xw hb hc hf hfr hd hr => ?_) ?_
    · have e5 : ev (.tmp 5) = .int .i64 N := hfr 5 (by kernel_rfl)
      clear hfr hd
      show OpOk _ _ ev xw fun v w' => Below xw.heap.size xw w' ∧ v = .int .i64 N
      unfold OpOk
      go_simp
    refine steps_cons (fun ev xw hb hc hf hfr hd hr => ?_) ?_
    · have e56 : ev (.tmp 56) = .int .i64 N := hd 12 56 (by kernel_rfl)
      clear hfr hd
      show OpOk _ _ ev xw fun v w' => Below xw.heap.size xw w' ∧ v = .int .i64 n3
      unfold OpOk
      go_simp
      exact (mod_s hn3 (by omega) (by omega) (by omega) (by omega) _).mono fun e w'' ⟨he, hw⟩ => ⟨he, hw ▸ Below.refl _ _⟩
    refine steps_cons (fun ev xw hb hc hf hfr hd hr => ?_) ?_
    · obtain ⟨g55, e55, B55⟩ : ∃ g, ev (.tmp 55) = .slice (some ⟨g, 0, none⟩) 3 3 ∧ Blk xw g 3 #[.int .i64 0, .int .i64 0, .int .i64 596] := hd 11 55 (by kernel_rfl)
      have e57 : ev (.tmp 57) = .int .i64 n3 := hd 13 57 (by kernel_rfl)
      clear hfr hd
      have i58 : (n3 : Int) < 3 := by omega
      show OpOk _ _ ev xw fun v w' => Below xw.heap.size xw w' ∧ ∃ g, v = .pointer (some ⟨g, n3, none⟩) ∧ Blk w' g 3 #[.int .i64 0, .int .i64 0, .int .i64 596]
      unfold OpOk
      go_simp
      all_goals first | exact ⟨_, rfl, B55⟩ | exact B55
    refine steps_cons (fun ev xw hb hc hf hfr hd hr => ?_) ?_
    · obtain ⟨g58, e58, B58⟩ : ∃ g, ev (.tmp 58) = .pointer (some ⟨g, n3, none⟩) ∧ Blk xw g 3 #[.int .i64 0, .int .i64 0, .int .i64 596] := hd 14 58 (by kernel_rfl)
      clear hfr hd
      have c58 := (Blk.cell B58 n3).trans hA
      show OpOk _ _ ev xw fun v w' => Below xw.heap.size xw w' ∧ v = .int .i64 A
      unfold OpOk
      go_simp
    refine steps_cons (fun ev xw hb hc hf hfr hd hr => ?_) ?_
    · have e54 : ev (.tmp 54) = .int .i64 t1 := hd 10 54 (by kernel_rfl)
      have e59 : ev (.tmp 59) = .int .i64 A := hd 15 59 (by kernel_rfl)
      clear hfr hd
      show OpOk _ _ ev xw fun v w' => Below xw.heap.size xw w' ∧ v = .int .i64 ((t1 : Int) + A)
      unfold OpOk
      go_simp
      all_goals (rw [IntKind.wrap_i64]; omega)
    refine steps_cons (fun ev xw hb hc hf hfr hd hr => ?_) ?_
    · have e5 : ev (.tmp 5) = .int .i64 N := hfr 5 (by kernel_rfl)
      clear hfr hd
      show OpOk _ _ ev xw fun v w' => Below xw.heap.size xw w' ∧ v = .int .i64 N
      unfold OpOk
      go_simp
    refine steps_cons (fun ev xw hb hc hf hfr hd hr => ?_) ?_
    · have e61 : ev (.tmp 61) = .int .i64 N := hd 17 61 (by kernel_rfl)
      clear hfr hd
      show OpOk _ _ ev xw fun v w' => Below xw.heap.size xw w' ∧ v = .int .i64 n20
      unfold OpOk
      go_simp
      exact (mod_s hn20 (by omega) (by omega) (by omega) (by omega) _).mono fun e w'' ⟨he, hw⟩ => ⟨he, hw ▸ Below.refl _ _⟩
    refine steps_cons (fun ev xw hb hc hf hfr hd hr => ?_) ?_
    · have e62 : ev (.tmp 62) = .int .i64 n20 := hd 18 62 (by kernel_rfl)
      clear hfr hd
      show OpOk _ _ ev xw fun v w' => Below xw.heap.size xw w' ∧ v = .int .i64 ((n20 : Int) - 1)
      unfold OpOk
      go_simp
      all_goals (rw [IntKind.wrap_i64]; omega)
    refine steps_cons (fun ev xw hb hc hf hfr hd hr => ?_) ?_
    · have e5 : ev (.tmp 5) = .int .i64 N := hfr 5 (by kernel_rfl)
      clear hfr hd
      show OpOk _ _ ev xw fun v w' => Below xw.heap.size xw w' ∧ v = .int .i64 N
      unfold OpOk
      go_simp
    refine steps_cons (fun ev xw hb hc hf hfr hd hr => ?_) ?_
    · have e64 : ev (.tmp 64) = .int .i64 N := hd 20 64 (by kernel_rfl)
      clear hfr hd
      show OpOk _ _ ev xw fun v w' => Below xw.heap.size xw w' ∧ v = .int .i64 n3
      unfold OpOk
      go_simp
      exact (mod_s hn3 (by omega) (by omega) (by omega) (by omega) _).mono fun e w'' ⟨he, hw⟩ => ⟨he, hw ▸ Below.refl _ _⟩
    refine steps_cons (fun ev xw hb hc hf hfr hd hr => ?_) ?_
    · have e65 : ev (.tmp 65) = .int .i64 n3 := hd 21 65 (by kernel_rfl)
      clear hfr hd
      show OpOk _ _ ev xw fun v w' => Below xw.heap.size xw w' ∧ v = .int .i64 (1073741823 + (n3 : Int))
      unfold OpOk
      go_simp
      all_goals (rw [IntKind.wrap_i64]; omega)
    refine steps_cons (fun ev xw hb hc hf hfr hd hr => ?_) ?_
    · have e63 : ev (.tmp 63) = .int .i64 ((n20 : Int) - 1) := hd 19 63 (by kernel_rfl)
      have e66 : ev (.tmp 66) = .int .i64 (1073741823 + (n3 : Int)) := hd 22 66 (by kernel_rfl)
      clear hfr hd
      show OpOk _ _ ev xw fun v w' => Below xw.heap.size xw w' ∧ ∃ g, v = .slice (some ⟨g, 0, none⟩) 2 2 ∧ Blk w' g 3 #[.int .i64 ((n20 : Int) - 1), .int .i64 (1073741823 + (n3 : Int))]
      unfold OpOk
      go_simp
      first | exact ⟨lat_alloc (Below.refl _ _) _, _, rfl, Blk.new⟩ | exact ⟨lat_alloc (Below.refl _ _) _, Blk.new⟩
    refine steps_cons (fun ev xw hb hc hf hfr hd hr => ?_) ?_
    · have e5 : ev (.tmp 5) = .int .i64 N := hfr 5 (by kernel_rfl)
      clear hfr hd
      show OpOk _ _ ev xw fun v w' => Below xw.heap.size xw w' ∧ v = .int .i64 N
      unfold OpOk
      go_simp
    refine steps_cons (fun ev xw hb hc hf hfr hd hr => ?_) ?_
    · have e68 : ev (.tmp 68) = .int .i64 N := hd 24 68 (by kernel_rfl)
      clear hfr hd
      show OpOk _ _ ev xw fun v w' => Below xw.heap.size xw w' ∧ v = .int .i64 (N.tdiv 3)
      unfold OpOk
      go_simp
      all_goals (rw [IntKind.wrap_i64]; omega)
    refine steps_cons (fun ev xw hb hc hf hfr hd hr => ?_) ?_
    · have e69 : ev (.tmp 69) = .int .i64 (N.tdiv 3) := hd 25 69 (by kernel_rfl)
      clear hfr hd
      show OpOk _ _ ev xw fun v w' => Below xw.heap.size xw w' ∧ v = .int .i64 n2
      unfold OpOk
      go_simp
      exact (mod_s hn2 (by omega) (by omega) (by omega) (by omega) _).mono fun e w'' ⟨he, hw⟩ => ⟨he, hw ▸ Below.refl _ _⟩
    refine steps_cons (fun ev xw hb hc hf hfr hd hr => ?_) ?_
    · obtain ⟨g67, e67, B67⟩ : ∃ g, ev (.tmp 67) = .slice (some ⟨g, 0, none⟩) 2 2 ∧ Blk xw g 3 #[.int .i64 ((n20 : Int) - 1), .int .i64 (1073741823 + (n3 : Int))] := hd 23 67 (by kernel_rfl)
      have e70 : ev (.tmp 70) = .int .i64 n2 := hd 26 70 (by kernel_rfl)
      clear hfr hd
      have i71 : (n2 : Int) < 2 := by omega
      show OpOk _ _ ev xw fun v w' => Below xw.heap.size xw w' ∧ ∃ g, v = .pointer (some ⟨g, n2, none⟩) ∧ Blk w' g 3 #[.int .i64 ((n20 : Int) - 1), .int .i64 (1073741823 + (n3 : Int))]
      unfold OpOk
      go_simp
      all_goals first | exact ⟨_, rfl, B67⟩ | exact B67
    refine steps_cons (fun ev xw hb hc hf hfr hd hr => ?_) ?_
    · obtain ⟨g71, e71, B71⟩ : ∃ g, ev (.tmp 71) = .pointer (some ⟨g, n2, none⟩) ∧ Blk xw g 3 #[.int .i64 ((n20 : Int) - 1), .int .i64 (1073741823 + (n3 : Int))] := hd 27 71 (by kernel_rfl)
      clear hfr hd
      have c71 := (Blk.cell B71 n2).trans hB
      show OpOk _ _ ev xw fun v w' => Below xw.heap.size xw w' ∧ v = .int .i64 B
      unfold OpOk
      go_simp
    refine steps_cons (fun ev xw hb hc hf hfr hd hr => ?_) ?_
    · have e46 : ev (.tmp 46) = .int .i64 ((j1 : Int) - 1) := hd 2 46 (by kernel_rfl)
      have e49 : ev (.tmp 49) = .int .i64 ((p1 : Int) - 1) := hd 5 49 (by kernel_rfl)
      have e52 : ev (.tmp 52) = .int .i64 ((f1 : Int) - 1) := hd 8 52 (by kernel_rfl)
      have e60 : ev (.tmp 60) = .int .i64 ((t1 : Int) + A) := hd 16 60 (by kernel_rfl)
      have e72 : ev (.tmp 72) = .int .i64 B := hd 28 72 (by kernel_rfl)
      clear hfr hd
      show OpOk _ _ ev xw fun v w' => Below xw.heap.size xw w' ∧ v = mkV ((j1 : Int) - 1) ((p1 : Int) - 1) ((f1 : Int) - 1) ((t1 : Int) + A) B
      unfold OpOk
      go_simp
      exact (make_any _ _ _ _ _ _).mono fun e w'' ⟨he, hw⟩ => ⟨he, hw⟩
    refine steps_cons (fun ev xw hb hc hf hfr hd hr => ?_) ?_
    · have e73 : ev (.tmp 73) = mkV ((j1 : Int) - 1) ((p1 : Int) - 1) ((f1 : Int) - 1) ((t1 : Int) + A) B := hd 29 73 (by kernel_rfl)
      clear hfr hd
      show OpOk _ _ ev xw fun v w' => Below xw.heap.size xw w' ∧ v = mkV ((j1 : Int) - 1) ((p1 : Int) - 1) ((f1 : Int) - 1) ((t1 : Int) + A) B
      unfold OpOk
      go_simp
    refine steps_cons (fun ev xw hb hc hf hfr hd hr => ?_) ?_
    · have e43 : ev (.tmp 43) = mkV ((j1 : Int) - 1) ((p1 : Int) - 1) ((f1 : Int) - 1) ((t1 : Int) + A) B := hd 30 43 (by kernel_rfl)
      clear hfr hd
      show OpOk _ _ ev xw fun v w' => Below xw.heap.size xw w' ∧ v = legOf ((j1 : Int) - 1) ((p1 : Int) - 1) ((f1 : Int) - 1) ((t1 : Int) + A) B
      unfold OpOk
      simp only [mkV] at e43
      go_simp
      all_goals rfl
    refine steps_cons (fun ev xw hb hc hf hfr hd hr => ?_) ?_
    · have e43 : ev (.tmp 43) = mkV ((j1 : Int) - 1) ((p1 : Int) - 1) ((f1 : Int) - 1) ((t1 : Int) + A) B := hd 30 43 (by kernel_rfl)
      clear hfr hd
      show OpOk _ _ ev xw fun v w' => Below xw.heap.size xw w' ∧ v = .int .i64 (sel (mkOk ((j1 : Int) - 1) ((p1 : Int) - 1) ((f1 : Int) - 1) ((t1 : Int) + A) B) 0 8)
      unfold OpOk
      simp only [mkV] at e43
      go_simp
    refine steps_cons (fun ev xw hb hc hf hfr hd hr => ?_) ?_
    · clear hfr hd
      show OpOk _ _ ev xw fun v w' => Below xw.heap.size xw w' ∧ ∃ g, v = .pointer (some ⟨g, 0, none⟩) ∧ W.heap.size ≤ g ∧ Blk w' g 23 #[.int .i64 0, .int .i64 0, .int .i64 0, .int .i64 0, .int .i64 0]
      unfold OpOk
      go_simp
      first | exact ⟨lat_alloc (Below.refl _ _) _, _, rfl, hb.size, Blk.new⟩ | exact ⟨lat_alloc (Below.refl _ _) _, hb.size, Blk.new⟩
    exact steps_nil
  · intro vs W3 hb3 hk
    have k74 : vs 31 = legOf ((j1 : Int) - 1) ((p1 : Int) - 1) ((f1 : Int) - 1) ((t1 : Int) + A) B := hk 31 (by omega)
    have k75 : vs 32 = .int .i64 yE := (hk 32 (by omega)).trans (by rw [hyE.out])
    obtain ⟨g17, k17, z17, G17⟩ : ∃ g, vs 33 = .pointer (some ⟨g, 0, none⟩) ∧ W.heap.size ≤ g ∧ Blk W3 g 23 #[.int .i64 0, .int .i64 0, .int .i64 0, .int .i64 0, .int .i64 0] := hk 33 (by omega)
    clear hk
    rw [hleg.out] at k74
    simp only [List.take_succ_cons, List.take_zero, List.drop_succ_cons, List.drop_zero, putAll, Act.put, List.setIfInBounds_toArray, List.set_cons_zero, List.set_cons_succ, k74, k75, k17, Nat.reduceAdd]
    obtain ⟨q0, q1, q2, q3, q4, qf0, qf1, qf2, qf3, qf4⟩ := G17.fiveF
    go_wp2_with fail
    have n6 : w.heap.size ≠ g17 := by have := G6.lt; omega
    have n13 : g13 ≠ g17 := by have := G13'.lt; omega
    have n15 : g15 ≠ g17 := by have := G15.lt; omega
    have M6 := (G6.below hb3).far5 n6 (.int .i64 y0) (.int .i64 y1) (.int .i64 y2) (.int .i64 y3) (.int .i64 y4)
    have M13 := (G13'.below hb3).far5 n13 (.int .i64 y0) (.int .i64 y1) (.int .i64 y2) (.int .i64 y3) (.int .i64 y4)
    have M15 := (G15.below hb3).far5 n15 (.int .i64 y0) (.int .i64 y1) (.int .i64 y2) (.int .i64 y3) (.int .i64 y4)
    have M17 := G17.set5 (.int .i64 y0) (.int .i64 y1) (.int .i64 y2) (.int .i64 y3) (.int .i64 y4)
    have b17 := below_set5 (b15.trans (hb3.mono b15.size)) (Nat.le_trans b15.size z17) (.int .i64 y0) (.int .i64 y1) (.int .i64 y2) (.int .i64 y3) (.int .i64 y4)
    clear G6 G13' G15 G17 b15 q0 q1 q2 q3 q4 qf0 qf1 qf2 qf3 qf4 hb3 n6 n13 n15 k74 k75 k17
    generalize ((((W3.setCell ⟨g17, 0, none⟩ (.int .i64 y0)).setCell ⟨g17, 1, none⟩ (.int .i64 y1)).setCell ⟨g17, 2, none⟩ (.int .i64 y2)).setCell ⟨g17, 3, none⟩ (.int .i64 y3)).setCell ⟨g17, 4, none⟩ (.int .i64 y4) = V at *
    skip
    refine wp_region_mono 34 185 [fun v _ => v = .int .i64 J, fun v _ => v = .int .i64 j1, fun v _ => v = .int .i64 ((j1 : Int) - 1), fun v _ => v = .int .i64 Ph, fun v _ => v = .int .i64 p1, fun v _ => v = .int .i64 ((p1 : Int) - 1), fun v _ => v = .int .i64 F, fun v _ => v = .int .i64 f1, fun v _ => v = .int .i64 ((f1 : Int) - 1), fun v _ => v = .int .i64 T, fun v _ => v = .int .i64 t1, fun v w => ∃ g, v = .slice (some ⟨g, 0, none⟩) 3 3 ∧ Blk w g 3 #[.int .i64 0, .int .i64 0, .int .i64 596], fun v _ => v = .int .i64 N, fun v _ => v = .int .i64 n3, fun v w => ∃ g, v = .pointer (some ⟨g, n3, none⟩) ∧ Blk w g 3 #[.int .i64 0, .int .i64 0, .int .i64 596], fun v _ => v = .int .i64 A, fun v _ => v = .int .i64 ((t1 : Int) + A), fun v _ => v = .int .i64 N, fun v _ => v = .int .i64 n20, fun v _ => v = .int .i64 ((n20 : Int) - 1), fun v _ => v = .int .i64 N, fun v _ => v = .int .i64 n3, fun v _ => v = .int .i64 (1073741823 + (n3 : Int)), fun v w => ∃ g, v = .slice (some ⟨g, 0, none⟩) 2 2 ∧ Blk w g 3 #[.int .i64 ((n20 : Int) - 1), .int .i64 (1073741823 + (n3 : Int))], fun v _ => v = .int .i64 N, fun v _ => v = .int .i64 (N.tdiv 3), fun v _ => v = .int .i64 n2, fun v w => ∃ g, v = .pointer (some ⟨g, n2, none⟩) ∧ Blk w g 3 #[.int .i64 ((n20 : Int) - 1), .int .i64 (1073741823 + (n3 : Int))], fun v _ => v = .int .i64 B, fun v _ => v = mkV ((j1 : Int) - 1) ((p1 : Int) - 1) ((f1 : Int) - 1) ((t1 : Int) + A) B, fun v _ => v = mkV ((j1 : Int) - 1) ((p1 : Int) - 1) ((f1 : Int) - 1) ((t1 : Int) + A) B, fun v _ => v = legOf ((j1 : Int) - 1) ((p1 : Int) - 1) ((f1 : Int) - 1) ((t1 : Int) + A) B, fun v _ => v = .int .i64 (sel (mkOk ((j1 : Int) - 1) ((p1 : Int) - 1) ((f1 : Int) - 1) ((t1 : Int) + A) B) 0 8), fun v w => ∃ g, v = .pointer (some ⟨g, 0, none⟩) ∧ V.heap.size ≤ g ∧ Blk w g 23 #[.int .i64 0, .int .i64 0, .int .i64 0, .int .i64 0, .int .i64 0]] (by kernel_rfl) (fun _ _ d _ _ h => by cases d <;> exact h) rfl (by kernel_rfl) (stay_cons (stays_v _) (stay_cons (stays_v _) (stay_cons (stays_v _) (stay_cons (stays_v _) (stay_cons (stays_v _) (stay_cons (stays_v _) (stay_cons (stays_v _) (stay_cons (stays_v _) (stay_cons (stays_v _) (stay_cons (stays_v _) (stay_cons (stays_v _) (stay_cons (stays_s _ _ _) (stay_cons (stays_v _) (stay_cons (stays_v _) (stay_cons (stays_p _ _ _) (stay_cons (stays_v _) (stay_cons (stays_v _) (stay_cons (stays_v _) (stay_cons (stays_v _) (stay_cons (stays_v _) (stay_cons (stays_v _) (stay_cons (stays_v _) (stay_cons (stays_v _) (stay_cons (stays_s _ _ _) (stay_cons (stays_v _) (stay_cons (stays_v _) (stay_cons (stays_v _) (stay_cons (stays_p _ _ _) (stay_cons (stays_v _) (stay_cons (stays_v _) (stay_cons (stays_v _) (stay_cons (stays_v _) (stay_cons (stays_v _) (stay_cons (stays_n _ _ _ _) (stay_nil))))))))))))))))))))))))))))))))))) ?_ ?_
    · simp only [List.take_succ_cons, List.take_zero]
      refine steps_cons (fun ev xw hb hc hf hfr hd hr => ?_) ?_
      · have e1 : ev (.tmp 1) = .int .i64 J := hfr 1 (by kernel_rfl)
        clear hfr hd
        show OpOk _ _ ev xw fun v w' => Below xw.heap.size xw w' ∧ v = .int .i64 J
        unfold OpOk
        go_simp
      refine steps_cons (fun ev xw hb hc hf hfr hd hr => ?_) ?_
      · have e77 : ev (.tmp 77) = .int .i64 J := hd 0 77 (by kernel_rfl)
        clear hfr hd
        show OpOk _ _ ev xw fun v w' => Below xw.heap.size xw w' ∧ v = .int .i64 j1
        unfold OpOk
        go_simp
        exact (mod_s hj (by omega) (by omega) (by omega) (by omega) _).mono fun e w'' ⟨he, hw⟩ => ⟨he, hw ▸ Below.refl _ _⟩
      refine steps_cons (fun ev xw hb hc hf hfr hd hr => ?_) ?_
      · have e78 : ev (.tmp 78) = .int .i64 j1 := hd 1 78 (by kernel_rfl)
        clear hfr hd
        show OpOk _ _ ev xw fun v w' => Below xw.heap.size xw w' ∧ v = .int .i64 ((j1 : Int) - 1)
        unfold OpOk
        go_simp
        all_goals (rw [IntKind.wrap_i64]; omega)
      refine steps_cons (fun ev xw hb hc hf hfr hd hr => ?_) ?_
      · have e2 : ev (.tmp 2) = .int .i64 Ph := hfr 2 (by kernel_rfl)
        clear hfr hd
        show OpOk _ _ ev xw fun v w' => Below xw.heap.size xw w' ∧ v = .int .i64 Ph
        unfold OpOk
        go_simp
      refine steps_cons (fun ev xw hb hc hf hfr hd hr => ?_) ?_
      · have e80 : ev (.tmp 80) = .int .i64 Ph := hd 3 80 (by kernel_rfl)
        clear hfr hd
        show OpOk _ _ ev xw fun v w' => Below xw.heap.size xw w' ∧ v = .int .i64 p1
        unfold OpOk
        go_simp
        exact (mod_s hp (by omega) (by omega) (by omega) (by omega) _).mono fun e w'' ⟨he, hw⟩ => ⟨he, hw ▸ Below.refl _ _⟩
      refine steps_cons (fun ev xw hb hc hf hfr hd hr => ?_) ?_
      · have e81 : ev (.tmp 81) = .int .i64 p1 := hd 4 81 (by kernel_rfl)
        clear hfr hd
        show OpOk _ _ ev xw fun v w' => Below xw.heap.size xw w' ∧ v = .int .i64 ((p1 : Int) - 1)
        unfold OpOk
        go_simp
        all_goals (rw [IntKind.wrap_i64]; omega)
      refine steps_cons (fun ev xw hb hc hf hfr hd hr => ?_) ?_
      · have e3 : ev (.tmp 3) = .int .i64 F := hfr 3 (by kernel_rfl)
        clear hfr hd
        show OpOk _ _ ev xw fun v w' => Below xw.heap.size xw w' ∧ v = .int .i64 F
        unfold OpOk
        go_simp
      refine steps_cons (fun ev xw hb hc hf hfr hd hr => ?_) ?_
      · have e83 : ev (.tmp 83) = .int .i64 F := hd 6 83 (by kernel_rfl)
        clear hfr hd
        show OpOk _ _ ev xw fun v w' => Below xw.heap.size xw w' ∧ v = .int .i64 f1
        unfold OpOk
        go_simp
        exact (mod_s hf1 (by omega) (by omega) (by omega) (by omega) _).mono fun e w'' ⟨he, hw⟩ => ⟨he, hw ▸ Below.refl _ _⟩
      refine steps_cons (fun ev xw hb hc hf hfr hd hr => ?_) ?_
      · have e84 : ev (.tmp 84) = .int .i64 f1 := hd 7 84 (by kernel_rfl)
        clear hfr hd
        show OpOk _ _ ev xw fun v w' => Below xw.heap.size xw w' ∧ v = .int .i64 ((f1 : Int) - 1)
        unfold OpOk
        go_simp
        all_goals (rw [IntKind.wrap_i64]; omega)
      refine steps_cons (fun ev xw hb hc hf hfr hd hr => ?_) ?_
      · have e4 : ev (.tmp 4) = .int .i64 T := hfr 4 (by kernel_rfl)
        clear hfr hd
        show OpOk _ _ ev xw fun v w' => Below xw.heap.size xw w' ∧ v = .int .i64 T
        unfold OpOk
        go_simp
      refine steps_cons (fun ev xw hb hc hf hfr hd hr => ?_) ?_
      · have e86 : ev (.tmp 86) = .int .i64 T := hd 9 86 (by kernel_rfl)
        clear hfr hd
        show OpOk _ _ ev xw fun v w' => Below xw.heap.size xw w' ∧ v = .int .i64 t1
        unfold OpOk
        go_simp
        exact (mod_s ht (by omega) (by omega) (by omega) (by omega) _).mono fun e w'' ⟨he, hw⟩ => ⟨he, hw ▸ Below.refl _ _⟩
      refine steps_cons (fun ev xw hb hc hf hfr hd hr => ?_) ?_
      · clear hfr hd
        show OpOk _ _ ev xw fun v w' => Below xw.heap.size xw w' ∧ ∃ g, v = .slice (some ⟨g, 0, none⟩) 3 3 ∧ Blk w' g 3 #[.int .i64 0, .int .i64 0, .int .i64 596]
        unfold OpOk
        go_simp
        first | exact ⟨lat_alloc (Below.refl _ _) _, _, rfl, Blk.new⟩ | exact ⟨lat_alloc (Below.refl _ _) _, Blk.new⟩
      refine steps_cons (fun ev xw hb hc hf hfr hd hr => ?_) ?_
      · have e5 : ev (.tmp 5) = .int .i64 N := hfr 5 (by kernel_rfl)
        clear hfr hd
        show OpOk _ _ ev xw fun v w' => Below xw.heap.size xw w' ∧ v = .int .i64 N
        unfold OpOk
        go_simp
      refine steps_cons (fun ev xw hb hc hf hfr hd hr => ?_) ?_
      · have e89 : ev (.tmp 89) = .int .i64 N := hd 12 89 (by kernel_rfl)
        clear hfr hd
        show OpOk _ _ ev xw fun v w' => Below xw.heap.size xw w' ∧ v = .int .i64 n3
        unfold OpOk
        go_simp
        exact (mod_s hn3 (by omega) (by omega) (by omega) (by omega) _).mono fun e w'' ⟨he, hw⟩ => ⟨he, hw ▸ Below.refl _ _⟩
      refine steps_cons (fun ev xw hb hc hf hfr hd hr => ?_) ?_
      · obtain ⟨g88, e88, B88⟩ : ∃ g, ev (.tmp 88) = .slice (some ⟨g, 0, none⟩) 3 3 ∧ Blk xw g 3 #[.int .i64 0, .int .i64 0, .int .i64 596] := hd 11 88 (by kernel_rfl)
        have e90 : ev (.tmp 90) = .int .i64 n3 := hd 13 90 (by kernel_rfl)
        clear hfr hd
        have i58 : (n3 : Int) < 3 := by omega
        show OpOk _ _ ev xw fun v w' => Below xw.heap.size xw w' ∧ ∃ g, v = .pointer (some ⟨g, n3, none⟩) ∧ Blk w' g 3 #[.int .i64 0, .int .i64 0, .int .i64 596]
        unfold OpOk
        go_simp
        all_goals first | exact ⟨_, rfl, B88⟩ | exact B88
      refine steps_cons (fun ev xw hb hc hf hfr hd hr => ?_) ?_
      · obtain ⟨g91, e91, B91⟩ : ∃ g, ev (.tmp 91) = .pointer (some ⟨g, n3, none⟩) ∧ Blk xw g 3 #[.int .i64 0, .int .i64 0, .int .i64 596] := hd 14 91 (by kernel_rfl)
        clear hfr hd
        have c91 := (Blk.cell B91 n3).trans hA
        show OpOk _ _ ev xw fun v w' => Below xw.heap.size xw w' ∧ v = .int .i64 A
        unfold OpOk
        go_simp
      refine steps_cons (fun ev xw hb hc hf hfr hd hr => ?_) ?_
      · have e87 : ev (.tmp 87) = .int .i64 t1 := hd 10 87 (by kernel_rfl)
        have e92 : ev (.tmp 92) = .int .i64 A := hd 15 92 (by kernel_rfl)
        clear hfr hd
        show OpOk _ _ ev xw fun v w' => Below xw.heap.size xw w' ∧ v = .int .i64 ((t1 : Int) + A)
        unfold OpOk
        go_simp
        all_goals (rw [IntKind.wrap_i64]; omega)
      refine steps_cons (fun ev xw hb hc hf hfr hd hr => ?_) ?_
      · have e5 : ev (.tmp 5) = .int .i64 N := hfr 5 (by kernel_rfl)
        clear hfr hd
        show OpOk _ _ ev xw fun v w' => Below xw.heap.size xw w' ∧ v = .int .i64 N
        unfold OpOk
        go_simp
      refine steps_cons (fun ev xw hb hc hf hfr hd hr => ?_) ?_
      · have e94 : ev (.tmp 94) = .int .i64 N := hd 17 94 (by kernel_rfl)
        clear hfr hd
        show OpOk _ _ ev xw fun v w' => Below xw.heap.size xw w' ∧ v = .int .i64 n20
        unfold OpOk
        go_simp
        exact (mod_s hn20 (by omega) (by omega) (by omega) (by omega) _).mono fun e w'' ⟨he, hw⟩ => ⟨he, hw ▸ Below.refl _ _⟩
      refine steps_cons (fun ev xw hb hc hf hfr hd hr => ?_) ?_
      · have e95 : ev (.tmp 95) = .int .i64 n20 := hd 18 95 (by kernel_rfl)
        clear hfr hd
        show OpOk _ _ ev xw fun v w' => Below xw.heap.size xw w' ∧ v = .int .i64 ((n20 : Int) - 1)
        unfold OpOk
        go_simp
        all_goals (rw [IntKind.wrap_i64]; omega)
      refine steps_cons (fun ev xw hb hc hf hfr hd hr => ?_) ?_
      · have e5 : ev (.tmp 5) = .int .i64 N := hfr 5 (by kernel_rfl)
        clear hfr hd
        show OpOk _ _ ev xw fun v w' => Below xw.heap.size xw w' ∧ v = .int .i64 N
        unfold OpOk
        go_simp
      refine steps_cons (fun ev xw hb hc hf hfr hd hr => ?_) ?_
      · have e97 : ev (.tmp 97) = .int .i64 N := hd 20 97 (by kernel_rfl)
        clear hfr hd
        show OpOk _ _ ev xw fun v w' => Below xw.heap.size xw w' ∧ v = .int .i64 n3
        unfold OpOk
        go_simp
        exact (mod_s hn3 (by omega) (by omega) (by omega) (by omega) _).mono fun e w'' ⟨he, hw⟩ => ⟨he, hw ▸ Below.refl _ _⟩
      refine steps_cons (fun ev xw hb hc hf hfr hd hr => ?_) ?_
      · have e98 : ev (.tmp 98) = .int .i64 n3 := hd 21 98 (by kernel_rfl)
        clear hfr hd
        show OpOk _ _ ev xw fun v w' => Below xw.heap.size xw w' ∧ v = .int .i64 (1073741823 + (n3 : Int))
        unfold OpOk
        go_simp
        all_goals (rw [IntKind.wrap_i64]; omega)
      refine steps_cons (fun ev xw hb hc hf hfr hd hr => ?_) ?_
      · have e96 : ev (.tmp 96) = .int .i64 ((n20 : Int) - 1) := hd 19 96 (by kernel_rfl)
        have e99 : ev (.tmp 99) = .int .i64 (1073741823 + (n3 : Int)) := hd 22 99 (by kernel_rfl)
        clear hfr hd
        show OpOk _ _ ev xw fun v w' => Below xw.heap.size xw w' ∧ ∃ g, v = .slice (some ⟨g, 0, none⟩) 2 2 ∧ Blk w' g 3 #[.int .i64 ((n20 : Int) - 1), .int .i64 (1073741823 + (n3 : Int))]
        unfold OpOk
        go_simp
        first | exact ⟨lat_alloc (Below.refl _ _) _, _, rfl, Blk.new⟩ | exact ⟨lat_alloc (Below.refl _ _) _, Blk.new⟩
      refine steps_cons (fun ev xw hb hc hf hfr hd hr => ?_) ?_
      · have e5 : ev (.tmp 5) = .int .i64 N := hfr 5 (by kernel_rfl)
        clear hfr hd
        show OpOk _ _ ev xw fun v w' => Below xw.heap.size xw w' ∧ v = .int .i64 N
        unfold OpOk
        go_simp
      refine steps_cons (fun ev xw hb hc hf hfr hd hr => ?_) ?_
      · have e101 : ev (.tmp 101) = .int .i64 N := hd 24 101 (by kernel_rfl)
        clear hfr hd
        show OpOk _ _ ev xw fun v w' => Below xw.heap.size xw w' ∧ v = .int .i64 (N.tdiv 3)
        unfold OpOk
        go_simp
        all_goals (rw [IntKind.wrap_i64]; omega)
      refine steps_cons (fun ev xw hb hc hf hfr hd hr => ?_) ?_
      · have e102 : ev (.tmp 102) = .int .i64 (N.tdiv 3) := hd 25 102 (by kernel_rfl)
        clear hfr hd
        show OpOk _ _ ev xw fun v w' => Below xw.heap.size xw w' ∧ v = .int .i64 n2
        unfold OpOk
        go_simp
        exact (mod_s hn2 (by omega) (by omega) (by omega) (by omega) _).mono fun e w'' ⟨he, hw⟩ => ⟨he, hw ▸ Below.refl _ _⟩
      refine steps_cons (fun ev xw hb hc hf hfr hd hr => ?_) ?_
      · obtain ⟨g100, e100, B100⟩ : ∃ g, ev (.tmp 100) = .slice (some ⟨g, 0, none⟩) 2 2 ∧ Blk xw g 3 #[.int .i64 ((n20 : Int) - 1), .int .i64 (1073741823 + (n3 : Int))] := hd 23 100 (by kernel_rfl)
        have e103 : ev (.tmp 103) = .int .i64 n2 := hd 26 103 (by kernel_rfl)
        clear hfr hd
        have i71 : (n2 : Int) < 2 := by omega
        show OpOk _ _ ev xw fun v w' => Below xw.heap.size xw w' ∧ ∃ g, v = .pointer (some ⟨g, n2, none⟩) ∧ Blk w' g 3 #[.int .i64 ((n20 : Int) - 1), .int .i64 (1073741823 + (n3 : Int))]
        unfold OpOk
        go_simp
        all_goals first | exact ⟨_, rfl, B100⟩ | exact B100
      refine steps_cons (fun ev xw hb hc hf hfr hd hr => ?_) ?_
      · obtain ⟨g104, e104, B104⟩ : ∃ g, ev (.tmp 104) = .pointer (some ⟨g, n2, none⟩) ∧ Blk xw g 3 #[.int .i64 ((n20 : Int) - 1), .int .i64 (1073741823 + (n3 : Int))] := hd 27 104 (by kernel_rfl)
        clear hfr hd
        have c104 := (Blk.cell B104 n2).trans hB
        show OpOk _ _ ev xw fun v w' => Below xw.heap.size xw w' ∧ v = .int .i64 B
        unfold OpOk
        go_simp
      refine steps_cons (fun ev xw hb hc hf hfr hd hr => ?_) ?_
      · have e79 : ev (.tmp 79) = .int .i64 ((j1 : Int) - 1) := hd 2 79 (by kernel_rfl)
        have e82 : ev (.tmp 82) = .int .i64 ((p1 : Int) - 1) := hd 5 82 (by kernel_rfl)
        have e85 : ev (.tmp 85) = .int .i64 ((f1 : Int) - 1) := hd 8 85 (by kernel_rfl)
        have e93 : ev (.tmp 93) = .int .i64 ((t1 : Int) + A) := hd 16 93 (by kernel_rfl)
        have e105 : ev (.tmp 105) = .int .i64 B := hd 28 105 (by kernel_rfl)
        clear hfr hd
        show OpOk _ _ ev xw fun v w' => Below xw.heap.size xw w' ∧ v = mkV ((j1 : Int) - 1) ((p1 : Int) - 1) ((f1 : Int) - 1) ((t1 : Int) + A) B
        unfold OpOk
        go_simp
        exact (rmake_any _ _ _ _ _ _).mono fun e w'' ⟨he, hw⟩ => ⟨he, hw⟩
      refine steps_cons (fun ev xw hb hc hf hfr hd hr => ?_) ?_
      · have e106 : ev (.tmp 106) = mkV ((j1 : Int) - 1) ((p1 : Int) - 1) ((f1 : Int) - 1) ((t1 : Int) + A) B := hd 29 106 (by kernel_rfl)
        clear hfr hd
        show OpOk _ _ ev xw fun v w' => Below xw.heap.size xw w' ∧ v = mkV ((j1 : Int) - 1) ((p1 : Int) - 1) ((f1 : Int) - 1) ((t1 : Int) + A) B
        unfold OpOk
        go_simp
      refine steps_cons (fun ev xw hb hc hf hfr hd hr => ?_) ?_
      · have e76 : ev (.tmp 76) = mkV ((j1 : Int) - 1) ((p1 : Int) - 1) ((f1 : Int) - 1) ((t1 : Int) + A) B := hd 30 76 (by kernel_rfl)
        clear hfr hd
        show OpOk _ _ ev xw fun v w' => Below xw.heap.size xw w' ∧ v = legOf ((j1 : Int) - 1) ((p1 : Int) - 1) ((f1 : Int) - 1) ((t1 : Int) + A) B
        unfold OpOk
        simp only [mkV] at e76
        go_simp
        all_goals rfl
      refine steps_cons (fun ev xw hb hc hf hfr hd hr => ?_) ?_
      · have e76 : ev (.tmp 76) = mkV ((j1 : Int) - 1) ((p1 : Int) - 1) ((f1 : Int) - 1) ((t1 : Int) + A) B := hd 30 76 (by kernel_rfl)
        clear hfr hd
        show OpOk _ _ ev xw fun v w' => Below xw.heap.size xw w' ∧ v = .int .i64 (sel (mkOk ((j1 : Int) - 1) ((p1 : Int) - 1) ((f1 : Int) - 1) ((t1 : Int) + A) B) 0 8)
        unfold OpOk
        simp only [mkV] at e76
        go_simp
      refine steps_cons (fun ev xw hb hc hf hfr hd hr => ?_) ?_
      · clear hfr hd
        show OpOk _ _ ev xw fun v w' => Below xw.heap.size xw w' ∧ ∃ g, v = .pointer (some ⟨g, 0, none⟩) ∧ V.heap.size ≤ g ∧ Blk w' g 23 #[.int .i64 0, .int .i64 0, .int .i64 0, .int .i64 0, .int .i64 0]
        unfold OpOk
        go_simp
        first | exact ⟨lat_alloc (Below.refl _ _) _, _, rfl, hb.size, Blk.new⟩ | exact ⟨lat_alloc (Below.refl _ _) _, hb.size, Blk.new⟩
      exact steps_nil
    · intro vs' W5 hb5 hk
      have k107 : vs' 31 = legOf ((j1 : Int) - 1) ((p1 : Int) - 1) ((f1 : Int) - 1) ((t1 : Int) + A) B := hk 31 (by omega)
      have k108 : vs' 32 = .int .i64 yE := (hk 32 (by omega)).trans (by rw [hyE.out])
      obtain ⟨g19, k19, z19, G19⟩ : ∃ g, vs' 33 = .pointer (some ⟨g, 0, none⟩) ∧ V.heap.size ≤ g ∧ Blk W5 g 23 #[.int .i64 0, .int .i64 0, .int .i64 0, .int .i64 0, .int .i64 0] := hk 33 (by omega)
      clear hk
      rw [hleg.out] at k107
      simp only [List.take_succ_cons, List.take_zero, List.drop_succ_cons, List.drop_zero, putAll, Act.put, List.setIfInBounds_toArray, List.set_cons_zero, List.set_cons_succ, k107, k108, k19, Nat.reduceAdd]
      obtain ⟨q0, q1, q2, q3, q4, qf0, qf1, qf2, qf3, qf4⟩ := G19.fiveF
      have n6 : w.heap.size ≠ g19 := by have := M6.lt; omega
      have n13 : g13 ≠ g19 := by have := M13.lt; omega
      have n15 : g15 ≠ g19 := by have := M15.lt; omega
      have n17 : g17 ≠ g19 := by have := M17.lt; omega
      have L6 := (M6.below hb5).far5 n6 (.int .i64 y0) (.int .i64 y1) (.int .i64 y2) (.int .i64 y3) (.int .i64 y4)
      have L13 := (M13.below hb5).far5 n13 (.int .i64 y0) (.int .i64 y1) (.int .i64 y2) (.int .i64 y3) (.int .i64 y4)
      have L15 := (M15.below hb5).far5 n15 (.int .i64 y0) (.int .i64 y1) (.int .i64 y2) (.int .i64 y3) (.int .i64 y4)
      have L17 := (M17.below hb5).far5 n17 (.int .i64 y0) (.int .i64 y1) (.int .i64 y2) (.int .i64 y3) (.int .i64 y4)
      have L19 := G19.set5 (.int .i64 y0) (.int .i64 y1) (.int .i64 y2) (.int .i64 y3) (.int .i64 y4)
      have b19 := below_set5 (b17.trans (hb5.mono b17.size)) (Nat.le_trans b17.size z19) (.int .i64 y0) (.int .i64 y1) (.int .i64 y2) (.int .i64 y3) (.int .i64 y4)
      clear M6 M13 M15 M17 G19 b17 hb5 n6 n13 n15 n17 k107 k108 k19
      go_upto_region 5 with fail
      generalize ((((W5.setCell ⟨g19, 0, none⟩ (.int .i64 y0)).setCell ⟨g19, 1, none⟩ (.int .i64 y1)).setCell ⟨g19, 2, none⟩ (.int .i64 y2)).setCell ⟨g19, 3, none⟩ (.int .i64 y3)).setCell ⟨g19, 4, none⟩ (.int .i64 y4) = U at *
      clear q0 q1 q2 q3 q4 qf0 qf1 qf2 qf3 qf4
      clear hj hj1 hp hp1 hf1 hf2 ht ht1 hn3 hn31 hn20 hn201 hn2 hn21 hq0 hA A0 A1 hB B0 B1 hleg hyE
      generalize sel (mkOk J Ph F T N) J 0 = x0 at *
      generalize sel (mkOk J Ph F T N) Ph 0 = x1 at *
      generalize sel (mkOk J Ph F T N) (N + F) 0 = x2 at *
      generalize sel (mkOk J Ph F T N) (N + T) 0 = x3 at *
      generalize sel (mkOk J Ph F T N) (-1) 0 = x4 at *
      generalize sel (mkOk J Ph F T N) 0 8 = xE at *
      obtain ⟨a0, a1, a2, a3, a4, _⟩ := L13.five
      obtain ⟨b0, b1, b2, b3, b4, _⟩ := L15.five
      obtain ⟨c0, c1, c2, c3, c4, _⟩ := L17.five
      obtain ⟨d0, d1, d2, d3, d4, _⟩ := L19.five
      go_upto_region 7 with fail
      refine wp_region_mono 22 185 [fun v _ => v = .agg #[.int .i64 a, .int .i64 b, .int .i64 c, .int .i64 d, .int .i64 e], fun v _ => v = .agg #[.int .i64 y0, .int .i64 y1, .int .i64 y2, .int .i64 y3, .int .i64 y4], fun v _ => v = .pointer (some ⟨w.heap.size, 0, none⟩), fun v _ => v = .int .i64 a, fun v _ => v = .int .i64 r0, fun v _ => v = .pointer (some ⟨w.heap.size, 1, none⟩), fun v _ => v = .int .i64 b, fun v _ => v = .int .i64 r1, fun v _ => v = .pointer (some ⟨w.heap.size, 2, none⟩), fun v _ => v = .int .i64 c, fun v _ => v = .int .i64 r2, fun v _ => v = .pointer (some ⟨w.heap.size, 3, none⟩), fun v _ => v = .int .i64 d, fun v _ => v = .int .i64 r3, fun v _ => v = .pointer (some ⟨w.heap.size, 4, none⟩), fun v _ => v = .int .i64 e, fun v _ => v = .int .i64 r4, fun v _ => v = .int .i64 ((r4:Int)-2), fun v _ => v = .agg #[.int .i64 r0, .int .i64 r1, .int .i64 r2, .int .i64 r3, .int .i64 ((r4:Int)-2)], fun v w => ∃ g, v = .slice (some ⟨g, 0, none⟩) 3 3 ∧ Blk w g 23 #[.int .i64 a, .int .i64 b, .int .i64 c, .int .i64 d, .int .i64 e, .int .i64 y0, .int .i64 y1, .int .i64 y2, .int .i64 y3, .int .i64 y4, .int .i64 r0, .int .i64 r1, .int .i64 r2, .int .i64 r3, .int .i64 ((r4:Int)-2)], fun v _ => v = .int .i64 3, fun v _ => v = .int .i64 0] (by kernel_rfl) (fun _ _ d _ _ h => by cases d <;> exact h) rfl (by kernel_rfl) (stay_cons (stays_v _) (stay_cons (stays_v _) (stay_cons (stays_v _) (stay_cons (stays_v _) (stay_cons (stays_v _) (stay_cons (stays_v _) (stay_cons (stays_v _) (stay_cons (stays_v _) (stay_cons (stays_v _) (stay_cons (stays_v _) (stay_cons (stays_v _) (stay_cons (stays_v _) (stay_cons (stays_v _) (stay_cons (stays_v _) (stay_cons (stays_v _) (stay_cons (stays_v _) (stay_cons (stays_v _) (stay_cons (stays_v _) (stay_cons (stays_v _) (stay_cons (stays_s _ _ _) (stay_cons (stays_v _) (stay_cons (stays_v _) (stay_nil))))))))))))))))))))))) ?_ ?_
      · simp only [List.take_succ_cons, List.take_zero]
        refine steps_cons (fun ev xw hb hc hf hfr hd hr => ?_) ?_
        · have e6 : ev (.tmp 6) = .pointer (some ⟨w.heap.size, 0, none⟩) := hfr 6 (by kernel_rfl)
          clear hfr hd
          obtain ⟨l0, l1, l2, l3, l4, _⟩ := (L6.below hb).five
          show OpOk _ _ ev xw fun v w' => Below xw.heap.size xw w' ∧ v = .agg #[.int .i64 a, .int .i64 b, .int .i64 c, .int .i64 d, .int .i64 e]
          unfold OpOk
          go_simp
        refine steps_cons (fun ev xw hb hc hf hfr hd hr => ?_) ?_
        · have e19 : ev (.tmp 19) = .pointer (some ⟨g19, 0, none⟩) := hfr 19 (by kernel_rfl)
          clear hfr hd
          obtain ⟨l0, l1, l2, l3, l4, _⟩ := (L19.below hb).five
          show OpOk _ _ ev xw fun v w' => Below xw.heap.size xw w' ∧ v = .agg #[.int .i64 y0, .int .i64 y1, .int .i64 y2, .int .i64 y3, .int .i64 y4]
          unfold OpOk
          go_simp
        refine steps_cons (fun ev xw hb hc hf hfr hd hr => ?_) ?_
        · have e6 : ev (.tmp 6) = .pointer (some ⟨w.heap.size, 0, none⟩) := hfr 6 (by kernel_rfl)
          clear hfr hd
          show OpOk _ _ ev xw fun v w' => Below xw.heap.size xw w' ∧ v = .pointer (some ⟨w.heap.size, 0, none⟩)
          unfold OpOk
          go_simp
          skip
        refine steps_cons (fun ev xw hb hc hf hfr hd hr => ?_) ?_
        · have e129 : ev (.tmp 129) = .pointer (some ⟨w.heap.size, 0, none⟩) := hd 2 129 (by kernel_rfl)
          clear hfr hd
          obtain ⟨l0, l1, l2, l3, l4, _⟩ := (L6.below hb).five
          show OpOk _ _ ev xw fun v w' => Below xw.heap.size xw w' ∧ v = .int .i64 a
          unfold OpOk
          go_simp
        refine steps_cons (fun ev xw hb hc hf hfr hd hr => ?_) ?_
        · have e130 : ev (.tmp 130) = .int .i64 a := hd 3 130 (by kernel_rfl)
          clear hfr hd
          show OpOk _ _ ev xw fun v w' => Below xw.heap.size xw w' ∧ v = .int .i64 r0
          unfold OpOk
          go_simp
          exact (mod_s hr0 (by omega) (by omega) (by omega) (by omega) _).mono fun e w'' ⟨he, hw⟩ => ⟨he, hw ▸ Below.refl _ _⟩
        refine steps_cons (fun ev xw hb hc hf hfr hd hr => ?_) ?_
        · have e6 : ev (.tmp 6) = .pointer (some ⟨w.heap.size, 0, none⟩) := hfr 6 (by kernel_rfl)
          clear hfr hd
          show OpOk _ _ ev xw fun v w' => Below xw.heap.size xw w' ∧ v = .pointer (some ⟨w.heap.size, 1, none⟩)
          unfold OpOk
          go_simp
          skip
        refine steps_cons (fun ev xw hb hc hf hfr hd hr => ?_) ?_
        · have e132 : ev (.tmp 132) = .pointer (some ⟨w.heap.size, 1, none⟩) := hd 5 132 (by kernel_rfl)
          clear hfr hd
          obtain ⟨l0, l1, l2, l3, l4, _⟩ := (L6.below hb).five
          show OpOk _ _ ev xw fun v w' => Below xw.heap.size xw w' ∧ v = .int .i64 b
          unfold OpOk
          go_simp
        refine steps_cons (fun ev xw hb hc hf hfr hd hr => ?_) ?_
        · have e133 : ev (.tmp 133) = .int .i64 b := hd 6 133 (by kernel_rfl)
          clear hfr hd
          show OpOk _ _ ev xw fun v w' => Below xw.heap.size xw w' ∧ v = .int .i64 r1
          unfold OpOk
          go_simp
          exact (mod_s hr1 (by omega) (by omega) (by omega) (by omega) _).mono fun e w'' ⟨he, hw⟩ => ⟨he, hw ▸ Below.refl _ _⟩
        refine steps_cons (fun ev xw hb hc hf hfr hd hr => ?_) ?_
        · have e6 : ev (.tmp 6) = .pointer (some ⟨w.heap.size, 0, none⟩) := hfr 6 (by kernel_rfl)
          clear hfr hd
          show OpOk _ _ ev xw fun v w' => Below xw.heap.size xw w' ∧ v = .pointer (some ⟨w.heap.size, 2, none⟩)
          unfold OpOk
          go_simp
          skip
        refine steps_cons (fun ev xw hb hc hf hfr hd hr => ?_) ?_
        · have e135 : ev (.tmp 135) = .pointer (some ⟨w.heap.size, 2, none⟩) := hd 8 135 (by kernel_rfl)
          clear hfr hd
          obtain ⟨l0, l1, l2, l3, l4, _⟩ := (L6.below hb).five
          show OpOk _ _ ev xw fun v w' => Below xw.heap.size xw w' ∧ v = .int .i64 c
          unfold OpOk
          go_simp
        refine steps_cons (fun ev xw hb hc hf hfr hd hr => ?_) ?_
        · have e136 : ev (.tmp 136) = .int .i64 c := hd 9 136 (by kernel_rfl)
          clear hfr hd
          show OpOk _ _ ev xw fun v w' => Below xw.heap.size xw w' ∧ v = .int .i64 r2
          unfold OpOk
          go_simp
          exact (mod_s hr2 (by omega) (by omega) (by omega) (by omega) _).mono fun e w'' ⟨he, hw⟩ => ⟨he, hw ▸ Below.refl _ _⟩
        refine steps_cons (fun ev xw hb hc hf hfr hd hr => ?_) ?_
        · have e6 : ev (.tmp 6) = .pointer (some ⟨w.heap.size, 0, none⟩) := hfr 6 (by kernel_rfl)
          clear hfr hd
          show OpOk _ _ ev xw fun v w' => Below xw.heap.size xw w' ∧ v = .pointer (some ⟨w.heap.size, 3, none⟩)
          unfold OpOk
          go_simp
          skip
        refine steps_cons (fun ev xw hb hc hf hfr hd hr => ?_) ?_
        · have e138 : ev (.tmp 138) = .pointer (some ⟨w.heap.size, 3, none⟩) := hd 11 138 (by kernel_rfl)
          clear hfr hd
          obtain ⟨l0, l1, l2, l3, l4, _⟩ := (L6.below hb).five
          show OpOk _ _ ev xw fun v w' => Below xw.heap.size xw w' ∧ v = .int .i64 d
          unfold OpOk
          go_simp
        refine steps_cons (fun ev xw hb hc hf hfr hd hr => ?_) ?_
        · have e139 : ev (.tmp 139) = .int .i64 d := hd 12 139 (by kernel_rfl)
          clear hfr hd
          show OpOk _ _ ev xw fun v w' => Below xw.heap.size xw w' ∧ v = .int .i64 r3
          unfold OpOk
          go_simp
          exact (mod_s hr3 (by omega) (by omega) (by omega) (by omega) _).mono fun e w'' ⟨he, hw⟩ => ⟨he, hw ▸ Below.refl _ _⟩
        refine steps_cons (fun ev xw hb hc hf hfr hd hr => ?_) ?_
        · have e6 : ev (.tmp 6) = .pointer (some ⟨w.heap.size, 0, none⟩) := hfr 6 (by kernel_rfl)
          clear hfr hd
          show OpOk _ _ ev xw fun v w' => Below xw.heap.size xw w' ∧ v = .pointer (some ⟨w.heap.size, 4, none⟩)
          unfold OpOk
          go_simp
          skip
        refine steps_cons (fun ev xw hb hc hf hfr hd hr => ?_) ?_
        · have e141 : ev (.tmp 141) = .pointer (some ⟨w.heap.size, 4, none⟩) := hd 14 141 (by kernel_rfl)
          clear hfr hd
          obtain ⟨l0, l1, l2, l3, l4, _⟩ := (L6.below hb).five
          show OpOk _ _ ev xw fun v w' => Below xw.heap.size xw w' ∧ v = .int .i64 e
          unfold OpOk
          go_simp
        refine steps_cons (fun ev xw hb hc hf hfr hd hr => ?_) ?_
        · have e142 : ev (.tmp 142) = .int .i64 e := hd 15 142 (by kernel_rfl)
          clear hfr hd
          show OpOk _ _ ev xw fun v w' => Below xw.heap.size xw w' ∧ v = .int .i64 r4
          unfold OpOk
          go_simp
          exact (mod_s hr4 (by omega) (by omega) (by omega) (by omega) _).mono fun e w'' ⟨he, hw⟩ => ⟨he, hw ▸ Below.refl _ _⟩
        refine steps_cons (fun ev xw hb hc hf hfr hd hr => ?_) ?_
        · have e143 : ev (.tmp 143) = .int .i64 r4 := hd 16 143 (by kernel_rfl)
          clear hfr hd
          show OpOk _ _ ev xw fun v w' => Below xw.heap.size xw w' ∧ v = .int .i64 ((r4:Int)-2)
          unfold OpOk
          go_simp
          all_goals (rw [IntKind.wrap_i64]; omega)
        refine steps_cons (fun ev xw hb hc hf hfr hd hr => ?_) ?_
        · have e131 : ev (.tmp 131) = .int .i64 r0 := hd 4 131 (by kernel_rfl)
          have e134 : ev (.tmp 134) = .int .i64 r1 := hd 7 134 (by kernel_rfl)
          have e137 : ev (.tmp 137) = .int .i64 r2 := hd 10 137 (by kernel_rfl)
          have e140 : ev (.tmp 140) = .int .i64 r3 := hd 13 140 (by kernel_rfl)
          have e144 : ev (.tmp 144) = .int .i64 ((r4:Int)-2) := hd 17 144 (by kernel_rfl)
          clear hfr hd
          show OpOk _ _ ev xw fun v w' => Below xw.heap.size xw w' ∧ v = .agg #[.int .i64 r0, .int .i64 r1, .int .i64 r2, .int .i64 r3, .int .i64 ((r4:Int)-2)]
          unfold OpOk
          go_simp
        refine steps_cons (fun ev xw hb hc hf hfr hd hr => ?_) ?_
        · have e127 : ev (.tmp 127) = .agg #[.int .i64 a, .int .i64 b, .int .i64 c, .int .i64 d, .int .i64 e] := hd 0 127 (by kernel_rfl)
          have e128 : ev (.tmp 128) = .agg #[.int .i64 y0, .int .i64 y1, .int .i64 y2, .int .i64 y3, .int .i64 y4] := hd 1 128 (by kernel_rfl)
          have e145 : ev (.tmp 145) = .agg #[.int .i64 r0, .int .i64 r1, .int .i64 r2, .int .i64 r3, .int .i64 ((r4:Int)-2)] := hd 18 145 (by kernel_rfl)
          clear hfr hd
          show OpOk _ _ ev xw fun v w' => Below xw.heap.size xw w' ∧ ∃ g, v = .slice (some ⟨g, 0, none⟩) 3 3 ∧ Blk w' g 23 #[.int .i64 a, .int .i64 b, .int .i64 c, .int .i64 d, .int .i64 e, .int .i64 y0, .int .i64 y1, .int .i64 y2, .int .i64 y3, .int .i64 y4, .int .i64 r0, .int .i64 r1, .int .i64 r2, .int .i64 r3, .int .i64 ((r4:Int)-2)]
          unfold OpOk
          go_simp
          first | exact ⟨lat_alloc (Below.refl _ _) _, _, rfl, Blk.new⟩ | exact ⟨lat_alloc (Below.refl _ _) _, Blk.new⟩
        refine steps_cons (fun ev xw hb hc hf hfr hd hr => ?_) ?_
        · obtain ⟨g146, e146, B146⟩ : ∃ g, ev (.tmp 146) = .slice (some ⟨g, 0, none⟩) 3 3 ∧ Blk xw g 23 #[.int .i64 a, .int .i64 b, .int .i64 c, .int .i64 d, .int .i64 e, .int .i64 y0, .int .i64 y1, .int .i64 y2, .int .i64 y3, .int .i64 y4, .int .i64 r0, .int .i64 r1, .int .i64 r2, .int .i64 r3, .int .i64 ((r4:Int)-2)] := hd 19 146 (by kernel_rfl)
          clear hfr hd
          show OpOk _ _ ev xw fun v w' => Below xw.heap.size xw w' ∧ v = .int .i64 3
          unfold OpOk
          go_simp
        refine steps_cons (fun ev xw hb hc hf hfr hd hr => ?_) ?_
        · clear hfr hd
          show OpOk _ _ ev xw fun v w' => Below xw.heap.size xw w' ∧ v = .int .i64 0
          unfold OpOk
          go_simp
        exact steps_nil
      · intro vs7 W7 hb7 hk
        have k147 : vs7 20 = .int .i64 3 := hk 20 (by omega)
        have k148 : vs7 21 = .int .i64 0 := hk 21 (by omega)
        obtain ⟨g7, k146, G7⟩ : ∃ g, vs7 19 = .slice (some ⟨g, 0, none⟩) 3 3 ∧ Blk W7 g 23 #[.int .i64 a, .int .i64 b, .int .i64 c, .int .i64 d, .int .i64 e, .int .i64 y0, .int .i64 y1, .int .i64 y2, .int .i64 y3, .int .i64 y4, .int .i64 r0, .int .i64 r1, .int .i64 r2, .int .i64 r3, .int .i64 ((r4:Int)-2)] := hk 19 (by omega)
        clear hk
        simp only [List.take_succ_cons, List.take_zero, List.drop_succ_cons, List.drop_zero, putAll, Act.put, List.setIfInBounds_toArray, List.set_cons_zero, List.set_cons_succ, k147, k148, k146, Nat.reduceAdd]
        have b7 := b19.trans (hb7.mono b19.size)
        clear L6 L13 L15 L17 L19 b19 hb7 a0 a1 a2 a3 a4 b0 b1 b2 b3 b4 c0 c1 c2 c3 c4 d0 d1 d2 d3 d4 k146 k147 k148
        clear hr0 hr1 hr2 hr3 hr4
        go_upto_region 8 with fail
        go_loopw [148] (fun v Wr => ∃ k : Nat, k ≤ 3 ∧ v = .int .i64 k ∧ Below W7.heap.size W7 Wr) (fun v _ => 3 - (intOf v).toNat)
        case atStart => exact ⟨0, by omega, rfl, Below.refl _ _⟩
        case round =>
          obtain ⟨k, hk, rfl, hbr⟩ := hrel
          by_cases hlt : k < 3
          · have hk3 : k = 0 ∨ k = 1 ∨ k = 2 := by omega
            have G7' := G7.below hbr
            rcases hk3 with rfl | rfl | rfl
            · have m0 := Blk.cell G7' 0
              have m1 := Blk.cell G7' 1
              have m2 := Blk.cell G7' 2
              have m3 := Blk.cell G7' 3
              have m4 := Blk.cell G7' 4
              go_upto_region 10 with fail
              have G9 := Blk.new (w := wr) (t := 23) (cs := #[.int .i64 a, .int .i64 b, .int .i64 c, .int .i64 d, .int .i64 e])
              have b9 := lat_alloc (Below.refl wr.heap.size wr) (.cells #[.int .i64 a, .int .i64 b, .int .i64 c, .int .i64 d, .int .i64 e] 23)
              have b9' := hbr.trans (b9.mono hbr.size)
              generalize wr.alloc (.cells #[.int .i64 a, .int .i64 b, .int .i64 c, .int .i64 d, .int .i64 e] 23) = W9 at *
              generalize wr.heap.size = g9 at *
              clear b9 hbr m0 m1 m2 m3 m4
              obtain ⟨p0, p1, p2, p3, p4⟩ := G9.later5
              refine wp_region_grow (by kernel_rfl) (by kernel_rfl) ?_
              repeat (first
                | go_big_quiet_skip
                | (go_big_quiet_want; first
                    | (go_big_quiet_op; go_big_quiet_on)
                    | (refine quiet_det ?_; apply Exists.intro; refine ⟨fun w' hC => ?_, ?_⟩; (go_simp <;> (first | rfl | exact ⟨rfl, rfl⟩)); apply Exists.intro; refine ⟨?_, ?_⟩; (go_simp <;> (first | rfl | exact ⟨rfl, rfl⟩)); go_big_quiet_on)
                    | (refine quiet_call ?_; apply Exists.intro; apply Exists.intro; refine ⟨fun w' hC => ?_, ?_⟩; (go_simp <;> (first | rfl | exact ⟨rfl, rfl⟩)); apply Exists.intro; refine ⟨fun w' hC => ?_, ?_⟩; (first
                        | with_reducible exact grow_call (valid_any _ _ _ _ _ w') hC
                        | with_reducible exact grow_call (rvalid_any _ _ _ _ _ w') hC); apply Exists.intro; refine ⟨?_, ?_⟩; (go_simp <;> (first | rfl | exact ⟨rfl, rfl⟩)); go_big_quiet_on)))
              refine wpQuiet_nil ?_
              intro W10 hb10
              have G10 := G9.below hb10
              have b10 := b9'.trans (hb10.mono b9'.size)
              clear p0 p1 p2 p3 p4 G9 b9' hb10
              go_wp2_with fail
              refine (mod_s hn30 (by omega) (by omega) (by omega) (by omega) _).mono ?_; rintro e w' ⟨rfl, rfl⟩
              go_wp2_with fail
              have G12 := Blk.new (w := w') (t := 3) (cs := #[.int .i64 N, .int .i64 n30])
              have b12 := lat_alloc (Below.refl w'.heap.size w') (.cells #[.int .i64 N, .int .i64 n30] 3)
              have b12' := b10.trans (b12.mono b10.size)
              have G12x := G10.below b12
              generalize w'.alloc (.cells #[.int .i64 N, .int .i64 n30] 3) = W12 at *
              generalize w'.heap.size = g12 at *
              clear b12 b10 G10
              go_loopw [162] (fun v Wr => ∃ r : Nat, r ≤ 2 ∧ v = .int .i64 r ∧ Below W12.heap.size W12 Wr) (fun v _ => 2 - (intOf v).toNat)
              case atStart => exact ⟨0, by omega, rfl, Below.refl _ _⟩
              case round =>
                obtain ⟨r, hr, rfl, hbi⟩ := hrel
                by_cases hltr : r < 2
                · obtain ⟨nn, hnn⟩ : ∃ nn : Int, (#[.int .i64 N, .int .i64 n30] : Array Value)[r]? = some (.int .i64 nn) := by
                    match r, hltr with
                    | 0, _ => exact ⟨_, rfl⟩
                    | 1, _ => exact ⟨_, rfl⟩
                  have hcr := (Blk.cell (G12.below hbi) r).trans hnn
                  obtain ⟨p0, p1, p2, p3, p4⟩ := (G12x.below hbi).later5
                  have b15 := b12'.trans (hbi.mono b12'.size)
                  go_upto_region 15 with fail
                  refine wp_region_grow (by kernel_rfl) (by kernel_rfl) ?_
                  repeat (first
                    | go_big_quiet_skip
                    | (go_big_quiet_want; first
                        | (go_big_quiet_op; go_big_quiet_on)
                        | (refine quiet_det ?_; apply Exists.intro; refine ⟨fun w' hC => ?_, ?_⟩; (go_simp <;> (first | rfl | exact ⟨rfl, rfl⟩)); apply Exists.intro; refine ⟨?_, ?_⟩; (go_simp <;> (first | rfl | exact ⟨rfl, rfl⟩)); go_big_quiet_on)
                        | (refine quiet_call ?_; apply Exists.intro; apply Exists.intro; refine ⟨fun w' hC => ?_, ?_⟩; (go_simp <;> (first | rfl | exact ⟨rfl, rfl⟩)); apply Exists.intro; refine ⟨fun w' hC => ?_, ?_⟩; (first
                            | with_reducible exact grow_call (live_any _ _ _ _ _ _ w') hC
                            | with_reducible exact grow_call (rlive_any _ _ _ _ _ _ w') hC
                            | with_reducible exact grow_call (mark_any _ _ _ _ _ _ w') hC
                            | with_reducible exact grow_call (rmark_any _ _ _ _ _ _ w') hC); apply Exists.intro; refine ⟨?_, ?_⟩; (go_simp <;> (first | rfl | exact ⟨rfl, rfl⟩)); go_big_quiet_on)))
                  refine wpQuiet_nil ?_
                  intro W15 hb15
                  go_wp2
                  go_roundw
                  case rel => exact ⟨r + 1, by omega, by go_num, hbi.trans (hb15.mono hbi.size)⟩
                  case measure => simp [intOf]; omega
                · go_wp2
                  go_roundw
                  case rel => exact ⟨1, by omega, by go_num, b12'.trans (hbi.mono b12'.size)⟩
                  case measure => simp [intOf] <;> omega
            · have m0 := Blk.cell G7' 5
              have m1 := Blk.cell G7' 6
              have m2 := Blk.cell G7' 7
              have m3 := Blk.cell G7' 8
              have m4 := Blk.cell G7' 9
              go_upto_region 10 with fail
              have G9 := Blk.new (w := wr) (t := 23) (cs := #[.int .i64 y0, .int .i64 y1, .int .i64 y2, .int .i64 y3, .int .i64 y4])
              have b9 := lat_alloc (Below.refl wr.heap.size wr) (.cells #[.int .i64 y0, .int .i64 y1, .int .i64 y2, .int .i64 y3, .int .i64 y4] 23)
              have b9' := hbr.trans (b9.mono hbr.size)
              generalize wr.alloc (.cells #[.int .i64 y0, .int .i64 y1, .int .i64 y2, .int .i64 y3, .int .i64 y4] 23) = W9 at *
              generalize wr.heap.size = g9 at *
              clear b9 hbr m0 m1 m2 m3 m4
              obtain ⟨p0, p1, p2, p3, p4⟩ := G9.later5
              refine wp_region_grow (by kernel_rfl) (by kernel_rfl) ?_
              repeat (first
                | go_big_quiet_skip
                | (go_big_quiet_want; first
                    | (go_big_quiet_op; go_big_quiet_on)
                    | (refine quiet_det ?_; apply Exists.intro; refine ⟨fun w' hC => ?_, ?_⟩; (go_simp <;> (first | rfl | exact ⟨rfl, rfl⟩)); apply Exists.intro; refine ⟨?_, ?_⟩; (go_simp <;> (first | rfl | exact ⟨rfl, rfl⟩)); go_big_quiet_on)
                    | (refine quiet_call ?_; apply Exists.intro; apply Exists.intro; refine ⟨fun w' hC => ?_, ?_⟩; (go_simp <;> (first | rfl | exact ⟨rfl, rfl⟩)); apply Exists.intro; refine ⟨fun w' hC => ?_, ?_⟩; (first
                        | with_reducible exact grow_call (valid_any _ _ _ _ _ w') hC
                        | with_reducible exact grow_call (rvalid_any _ _ _ _ _ w') hC); apply Exists.intro; refine ⟨?_, ?_⟩; (go_simp <;> (first | rfl | exact ⟨rfl, rfl⟩)); go_big_quiet_on)))
              refine wpQuiet_nil ?_
              intro W10 hb10
              have G10 := G9.below hb10
              have b10 := b9'.trans (hb10.mono b9'.size)
              clear p0 p1 p2 p3 p4 G9 b9' hb10
              go_wp2_with fail
              refine (mod_s hn30 (by omega) (by omega) (by omega) (by omega) _).mono ?_; rintro e w' ⟨rfl, rfl⟩
              go_wp2_with fail
              have G12 := Blk.new (w := w') (t := 3) (cs := #[.int .i64 N, .int .i64 n30])
              have b12 := lat_alloc (Below.refl w'.heap.size w') (.cells #[.int .i64 N, .int .i64 n30] 3)
              have b12' := b10.trans (b12.mono b10.size)
              have G12x := G10.below b12
              generalize w'.alloc (.cells #[.int .i64 N, .int .i64 n30] 3) = W12 at *
              generalize w'.heap.size = g12 at *
              clear b12 b10 G10
              go_loopw [162] (fun v Wr => ∃ r : Nat, r ≤ 2 ∧ v = .int .i64 r ∧ Below W12.heap.size W12 Wr) (fun v _ => 2 - (intOf v).toNat)
              case atStart => exact ⟨0, by omega, rfl, Below.refl _ _⟩
              case round =>
                obtain ⟨r, hr, rfl, hbi⟩ := hrel
                by_cases hltr : r < 2
                · obtain ⟨nn, hnn⟩ : ∃ nn : Int, (#[.int .i64 N, .int .i64 n30] : Array Value)[r]? = some (.int .i64 nn) := by
                    match r, hltr with
                    | 0, _ => exact ⟨_, rfl⟩
                    | 1, _ => exact ⟨_, rfl⟩
                  have hcr := (Blk.cell (G12.below hbi) r).trans hnn
                  obtain ⟨p0, p1, p2, p3, p4⟩ := (G12x.below hbi).later5
                  have b15 := b12'.trans (hbi.mono b12'.size)
                  go_upto_region 15 with fail
                  refine wp_region_grow (by kernel_rfl) (by kernel_rfl) ?_
                  repeat (first
                    | go_big_quiet_skip
                    | (go_big_quiet_want; first
                        | (go_big_quiet_op; go_big_quiet_on)
                        | (refine quiet_det ?_; apply Exists.intro; refine ⟨fun w' hC => ?_, ?_⟩; (go_simp <;> (first | rfl | exact ⟨rfl, rfl⟩)); apply Exists.intro; refine ⟨?_, ?_⟩; (go_simp <;> (first | rfl | exact ⟨rfl, rfl⟩)); go_big_quiet_on)
                        | (refine quiet_call ?_; apply Exists.intro; apply Exists.intro; refine ⟨fun w' hC => ?_, ?_⟩; (go_simp <;> (first | rfl | exact ⟨rfl, rfl⟩)); apply Exists.intro; refine ⟨fun w' hC => ?_, ?_⟩; (first
                            | with_reducible exact grow_call (live_any _ _ _ _ _ _ w') hC
                            | with_reducible exact grow_call (rlive_any _ _ _ _ _ _ w') hC
                            | with_reducible exact grow_call (mark_any _ _ _ _ _ _ w') hC
                            | with_reducible exact grow_call (rmark_any _ _ _ _ _ _ w') hC); apply Exists.intro; refine ⟨?_, ?_⟩; (go_simp <;> (first | rfl | exact ⟨rfl, rfl⟩)); go_big_quiet_on)))
                  refine wpQuiet_nil ?_
                  intro W15 hb15
                  go_wp2
                  go_roundw
                  case rel => exact ⟨r + 1, by omega, by go_num, hbi.trans (hb15.mono hbi.size)⟩
                  case measure => simp [intOf]; omega
                · go_wp2
                  go_roundw
                  case rel => exact ⟨2, by omega, by go_num, b12'.trans (hbi.mono b12'.size)⟩
                  case measure => simp [intOf] <;> omega
            · have m0 := Blk.cell G7' 10
              have m1 := Blk.cell G7' 11
              have m2 := Blk.cell G7' 12
              have m3 := Blk.cell G7' 13
              have m4 := Blk.cell G7' 14
              go_upto_region 10 with fail
              have G9 := Blk.new (w := wr) (t := 23) (cs := #[.int .i64 r0, .int .i64 r1, .int .i64 r2, .int .i64 r3, .int .i64 ((r4:Int)-2)])
              have b9 := lat_alloc (Below.refl wr.heap.size wr) (.cells #[.int .i64 r0, .int .i64 r1, .int .i64 r2, .int .i64 r3, .int .i64 ((r4:Int)-2)] 23)
              have b9' := hbr.trans (b9.mono hbr.size)
              generalize wr.alloc (.cells #[.int .i64 r0, .int .i64 r1, .int .i64 r2, .int .i64 r3, .int .i64 ((r4:Int)-2)] 23) = W9 at *
              generalize wr.heap.size = g9 at *
              clear b9 hbr m0 m1 m2 m3 m4
              obtain ⟨p0, p1, p2, p3, p4⟩ := G9.later5
              refine wp_region_grow (by kernel_rfl) (by kernel_rfl) ?_
              repeat (first
                | go_big_quiet_skip
                | (go_big_quiet_want; first
                    | (go_big_quiet_op; go_big_quiet_on)
                    | (refine quiet_det ?_; apply Exists.intro; refine ⟨fun w' hC => ?_, ?_⟩; (go_simp <;> (first | rfl | exact ⟨rfl, rfl⟩)); apply Exists.intro; refine ⟨?_, ?_⟩; (go_simp <;> (first | rfl | exact ⟨rfl, rfl⟩)); go_big_quiet_on)
                    | (refine quiet_call ?_; apply Exists.intro; apply Exists.intro; refine ⟨fun w' hC => ?_, ?_⟩; (go_simp <;> (first | rfl | exact ⟨rfl, rfl⟩)); apply Exists.intro; refine ⟨fun w' hC => ?_, ?_⟩; (first
                        | with_reducible exact grow_call (valid_any _ _ _ _ _ w') hC
                        | with_reducible exact grow_call (rvalid_any _ _ _ _ _ w') hC); apply Exists.intro; refine ⟨?_, ?_⟩; (go_simp <;> (first | rfl | exact ⟨rfl, rfl⟩)); go_big_quiet_on)))
              refine wpQuiet_nil ?_
              intro W10 hb10
              have G10 := G9.below hb10
              have b10 := b9'.trans (hb10.mono b9'.size)
              clear p0 p1 p2 p3 p4 G9 b9' hb10
              go_wp2_with fail
              refine (mod_s hn30 (by omega) (by omega) (by omega) (by omega) _).mono ?_; rintro e w' ⟨rfl, rfl⟩
              go_wp2_with fail
              have G12 := Blk.new (w := w') (t := 3) (cs := #[.int .i64 N, .int .i64 n30])
              have b12 := lat_alloc (Below.refl w'.heap.size w') (.cells #[.int .i64 N, .int .i64 n30] 3)
              have b12' := b10.trans (b12.mono b10.size)
              have G12x := G10.below b12
              generalize w'.alloc (.cells #[.int .i64 N, .int .i64 n30] 3) = W12 at *
              generalize w'.heap.size = g12 at *
              clear b12 b10 G10
              go_loopw [162] (fun v Wr => ∃ r : Nat, r ≤ 2 ∧ v = .int .i64 r ∧ Below W12.heap.size W12 Wr) (fun v _ => 2 - (intOf v).toNat)
              case atStart => exact ⟨0, by omega, rfl, Below.refl _ _⟩
              case round =>
                obtain ⟨r, hr, rfl, hbi⟩ := hrel
                by_cases hltr : r < 2
                · obtain ⟨nn, hnn⟩ : ∃ nn : Int, (#[.int .i64 N, .int .i64 n30] : Array Value)[r]? = some (.int .i64 nn) := by
                    match r, hltr with
                    | 0, _ => exact ⟨_, rfl⟩
                    | 1, _ => exact ⟨_, rfl⟩
                  have hcr := (Blk.cell (G12.below hbi) r).trans hnn
                  obtain ⟨p0, p1, p2, p3, p4⟩ := (G12x.below hbi).later5
                  have b15 := b12'.trans (hbi.mono b12'.size)
                  go_upto_region 15 with fail
                  refine wp_region_grow (by kernel_rfl) (by kernel_rfl) ?_
                  repeat (first
                    | go_big_quiet_skip
                    | (go_big_quiet_want; first
                        | (go_big_quiet_op; go_big_quiet_on)
                        | (refine quiet_det ?_; apply Exists.intro; refine ⟨fun w' hC => ?_, ?_⟩; (go_simp <;> (first | rfl | exact ⟨rfl, rfl⟩)); apply Exists.intro; refine ⟨?_, ?_⟩; (go_simp <;> (first | rfl | exact ⟨rfl, rfl⟩)); go_big_quiet_on)
                        | (refine quiet_call ?_; apply Exists.intro; apply Exists.intro; refine ⟨fun w' hC => ?_, ?_⟩; (go_simp <;> (first | rfl | exact ⟨rfl, rfl⟩)); apply Exists.intro; refine ⟨fun w' hC => ?_, ?_⟩; (first
                            | with_reducible exact grow_call (live_any _ _ _ _ _ _ w') hC
                            | with_reducible exact grow_call (rlive_any _ _ _ _ _ _ w') hC
                            | with_reducible exact grow_call (mark_any _ _ _ _ _ _ w') hC
                            | with_reducible exact grow_call (rmark_any _ _ _ _ _ _ w') hC); apply Exists.intro; refine ⟨?_, ?_⟩; (go_simp <;> (first | rfl | exact ⟨rfl, rfl⟩)); go_big_quiet_on)))
                  refine wpQuiet_nil ?_
                  intro W15 hb15
                  go_wp2
                  go_roundw
                  case rel => exact ⟨r + 1, by omega, by go_num, hbi.trans (hb15.mono hbi.size)⟩
                  case measure => simp [intOf]; omega
                · go_wp2
                  go_roundw
                  case rel => exact ⟨3, by omega, by go_num, b12'.trans (hbi.mono b12'.size)⟩
                  case measure => simp [intOf] <;> omega
          · go_wp2_with fail
            refine (awake_any _).mono ?_; rintro e w' ⟨rfl, hw⟩
            go_wp2
            go_ret
            exact ⟨rfl, (b7.trans (hbr.mono b7.size)).trans (hw.mono (b7.trans (hbr.mono b7.size)).size)⟩
        
end Go.Proofs.Ytjalkocflieobaa
