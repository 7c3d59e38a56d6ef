/-
  The other side's key of a claim. Conditions: small numbers.
-/
import Derived.Test.YtikffoepndpfjaaDb
import Derived.Test.YtikffoepndpfjaaMath
import Derived.Test.YtikffoepndpfjaaBl
namespace Go.Proofs.Ytikffoepndpfjaa
open Go.ChangeShapes Go.WideShapes Go.RowKit
set_option linter.unusedVariables false

theorem load_five {w : World} {g : Nat} {a b c d e : Value} (h : Blk w g 64 #[a, b, c, d, e]) : (loadVar 64 ⟨g, 0, none⟩).run Try.prog w = .ok (.agg #[a, b, c, d, e]) w := by
  have c0 := Blk.cell h 0
  have c1 := Blk.cell h 1
  have c2 := Blk.cell h 2
  have c3 := Blk.cell h 3
  have c4 := Blk.cell h 4
  go_simp
theorem Blk.set5_ {w : World} {g : Nat} {t : TypeId} {a b c d e : Value} (h : Blk w g t #[a, b, c, d, e]) (a' b' c' d' e' : Value) : Blk (((((w.setCell ⟨g, 0, none⟩ a').setCell ⟨g, 1, none⟩ b').setCell ⟨g, 2, none⟩ c').setCell ⟨g, 3, none⟩ d').setCell ⟨g, 4, none⟩ e') g t #[a', b', c', d', e'] :=
  ((((h.set_ 0 a').set_ 1 b').set_ 2 c').set_ 3 d').set_ 4 e'
theorem below5 {B : Nat} {w0 w : World} {g : Nat} (h : Below B w0 w) (hg : B ≤ g) (a b c d e : Value) : Below B w0 (((((w.setCell ⟨g, 0, none⟩ a).setCell ⟨g, 1, none⟩ b).setCell ⟨g, 2, none⟩ c).setCell ⟨g, 3, none⟩ d).setCell ⟨g, 4, none⟩ e) :=
  ((((h.setCell (p := ⟨g, 0, none⟩) hg a).setCell (p := ⟨g, 1, none⟩) hg b).setCell (p := ⟨g, 2, none⟩) hg c).setCell (p := ⟨g, 3, none⟩) hg d).setCell (p := ⟨g, 4, none⟩) hg e
/-- The key, as values. -/
def keyV (per cap : Int) (l : List Int) (now : Int) (x : Cl) : Array Value := ((keyC per cap l now x).map (Value.int .i64)).toArray
set_option maxHeartbeats 2000000 in
theorem rkey_any (per cap hold lock sp sg : Int) (A : Option Addr) (c n : Nat) (l : List Int) (now : Int) (x : Cl) (w : World) (hn : l.length = n) (hs : Ints .i64 w w.heap.size A l) (hl : n ≤ 1000000) (hS : Small l) (hper : 1 ≤ per ∧ per ≤ 10000) (hcap : 0 ≤ cap ∧ cap ≤ 1000) (hlock : 0 ≤ lock ∧ lock ≤ 1000) (hnow : 0 ≤ now ∧ now ≤ 10000) (hx : ClOk x) (hst : startV l x.ph x.si ≤ now) :
    Calls Try.prog 49 #[.agg #[.slice none 0 0, .slice none 0 0, .int .i64 per, .int .i64 cap, .int .i64 hold, .int .i64 lock], .agg #[.int .i64 sp, .int .i64 sg, .slice A n c], .int .i64 now, .agg #[.int .i64 x.ag, .int .i64 x.id, .int .i64 x.ph, .int .i64 x.cl, .int .i64 x.si]] w fun e w' => e = .returned (.agg (keyV per cap l now x)) ∧ Below w.heap.size w w' := by
  have hn0 := Lib.hid hn
  clear hn
  have hlb := level_bd hS x.ph x.cl x.si now hper hcap hx.cl hx.si hnow
  have hcl := hx.cl
  have hsb := startV_bd hS x.ph hx.si.1 hx.si.2
  have bW := (((Below.refl w.heap.size w).alloc (Nat.le_refl _) (.cells #[.slice none 0 0, .slice none 0 0, .int .i64 per, .int .i64 cap, .int .i64 hold, .int .i64 lock] 33)).alloc (by simp) (.cells #[.int .i64 sp, .int .i64 sg, .slice A n c] 24)).alloc (by simp; omega) (.cells #[.int .i64 x.ag, .int .i64 x.id, .int .i64 x.ph, .int .i64 x.cl, .int .i64 x.si] 47)
  have bW := lat_alloc bW (.cells #[.int .i64 0, .int .i64 0, .int .i64 0, .int .i64 0, .int .i64 0] 64)
  have B0 := (((Blk.new (w := w) (t := 33) (cs := #[.slice none 0 0, .slice none 0 0, .int .i64 per, .int .i64 cap, .int .i64 hold, .int .i64 lock])).alloc (.cells #[.int .i64 sp, .int .i64 sg, .slice A n c] 24)).alloc (.cells #[.int .i64 x.ag, .int .i64 x.id, .int .i64 x.ph, .int .i64 x.cl, .int .i64 x.si] 47)).alloc (.cells #[.int .i64 0, .int .i64 0, .int .i64 0, .int .i64 0, .int .i64 0] 64)
  have B1 := ((Blk.new (w := w.alloc (.cells #[.slice none 0 0, .slice none 0 0, .int .i64 per, .int .i64 cap, .int .i64 hold, .int .i64 lock] 33)) (t := 24) (cs := #[.int .i64 sp, .int .i64 sg, .slice A n c])).alloc (.cells #[.int .i64 x.ag, .int .i64 x.id, .int .i64 x.ph, .int .i64 x.cl, .int .i64 x.si] 47)).alloc (.cells #[.int .i64 0, .int .i64 0, .int .i64 0, .int .i64 0, .int .i64 0] 64)
  have B2 := (Blk.new (w := (w.alloc (.cells #[.slice none 0 0, .slice none 0 0, .int .i64 per, .int .i64 cap, .int .i64 hold, .int .i64 lock] 33)).alloc (.cells #[.int .i64 sp, .int .i64 sg, .slice A n c] 24)) (t := 47) (cs := #[.int .i64 x.ag, .int .i64 x.id, .int .i64 x.ph, .int .i64 x.cl, .int .i64 x.si])).alloc (.cells #[.int .i64 0, .int .i64 0, .int .i64 0, .int .i64 0, .int .i64 0] 64)
  have B3 := Blk.new (w := ((w.alloc (.cells #[.slice none 0 0, .slice none 0 0, .int .i64 per, .int .i64 cap, .int .i64 hold, .int .i64 lock] 33)).alloc (.cells #[.int .i64 sp, .int .i64 sg, .slice A n c] 24)).alloc (.cells #[.int .i64 x.ag, .int .i64 x.id, .int .i64 x.ph, .int .i64 x.cl, .int .i64 x.si] 47)) (t := 64) (cs := #[.int .i64 0, .int .i64 0, .int .i64 0, .int .i64 0, .int .i64 0])
  rw [heap_size] at B1
  rw [heap_size, heap_size] at B2
  rw [heap_size, heap_size, heap_size] at B3
  have o0 := B2.at 0 rfl
  have o1 := B2.at 1 rfl
  have o2 := B2.at 2 rfl
  have o3 := B2.at 3 rfl
  have o4 := B2.at 4 rfl
  go_enter Try.func49, Try.ntmps49
  go_wp2_with fail
  clear o0 o1 o2 o3 o4
  refine (rem_any x.ag x.id x.ph x.cl x.si _).mono ?_
  rintro e w2 ⟨rfl, hb2⟩
  have B0 := B0.below hb2
  have B1 := B1.below hb2
  have B2 := B2.below hb2
  have B3 := B3.below hb2
  have bW2 := bW.trans (hb2.mono bW.size)
  have hs2 := hs.grow bW2
  cases hem : emB x.cl with
  | true =>
    have HE := Lib.hid hem
    clear hem
    go_wp2_with fail
    refine wp_region_pre (R := Bl) 11 36 [fun v _ => v = .pointer (some ⟨w.heap.size + 1 + 1, 3, none⟩), fun v _ => v = .int .i64 x.cl, fun v _ => v = .int .i64 (-x.cl), fun v _ => v = .agg #[.int .i64 sp, .int .i64 sg, .slice A n c], fun v _ => v = .agg #[.int .i64 x.ag, .int .i64 x.id, .int .i64 x.ph, .int .i64 x.cl, .int .i64 x.si], fun v _ => v = .int .i64 (startV l x.ph x.si), fun v _ => v = .pointer (some ⟨w.heap.size + 1 + 1, 0, none⟩), fun v _ => v = .int .i64 x.ag, fun v _ => v = .pointer (some ⟨w.heap.size + 1 + 1, 1, none⟩), fun v _ => v = .int .i64 x.id, fun v _ => v = .agg #[.int .i64 0, .int .i64 (-x.cl), .int .i64 (startV l x.ph x.si), .int .i64 x.ag, .int .i64 x.id]] (Bl.trans) (Bl.drew) (by kernel_rfl) (fun _ _ d _ _ h => by cases d <;> exact h) rfl (by kernel_rfl) (stay_cons (stays_v _) (stay_cons (stays_v _) (stay_cons (stays_v _) (stay_cons (stays_v _) (stay_cons (stays_v _) (stay_cons (stays_v _) (stay_cons (stays_v _) (stay_cons (stays_v _) (stay_cons (stays_v _) (stay_cons (stays_v _) (stay_cons (stays_v _) (stay_nil)))))))))))) ?_ ?_
    · simp only [List.take_succ_cons, List.take_zero]
      refine steps_cons (Bl.refl) (fun ev xw hb hc hf hfr hd hr => ?_) ?_
      · have e7 : ev (.tmp 7) = .pointer (some ⟨w.heap.size + 1 + 1, 0, none⟩) := hfr 7 (by kernel_rfl)
        clear hfr hd
        show OpOk _ _ ev xw fun v w' => Bl xw w' ∧ v = .pointer (some ⟨w.heap.size + 1 + 1, 3, none⟩)
        refine opOk_hid (fun Rp HR => ?_)
        unfold OpOk
        go_simp
        rw [HR.out]
        exact ⟨hr, rfl⟩
      refine steps_cons (Bl.refl) (fun ev xw hb hc hf hfr hd hr => ?_) ?_
      · have e11 : ev (.tmp 11) = .pointer (some ⟨w.heap.size + 1 + 1, 3, none⟩) := hd 0 11 (by kernel_rfl)
        clear hfr hd
        have kc0 := (B2.below hb).at 0 rfl
        have kc1 := (B2.below hb).at 1 rfl
        have kc2 := (B2.below hb).at 2 rfl
        have kc3 := (B2.below hb).at 3 rfl
        have kc4 := (B2.below hb).at 4 rfl
        show OpOk _ _ ev xw fun v w' => Bl xw w' ∧ v = .int .i64 x.cl
        refine opOk_hid (fun Rp HR => ?_)
        unfold OpOk
        go_simp
        rw [HR.out]
        exact ⟨hr, rfl⟩
      refine steps_cons (Bl.refl) (fun ev xw hb hc hf hfr hd hr => ?_) ?_
      · have e12 : ev (.tmp 12) = .int .i64 x.cl := hd 1 12 (by kernel_rfl)
        clear hfr hd
        have hw : IntKind.i64.wrap (-x.cl) = -x.cl := by rw [IntKind.wrap_i64]; omega
        show OpOk _ _ ev xw fun v w' => Bl xw w' ∧ v = .int .i64 (-x.cl)
        refine opOk_hid (fun Rp HR => ?_)
        unfold OpOk
        go_simp
        rw [HR.out]
        exact ⟨hr, rfl⟩
      refine steps_cons (Bl.refl) (fun ev xw hb hc hf hfr hd hr => ?_) ?_
      · have e5 : ev (.tmp 5) = .pointer (some ⟨w.heap.size + 1, 0, none⟩) := hfr 5 (by kernel_rfl)
        clear hfr hd
        have ks0 := (B1.below hb).at 0 rfl
        have ks1 := (B1.below hb).at 1 rfl
        have ks2 := (B1.below hb).at 2 rfl
        show OpOk _ _ ev xw fun v w' => Bl xw w' ∧ v = .agg #[.int .i64 sp, .int .i64 sg, .slice A n c]
        refine opOk_hid (fun Rp HR => ?_)
        unfold OpOk
        go_simp
        rw [HR.out]
        exact ⟨hr, rfl⟩
      refine steps_cons (Bl.refl) (fun ev xw hb hc hf hfr hd hr => ?_) ?_
      · have e7 : ev (.tmp 7) = .pointer (some ⟨w.heap.size + 1 + 1, 0, none⟩) := hfr 7 (by kernel_rfl)
        clear hfr hd
        have kc0 := (B2.below hb).at 0 rfl
        have kc1 := (B2.below hb).at 1 rfl
        have kc2 := (B2.below hb).at 2 rfl
        have kc3 := (B2.below hb).at 3 rfl
        have kc4 := (B2.below hb).at 4 rfl
        show OpOk _ _ ev xw fun v w' => Bl xw w' ∧ v = .agg #[.int .i64 x.ag, .int .i64 x.id, .int .i64 x.ph, .int .i64 x.cl, .int .i64 x.si]
        refine opOk_hid (fun Rp HR => ?_)
        unfold OpOk
        go_simp
        rw [HR.out]
        exact ⟨hr, rfl⟩
      refine steps_cons (Bl.refl) (fun ev xw hb hc hf hfr hd hr => ?_) ?_
      · have e14 : ev (.tmp 14) = .agg #[.int .i64 sp, .int .i64 sg, .slice A n c] := hd 3 14 (by kernel_rfl)
        have e15 : ev (.tmp 15) = .agg #[.int .i64 x.ag, .int .i64 x.id, .int .i64 x.ph, .int .i64 x.cl, .int .i64 x.si] := hd 4 15 (by kernel_rfl)
        clear hfr hd
        show OpOk _ _ ev xw fun v w' => Bl xw w' ∧ v = .int .i64 (startV l x.ph x.si)
        refine opOk_hid (fun Rp HR => ?_)
        unfold OpOk
        go_simp
        refine (rstart_any sp sg A c n l x.ag x.id x.ph x.cl x.si xw hn0.out (hs2.grow hb) hl hx.ph hx.si).mono ?_
        rintro e w'' ⟨rfl, hw⟩
        refine ⟨_, rfl, ?_⟩
        rw [HR.out]
        exact ⟨hw, rfl⟩
      refine steps_cons (Bl.refl) (fun ev xw hb hc hf hfr hd hr => ?_) ?_
      · have e7 : ev (.tmp 7) = .pointer (some ⟨w.heap.size + 1 + 1, 0, none⟩) := hfr 7 (by kernel_rfl)
        clear hfr hd
        show OpOk _ _ ev xw fun v w' => Bl xw w' ∧ v = .pointer (some ⟨w.heap.size + 1 + 1, 0, none⟩)
        refine opOk_hid (fun Rp HR => ?_)
        unfold OpOk
        go_simp
        rw [HR.out]
        exact ⟨hr, rfl⟩
      refine steps_cons (Bl.refl) (fun ev xw hb hc hf hfr hd hr => ?_) ?_
      · have e17 : ev (.tmp 17) = .pointer (some ⟨w.heap.size + 1 + 1, 0, none⟩) := hd 6 17 (by kernel_rfl)
        clear hfr hd
        have kc0 := (B2.below hb).at 0 rfl
        have kc1 := (B2.below hb).at 1 rfl
        have kc2 := (B2.below hb).at 2 rfl
        have kc3 := (B2.below hb).at 3 rfl
        have kc4 := (B2.below hb).at 4 rfl
        show OpOk _ _ ev xw fun v w' => Bl xw w' ∧ v = .int .i64 x.ag
        refine opOk_hid (fun Rp HR => ?_)
        unfold OpOk
        go_simp
        rw [HR.out]
        exact ⟨hr, rfl⟩
      refine steps_cons (Bl.refl) (fun ev xw hb hc hf hfr hd hr => ?_) ?_
      · have e7 : ev (.tmp 7) = .pointer (some ⟨w.heap.size + 1 + 1, 0, none⟩) := hfr 7 (by kernel_rfl)
        clear hfr hd
        show OpOk _ _ ev xw fun v w' => Bl xw w' ∧ v = .pointer (some ⟨w.heap.size + 1 + 1, 1, none⟩)
        refine opOk_hid (fun Rp HR => ?_)
        unfold OpOk
        go_simp
        rw [HR.out]
        exact ⟨hr, rfl⟩
      refine steps_cons (Bl.refl) (fun ev xw hb hc hf hfr hd hr => ?_) ?_
      · have e19 : ev (.tmp 19) = .pointer (some ⟨w.heap.size + 1 + 1, 1, none⟩) := hd 8 19 (by kernel_rfl)
        clear hfr hd
        have kc0 := (B2.below hb).at 0 rfl
        have kc1 := (B2.below hb).at 1 rfl
        have kc2 := (B2.below hb).at 2 rfl
        have kc3 := (B2.below hb).at 3 rfl
        have kc4 := (B2.below hb).at 4 rfl
        show OpOk _ _ ev xw fun v w' => Bl xw w' ∧ v = .int .i64 x.id
        refine opOk_hid (fun Rp HR => ?_)
        unfold OpOk
        go_simp
        rw [HR.out]
        exact ⟨hr, rfl⟩
      refine steps_cons (Bl.refl) (fun ev xw hb hc hf hfr hd hr => ?_) ?_
      · have e13 : ev (.tmp 13) = .int .i64 (-x.cl) := hd 2 13 (by kernel_rfl)
        have e16 : ev (.tmp 16) = .int .i64 (startV l x.ph x.si) := hd 5 16 (by kernel_rfl)
        have e18 : ev (.tmp 18) = .int .i64 x.ag := hd 7 18 (by kernel_rfl)
        have e20 : ev (.tmp 20) = .int .i64 x.id := hd 9 20 (by kernel_rfl)
        clear hfr hd
        show OpOk _ _ ev xw fun v w' => Bl xw w' ∧ v = .agg #[.int .i64 0, .int .i64 (-x.cl), .int .i64 (startV l x.ph x.si), .int .i64 x.ag, .int .i64 x.id]
        refine opOk_hid (fun Rp HR => ?_)
        unfold OpOk
        go_simp
        rw [HR.out]
        exact ⟨hr, rfl⟩
      exact steps_nil
    · intro vs W5 hb5 hk
      have kk : vs 10 = .agg #[.int .i64 0, .int .i64 (-x.cl), .int .i64 (startV l x.ph x.si), .int .i64 x.ag, .int .i64 x.id] := hk 10 (by omega)
      clear hk
      simp only [List.take_succ_cons, List.take_zero, List.drop_succ_cons, List.drop_zero, putAll, Act.put, List.setIfInBounds_toArray, List.set_cons_zero, List.set_cons_succ, kk, Nat.reduceAdd]
      clear kk
      have B5 := B3.below hb5
      have o0 := B5.at 0 rfl
      have o1 := B5.at 1 rfl
      have o2 := B5.at 2 rfl
      have o3 := B5.at 3 rfl
      have o4 := B5.at 4 rfl
      have f0 := B5.frozen 0
      have f1 := B5.frozen 1
      have f2 := B5.frozen 2
      have f3 := B5.frozen 3
      have f4 := B5.frozen 4
      go_wp2
      (try simp only [Exit.inBlock, Exit.then]); refine bodyPost_ret (results_cell rfl rfl (load_five (B5.set5_ _ _ _ _ _))) rfl ?_
      have bF := bW2.trans (Below.mono hb5 bW2.size)
      exact ⟨by simp [keyV, keyC, keyL, HE.out], below5 bF (by omega) _ _ _ _ _⟩
  | false =>
    have HE := Lib.hid hem
    clear hem
    go_wp2_with fail
    refine wp_region_pre (R := Bl) 14 36 [fun v _ => v = .agg #[.slice none 0 0, .slice none 0 0, .int .i64 per, .int .i64 cap, .int .i64 hold, .int .i64 lock], fun v _ => v = .agg #[.int .i64 sp, .int .i64 sg, .slice A n c], fun v _ => v = .agg #[.int .i64 x.ag, .int .i64 x.id, .int .i64 x.ph, .int .i64 x.cl, .int .i64 x.si], fun v _ => v = .int .i64 now, fun v _ => v = .int .i64 (levelV per cap l x.ph x.cl x.si now), fun v _ => v = .int .i64 (-levelV per cap l x.ph x.cl x.si now), fun v _ => v = .agg #[.int .i64 sp, .int .i64 sg, .slice A n c], fun v _ => v = .agg #[.int .i64 x.ag, .int .i64 x.id, .int .i64 x.ph, .int .i64 x.cl, .int .i64 x.si], fun v _ => v = .int .i64 (startV l x.ph x.si), fun v _ => v = .pointer (some ⟨w.heap.size + 1 + 1, 0, none⟩), fun v _ => v = .int .i64 x.ag, fun v _ => v = .pointer (some ⟨w.heap.size + 1 + 1, 1, none⟩), fun v _ => v = .int .i64 x.id, fun v _ => v = .agg #[.int .i64 1, .int .i64 (-levelV per cap l x.ph x.cl x.si now), .int .i64 (startV l x.ph x.si), .int .i64 x.ag, .int .i64 x.id]] (Bl.trans) (Bl.drew) (by kernel_rfl) (fun _ _ d _ _ h => by cases d <;> exact h) rfl (by kernel_rfl) (stay_cons (stays_v _) (stay_cons (stays_v _) (stay_cons (stays_v _) (stay_cons (stays_v _) (stay_cons (stays_v _) (stay_cons (stays_v _) (stay_cons (stays_v _) (stay_cons (stays_v _) (stay_cons (stays_v _) (stay_cons (stays_v _) (stay_cons (stays_v _) (stay_cons (stays_v _) (stay_cons (stays_v _) (stay_cons (stays_v _) (stay_nil))))))))))))))) ?_ ?_
    · simp only [List.take_succ_cons, List.take_zero]
      refine steps_cons (Bl.refl) (fun ev xw hb hc hf hfr hd hr => ?_) ?_
      · have e4 : ev (.tmp 4) = .pointer (some ⟨w.heap.size, 0, none⟩) := hfr 4 (by kernel_rfl)
        clear hfr hd
        have kf0 := (B0.below hb).at 0 rfl
        have kf1 := (B0.below hb).at 1 rfl
        have kf2 := (B0.below hb).at 2 rfl
        have kf3 := (B0.below hb).at 3 rfl
        have kf4 := (B0.below hb).at 4 rfl
        have kf5 := (B0.below hb).at 5 rfl
        show OpOk _ _ ev xw fun v w' => Bl xw w' ∧ v = .agg #[.slice none 0 0, .slice none 0 0, .int .i64 per, .int .i64 cap, .int .i64 hold, .int .i64 lock]
        refine opOk_hid (fun Rp HR => ?_)
        unfold OpOk
        go_simp
        rw [HR.out]
        exact ⟨hr, rfl⟩
      refine steps_cons (Bl.refl) (fun ev xw hb hc hf hfr hd hr => ?_) ?_
      · have e5 : ev (.tmp 5) = .pointer (some ⟨w.heap.size + 1, 0, none⟩) := hfr 5 (by kernel_rfl)
        clear hfr hd
        have ks0 := (B1.below hb).at 0 rfl
        have ks1 := (B1.below hb).at 1 rfl
        have ks2 := (B1.below hb).at 2 rfl
        show OpOk _ _ ev xw fun v w' => Bl xw w' ∧ v = .agg #[.int .i64 sp, .int .i64 sg, .slice A n c]
        refine opOk_hid (fun Rp HR => ?_)
        unfold OpOk
        go_simp
        rw [HR.out]
        exact ⟨hr, rfl⟩
      refine steps_cons (Bl.refl) (fun ev xw hb hc hf hfr hd hr => ?_) ?_
      · have e7 : ev (.tmp 7) = .pointer (some ⟨w.heap.size + 1 + 1, 0, none⟩) := hfr 7 (by kernel_rfl)
        clear hfr hd
        have kc0 := (B2.below hb).at 0 rfl
        have kc1 := (B2.below hb).at 1 rfl
        have kc2 := (B2.below hb).at 2 rfl
        have kc3 := (B2.below hb).at 3 rfl
        have kc4 := (B2.below hb).at 4 rfl
        show OpOk _ _ ev xw fun v w' => Bl xw w' ∧ v = .agg #[.int .i64 x.ag, .int .i64 x.id, .int .i64 x.ph, .int .i64 x.cl, .int .i64 x.si]
        refine opOk_hid (fun Rp HR => ?_)
        unfold OpOk
        go_simp
        rw [HR.out]
        exact ⟨hr, rfl⟩
      refine steps_cons (Bl.refl) (fun ev xw hb hc hf hfr hd hr => ?_) ?_
      · have e2 : ev (.tmp 2) = .int .i64 now := hfr 2 (by kernel_rfl)
        clear hfr hd
        show OpOk _ _ ev xw fun v w' => Bl xw w' ∧ v = .int .i64 now
        refine opOk_hid (fun Rp HR => ?_)
        unfold OpOk
        go_simp
        rw [HR.out]
        exact ⟨hr, rfl⟩
      refine steps_cons (Bl.refl) (fun ev xw hb hc hf hfr hd hr => ?_) ?_
      · have e22 : ev (.tmp 22) = .agg #[.slice none 0 0, .slice none 0 0, .int .i64 per, .int .i64 cap, .int .i64 hold, .int .i64 lock] := hd 0 22 (by kernel_rfl)
        have e23 : ev (.tmp 23) = .agg #[.int .i64 sp, .int .i64 sg, .slice A n c] := hd 1 23 (by kernel_rfl)
        have e24 : ev (.tmp 24) = .agg #[.int .i64 x.ag, .int .i64 x.id, .int .i64 x.ph, .int .i64 x.cl, .int .i64 x.si] := hd 2 24 (by kernel_rfl)
        have e25 : ev (.tmp 25) = .int .i64 now := hd 3 25 (by kernel_rfl)
        clear hfr hd
        show OpOk _ _ ev xw fun v w' => Bl xw w' ∧ v = .int .i64 (levelV per cap l x.ph x.cl x.si now)
        refine opOk_hid (fun Rp HR => ?_)
        unfold OpOk
        go_simp
        refine (rlevel_any per cap hold lock sp sg A c n l x.ag x.id x.ph x.cl x.si now xw hn0.out (hs2.grow hb) hl hS hper hcap hlock hx.ph hx.cl hx.si hnow hst).mono ?_
        rintro e w'' ⟨rfl, hw⟩
        refine ⟨_, rfl, ?_⟩
        rw [HR.out]
        exact ⟨hw, rfl⟩
      refine steps_cons (Bl.refl) (fun ev xw hb hc hf hfr hd hr => ?_) ?_
      · have e26 : ev (.tmp 26) = .int .i64 (levelV per cap l x.ph x.cl x.si now) := hd 4 26 (by kernel_rfl)
        clear hfr hd
        have hw : IntKind.i64.wrap (-levelV per cap l x.ph x.cl x.si now) = -levelV per cap l x.ph x.cl x.si now := by rw [IntKind.wrap_i64]; omega
        show OpOk _ _ ev xw fun v w' => Bl xw w' ∧ v = .int .i64 (-levelV per cap l x.ph x.cl x.si now)
        refine opOk_hid (fun Rp HR => ?_)
        unfold OpOk
        go_simp
        rw [HR.out]
        exact ⟨hr, rfl⟩
      refine steps_cons (Bl.refl) (fun ev xw hb hc hf hfr hd hr => ?_) ?_
      · have e5 : ev (.tmp 5) = .pointer (some ⟨w.heap.size + 1, 0, none⟩) := hfr 5 (by kernel_rfl)
        clear hfr hd
        have ks0 := (B1.below hb).at 0 rfl
        have ks1 := (B1.below hb).at 1 rfl
        have ks2 := (B1.below hb).at 2 rfl
        show OpOk _ _ ev xw fun v w' => Bl xw w' ∧ v = .agg #[.int .i64 sp, .int .i64 sg, .slice A n c]
        refine opOk_hid (fun Rp HR => ?_)
        unfold OpOk
        go_simp
        rw [HR.out]
        exact ⟨hr, rfl⟩
      refine steps_cons (Bl.refl) (fun ev xw hb hc hf hfr hd hr => ?_) ?_
      · have e7 : ev (.tmp 7) = .pointer (some ⟨w.heap.size + 1 + 1, 0, none⟩) := hfr 7 (by kernel_rfl)
        clear hfr hd
        have kc0 := (B2.below hb).at 0 rfl
        have kc1 := (B2.below hb).at 1 rfl
        have kc2 := (B2.below hb).at 2 rfl
        have kc3 := (B2.below hb).at 3 rfl
        have kc4 := (B2.below hb).at 4 rfl
        show OpOk _ _ ev xw fun v w' => Bl xw w' ∧ v = .agg #[.int .i64 x.ag, .int .i64 x.id, .int .i64 x.ph, .int .i64 x.cl, .int .i64 x.si]
        refine opOk_hid (fun Rp HR => ?_)
        unfold OpOk
        go_simp
        rw [HR.out]
        exact ⟨hr, rfl⟩
      refine steps_cons (Bl.refl) (fun ev xw hb hc hf hfr hd hr => ?_) ?_
      · have e28 : ev (.tmp 28) = .agg #[.int .i64 sp, .int .i64 sg, .slice A n c] := hd 6 28 (by kernel_rfl)
        have e29 : ev (.tmp 29) = .agg #[.int .i64 x.ag, .int .i64 x.id, .int .i64 x.ph, .int .i64 x.cl, .int .i64 x.si] := hd 7 29 (by kernel_rfl)
        clear hfr hd
        show OpOk _ _ ev xw fun v w' => Bl xw w' ∧ v = .int .i64 (startV l x.ph x.si)
        refine opOk_hid (fun Rp HR => ?_)
        unfold OpOk
        go_simp
        refine (rstart_any sp sg A c n l x.ag x.id x.ph x.cl x.si xw hn0.out (hs2.grow hb) hl hx.ph hx.si).mono ?_
        rintro e w'' ⟨rfl, hw⟩
        refine ⟨_, rfl, ?_⟩
        rw [HR.out]
        exact ⟨hw, rfl⟩
      refine steps_cons (Bl.refl) (fun ev xw hb hc hf hfr hd hr => ?_) ?_
      · have e7 : ev (.tmp 7) = .pointer (some ⟨w.heap.size + 1 + 1, 0, none⟩) := hfr 7 (by kernel_rfl)
        clear hfr hd
        show OpOk _ _ ev xw fun v w' => Bl xw w' ∧ v = .pointer (some ⟨w.heap.size + 1 + 1, 0, none⟩)
        refine opOk_hid (fun Rp HR => ?_)
        unfold OpOk
        go_simp
        rw [HR.out]
        exact ⟨hr, rfl⟩
      refine steps_cons (Bl.refl) (fun ev xw hb hc hf hfr hd hr => ?_) ?_
      · have e31 : ev (.tmp 31) = .pointer (some ⟨w.heap.size + 1 + 1, 0, none⟩) := hd 9 31 (by kernel_rfl)
        clear hfr hd
        have kc0 := (B2.below hb).at 0 rfl
        have kc1 := (B2.below hb).at 1 rfl
        have kc2 := (B2.below hb).at 2 rfl
        have kc3 := (B2.below hb).at 3 rfl
        have kc4 := (B2.below hb).at 4 rfl
        show OpOk _ _ ev xw fun v w' => Bl xw w' ∧ v = .int .i64 x.ag
        refine opOk_hid (fun Rp HR => ?_)
        unfold OpOk
        go_simp
        rw [HR.out]
        exact ⟨hr, rfl⟩
      refine steps_cons (Bl.refl) (fun ev xw hb hc hf hfr hd hr => ?_) ?_
      · have e7 : ev (.tmp 7) = .pointer (some ⟨w.heap.size + 1 + 1, 0, none⟩) := hfr 7 (by kernel_rfl)
        clear hfr hd
        show OpOk _ _ ev xw fun v w' => Bl xw w' ∧ v = .pointer (some ⟨w.heap.size + 1 + 1, 1, none⟩)
        refine opOk_hid (fun Rp HR => ?_)
        unfold OpOk
        go_simp
        rw [HR.out]
        exact ⟨hr, rfl⟩
      refine steps_cons (Bl.refl) (fun ev xw hb hc hf hfr hd hr => ?_) ?_
      · have e33 : ev (.tmp 33) = .pointer (some ⟨w.heap.size + 1 + 1, 1, none⟩) := hd 11 33 (by kernel_rfl)
        clear hfr hd
        have kc0 := (B2.below hb).at 0 rfl
        have kc1 := (B2.below hb).at 1 rfl
        have kc2 := (B2.below hb).at 2 rfl
        have kc3 := (B2.below hb).at 3 rfl
        have kc4 := (B2.below hb).at 4 rfl
        show OpOk _ _ ev xw fun v w' => Bl xw w' ∧ v = .int .i64 x.id
        refine opOk_hid (fun Rp HR => ?_)
        unfold OpOk
        go_simp
        rw [HR.out]
        exact ⟨hr, rfl⟩
      refine steps_cons (Bl.refl) (fun ev xw hb hc hf hfr hd hr => ?_) ?_
      · have e27 : ev (.tmp 27) = .int .i64 (-levelV per cap l x.ph x.cl x.si now) := hd 5 27 (by kernel_rfl)
        have e30 : ev (.tmp 30) = .int .i64 (startV l x.ph x.si) := hd 8 30 (by kernel_rfl)
        have e32 : ev (.tmp 32) = .int .i64 x.ag := hd 10 32 (by kernel_rfl)
        have e34 : ev (.tmp 34) = .int .i64 x.id := hd 12 34 (by kernel_rfl)
        clear hfr hd
        show OpOk _ _ ev xw fun v w' => Bl xw w' ∧ v = .agg #[.int .i64 1, .int .i64 (-levelV per cap l x.ph x.cl x.si now), .int .i64 (startV l x.ph x.si), .int .i64 x.ag, .int .i64 x.id]
        refine opOk_hid (fun Rp HR => ?_)
        unfold OpOk
        go_simp
        rw [HR.out]
        exact ⟨hr, rfl⟩
      exact steps_nil
    · intro vs W5 hb5 hk
      have kk : vs 13 = .agg #[.int .i64 1, .int .i64 (-levelV per cap l x.ph x.cl x.si now), .int .i64 (startV l x.ph x.si), .int .i64 x.ag, .int .i64 x.id] := hk 13 (by omega)
      clear hk
      simp only [List.take_succ_cons, List.take_zero, List.drop_succ_cons, List.drop_zero, putAll, Act.put, List.setIfInBounds_toArray, List.set_cons_zero, List.set_cons_succ, kk, Nat.reduceAdd]
      clear kk
      have B5 := B3.below hb5
      have o0 := B5.at 0 rfl
      have o1 := B5.at 1 rfl
      have o2 := B5.at 2 rfl
      have o3 := B5.at 3 rfl
      have o4 := B5.at 4 rfl
      have f0 := B5.frozen 0
      have f1 := B5.frozen 1
      have f2 := B5.frozen 2
      have f3 := B5.frozen 3
      have f4 := B5.frozen 4
      go_wp2
      (try simp only [Exit.inBlock, Exit.then]); refine bodyPost_ret (results_cell rfl rfl (load_five (B5.set5_ _ _ _ _ _))) rfl ?_
      have bF := bW2.trans (Below.mono hb5 bW2.size)
      exact ⟨by simp [keyV, keyC, keyL, HE.out], below5 bF (by omega) _ _ _ _ _⟩
end Go.Proofs.Ytikffoepndpfjaa
