/-
  The settings of the laws of layer 20. Conditions: a small tick.
-/
import Derived.Test.YtdgmfledhcgncaaCm
import Derived.Test.YtdgmfledhcgncaaSv
namespace Go.Proofs.Ytdgmfledhcgncaa
open Go.ChangeShapes Go.WideShapes Go.RowKit
set_option linter.unusedVariables false

structure SetOk (per cap hold lock now : Int) (n : Nat) (L : List Int) (C : List Cl) : Prop where
  per : 1 ≤ per ∧ per ≤ 5
  cap : 0 ≤ cap ∧ cap ≤ 5
  hold : 1 ≤ hold ∧ hold ≤ 4
  lock : 0 ≤ lock ∧ lock ≤ 6
  nn : 1 ≤ n ∧ n ≤ 8
  len : L.length = n
  upto : Upto now L
  clen : C.length ≤ 5
  cls : ∀ x ∈ C, ClIn n now x
theorem Cls.gr {g : Nat} {w w' : World} {A : Option Addr} {C : List Cl} (h : Cls w w.heap.size A C) (hg : Gr g w w') (hne : ∀ a, A = some a → a.block ≠ g) : Cls w' w'.heap.size A C := fun h0 => by
  obtain ⟨b, off, rfl, hB, hc⟩ := h h0
  have hb := hne _ rfl
  exact ⟨b, off, rfl, Nat.lt_of_lt_of_le hB hg.size, fun i hi => ⟨(hg.cell hB hb).trans (hc i hi).1, (hg.cell hB hb).trans (hc i hi).2.1, (hg.cell hB hb).trans (hc i hi).2.2.1, (hg.cell hB hb).trans (hc i hi).2.2.2.1, (hg.cell hB hb).trans (hc i hi).2.2.2.2⟩⟩
theorem Cls.far {w : World} {B b i : Nat} {A : Option Addr} {C : List Cl} (h : Cls w B A C) (hp : ∀ a, A = some a → a.block ≠ b) (v : Value) : Cls (w.setCell ⟨b, i, none⟩ v) B A C := fun h0 => by
  obtain ⟨b', off, rfl, hB, hc⟩ := h h0
  have hcell : ∀ o, (w.setCell ⟨b, i, none⟩ v).cell? ⟨b', o, none⟩ = w.cell? ⟨b', o, none⟩ := fun o => World.cell?_of_block (Below.heap_setCell _ _ _ _ (fun e => hp _ rfl e))
  exact ⟨b', off, rfl, hB, fun j hj => ⟨(hcell _).trans (hc j hj).1, (hcell _).trans (hc j hj).2.1, (hcell _).trans (hc j hj).2.2.1, (hcell _).trans (hc j hj).2.2.2.1, (hcell _).trans (hc j hj).2.2.2.2⟩⟩
theorem Blk.set6 {w : World} {g : Nat} {t : TypeId} {a b c d e f : Value} (h : Blk w g t #[a, b, c, d, e, f]) (a' b' c' d' e' f' : Value) : Blk ((((((w.setCell ⟨g, 0, none⟩ a').setCell ⟨g, 1, none⟩ b').setCell ⟨g, 2, none⟩ c').setCell ⟨g, 3, none⟩ d').setCell ⟨g, 4, none⟩ e').setCell ⟨g, 5, none⟩ f') g t #[a', b', c', d', e', f'] :=
  (((((h.set_ 0 a').set_ 1 b').set_ 2 c').set_ 3 d').set_ 4 e').set_ 5 f'
theorem results_cell2 {P : Program} {w : World} {fn : Func} {t t' : TypeId} {a b x : Tmp} {A B : Addr} {V V' : Value} {tmps : Array Value} (h : fn.results = #[.cell a t, .cell b t', .tmp x]) (ha : tmps.getD a undef = .pointer (some A)) (hl : (loadVar t A).run P w = .ok V w) (hb : tmps.getD b undef = .pointer (some B)) (hl' : (loadVar t' B).run P w = .ok V' w) :
    (results fn tmps).run P w = .ok (.tuple #[V, V', tmps.getD x undef]) w := by
  rw [Array.getD_eq_getD_getElem?] at ha hb
  simp [results, h, ha, hb, asAddr, hl, hl']
theorem load_config {w : World} {g : Nat} {a b c d e f : Value} (h : Blk w g 27 #[a, b, c, d, e, f]) : (loadVar 27 ⟨g, 0, none⟩).run Try.prog w = .ok (.agg #[a, b, c, d, e, f]) w := by
  have c0 := Blk.cell h 0
  have c1 := Blk.cell h 1
  have c2 := Blk.cell h 2
  have c3 := Blk.cell h 3
  have c4 := Blk.cell h 4
  have c5 := Blk.cell h 5
  go_simp
set_option maxRecDepth 20000 in
set_option maxHeartbeats 2000000 in
theorem setting_any (D : Option Addr) (d : Nat) (l : List Int) (now : Int) (w : World) (hs : Ints .i64 w w.heap.size D l) (hn : Nums l) (hl : l.length ≤ 9223372036854775807) (hnow : 0 ≤ now ∧ now ≤ 9999) :
    Calls Try.prog 9 #[.slice D l.length d, .int .i64 now] w fun e w' => Below w.heap.size w w' ∧ ∃ (per cap hold lock sp sg : Int) (n : Nat) (A : Option Addr) (c : Nat) (L : List Int) (B : Option Addr) (m : Nat) (C : List Cl),
      e = .returned (.tuple #[.agg #[.slice none 0 0, .slice none 0 0, .int .i64 per, .int .i64 cap, .int .i64 hold, .int .i64 lock], .agg #[.int .i64 sp, .int .i64 sg, .slice A n c], .slice B C.length m]) ∧ SetOk per cap hold lock now n L C ∧ Ints .i64 w' w'.heap.size A L ∧ Cls w' w'.heap.size B C := by
  go_enter Try.func9, Try.ntmps9
  go_wp2_with fail
  have b0 := lat_alloc (lat_alloc (Below.refl w.heap.size w) (.cells #[.slice none 0 0, .slice none 0 0, .int .i64 0, .int .i64 0, .int .i64 0, .int .i64 0] 27)) (.cells #[.int .i64 0, .int .i64 0, .slice none 0 0] 29)
  have R4 := Blk.alloc (Blk.new (w := w) (t := 27) (cs := #[.slice none 0 0, .slice none 0 0, .int .i64 0, .int .i64 0, .int .i64 0, .int .i64 0])) (.cells #[.int .i64 0, .int .i64 0, .slice none 0 0] 29)
  have R5 := Blk.new (w := w.alloc (.cells #[.slice none 0 0, .slice none 0 0, .int .i64 0, .int .i64 0, .int .i64 0, .int .i64 0] 27)) (t := 29) (cs := #[.int .i64 0, .int .i64 0, .slice none 0 0])
  rw [heap_size] at R5
  generalize (w.alloc (.cells #[.slice none 0 0, .slice none 0 0, .int .i64 0, .int .i64 0, .int .i64 0, .int .i64 0] 27)).alloc (.cells #[.int .i64 0, .int .i64 0, .slice none 0 0] 29) = W at *
  obtain ⟨g5, hg5⟩ : ∃ g5, g5 = w.heap.size + 1 := ⟨_, rfl⟩
  rw [← hg5] at R5 ⊢
  have h45 : w.heap.size < g5 := by omega
  clear hg5
  refine (new_ok D l d W ((hs.below b0).more b0.size) hn hl).mono ?_
  rintro e W1 ⟨rfl, hd1, hb1, hlt1⟩
  have b1 := b0.trans (hb1.mono b0.size)
  have S4 := R4.below hb1
  have S5 := R5.below hb1
  have h5W := R5.lt
  generalize W.heap.size = g at *
  go_wp2_with fail
  refine (range_ok g 1 5 W1 hd1 (by omega) (by omega) (by omega)).mono ?_
  rintro e W2 ⟨hg2, hd2, per, p0, p1, rfl⟩
  go_wp2_with fail
  refine (next_ok g 6 W2 hd2 (by omega) (by omega)).mono ?_
  rintro e W3 ⟨hg3, hd3, cap, q0, q1, rfl⟩
  go_wp2_with fail
  refine (range_ok g 1 4 W3 hd3 (by omega) (by omega) (by omega)).mono ?_
  rintro e W4 ⟨hg4, hd4, hold, r0, r1, rfl⟩
  go_wp2_with fail
  refine (next_ok g 7 W4 hd4 (by omega) (by omega)).mono ?_
  rintro e W5 ⟨hg5, hd5, lock, s0, s1, rfl⟩
  have hG5 := ((hg2.trans hg3).trans hg4).trans hg5
  have T4 := hG5.blk S4 (by omega)
  have T5 := hG5.blk S5 (by omega)
  go_wp2_with fail
  have bB := lat_alloc (Below.refl W5.heap.size W5) (.cells #[.slice none 0 0, .slice none 0 0, .int .i64 per, .int .i64 cap, .int .i64 hold, .int .i64 lock] 27)
  have R8 := Blk.new (w := W5) (t := 27) (cs := #[.slice none 0 0, .slice none 0 0, .int .i64 per, .int .i64 cap, .int .i64 hold, .int .i64 lock])
  have hd6 := hd5.below bB
  have U4 := T4.below bB
  have U5 := T5.below bB
  have hG6 := hG5.trans (Gr.of_below bB)
  have h8 : g ≠ W5.heap.size := by have := hd5.lt; omega
  generalize W5.alloc (.cells #[.slice none 0 0, .slice none 0 0, .int .i64 per, .int .i64 cap, .int .i64 hold, .int .i64 lock] 27) = W6 at *
  generalize W5.heap.size = g8 at *
  refine (range_ok g 1 8 W6 hd6 (by omega) (by omega) (by omega)).mono ?_
  rintro e W7 ⟨hg7, hd7, n, n0, n1, rfl⟩
  obtain ⟨n, rfl⟩ := Int.eq_ofNat_of_zero_le (show 0 ≤ n by omega)
  have hG7 := hG6.trans hg7
  have hgW7 : g < W7.heap.size := hd7.lt
  have V4 := hg7.blk U4 (by omega)
  have V5 := hg7.blk U5 (by omega)
  have V8 := hg7.blk R8 (by omega)
  clear S4 S5 T4 T5 U4 U5 R8 R4 R5
  go_wp2_with fail
  refine wp_region_pre (R := (Gr g)) 9 32 [fun v _ => v = .agg #[.slice none 0 0, .slice none 0 0, .int .i64 per, .int .i64 cap, .int .i64 hold, .int .i64 lock], fun v _ => v = .pointer (some ⟨g, 0, none⟩), fun v _ => v = .int .i64 n, fun v _ => v = .int .i64 now, fun v w => ∃ (sp sg : Int) (A : Option Addr) (c : Nat) (L : List Int), v = .agg #[.int .i64 sp, .int .i64 sg, .slice A n c] ∧ L.length = n ∧ Upto now L ∧ Ints .i64 w w.heap.size A L ∧ (∀ a, A = some a → W7.heap.size ≤ a.block), fun v _ => v = .pointer (some ⟨g, 0, none⟩), fun v _ => v = .int .i64 n, fun v _ => v = .int .i64 now, fun v w => ∃ (A : Option Addr) (c : Nat) (C : List Cl), v = .slice A C.length c ∧ C.length ≤ 5 ∧ (∀ x ∈ C, ClIn n now x) ∧ Cls w w.heap.size A C ∧ (∀ a, A = some a → W7.heap.size ≤ a.block)] (Gr.trans) (Gr.drew) (by kernel_rfl) (fun _ _ d _ _ h => by cases d <;> exact h) rfl (by kernel_rfl) (stay_cons (stays_v _) (stay_cons (stays_v _) (stay_cons (stays_v _) (stay_cons (stays_v _) (stay_cons (fun _ _ _ ⟨sp, sg, A, c, L, h1, h2, h3, h4, h5⟩ hb => ⟨sp, sg, A, c, L, h1, h2, h3, h4.gr hb (fun a ha => by have := h5 a ha; omega), h5⟩) (stay_cons (stays_v _) (stay_cons (stays_v _) (stay_cons (stays_v _) (stay_cons (fun _ _ _ ⟨A, c, C, h1, h2, h3, h4, h5⟩ hb => ⟨A, c, C, h1, h2, h3, h4.gr hb (fun a ha => by have := h5 a ha; omega), h5⟩) (stay_nil)))))))))) ?_ ?_
  · simp only [List.take_succ_cons, List.take_zero]
    refine steps_cons (Gr.refl) (fun ev xw hb hc hf hfr hd hr => ?_) ?_
    · have e8 : ev (.tmp 8) = .pointer (some ⟨g8, 0, none⟩) := hfr 8 (by kernel_rfl)
      clear hfr hd
      have k8 := hb.blk V8 (by omega)
      have k20 := k8.at 0 rfl
      have k21 := k8.at 1 rfl
      have k22 := k8.at 2 rfl
      have k23 := k8.at 3 rfl
      have k24 := k8.at 4 rfl
      have k25 := k8.at 5 rfl
      show OpOk _ _ ev xw fun v w' => (Gr g) xw w' ∧ v = .agg #[.slice none 0 0, .slice none 0 0, .int .i64 per, .int .i64 cap, .int .i64 hold, .int .i64 lock]
      refine opOk_hid (fun Rp HR => ?_)
      unfold OpOk
      go_simp
      rw [HR.out]
      exact ⟨hr, rfl⟩
    refine steps_cons (Gr.refl) (fun ev xw hb hc hf hfr hd hr => ?_) ?_
    · have e7 : ev (.tmp 7) = .pointer (some ⟨g, 0, none⟩) := hfr 7 (by kernel_rfl)
      clear hfr hd
      show OpOk _ _ ev xw fun v w' => (Gr g) xw w' ∧ v = .pointer (some ⟨g, 0, none⟩)
      refine opOk_hid (fun Rp HR => ?_)
      unfold OpOk
      go_simp
      rw [HR.out]
      exact ⟨hr, rfl⟩
    refine steps_cons (Gr.refl) (fun ev xw hb hc hf hfr hd hr => ?_) ?_
    · have e9 : ev (.tmp 9) = .int .i64 n := hfr 9 (by kernel_rfl)
      clear hfr hd
      show OpOk _ _ ev xw fun v w' => (Gr g) xw w' ∧ v = .int .i64 n
      refine opOk_hid (fun Rp HR => ?_)
      unfold OpOk
      go_simp
      rw [HR.out]
      exact ⟨hr, rfl⟩
    refine steps_cons (Gr.refl) (fun ev xw hb hc hf hfr hd hr => ?_) ?_
    · have e1 : ev (.tmp 1) = .int .i64 now := hfr 1 (by kernel_rfl)
      clear hfr hd
      show OpOk _ _ ev xw fun v w' => (Gr g) xw w' ∧ v = .int .i64 now
      refine opOk_hid (fun Rp HR => ?_)
      unfold OpOk
      go_simp
      rw [HR.out]
      exact ⟨hr, rfl⟩
    refine steps_cons (Gr.refl) (fun ev xw hb hc hf hfr hd hr => ?_) ?_
    · have e24 : ev (.tmp 24) = .pointer (some ⟨g, 0, none⟩) := hd 1 24 (by kernel_rfl)
      have e25 : ev (.tmp 25) = .int .i64 n := hd 2 25 (by kernel_rfl)
      have e26 : ev (.tmp 26) = .int .i64 now := hd 3 26 (by kernel_rfl)
      clear hfr hd
      show OpOk _ _ ev xw fun v w' => (Gr g) xw w' ∧ ∃ (sp sg : Int) (A : Option Addr) (c : Nat) (L : List Int), v = .agg #[.int .i64 sp, .int .i64 sg, .slice A n c] ∧ L.length = n ∧ Upto now L ∧ Ints .i64 w' w'.heap.size A L ∧ (∀ a, A = some a → W7.heap.size ≤ a.block)
      refine opOk_hid (fun Rp HR => ?_)
      unfold OpOk
      go_simp
      have hsz := hb.size
      refine (service_any g n now xw (hb.2 hd7) (by omega) hnow).mono ?_
      rintro e w'' ⟨hgr, hdk', sp, sg, A, c, L, rfl, _, _, _, _, hL, hU, hI, hA⟩
      refine ⟨_, rfl, ?_⟩
      rw [HR.out]
      exact ⟨hgr, sp, sg, A, c, L, rfl, hL, hU, hI, fun a ha => by have := hA a ha; omega⟩
    refine steps_cons (Gr.refl) (fun ev xw hb hc hf hfr hd hr => ?_) ?_
    · have e7 : ev (.tmp 7) = .pointer (some ⟨g, 0, none⟩) := hfr 7 (by kernel_rfl)
      clear hfr hd
      show OpOk _ _ ev xw fun v w' => (Gr g) xw w' ∧ v = .pointer (some ⟨g, 0, none⟩)
      refine opOk_hid (fun Rp HR => ?_)
      unfold OpOk
      go_simp
      rw [HR.out]
      exact ⟨hr, rfl⟩
    refine steps_cons (Gr.refl) (fun ev xw hb hc hf hfr hd hr => ?_) ?_
    · have e9 : ev (.tmp 9) = .int .i64 n := hfr 9 (by kernel_rfl)
      clear hfr hd
      show OpOk _ _ ev xw fun v w' => (Gr g) xw w' ∧ v = .int .i64 n
      refine opOk_hid (fun Rp HR => ?_)
      unfold OpOk
      go_simp
      rw [HR.out]
      exact ⟨hr, rfl⟩
    refine steps_cons (Gr.refl) (fun ev xw hb hc hf hfr hd hr => ?_) ?_
    · have e1 : ev (.tmp 1) = .int .i64 now := hfr 1 (by kernel_rfl)
      clear hfr hd
      show OpOk _ _ ev xw fun v w' => (Gr g) xw w' ∧ v = .int .i64 now
      refine opOk_hid (fun Rp HR => ?_)
      unfold OpOk
      go_simp
      rw [HR.out]
      exact ⟨hr, rfl⟩
    refine steps_cons (Gr.refl) (fun ev xw hb hc hf hfr hd hr => ?_) ?_
    · have e28 : ev (.tmp 28) = .pointer (some ⟨g, 0, none⟩) := hd 5 28 (by kernel_rfl)
      have e29 : ev (.tmp 29) = .int .i64 n := hd 6 29 (by kernel_rfl)
      have e30 : ev (.tmp 30) = .int .i64 now := hd 7 30 (by kernel_rfl)
      clear hfr hd
      show OpOk _ _ ev xw fun v w' => (Gr g) xw w' ∧ ∃ (A : Option Addr) (c : Nat) (C : List Cl), v = .slice A C.length c ∧ C.length ≤ 5 ∧ (∀ x ∈ C, ClIn n now x) ∧ Cls w' w'.heap.size A C ∧ (∀ a, A = some a → W7.heap.size ≤ a.block)
      refine opOk_hid (fun Rp HR => ?_)
      unfold OpOk
      go_simp
      have hsz := hb.size
      refine (claims_any g n now xw (hb.2 hd7) (by omega) hnow).mono ?_
      rintro e w'' ⟨hgr, hdk', A, c, C, rfl, hl5, hU, hC, hA⟩
      refine ⟨_, rfl, ?_⟩
      rw [HR.out]
      exact ⟨hgr, A, c, C, rfl, hl5, hU, hC, fun a ha => by have := hA a ha; omega⟩
    exact steps_nil
  · intro vs W9 hb9 hk
    obtain ⟨sp, sg, A, c, L, k27, hL, hU, hI, hA⟩ : ∃ (sp sg : Int) (A : Option Addr) (c : Nat) (L : List Int), vs 4 = .agg #[.int .i64 sp, .int .i64 sg, .slice A n c] ∧ L.length = n ∧ Upto now L ∧ Ints .i64 W9 W9.heap.size A L ∧ (∀ a, A = some a → W7.heap.size ≤ a.block) := hk 4 (by omega)
    obtain ⟨B, m, C, k31, hC5, hCU, hC, hB⟩ : ∃ (A : Option Addr) (c : Nat) (C : List Cl), vs 8 = .slice A C.length c ∧ C.length ≤ 5 ∧ (∀ x ∈ C, ClIn n now x) ∧ Cls W9 W9.heap.size A C ∧ (∀ a, A = some a → W7.heap.size ≤ a.block) := hk 8 (by omega)
    have k23 : vs 0 = .agg #[.slice none 0 0, .slice none 0 0, .int .i64 per, .int .i64 cap, .int .i64 hold, .int .i64 lock] := hk 0 (by omega)
    clear hk
    simp only [List.take_succ_cons, List.take_zero, List.drop_succ_cons, List.drop_zero, putAll, Act.put, List.setIfInBounds_toArray, List.set_cons_zero, List.set_cons_succ, k23, k27, k31, Nat.reduceAdd, Nat.reduceSub]
    clear k23 k27 k31
    have b9 : Below w.heap.size w W9 := (hG7.trans hb9).base b1 (by omega)
    have X4 := hb9.blk V4 (by omega)
    have X5 := hb9.blk V5 (by omega)
    have a0 := X4.at 0 rfl
    have a1 := X4.at 1 rfl
    have a2 := X4.at 2 rfl
    have a3 := X4.at 3 rfl
    have a4 := X4.at 4 rfl
    have a5 := X4.at 5 rfl
    have f0 := X4.frozen 0
    have f1 := X4.frozen 1
    have f2 := X4.frozen 2
    have f3 := X4.frozen 3
    have f4 := X4.frozen 4
    have f5 := X4.frozen 5
    have f := X5.three
    go_wp2
    have Y4 := X4.set6 (.slice none 0 0) (.slice none 0 0) (.int .i64 per) (.int .i64 cap) (.int .i64 hold) (.int .i64 lock)
    have Y5 := X5.far (p := ⟨w.heap.size, 0, none⟩) (by simp; omega) (.slice none 0 0) |>.far (p := ⟨w.heap.size, 1, none⟩) (by simp; omega) (.slice none 0 0) |>.far (p := ⟨w.heap.size, 2, none⟩) (by simp; omega) (.int .i64 per) |>.far (p := ⟨w.heap.size, 3, none⟩) (by simp; omega) (.int .i64 cap) |>.far (p := ⟨w.heap.size, 4, none⟩) (by simp; omega) (.int .i64 hold) |>.far (p := ⟨w.heap.size, 5, none⟩) (by simp; omega) (.int .i64 lock)
    have Z4 := Y4.far3 (g' := g5) (by omega) (.int .i64 sp) (.int .i64 sg) (.slice A n c)
    have Z5 := Y5.set3 (.int .i64 sp) (.int .i64 sg) (.slice A n c)
    have h7 : w.heap.size < W7.heap.size := V4.lt
    have h7' : g5 < W7.heap.size := V5.lt
    have hf4 : ∀ a, A = some a → a.block ≠ w.heap.size := fun a ha => by have := hA a ha; omega
    have hf5 : ∀ a, A = some a → a.block ≠ g5 := fun a ha => by have := hA a ha; omega
    have hq4 : ∀ a, B = some a → a.block ≠ w.heap.size := fun a ha => by have := hB a ha; omega
    have hq5 : ∀ a, B = some a → a.block ≠ g5 := fun a ha => by have := hB a ha; omega
    have hIf := ((((((((hI.far (i := 0) hf4 (.slice none 0 0)).far (i := 1) hf4 (.slice none 0 0)).far (i := 2) hf4 (.int .i64 per)).far (i := 3) hf4 (.int .i64 cap)).far (i := 4) hf4 (.int .i64 hold)).far (i := 5) hf4 (.int .i64 lock)).far (i := 0) hf5 (.int .i64 sp)).far (i := 1) hf5 (.int .i64 sg)).far (i := 2) hf5 (.slice A n c)
    have hCf := ((((((((hC.far (i := 0) hq4 (.slice none 0 0)).far (i := 1) hq4 (.slice none 0 0)).far (i := 2) hq4 (.int .i64 per)).far (i := 3) hq4 (.int .i64 cap)).far (i := 4) hq4 (.int .i64 hold)).far (i := 5) hq4 (.int .i64 lock)).far (i := 0) hq5 (.int .i64 sp)).far (i := 1) hq5 (.int .i64 sg)).far (i := 2) hq5 (.slice A n c)
    have bF := (((((((((b9.setCell (p := ⟨w.heap.size, 0, none⟩) (Nat.le_refl _) (.slice none 0 0)).setCell (p := ⟨w.heap.size, 1, none⟩) (Nat.le_refl _) (.slice none 0 0)).setCell (p := ⟨w.heap.size, 2, none⟩) (Nat.le_refl _) (.int .i64 per)).setCell (p := ⟨w.heap.size, 3, none⟩) (Nat.le_refl _) (.int .i64 cap)).setCell (p := ⟨w.heap.size, 4, none⟩) (Nat.le_refl _) (.int .i64 hold)).setCell (p := ⟨w.heap.size, 5, none⟩) (Nat.le_refl _) (.int .i64 lock)).setCell (p := ⟨g5, 0, none⟩) (Nat.le_of_lt h45) (.int .i64 sp)).setCell (p := ⟨g5, 1, none⟩) (Nat.le_of_lt h45) (.int .i64 sg)).setCell (p := ⟨g5, 2, none⟩) (Nat.le_of_lt h45) (.slice A n c))
    (try simp only [Exit.inBlock, Exit.then]); refine bodyPost_ret (results_cell2 rfl rfl (load_config Z4) rfl (load_service Z5)) rfl ?_
    exact ⟨bF, per, cap, hold, lock, sp, sg, n, A, c, L, B, m, C, rfl, ⟨⟨p0, p1⟩, ⟨q0, by omega⟩, ⟨r0, r1⟩, ⟨s0, by omega⟩, ⟨by omega, by omega⟩, hL, hU, hC5, hCU⟩, by simpa [World.setCell] using hIf, by simpa [World.setCell] using hCf⟩
end Go.Proofs.Ytdgmfledhcgncaa
